/- The queue of string: its put and take at the channel. -/
import Derived.Test.YtmnbpgigdobehaaQ0
namespace Go.Proofs.Ytmnbpgigdobehaa.QS
open Go.RowKit Go.Conc Go.Proofs.Ytmnbpgigdobehaa

/-- Each of these blocks is a thing. -/
def Things (w : World) : List Nat → List ByteArray → Prop
  | [], [] => True
  | p :: ps, x :: xs => Whole w p 9 #[Value.string x] ∧ Things w ps xs
  | _, _ => False
theorem Things.len {w : World} : ∀ {ps : List Nat} {xs : List ByteArray}, Things w ps xs → ps.length = xs.length
  | [], [], _ => rfl
  | _ :: ps, _ :: xs, h => by simp [Things.len (ps := ps) (xs := xs) h.2]
theorem Things.kept {w w' : World} {g c : Nat} (ht : Turned w w' g (some c)) (hg : ∃ t cs, t ≠ 9 ∧ Whole w g t cs) (hc : ∃ cap qs, Chan w c cap qs) : ∀ {ps : List Nat} {xs : List ByteArray}, Things w ps xs → Things w' ps xs
  | [], [], _ => trivial
  | p :: ps, _ :: xs, h => by
    refine ⟨h.1.kept (ht.block p h.1.lt ?_ ?_), Things.kept ht hg hc (ps := ps) (xs := xs) h.2⟩
    · obtain ⟨t, cs, hn, hw⟩ := hg
      exact (whole_ne hw h.1 hn).symm
    · obtain ⟨cap, qs, hh⟩ := hc
      intro e
      injection e with e
      exact hh.no h.1 e
theorem Things.below {w w' : World} (hb : Below w.heap.size w w') : ∀ {ps : List Nat} {xs : List ByteArray}, Things w ps xs → Things w' ps xs
  | [], [], _ => trivial
  | p :: ps, _ :: xs, h => ⟨h.1.kept (hb.block p h.1.lt), Things.below hb (ps := ps) (xs := xs) h.2⟩
theorem Things.snoc {w : World} {p : Nat} {x : ByteArray} (hp : Whole w p 9 #[Value.string x]) : ∀ {ps : List Nat} {xs : List ByteArray}, Things w ps xs → Things w (ps ++ [p]) (xs ++ [x])
  | [], [], _ => ⟨hp, trivial⟩
  | _ :: ps, _ :: xs, h => ⟨h.1, Things.snoc hp (ps := ps) (xs := xs) h.2⟩

/-- A queue lies in block g, its channel in block c: its room, how many found none, its things. -/
structure QAt (w : World) (B g c cap : Nat) (lost : Int) (ps : List Nat) (xs : List ByteArray) : Prop where
  blk : Whole w g 66 #[.chan (some c), .int .i64 lost]
  ch : Chan w c cap ps
  th : Things w ps xs
  room : xs.length ≤ cap
  lo : 1 ≤ cap
  hi : cap ≤ 4096
  geg : B ≤ g
  gec : B ≤ c
theorem QAt.ne {w : World} {B g c cap : Nat} {lost : Int} {ps : List Nat} {xs : List ByteArray} (h : QAt w B g c cap lost ps xs) : g ≠ c := h.ch.no h.blk
theorem QAt.cells {w : World} {B g c cap : Nat} {lost : Int} {ps : List Nat} {xs : List ByteArray} (h : QAt w B g c cap lost ps xs) :
    w.cell? ⟨g, 0, none⟩ = some (.chan (some c)) ∧ w.cell? ⟨g, 1, none⟩ = some (.int .i64 lost) ∧ w.frozen? ⟨g, 1, none⟩ = false := ⟨by rw [h.blk.cell]; rfl, by rw [h.blk.cell]; rfl, h.blk.free 1⟩
theorem QAt.below {w w' : World} {B g c cap : Nat} {lost : Int} {ps : List Nat} {xs : List ByteArray} (h : QAt w B g c cap lost ps xs) (hb : Below w.heap.size w w') : QAt w' B g c cap lost ps xs :=
  ⟨h.blk.kept (hb.block _ h.blk.lt), h.ch.kept (hb.block _ h.ch.lt), h.th.below hb, h.room, h.lo, h.hi, h.geg, h.gec⟩
theorem QAt.ge {w : World} {B B' g c cap : Nat} {lost : Int} {ps : List Nat} {xs : List ByteArray} (h : QAt w B g c cap lost ps xs) (hB : B' ≤ B) : QAt w B' g c cap lost ps xs :=
  ⟨h.blk, h.ch, h.th, h.room, h.lo, h.hi, Nat.le_trans hB h.geg, Nat.le_trans hB h.gec⟩
/-- Another queue is as it was. -/
theorem QAt.other {w w' : World} {B g c cap g2 c2 cap2 : Nat} {lost lost2 : Int} {ps ps2 : List Nat} {xs xs2 : List ByteArray} (h : QAt w B g c cap lost ps xs) (h2 : QAt w B g2 c2 cap2 lost2 ps2 xs2) (hg : g ≠ g2) (hc : c ≠ c2) (ht : Turned w w' g2 (some c2)) : QAt w' B g c cap lost ps xs :=
  ⟨h.blk.kept (ht.block _ h.blk.lt hg (by have := h2.ch.no h.blk; simpa using this)), h.ch.kept (ht.block _ h.ch.lt (h.ch.no h2.blk).symm (by simpa using hc)),
    h.th.kept ht ⟨_, _, by decide, h2.blk⟩ ⟨_, _, h2.ch⟩, h.room, h.lo, h.hi, h.geg, h.gec⟩

set_option maxRecDepth 100000 in
set_option maxHeartbeats 4000000 in
theorem put_room {B g c cap : Nat} {lost : Int} {ps : List Nat} {xs : List ByteArray} (p : Nat) (x : ByteArray) (w : World) (h : QAt w B g c cap lost ps xs) (hp : Whole w p 9 #[Value.string x]) (hr : xs.length < cap) :
    Calls Try.prog 26 #[.pointer (some ⟨g, 0, none⟩), .pointer (some ⟨p, 0, none⟩)] w fun e w' => e = .returned (.bool true) ∧ QAt w' B g c cap lost (ps ++ [p]) (xs ++ [x]) ∧ Turned w w' g (some c) := by
  obtain ⟨c0, _, _⟩ := h.cells
  obtain ⟨s, r, hc⟩ := h.ch
  have hlen := h.th.len
  refine calls_of_loneTo fun cs => ?_
  have e : Frame.enter Try.prog 26 #[.pointer (some ⟨g, 0, none⟩), .pointer (some ⟨p, 0, none⟩)] .normal = (base 26).at ⟨#[.pointer (some ⟨g, 0, none⟩), .pointer (some ⟨p, 0, none⟩), undef, undef, undef, undef, undef, undef, undef, undef, undef, undef, undef], []⟩ [.code (Try.f26.body.getD .skip)] := by
    simp [Frame.enter, Frame.at, Try.func26, base, Try.f26]
  rw [e]
  refine LoneTo.goes (n := 14) ?_
  simp only [Try.f26, Option.getD_some]
  s_c stepG_seq
  s_reg
  s_op
  s_c stepG_region_end
  s_c stepG_seq
  s_c stepG_seq
  s_reg
  s_op
  s_op
  s_op
  s_op
  s_c stepG_region_end
  s_reg
  s_op
  s_stop
  refine LoneTo.goes (n := 3) ?_
  s_c stepG_region_end
  s_c stepG_seq
  s_reg
  s_stop
  refine LoneTo.step (step_lone_select_send_room (c := c) (cap := cap) (s := s) (r := r) (tm := false) (buf := (Ptrs ps)) (v := .pointer (some ⟨p, 0, none⟩)) (z' := .pointer none) (stepG_comm (cases := #[scase c (.pointer (some ⟨p, 0, none⟩)) (.pointer none)]) (blocking := false) (shape := .select) (w' := w) rfl rfl (by decide) (by simp [go_sem, execOp, scase, Act.eval])) hc (by rw [Ptrs.size]; omega)) ?_
  rw [Frame.finish_at, push_ptr]
  walk_nrm
  refine LoneTo.goes (n := 9) ?_
  s_op
  s_op
  s_c stepG_region_end
  s_c stepG_block
  s_cond true
  s_c stepG_seq
  s_reg
  s_op
  s_c stepG_region_end
  s_stop
  refine LoneTo.goes (n := 1) ?_
  s_c stepG_ret'
  s_stop
  refine LoneTo.done ⟨.returned (.bool true), _, rfl, ⟨rfl, ?_, ?_⟩, rfl, rfl, rfl, rfl, _, Try.func26, by simp [results, Try.f26, Frame.at]⟩
  · have hT : Turned w (w.setChan c cap (Ptrs (ps ++ [p])) false (s + 1) r false) g (some c) := (Turned.refl _ _ _).setChan _ _ _ _ _ _
    exact ⟨h.blk.kept (setChan_other _ _ _ _ _ _ _ _ _ h.ne.symm), ⟨_, _, heap_setChan _ _ _ _ _ _ _ _ h.ch.lt⟩,
      Things.snoc (hp.kept (setChan_other _ _ _ _ _ _ _ _ _ (h.ch.no hp).symm)) (h.th.kept hT ⟨_, _, by decide, h.blk⟩ ⟨_, _, h.ch⟩), by simp; omega, h.lo, h.hi, h.geg, h.gec⟩
  · exact (Turned.refl _ _ _).setChan _ _ _ _ _ _

set_option maxRecDepth 100000 in
set_option maxHeartbeats 4000000 in
theorem put_full {B g c cap : Nat} {lost : Int} {ps : List Nat} {xs : List ByteArray} (p : Nat) (w : World) (h : QAt w B g c cap lost ps xs) (hr : xs.length = cap) :
    Calls Try.prog 26 #[.pointer (some ⟨g, 0, none⟩), .pointer (some ⟨p, 0, none⟩)] w fun e w' => e = .returned (.bool false) ∧ w = w' := by
  obtain ⟨c0, _, _⟩ := h.cells
  obtain ⟨s, r, hc⟩ := h.ch
  have hlen := h.th.len
  refine calls_of_loneTo fun cs => ?_
  have e : Frame.enter Try.prog 26 #[.pointer (some ⟨g, 0, none⟩), .pointer (some ⟨p, 0, none⟩)] .normal = (base 26).at ⟨#[.pointer (some ⟨g, 0, none⟩), .pointer (some ⟨p, 0, none⟩), undef, undef, undef, undef, undef, undef, undef, undef, undef, undef, undef], []⟩ [.code (Try.f26.body.getD .skip)] := by
    simp [Frame.enter, Frame.at, Try.func26, base, Try.f26]
  rw [e]
  refine LoneTo.goes (n := 17) ?_
  simp only [Try.f26, Option.getD_some]
  s_c stepG_seq
  s_reg
  s_op
  s_c stepG_region_end
  s_c stepG_seq
  s_c stepG_seq
  s_reg
  s_op
  s_op
  s_op
  s_op
  s_c stepG_region_end
  s_reg
  s_op
  s_c stepG_region_end
  s_c stepG_seq
  s_reg
  s_stop
  refine LoneTo.step (step_lone_select_send_full (c := c) (cap := cap) (s := s) (r := r) (tm := false) (buf := (Ptrs ps)) (v := .pointer (some ⟨p, 0, none⟩)) (z' := .pointer none) (stepG_comm (cases := #[scase c (.pointer (some ⟨p, 0, none⟩)) (.pointer none)]) (blocking := false) (shape := .select) (w' := w) rfl rfl (by decide) (by simp [go_sem, execOp, scase, Act.eval])) hc (by rw [Ptrs.size]; omega)) ?_
  rw [Frame.finish_at]
  walk_nrm
  refine LoneTo.goes (n := 10) ?_
  s_op
  s_op
  s_c stepG_region_end
  s_c stepG_block
  s_cond false
  s_c stepG_seq
  s_reg
  s_op
  s_c stepG_region_end
  s_c stepG_ret'
  s_stop
  exact LoneTo.done ⟨.returned (.bool false), _, rfl, ⟨rfl, rfl⟩, rfl, rfl, rfl, rfl, _, Try.func26, by simp [results, Try.f26, Frame.at]⟩

set_option maxRecDepth 100000 in
set_option maxHeartbeats 4000000 in
theorem take_some {B g c cap : Nat} {lost : Int} {p : Nat} {ps : List Nat} {x : ByteArray} {xs : List ByteArray} (w : World) (h : QAt w B g c cap lost (p :: ps) (x :: xs)) :
    Calls Try.prog 27 #[.pointer (some ⟨g, 0, none⟩)] w fun e w' => e = .returned (.tuple #[.pointer (some ⟨p, 0, none⟩), .bool true]) ∧ QAt w' B g c cap lost ps xs ∧ Whole w' p 9 #[Value.string x] ∧ Turned w w' g (some c) := by
  obtain ⟨c0, _, _⟩ := h.cells
  obtain ⟨s, r, hc⟩ := h.ch
  have hlen := h.th.len
  refine calls_of_loneTo fun cs => ?_
  have e : Frame.enter Try.prog 27 #[.pointer (some ⟨g, 0, none⟩)] .normal = (base 27).at ⟨#[.pointer (some ⟨g, 0, none⟩), undef, undef, undef, undef, undef, undef, undef, undef, undef, undef, undef, undef, undef], []⟩ [.code (Try.f27.body.getD .skip)] := by
    simp [Frame.enter, Frame.at, Try.func27, base, Try.f27]
  rw [e]
  refine LoneTo.goes (n := 14) ?_
  simp only [Try.f27, Option.getD_some]
  s_c stepG_seq
  s_reg
  s_op
  s_op
  s_c stepG_region_end
  s_c stepG_seq
  s_reg
  s_op
  s_op
  s_op
  s_op
  s_c stepG_region_end
  s_c stepG_seq
  s_reg
  s_stop
  refine LoneTo.step (step_lone_select_recv_buf (c := c) (cap := cap) (closed := false) (s := s) (r := r) (tm := false) (buf := (Ptrs (p :: ps))) (z := .pointer none) (stepG_comm (cases := #[rcase c (.pointer none)]) (blocking := false) (shape := .select) (w' := w) rfl rfl (by decide) (by simp [go_sem, execOp, rcase, Act.eval])) hc (by rw [Ptrs.size]; simp)) ?_
  rw [Frame.finish_at, pop_ptr, first_ptr]
  walk_nrm
  refine LoneTo.goes (n := 16) ?_
  s_op
  s_op
  s_c stepG_region_end
  s_c stepG_block
  s_cond true
  s_c stepG_seq
  s_reg
  s_op
  s_op
  s_c stepG_region_end
  s_c stepG_seq
  s_reg
  s_op
  s_op
  s_op
  s_c stepG_region_end
  s_stop
  refine LoneTo.goes (n := 1) ?_
  s_c stepG_ret'
  s_stop
  refine LoneTo.done ⟨.returned (.tuple #[.pointer (some ⟨p, 0, none⟩), .bool true]), _, rfl, ⟨rfl, ?_, ?_, ?_⟩, rfl, rfl, rfl, rfl, _, Try.func27, by simp [results, Try.f27, Frame.at]⟩
  · have hT : Turned w (w.setChan c cap (Ptrs ps) false s (r + 1) false) g (some c) := (Turned.refl _ _ _).setChan _ _ _ _ _ _
    exact ⟨h.blk.kept (setChan_other _ _ _ _ _ _ _ _ _ h.ne.symm), ⟨_, _, heap_setChan _ _ _ _ _ _ _ _ h.ch.lt⟩,
      Things.kept hT ⟨_, _, by decide, h.blk⟩ ⟨_, _, h.ch⟩ h.th.2, by have := h.room; simp at this; omega, h.lo, h.hi, h.geg, h.gec⟩
  · exact h.th.1.kept (setChan_other _ _ _ _ _ _ _ _ _ (h.ch.no h.th.1).symm)
  · exact (Turned.refl _ _ _).setChan _ _ _ _ _ _

set_option maxRecDepth 100000 in
set_option maxHeartbeats 4000000 in
theorem take_none {B g c cap : Nat} {lost : Int} (w : World) (h : QAt w B g c cap lost [] []) :
    Calls Try.prog 27 #[.pointer (some ⟨g, 0, none⟩)] w fun e w' => e = .returned (.tuple #[.pointer none, .bool false]) ∧ w = w' := by
  obtain ⟨c0, _, _⟩ := h.cells
  obtain ⟨s, r, hc⟩ := h.ch
  refine calls_of_loneTo fun cs => ?_
  have e : Frame.enter Try.prog 27 #[.pointer (some ⟨g, 0, none⟩)] .normal = (base 27).at ⟨#[.pointer (some ⟨g, 0, none⟩), undef, undef, undef, undef, undef, undef, undef, undef, undef, undef, undef, undef, undef], []⟩ [.code (Try.f27.body.getD .skip)] := by
    simp [Frame.enter, Frame.at, Try.func27, base, Try.f27]
  rw [e]
  refine LoneTo.goes (n := 14) ?_
  simp only [Try.f27, Option.getD_some]
  s_c stepG_seq
  s_reg
  s_op
  s_op
  s_c stepG_region_end
  s_c stepG_seq
  s_reg
  s_op
  s_op
  s_op
  s_op
  s_c stepG_region_end
  s_c stepG_seq
  s_reg
  s_stop
  refine LoneTo.step (step_lone_select_default (c := c) (cap := cap) (s := s) (r := r) (tm := false) (z := .pointer none) (stepG_comm (cases := #[rcase c (.pointer none)]) (blocking := false) (shape := .select) (w' := w) rfl rfl (by decide) (by simp [go_sem, execOp, rcase, Act.eval])) hc) ?_
  rw [Frame.finish_at]
  walk_nrm
  refine LoneTo.goes (n := 11) ?_
  s_op
  s_op
  s_c stepG_region_end
  s_c stepG_block
  s_cond false
  s_c stepG_seq
  s_reg
  s_op
  s_op
  s_c stepG_region_end
  s_c stepG_ret'
  s_stop
  exact LoneTo.done ⟨.returned (.tuple #[.pointer none, .bool false]), _, rfl, ⟨rfl, rfl⟩, rfl, rfl, rfl, rfl, _, Try.func27, by simp [results, Try.f27, Frame.at]⟩
end Go.Proofs.Ytmnbpgigdobehaa.QS
