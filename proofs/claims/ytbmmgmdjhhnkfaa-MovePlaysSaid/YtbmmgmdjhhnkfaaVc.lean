/- A controller of moves and its log: a record is written. A controller of moves: Start, Fenced, Installed, Undo. A controller of moves: Start. -/
import Derived.Test.YtbmmgmdjhhnkfaaVb
namespace Go.Proofs.Ytbmmgmdjhhnkfaa
open Go.RowKit

/-- A controller, over its log. -/
structure MS (w : World) (B gm gl g : Nat) (v : Value) (M : Mv) (ms : List MsgD) (r : Nat) : Prop where
  log : Ls w B gl g v ms (cat ms).length r
  mv : MvAt w B gm gl M
  fine : ∀ m ∈ ms, m.fine
/-- Their blocks. -/
def SB (gm gl g : Nat) (v : Value) (k : Nat) : Prop := k = gl ∨ k = g ∨ v.ownBlock = some k ∨ k = gm
section
variable {w w' : World} {B gm gl g r : Nat} {v : Value} {M : Mv} {ms : List MsgD}
theorem MS.below (h : MS w B gm gl g v M ms r) (hb : Below w.heap.size w w') : MS w' B gm gl g v M ms r := ⟨Lg.keep h.log hb, h.mv.below hb, h.fine⟩
theorem MS.small (h : MS w B gm gl g v M ms r) : ms.length ≤ 52428 := by
  have h1 := Ls.small h.log
  omega
theorem MvAt.kept_log {n d : Nat} {xs : List Int} (h : MvAt w B gm gl M) (hl : Lg w B gl g v xs d r n) (hk : Kept w w' gl g v) : MvAt w' B gm gl M := by
  refine h.kept (hk.block gm h.own.lt ?_ ?_ ?_)
  · exact whole_ne h.own hl.lg (by decide)
  · exact whole_ne h.own (show Whole w g 72 _ from hl.disk.blk) (by decide)
  · intro e
    obtain ⟨_, cur, hW⟩ := owned_block hl.disk.own e.symm
    exact whole_ne h.own hW (by decide) rfl
theorem Lg.kept_mv {n d : Nat} {xs : List Int} (hl : Lg w B gl g v xs d r n) (h : MvAt w B gm gl M) (hk : Chg w w' (fun k => k = gm)) : Lg w' B gl g v xs d r n := by
  have hn : ∀ (k : Nat) (T : TypeId) (cs : Array Value), Whole w k T cs → T ≠ 89 → w'.heap[k]? = w.heap[k]? := fun k T cs hW h1 => hk.block k hW.lt (whole_ne hW h.own h1)
  have hd : Whole w g 72 _ := hl.disk.blk
  refine ⟨hl.lg.kept (hn _ _ _ hl.lg (by decide)), hl.ge, ⟨hd.kept (hn _ _ _ hd (by decide)), hl.disk.ge, owns_keep hl.disk.own fun j hj => ?_, hl.disk.byte, hl.disk.hd, hl.disk.hr, hl.disk.hm⟩⟩
  obtain ⟨_, cur, hW⟩ := owned_block hl.disk.own hj
  exact hn _ _ _ hW (by decide)
theorem past_log {n d k : Nat} {xs : List Int} {t : TypeId} {cs : Array Value} (hw : Whole w k t cs) (h : Lg w B gl g v xs d r n) (hk : Kept w w' gl g v) (ht : t ≠ 106) (h2 : t ≠ 72) (h3 : t ≠ 5) : Whole w' k t cs := by
  refine hw.kept (hk.block k hw.lt (whole_ne hw h.lg ht) (whole_ne hw (show Whole w g 72 _ from h.disk.blk) h2) fun e => ?_)
  obtain ⟨_, cur, hW⟩ := owned_block h.disk.own e.symm
  exact whole_ne hw hW h3 rfl
theorem MS.ge (h : MS w B gm gl g v M ms r) {k : Nat} (hk : SB gm gl g v k) : B ≤ k ∧ k < w.heap.size := by
  have hl : Lg w B gl g v (cat ms) (cat ms).length r ms.length := h.log
  have hd : Whole w g 72 _ := hl.disk.blk
  rcases hk with h1 | h1 | h1 | h1
  · rw [h1]; exact ⟨hl.ge, hl.lg.lt⟩
  · rw [h1]; exact ⟨hl.disk.ge, hd.lt⟩
  · exact hl.disk.own.lt k h1
  · rw [h1]; exact ⟨h.mv.ge, h.mv.own.lt⟩
theorem MS.geB (h : MS w B gm gl g v M ms r) : B ≤ w.heap.size := by
  have h1 := h.ge (.inl rfl)
  omega
theorem MS.other (h : MS w B gm gl g v M ms r) {k : Nat} {T : TypeId} {cs : Array Value} (hk : Whole w k T cs) (h1 : T ≠ 89) (h3 : T ≠ 106) (h4 : T ≠ 72) (h5 : T ≠ 5) : ¬ SB gm gl g v k := by
  have hl : Lg w B gl g v (cat ms) (cat ms).length r ms.length := h.log
  have hd : Whole w g 72 _ := hl.disk.blk
  rintro (h6 | h6 | h6 | h6)
  · exact whole_ne hk hl.lg h3 h6
  · exact whole_ne hk hd h4 h6
  · obtain ⟨_, cur, hW⟩ := owned_block hl.disk.own h6
    exact whole_ne hk hW h5 rfl
  · exact whole_ne hk h.mv.own h1 h6
theorem MS.sb_below (h : MS w B gm gl g v M ms r) (hc : Chg w w' (SB gm gl g v)) : Below B w w' := hc.below (fun _ hk => (h.ge hk).1) h.geB
theorem Kept.chg (h : Kept w w' gl g v) : Chg w w' (SB gm gl g v) := ⟨h.os, h.tape, h.output, h.size, fun k hk hn => h.block k hk (fun e => hn (.inl e)) (fun e => hn (.inr (.inl e))) (fun e => hn (.inr (.inr (.inl e.symm))))⟩
/-- A change of the controller alone. -/
theorem MS.step {M' : Mv} (h : MS w B gm gl g v M ms r) (hc : MvAt w' B gm gl M') (hch : Chg w w' (fun k => k = gm)) : MS w' B gm gl g v M' ms r ∧ Chg w w' (SB gm gl g v) :=
  ⟨⟨Lg.kept_mv h.log h.mv hch, hc, h.fine⟩, hch.mono fun _ _ hk => .inr (.inr (.inr hk))⟩
/-- What becomes of a record that is written. -/
def WrR (w : World) (B gm gl g : Nat) (v : Value) (M : Mv) (ms : List MsgD) (r : Nat) (m : MsgD) (k : Int) (w' : World) : Prop :=
  (k = 0 ∧ (cat ms).length + (rcd m).length ≤ r ∧ ∃ v', MS w' B gm gl g v' (mtake M m) (ms ++ [m]) r ∧ Chg w w' (SB gm gl g v)) ∨
    (k = 3 ∧ r < (cat ms).length + (rcd m).length ∧ MS w' B gm gl g v M ms r ∧ Below w.heap.size w w')
def WrE (w : World) (B gm gl g : Nat) (v : Value) (M : Mv) (ms : List MsgD) (r : Nat) (m : MsgD) (e : Ending) (w' : World) : Prop := ∃ k : Int, e = .returned (.int .i64 k) ∧ WrR w B gm gl g v M ms r m k w'
set_option maxRecDepth 100000 in
set_option maxHeartbeats 8000000 in
theorem mwrite_any (w : World) (h : MS w B gm gl g v M ms r) (V : Value) (m : MsgD) (hf : m.fine) (hkeep : ∀ W w', Below w.heap.size w W → Kept W w' gl g v → MsgIn w' V m) :
    Calls Try.prog 31 #[.pointer (some ⟨gm, 0, none⟩), V] w (WrE w B gm gl g v M ms r m) := by
  have hV : ∃ na ma pa ra nn nc mn mc pn pc rn rc, V = .agg #[.int .i64 m.kind, .int .i64 m.from_, .int .i64 m.«to», .int .i64 m.id, .int .i64 m.rev, .int .i64 m.epoch, .int .i64 m.slot, .bool m.flag, .slice na nn nc, .slice ma mn mc, .slice pa pn pc, .slice ra rn rc] := by
    obtain ⟨na, ma, pa, ra, nn, nc, mn, mc, pn, pc, rn, rc, hm⟩ := hkeep w w (Below.refl _ _) (Kept.refl _ _ _ _)
    exact ⟨na, ma, pa, ra, nn, nc, mn, mc, pn, pc, rn, rc, hm.val⟩
  obtain ⟨na, ma, pa, ra, nn, nc, mn, mc, pn, pc, rn, rc, rfl⟩ := hV
  have HF := Lib.hid hf
  have HMI := Lib.hid hkeep
  obtain ⟨W0, hW0, hw0, hb0⟩ := box_new w 45 #[.int .i64 m.kind, .int .i64 m.from_, .int .i64 m.«to», .int .i64 m.id, .int .i64 m.rev, .int .i64 m.epoch, .int .i64 m.slot, .bool m.flag, .slice na nn nc, .slice ma mn mc, .slice pa pn pc, .slice ra rn rc]
  have hOS := h.below hb0
  have c0 := hOS.mv.c0
  have k0 := hw0.cell 0
  have k1 := hw0.cell 1
  have k2 := hw0.cell 2
  have k3 := hw0.cell 3
  have k4 := hw0.cell 4
  have k5 := hw0.cell 5
  have k6 := hw0.cell 6
  have k7 := hw0.cell 7
  have k8 := hw0.cell 8
  have k9 := hw0.cell 9
  have k10 := hw0.cell 10
  have k11 := hw0.cell 11
  have HB0 := Lib.hid hb0
  have HW := Lib.hid hw0
  have HOS := Lib.hid hOS
  clear hb0 hw0 h hOS hkeep hf
  go_enter Try.func31, Try.ntmps31
  go_upto_region 1 with fail
  rw [← hW0]
  clear hW0
  refine wp_region_still_tail 5 (by kernel_rfl) (by kernel_rfl) ?_
  simp only [List.take_succ_cons, List.take_zero, List.drop_succ_cons, List.drop_zero]
  repeat still_step
  refine wpStill_nil ?_
  change wpList _ _ _ _ _ W0.drew
  obtain ⟨W1, hW1, hb1⟩ : ∃ W1, W1 = W0.drew ∧ Below W0.heap.size W0 W1 := ⟨_, rfl, below_drewN _ 1⟩
  rw [← hW1]
  have HO1 := Lib.hid (HOS.out.below hb1)
  have HW1 := Lib.hid (HW.out.kept (hb1.block _ HW.out.lt))
  have HB1 := Lib.hid (bell_up HB0.out hb1)
  clear hW1 hb1 k0 k1 k2 k3 k4 k5 k6 k7 k8 k9 k10 k11 c0
  go_wp2_with fail
  refine (lwrite_any B gl g v ms _ r _ m _ HO1.out.log (HMI.out W1 W1 HB1.out (Kept.refl _ _ _ _))).mono ?_
  rintro e w2 ⟨k, rfl, hc⟩
  rcases hc with ⟨rfl, hg, hle, v2, hL2, hK, hv2⟩ | ⟨hc, hL2, hb2⟩
  · have hx2 := past_log HW1.out HO1.out.log hK (by decide) (by decide) (by decide)
    have hO2 := MvAt.kept_log HO1.out.mv HO1.out.log hK
    have k0 := hx2.cell 0
    have k1 := hx2.cell 1
    have k2 := hx2.cell 2
    have k3 := hx2.cell 3
    have k4 := hx2.cell 4
    have k5 := hx2.cell 5
    have k6 := hx2.cell 6
    have k7 := hx2.cell 7
    have k8 := hx2.cell 8
    have k9 := hx2.cell 9
    have k10 := hx2.cell 10
    have k11 := hx2.cell 11
    have HL2 := Lib.hid hL2
    have HO2 := Lib.hid hO2
    have HK2 := Lib.hid (Kept.chg (gm := gm) hK)
    have HLE := Lib.hid hle
    clear hg hle hL2 hK hv2 hx2 hO2
    go_wp2_with fail
    refine (mtake_any _ m _ _ _ _ _ _ _ _ _ _ _ _ HO2.out).mono ?_
    rintro e w3 ⟨rfl, hO3, hC3⟩
    have HE := Lib.hid (show WrE w B gm gl g v M ms r m (.returned (.int .i64 0)) w3 from ⟨0, rfl, .inl ⟨rfl, HLE.out, v2, ⟨Lg.kept_mv HL2.out HO2.out hC3, hO3, fun x hx => by
      rcases List.mem_append.1 hx with h1 | h1
      · exact HO1.out.fine x h1
      · rw [List.mem_singleton] at h1; rw [h1]; exact HF.out⟩, (Chg.ofBelow _ HB1.out).trans (HK2.out.trans (hC3.mono fun _ _ hk => .inr (.inr (.inr hk))))⟩⟩)
    clear hO3 hC3
    go_wp2
    go_ret
    exact HE.out
  · have hc3 : k = 3 ∧ r < (cat ms).length + (rcd m).length := by
      rcases hc with ⟨h1, _, h2⟩ | ⟨_, h2⟩
      · exact ⟨h1, h2⟩
      · exact absurd HF.out.1 h2
    obtain ⟨rfl, hlt⟩ := hc3
    have HE := Lib.hid (show WrE w B gm gl g v M ms r m (.returned (.int .i64 3)) w2 from ⟨3, rfl, .inr ⟨rfl, hlt, HO1.out.below hb2, bell_up HB1.out hb2⟩⟩)
    clear hc hlt hL2 hb2
    go_wp2
    go_ret
    exact HE.out
end
end Go.Proofs.Ytbmmgmdjhhnkfaa

namespace Go.Proofs.Ytbmmgmdjhhnkfaa
open Go.RowKit

def InI (k : Int) : Prop := -9223372036854775808 ≤ k ∧ k ≤ 9223372036854775807
theorem ini0 : InI 0 := ⟨by omega, by omega⟩
/-- A record of a controller. -/
def mM (k f t i s : Int) : MsgD := ⟨k, f, t, i, 0, 0, s, false, [], [], [], []⟩
abbrev mV (k f t i s : Int) : Value := .agg #[.int .i64 k, .int .i64 f, .int .i64 t, .int .i64 i, .int .i64 0, .int .i64 0, .int .i64 s, .bool false, .slice none 0 0, .slice none 0 0, .slice none 0 0, .slice none 0 0]
section
variable {k f t i s : Int}
theorem mm_in64 (h1 : InI k) (h2 : InI f) (h3 : InI t) (h4 : InI i) (h5 : InI s) : (mM k f t i s).in64 := ⟨h1, h2, h3, h4, ini0, ini0, h5, by simp [mM], by simp [mM]⟩
theorem int_small {j : Int} (hj : 0 ≤ j ∧ j < 64) : (Vi.int j).length = 1 := by
  rw [Vi.int, Vi.vi_small _ (by unfold Vi.zig; rw [if_pos hj.1]; omega)]
  rfl
theorem int_zero : (Vi.int 0).length = 1 := int_small (by omega)
theorem mm_len (h1 : InI k) (h2 : InI f) (h3 : InI t) (h4 : InI i) (h5 : InI s) : (enc (mM k f t i s)).length ≤ 60 := by
  have e1 := Vi.int_length k h1.1 h1.2
  have e2 := Vi.int_length f h2.1 h2.2
  have e3 := Vi.int_length t h3.1 h3.2
  have e4 := Vi.int_length i h4.1 h4.2
  have e5 := Vi.int_length s h5.1 h5.2
  have h0 := int_zero
  simp only [enc, mM, List.length_append, List.length_singleton]
  have e8 : (lst Vi.int ([] : List Int)).length = 1 := by simp [lst, int_zero]
  have e6 : (lst mutB ([] : List Mut)).length = 1 := by simp [lst, int_zero]
  have e7 : (lst rowOf ([] : List RowD)).length = 1 := by simp [lst, int_zero]
  omega
theorem mm_good (h1 : InI k) (h2 : InI f) (h3 : InI t) (h4 : InI i) (h5 : InI s) : (mM k f t i s).good :=
  ⟨⟨by simp [mM], ⟨by simp [mM], by simp [mM]⟩, ⟨by simp [mM], by simp [mM]⟩, ⟨by simp [mM], by simp [mM]⟩⟩, by have := mm_len h1 h2 h3 h4 h5; omega⟩
theorem mm_fine (h1 : InI k) (h2 : InI f) (h3 : InI t) (h4 : InI i) (h5 : InI s) : (mM k f t i s).fine := ⟨mm_good h1 h2 h3 h4 h5, mm_in64 h1 h2 h3 h4 h5⟩
theorem mm_rcd (h1 : InI k) (h2 : InI f) (h3 : InI t) (h4 : InI i) (h5 : InI s) : (rcd (mM k f t i s)).length ≤ 68 := by
  have := mm_len h1 h2 h3 h4 h5
  rw [rcd_len]
  omega
theorem mm_msg (w : World) (h1 : InI k) (h2 : InI f) (h3 : InI t) (h4 : InI i) (h5 : InI s) : MsgIn w (mV k f t i s) (mM k f t i s) :=
  ⟨none, none, none, none, 0, 0, 0, 0, 0, 0, 0, 0, ⟨rfl, h1, h2, h3, h4, ini0, ini0, h5, ⟨rfl, .inl rfl⟩, ⟨rfl, .inl rfl⟩, ⟨rfl, .inl rfl⟩, ⟨rfl, .inl rfl⟩, by omega, by omega, by omega, by omega⟩⟩
end
section
variable {w w' : World} {B gm gl g r : Nat} {v : Value} {M : Mv} {ms : List MsgD}
theorem mput_any (w : World) (h : MS w B gm gl g v M ms r) {k f t i s : Int} (h1 : InI k) (h2 : InI f) (h3 : InI t) (h4 : InI i) (h5 : InI s) :
    Calls Try.prog 31 #[.pointer (some ⟨gm, 0, none⟩), mV k f t i s] w (WrE w B gm gl g v M ms r (mM k f t i s)) :=
  mwrite_any w h _ _ (mm_fine h1 h2 h3 h4 h5) (fun _ w' _ _ => mm_msg w' h1 h2 h3 h4 h5)
set_option maxRecDepth 100000 in
set_option maxHeartbeats 2000000 in
theorem undo_none (w : World) (h : MvAt w B gm gl M) (hs : M.st = 0) :
    Calls Try.prog 18 #[.pointer (some ⟨gm, 0, none⟩)] w fun e w' => e = .returned (.int .i64 4) ∧ w' = w := by
  obtain ⟨_, c19, _⟩ := h.two
  rw [hs] at c19
  clear h hs
  go_enter Try.func18, Try.ntmps18
  go_wp2
  go_ret
  exact ⟨rfl, rfl⟩
set_option maxRecDepth 100000 in
set_option maxHeartbeats 4000000 in
theorem undo_any (w : World) (h : MS w B gm gl g v M ms r) (hs : M.st ≠ 0) (hid : InI M.id) :
    Calls Try.prog 18 #[.pointer (some ⟨gm, 0, none⟩)] w (WrE w B gm gl g v M ms r (mM 13 0 0 M.id 0)) := by
  obtain ⟨_, c19, _⟩ := h.mv.two
  have c23 := h.mv.mcells.2.2.2.1
  have HP := Lib.hid (mput_any w h (k := 13) (f := 0) (t := 0) (i := M.id) (s := 0) ⟨by omega, by omega⟩ ini0 ini0 hid ini0)
  have f0 : (M.st == 0) = false := by simpa using hs
  clear h hid
  go_enter Try.func18, Try.ntmps18
  go_wp2_with fail
  refine HP.out.mono ?_
  rintro e w1 ⟨k, rfl, hw⟩
  have HE := Lib.hid (show WrE w B gm gl g v M ms r (mM 13 0 0 M.id 0) (.returned (.int .i64 k)) w1 from ⟨k, rfl, hw⟩)
  clear hw HP
  go_wp2
  go_ret
  exact HE.out
set_option maxRecDepth 100000 in
set_option maxHeartbeats 2000000 in
theorem installed_no (w : World) (h : MvAt w B gm gl M) (i : Int) (hs : ¬ (M.st = 2 ∧ M.id = i)) :
    Calls Try.prog 16 #[.pointer (some ⟨gm, 0, none⟩), .int .i64 i] w fun e w' => e = .returned (.int .i64 154) ∧ w' = w := by
  have HA := Lib.hid (at_any w h 2 i)
  rw [decide_eq_false hs] at HA
  clear h hs
  go_enter Try.func16, Try.ntmps16
  go_wp2_with fail
  refine HA.out.mono ?_
  rintro e w1 ⟨rfl, rfl⟩
  go_wp2
  go_ret
  exact ⟨rfl, rfl⟩
set_option maxRecDepth 100000 in
set_option maxHeartbeats 4000000 in
theorem installed_any (w : World) (h : MS w B gm gl g v M ms r) (i : Int) (hs : M.st = 2 ∧ M.id = i) (hid : InI i) :
    Calls Try.prog 16 #[.pointer (some ⟨gm, 0, none⟩), .int .i64 i] w (WrE w B gm gl g v M ms r (mM 12 0 0 i 0)) := by
  have HA := Lib.hid (at_any w h.mv 2 i)
  rw [decide_eq_true hs] at HA
  have HP := Lib.hid (mput_any w h (k := 12) (f := 0) (t := 0) (i := i) (s := 0) ⟨by omega, by omega⟩ ini0 ini0 hid ini0)
  clear h hid
  go_enter Try.func16, Try.ntmps16
  go_wp2_with fail
  refine HA.out.mono ?_
  rintro e w1 ⟨rfl, rfl⟩
  go_wp2_with fail
  refine HP.out.mono ?_
  rintro e w2 ⟨k, rfl, hw⟩
  have HE := Lib.hid (show WrE w1 B gm gl g v M ms r (mM 12 0 0 i 0) (.returned (.int .i64 k)) w2 from ⟨k, rfl, hw⟩)
  clear hw HP
  go_wp2
  go_ret
  exact HE.out
set_option maxRecDepth 100000 in
set_option maxHeartbeats 2000000 in
theorem fenced_no (w : World) (h : MvAt w B gm gl M) (i : Int) (a : Option Addr) (n c : Nat) (hs : ¬ (M.st = 1 ∧ M.id = i)) :
    Calls Try.prog 14 #[.pointer (some ⟨gm, 0, none⟩), .int .i64 i, .slice a n c] w fun e w' => e = .returned (.int .i64 154) ∧ w' = w := by
  have HA := Lib.hid (at_any w h 1 i)
  rw [decide_eq_false hs] at HA
  clear h hs
  go_enter Try.func14, Try.ntmps14
  go_wp2_with fail
  refine HA.out.mono ?_
  rintro e w1 ⟨rfl, rfl⟩
  go_wp2
  go_ret
  exact ⟨rfl, rfl⟩
/-- What a copy of rows comes to. -/
def CloneR (w : World) (e : Ending) (w' : World) : Prop := ∃ a n c, e = .returned (.slice a n c) ∧ Below w.heap.size w w'
set_option maxRecDepth 100000 in
set_option maxHeartbeats 4000000 in
theorem fenced_any (w : World) (h : MvAt w B gm gl M) (i : Int) (a : Option Addr) (n c : Nat) (hs : M.st = 1 ∧ M.id = i) (hcl : Calls Try.prog 35 #[.slice a n c] w (CloneR w)) :
    Calls Try.prog 14 #[.pointer (some ⟨gm, 0, none⟩), .int .i64 i, .slice a n c] w fun e w' => e = .returned (.int .i64 0) ∧ (∃ ra rn rc, MvAt w' B gm gl { M with ra := ra, rn := rn, rc := rc, st := 2 }) ∧ Chg w w' (fun k => k = gm) := by
  have HA := Lib.hid (at_any w h 1 i)
  rw [decide_eq_true hs] at HA
  have HM := Lib.hid h
  have HCL := Lib.hid hcl
  clear h hcl
  go_enter Try.func14, Try.ntmps14
  go_wp2_with fail
  refine HA.out.mono ?_
  rintro e w1 ⟨rfl, rfl⟩
  go_wp2_with fail
  refine HCL.out.mono ?_
  rintro e w2 ⟨a2, n2, c2, rfl, hb⟩
  have HM2 := Lib.hid (HM.out.below hb)
  have HC2 := Lib.hid (Chg.ofBelow (fun k => k = gm) hb)
  have HM3 := Lib.hid (HM2.out.setRows a2 n2 c2)
  have c31 := HM2.out.mcells.2.2.2.2.2.2.2.2.2.2.2
  have z31 := HM2.out.two.2.2 31
  have c19 := HM3.out.two.2.1
  have z19 := HM3.out.two.2.2 19
  clear hb HA HCL
  go_wp2
  go_ret
  exact ⟨rfl, ⟨a2, n2, c2, HM3.out.setSt 2⟩, (HC2.out.set rfl 31 _).set rfl 19 _⟩
set_option maxRecDepth 100000 in
set_option maxHeartbeats 2000000 in
theorem clone_nil (w : World) : Calls Try.prog 35 #[.slice none 0 0] w (CloneR w) := by
  have he : ∀ w : World, (binOp .eql 43 (.slice none 0 0) (.slice none 0 0)).run Try.prog w = .ok (.bool true) w := fun _ => rfl
  go_enter Try.func35, Try.ntmps35
  go_wp2
  go_ret
  exact ⟨none, 0, 0, rfl, Below.refl _ _⟩
end
end Go.Proofs.Ytbmmgmdjhhnkfaa

namespace Go.Proofs.Ytbmmgmdjhhnkfaa
open Go.RowKit

theorem i64_wrap {x : Int} (h : InI x) : IntKind.i64.wrap x = x := IntWalk.i64_in _ (by unfold InI at h; omega)
section
variable {w w' : World} {B gm gl g r : Nat} {v : Value} {M : Mv} {ms : List MsgD}
set_option maxRecDepth 100000 in
set_option maxHeartbeats 2000000 in
theorem start_busy (w : World) (h : MvAt w B gm gl M) (slot tw : Int) (hs : M.st ≠ 0) :
    Calls Try.prog 12 #[.pointer (some ⟨gm, 0, none⟩), .int .i64 slot, .int .i64 tw] w fun e w' => e = .returned (.tuple #[.int .i64 0, .int .i64 180]) ∧ w' = w := by
  obtain ⟨_, c19, _⟩ := h.two
  have f0 : (M.st == 0) = false := by simpa using hs
  clear h
  go_enter Try.func12, Try.ntmps12
  go_wp2
  go_ret2
  exact ⟨rfl, rfl⟩
set_option maxRecDepth 100000 in
set_option maxHeartbeats 4000000 in
theorem start_bad (w : World) (h : MvAt w B gm gl M) (slot tw : Int) (hs : M.st = 0) (hm : (Mt.move M.e M.o slot tw).2.2 ≠ 0) :
    Calls Try.prog 12 #[.pointer (some ⟨gm, 0, none⟩), .int .i64 slot, .int .i64 tw] w fun e w' => e = .returned (.tuple #[.int .i64 0, .int .i64 (Mt.move M.e M.o slot tw).2.2]) ∧ Below w.heap.size w w' := by
  obtain ⟨_, c19, _⟩ := h.two
  rw [hs] at c19
  have HM := Lib.hid h
  have HMA := Lib.hid (move_any slot tw w (T := (tL M.e M.o).toArray) (e := M.e) (o := M.o) ⟨rfl, h.l1⟩)
  have HLM := Lib.hid (move_len (e := M.e) slot tw h.l1)
  have f0 : ((Mt.move M.e M.o slot tw).2.2 == 0) = false := by simpa using hm
  clear h hm
  generalize (Mt.move M.e M.o slot tw).2.2 = cd at *
  generalize (Mt.move M.e M.o slot tw).1 = e2 at *
  generalize (Mt.move M.e M.o slot tw).2.1 = o2 at *
  go_enter Try.func12, Try.ntmps12
  go_wp2_with (refine wpList_load_mid rfl 24 (.tmp 20) rfl gm 1 rfl (tL M.e M.o) _ HM.out.tab.1 Try.underlying24 rfl (tL_info _ HM.out.l1) ?_)
  refine HMA.out.mono ?_
  rintro x w1 ⟨rfl, hb1⟩
  have HB1 := Lib.hid hb1
  have hnew : ∀ W : World, Whole W w1.heap.size 24 (tcs 0 noOwn) → W.there w1.heap.size 0 (tcs e2 o2).size := fun W h => by
    rw [tcs_size _ _ HLM.out]
    have := whole_all h
    rwa [tcs_size _ _ rfl] at this
  have HN := Lib.hid hnew
  have HI2 := Lib.hid (show (Try.prog.info? 24).map (·.size) = some (tcs e2 o2).size by rw [tcs_size _ _ HLM.out]; exact Try.infoT)
  clear hb1 hnew HMA
  go_wp2_with (refine wpList_store_mid rfl 24 (.tmp 8) (.tmp 25) rfl w1.heap.size 0 (tcs e2 o2) rfl rfl (HN.out _ (heap_alloc_new w1 _)) HI2.out (tcs_one _ _) ?_; have HB2 := Lib.hid (show Below w.heap.size w ((w1.alloc (.cells (tcs 0 noOwn) 24)).setCells w1.heap.size 0 (tcs e2 o2).toList) from (Chg.sets (P := fun k => k = w1.heap.size) rfl _ _ (Chg.ofBelow _ (below_alloc w1 _))).below (fun k hk => by rw [hk]; exact Nat.le_refl _) (Nat.le_refl _) |> fun hh => bell_up HB1.out hh))
  go_ret2
  exact ⟨rfl, HB2.out⟩
set_option maxRecDepth 100000 in
set_option maxHeartbeats 4000000 in
theorem start_good (w : World) (h : MS w B gm gl g v M ms r) (s : Nat) (tw : Int) (hs : M.st = 0) (h16 : s < 16) (hmv : Mt.move M.e M.o s tw = (M.e + 1, M.o.set s tw, 0)) (hfr : InI (M.o.getD s 0)) (hto : InI tw) (hv : InI (M.ver + 1)) :
    Calls Try.prog 12 #[.pointer (some ⟨gm, 0, none⟩), .int .i64 s, .int .i64 tw] w fun e w' => ∃ k, e = .returned (.tuple #[.int .i64 (if k = 0 then M.ver + 1 else 0), .int .i64 k]) ∧ WrR w B gm gl g v M ms r (mM 11 (M.o.getD s 0) tw (M.ver + 1) s) k w' := by
  obtain ⟨c18, c19, _⟩ := h.mv.two
  rw [hs] at c19
  have HM := Lib.hid h
  have HMA := move_any (s : Int) tw w (T := (tL M.e M.o).toArray) (e := M.e) (o := M.o) ⟨rfl, h.mv.l1⟩
  rw [hmv] at HMA
  have HMA := Lib.hid HMA
  have HLM := Lib.hid (show (M.o.set s tw).length = 16 by rw [List.length_set]; exact h.mv.l1)
  have hadd : IntKind.i64.wrap (M.ver + 1) = M.ver + 1 := i64_wrap hv
  have HV := Lib.hid hv
  have HF := Lib.hid hfr
  have HT := Lib.hid hto
  clear h hmv hfr hto hv
  go_enter Try.func12, Try.ntmps12
  go_wp2_with (refine wpList_load_mid rfl 24 (.tmp 20) rfl gm 1 rfl (tL M.e M.o) _ HM.out.mv.tab.1 Try.underlying24 rfl (tL_info _ HM.out.mv.l1) ?_)
  refine HMA.out.mono ?_
  rintro x w1 ⟨rfl, hb1⟩
  have HB1 := Lib.hid hb1
  have HN := Lib.hid (fun (W : World) (h : Whole W w1.heap.size 24 (tcs 0 noOwn)) => (show W.there w1.heap.size 0 (tcs (M.e + 1) (M.o.set s tw)).size by
    rw [tcs_size _ _ HLM.out]
    have := whole_all h
    rwa [tcs_size _ _ rfl] at this))
  have HI2 := Lib.hid (show (Try.prog.info? 24).map (·.size) = some (tcs (M.e + 1) (M.o.set s tw)).size by rw [tcs_size _ _ HLM.out]; exact Try.infoT)
  clear hb1 HMA c18 c19
  simp only []
  go_upto_region 4 with (refine wpList_store_mid rfl 24 (.tmp 8) (.tmp 25) rfl w1.heap.size 0 (tcs (M.e + 1) (M.o.set s tw)) rfl rfl (HN.out _ (heap_alloc_new w1 _)) HI2.out (tcs_one _ _) ?_; have HB2 := Lib.hid (show Below w.heap.size w ((w1.alloc (.cells (tcs 0 noOwn) 24)).setCells w1.heap.size 0 (tcs (M.e + 1) (M.o.set s tw)).toList) from (Chg.sets (P := fun k => k = w1.heap.size) rfl _ _ (Chg.ofBelow _ (below_alloc w1 _))).below (fun k hk => by rw [hk]; exact Nat.le_refl _) (Nat.le_refl _) |> fun hh => bell_up HB1.out hh); rw [zero_tab] at HB2; generalize World.setCells _ w1.heap.size 0 _ = w2 at *)
  have HM2 := Lib.hid (HM.out.below HB2.out)
  have c18 := HM2.out.mv.two.1
  have co := HM2.out.mv.own_at s h16
  have HP := Lib.hid (mput_any w2 HM2.out (k := 11) (f := M.o.getD s 0) (t := tw) (i := M.ver + 1) (s := s) ⟨by omega, by omega⟩ HF.out HT.out HV.out ⟨by omega, by omega⟩)
  have hij : (0:Int) ≤ (s:Int) ∧ (s:Int) < 16 := by omega
  generalize hfe : M.o.getD s 0 = fr at *
  have HFE := Lib.hid hfe
  clear hfe
  go_wp2_with fail
  refine HP.out.mono ?_
  rintro e w3 ⟨k, rfl, hw⟩
  have HE := Lib.hid (show WrR w B gm gl g v M ms r (mM 11 fr tw (M.ver + 1) s) k w3 from by
    rcases hw with ⟨h1, h2, v', h3, h4⟩ | ⟨h1, h2, h3, h4⟩
    · exact .inl ⟨h1, h2, v', h3, (Chg.ofBelow _ HB2.out).trans h4⟩
    · exact .inr ⟨h1, h2, h3, bell_up HB2.out h4⟩)
  have hk : k = 0 ∨ k = 3 := by
    rcases hw with ⟨h1, _⟩ | ⟨h1, _⟩
    · exact .inl h1
    · exact .inr h1
  clear hw HP
  rcases hk with rfl | rfl
  · go_wp2
    go_ret2
    exact ⟨0, rfl, by rw [HFE.out]; exact HE.out⟩
  · go_wp2
    go_ret2
    exact ⟨3, rfl, by rw [HFE.out]; exact HE.out⟩
end
end Go.Proofs.Ytbmmgmdjhhnkfaa
