/- The queue of int: All, Pour. -/
import Derived.Test.YtmnbpgigdobehaaQ2I
import Derived.Laws.Tables
namespace Go.Proofs.Ytmnbpgigdobehaa.QI
open Go.RowKit Go.Conc Go.Proofs.Ytmnbpgigdobehaa

theorem Try.infoE : (Try.prog.info? 3).map (fun i => (i.zero, i.size, i.bytes)) = some (some (.int .i64 0), 1, 8) := by kernel_rfl
theorem make_row {P : Program} (w : World) (t e : TypeId) (i : TypeInfo) (z : Value) (by_ : Nat) (ht : P.underlying t = some (.slice e)) (hi : P.info? e = some i) (hz : i.zero = some z) (hsize : i.size = 1) (hz1 : z.cells = #[z]) (hby : i.bytes = by_)
    (m : Nat) (hm : by_ * m ≤ 281474976710656) (hm2 : m ≤ 281474976710656) :
    (Instr.makeSlice t (.int .i64 0) (.int .i64 (m : Int))).run P w = .ok (.slice (some ⟨w.heap.size, 0, none⟩) 0 m) (w.alloc (.cells (madeCells #[z] m) e)) := by
  have hb2 : (i.bytes : Int) * (m : Int) ≤ 281474976710656 := by
    rw [hby, ← Int.natCast_mul]; omega
  have hr := run_make (P := P) w t e i z ht hi hz .i64 .i64 0 m (by omega) (by omega) hb2 (by omega)
  simp only [Int.toNat_natCast, hsize, Nat.mul_one, hz1] at hr
  exact hr
theorem info_of {P : Program} {t : TypeId} {z : Value} {s b : Nat} (h : (P.info? t).map (fun i => (i.zero, i.size, i.bytes)) = some (some z, s, b)) : ∃ i, P.info? t = some i ∧ i.zero = some z ∧ i.size = s ∧ i.bytes = b := by
  obtain ⟨i, hi, hx⟩ := Option.map_eq_some_iff.1 h
  injection hx with a b
  injection b with b c
  exact ⟨i, hi, a, b, c⟩
theorem QAt.grown {w wr w2 : World} {B g c cap B0 cap0 : Nat} {lost lost0 : Int} {ps ps0 : List Nat} {xs xs0 : List Int} {row : Option Nat} (h : QAt wr B g c cap lost ps xs) (h0 : QAt w B0 g c cap0 lost0 ps0 xs0) (ht : Turned w wr g (some c)) (hth : Things w ps xs) (hg : wr.grownBy w2 row) (hv : ∀ k, row = some k → w.heap.size ≤ k) :
    QAt w2 B g c cap lost ps xs ∧ Turned w w2 g (some c) := by
  have hne : ∀ k, k < w.heap.size → some k ≠ row := fun k hk e => by have := hv k e.symm; omega
  have hT : Turned w w2 g (some c) := ⟨hg.os.trans ht.os, hg.tape.trans ht.tape, hg.output.trans ht.output, Nat.le_trans ht.size hg.size, fun k hk h1 h2 => (hg.block k (Nat.lt_of_lt_of_le hk ht.size) (hne k hk)).trans (ht.block k hk h1 h2)⟩
  exact ⟨⟨h.blk.kept (hg.block g h.blk.lt (hne g h0.blk.lt)), h.ch.kept (hg.block c h.ch.lt (hne c h0.ch.lt)), hth.kept hT ⟨_, _, by decide, h0.blk⟩ ⟨_, _, h0.ch⟩, h.room, h.lo, h.hi, h.geg, h.gec⟩, hT⟩
theorem chan_eqIn (d : Nat) (a b : Nat) (w : World) (h : a ≠ b) : (Op.equalIn (d + 1) 71 (.chan (some a)) (.chan (some b))).run Try.prog w = .ok false w := by
  simp [Op.equalIn, run_underlying Try.underlying71, h]
theorem chan_ne {a b : Nat} (w : World) (h : a ≠ b) : (binOp .eql 71 (.chan (some a)) (.chan (some b))).run Try.prog w = .ok (.bool false) w := by
  simp only [binOp]
  have := chan_eqIn 9999 a b w h
  simp [Op.equal, show Op.maxDepth = 9999 + 1 from rfl, this]
/-- Only these four blocks, and new memory, are other than they were. -/
structure Below2 (w w' : World) (g c g2 c2 : Nat) : Prop where
  os : w'.os = w.os
  tape : w'.tape = w.tape
  output : w'.output = w.output
  size : w.heap.size ≤ w'.heap.size
  block : ∀ k, k < w.heap.size → k ≠ g → k ≠ c → k ≠ g2 → k ≠ c2 → w'.heap[k]? = w.heap[k]?
theorem Below2.refl (w : World) (g c g2 c2 : Nat) : Below2 w w g c g2 c2 := ⟨rfl, rfl, rfl, Nat.le_refl _, fun _ _ _ _ _ _ => rfl⟩
theorem Below2.drewN (w : World) (n g c g2 c2 : Nat) : Below2 w (w.drewN n) g c g2 c2 := ⟨rfl, rfl, rfl, Nat.le_refl _, fun _ _ _ _ _ _ => rfl⟩
theorem Below2.trans {a b d : World} {g c g2 c2 : Nat} (h : Below2 a b g c g2 c2) (k : Below2 b d g c g2 c2) : Below2 a d g c g2 c2 :=
  ⟨k.os.trans h.os, k.tape.trans h.tape, k.output.trans h.output, Nat.le_trans h.size k.size, fun i hi a1 a2 a3 a4 => (k.block i (Nat.lt_of_lt_of_le hi h.size) a1 a2 a3 a4).trans (h.block i hi a1 a2 a3 a4)⟩
theorem Below2.left {a b : World} {g c g2 c2 : Nat} (h : Turned a b g (some c)) : Below2 a b g c g2 c2 := ⟨h.os, h.tape, h.output, h.size, fun i hi a1 a2 _ _ => h.block i hi a1 (by simpa using a2)⟩
theorem Below2.right {a b : World} {g c g2 c2 : Nat} (h : Turned a b g2 (some c2)) : Below2 a b g c g2 c2 := ⟨h.os, h.tape, h.output, h.size, fun i hi _ _ a1 a2 => h.block i hi a1 (by simpa using a2)⟩
theorem Below2.below {B : Nat} {a b : World} {g c g2 c2 : Nat} (h : Below2 a b g c g2 c2) (h1 : B ≤ g) (h2 : B ≤ c) (h3 : B ≤ g2) (h4 : B ≤ c2) (hB : B ≤ a.heap.size) : Below B a b := ⟨h.os, h.tape, h.output, h.size, fun k hk => h.block k (by omega) (by omega) (by omega) (by omega) (by omega)⟩
/-- Behind a take: what was found, and what is left. -/
def Found (w wr : World) (B g c cap : Nat) (lost : Int) (xs acc : List Int) (t4 t5 : Value) : Prop :=
  (∃ p x ps rest, t4 = .pointer (some ⟨p, 0, none⟩) ∧ t5 = .bool true ∧ Whole wr p 3 #[Value.int .i64 x] ∧ QAt wr B g c cap lost ps rest ∧ Things w ps rest ∧ xs = acc ++ x :: rest) ∨
  (t4 = .pointer none ∧ t5 = .bool false ∧ QAt wr B g c cap lost [] [] ∧ xs = acc)
theorem take_found {w wr : World} {B g c cap : Nat} {lost : Int} {ps : List Nat} {xs acc rest : List Int} (h : QAt wr B g c cap lost ps rest) (hth : Things w ps rest) (hx : xs = acc ++ rest) :
    Calls Try.prog 31 #[.pointer (some ⟨g, 0, none⟩)] wr fun e w' => ∃ t4 t5, e = .returned (.tuple #[t4, t5]) ∧ Found w w' B g c cap lost xs acc t4 t5 ∧ Turned wr w' g (some c) := by
  cases rest with
  | nil =>
    cases ps with
    | nil => exact (take_none wr h).mono fun e w' ⟨he, hw⟩ => ⟨_, _, he, .inr ⟨rfl, rfl, hw ▸ h, by simpa using hx⟩, hw ▸ Turned.refl _ _ _⟩
    | cons p ps => exact absurd hth (by simp [Things])
  | cons x rest =>
    cases ps with
    | nil => exact absurd hth (by simp [Things])
    | cons p ps => exact (take_some wr h).mono fun e w' ⟨he, hq2, hp, ht⟩ => ⟨_, _, he, .inl ⟨p, x, ps, rest, rfl, rfl, hp, hq2, hth.2, hx⟩, ht⟩
/-- A row of the call's own is left alone. -/
theorem owns_turned {w wr w2 : World} {g c n : Nat} {e : TypeId} {v : Value} {l : List Value} (h : wr.ownsRow w.heap.size e 1 v n l) (ht : Turned wr w2 g (some c)) (hg : g < w.heap.size) (hc : c < w.heap.size) : w2.ownsRow w.heap.size e 1 v n l :=
  owns_kept h fun k hk => ht.block k (h.lt k hk).2 (by have := (h.lt k hk).1; omega) (by have := (h.lt k hk).1; simp; omega)
def vlen : Value → Nat
  | .slice _ n _ => n
  | _ => 0

set_option maxRecDepth 100000 in
set_option maxHeartbeats 4000000 in
theorem All_any {B g c cap : Nat} {lost : Int} {ps : List Nat} {xs : List Int} (w : World) (h : QAt w B g c cap lost ps xs) :
    Calls Try.prog 24 #[.pointer (some ⟨g, 0, none⟩)] w fun e w' => ∃ v, e = .returned v ∧ w'.ownsRow w.heap.size 3 1 v xs.length (xs.map fun x => Value.int .i64 x) ∧ QAt w' B g c cap lost [] [] ∧ Turned w w' g (some c) := by
  obtain ⟨i0, hi, hz0, hz1, hz2⟩ := info_of Try.infoE
  have hr := h.room
  have hh := h.hi
  have hmk : ∀ w : World, (Instr.makeSlice 51 (.int .i64 0) (.int .i64 (xs.length : Int))).run Try.prog w = .ok (.slice (some ⟨w.heap.size, 0, none⟩) 0 xs.length) (w.alloc (.cells (madeCells #[.int .i64 0] xs.length) 3)) := by
    intro w
    exact make_row w 51 3 i0 (.int .i64 0) 8 Try.underlying51 hi hz0 hz1 rfl hz2 xs.length (by omega) (by omega)
  have HN := Lib.hid (len_any w h)
  have hown : (w.alloc (.cells (madeCells #[.int .i64 0] xs.length) 3)).ownsRow w.heap.size 3 1 (.slice (some ⟨w.heap.size, 0, none⟩) 0 xs.length) 0 [] := by
    refine ⟨rfl, .inr ⟨w.heap.size, xs.length, madeCells #[.int .i64 0] xs.length, rfl, Nat.le_refl _, heap_alloc_new _ _, Nat.zero_le _, by unfold maxLen; omega, ?_, rfl⟩⟩
    rw [size_madeCells]; simp
  have hq1 := h.below (below_alloc w (.cells (madeCells #[.int .i64 0] xs.length) 3))
  have ht1 : Turned w (w.alloc (.cells (madeCells #[.int .i64 0] xs.length) 3)) g (some c) := Turned.ofBelow _ _ (below_alloc _ _)
  have HO := Lib.hid hown
  have HQ1 := Lib.hid hq1
  have HT1 := Lib.hid ht1
  have H0 := Lib.hid h
  have HM := Lib.hid hmk
  clear h hown hq1 ht1 hmk
  go_enter Try.func24, Try.ntmps24
  go_wp2_with fail
  refine HN.out.mono ?_
  rintro e w1 ⟨rfl, rfl⟩
  have hmk := HM.out w
  generalize hwm : w.alloc (.cells (madeCells #[.int .i64 0] xs.length) 3) = wm at *
  have HW := Lib.hid hwm
  clear hwm
  go_wp2_with fail
  clear hmk
  refine (take_found (w := w) (xs := xs) (acc := []) HQ1.out H0.out.th rfl).mono ?_
  rintro e w1 ⟨t4, t5, rfl, hf, ht⟩
  have HO1 := Lib.hid (owns_turned HO.out ht H0.out.blk.lt H0.out.ch.lt)
  have HT := Lib.hid (HT1.out.trans ht)
  have HF := Lib.hid hf
  clear hf ht
  go_wp2_with fail
  go_loopw [3, 4, 5] (fun t3 t4 t5 wr => ∃ acc : List Int, wr.ownsRow w.heap.size 3 1 t3 acc.length (acc.map fun x => Value.int .i64 x) ∧ Found w wr B g c cap lost xs acc t4 t5 ∧ Turned w wr g (some c)) (fun t3 _ _ _ => xs.length - vlen t3)
  case atStart => exact ⟨[], HO1.out, HF.out, HT.out⟩
  case round =>
    obtain ⟨acc, hown, hf, ht⟩ := hrel
    obtain ⟨ta, tc, rfl, _, _⟩ := owned_any hown
    rcases hf with ⟨p, x, ps', rest, rfl, rfl, hp, hq, hth, hxs⟩ | ⟨rfl, rfl, hq, hxs⟩
    · have cp : wr.cell? ⟨p, 0, none⟩ = some (Value.int .i64 x) := by rw [hp.cell]; rfl
      have hlt : acc.length < xs.length := by rw [hxs]; simp
      have hsz := ht.size
      have HW2 := Lib.hid hown
      have HQ := Lib.hid hq
      have HTH := Lib.hid hth
      have HX := Lib.hid hxs
      have HT2 := Lib.hid ht
      clear hown hq hth hxs ht hp
      go_wp2_with (at_builtin; refine wpList_append_at_any _ rfl _ _ 51 rfl w.heap.size 3 i0 (.int .i64 0) 1 8 Try.underlying51 hi hz0 hz1 hz2 rfl (by decide) _ acc.length _ rfl (HW2.out.alloc _) (some ⟨wr.heap.size, 0, none⟩) 1 1 [Value.int .i64 x] rfl rfl (by intro h; cases h) (by rintro ad he; injection he with he; subst he; exact cell_one_new _ _ _) (by intro q hq; simp at hq; subst hq; rfl) (by unfold maxLen; omega) (by omega) (by simp; omega) ?_; intro v2 w2 hown2 hgrow2 hat2)
      have hg2 := QAt.grown (HQ.out.below (below_alloc _ _)) H0.out (Turned.below_right HT2.out (below_alloc _ _)) HTH.out hgrow2 (fun k hk => (HW2.out.lt k hk).1)
      refine (take_found (xs := xs) (acc := acc ++ [x]) hg2.1 HTH.out (by rw [HX.out]; simp)).mono ?_
      rintro e w3 ⟨t4, t5, rfl, hf3, ht3⟩
      rw [show acc.map (fun x => Value.int .i64 x) ++ [Value.int .i64 x] = (acc ++ [x]).map fun x => Value.int .i64 x by simp, show acc.length + 1 = (acc ++ [x]).length by simp] at hown2
      have HO3 := Lib.hid (owns_turned hown2 ht3 H0.out.blk.lt H0.out.ch.lt)
      have HF3 := Lib.hid hf3
      have HT3 := Lib.hid (hg2.2.trans ht3)
      clear hown2 hgrow2 hat2 hg2 hf3 ht3
      obtain ⟨tb, td, rfl, _, _⟩ := owned_any HO3.out
      go_wp2_with fail
      go_roundw
      case rel => exact ⟨acc ++ [x], by have := HO3.out; rwa [show (acc ++ [x]).length = acc.length + 1 by simp] at this ⊢, HF3.out, HT3.out⟩
      case measure => simp [vlen]; omega
    · subst hxs
      have HW2 := Lib.hid hown
      have HQ := Lib.hid hq
      have HT2 := Lib.hid ht
      clear hown hq ht
      go_wp2
      go_ret
      exact ⟨_, rfl, HW2.out, HQ.out, HT2.out⟩

def Poured (w w' : World) (e : Ending) (B g c cap g2 c2 cap2 : Nat) (lost lost2 : Int) (xs xs2 : List Int) : Prop :=
  e = .returned (.int .i64 ((min xs.length (cap2 - xs2.length) : Nat) : Int)) ∧ (∃ ps', QAt w' B g c cap lost ps' (xs.drop (cap2 - xs2.length))) ∧ (∃ ps', QAt w' B g2 c2 cap2 lost2 ps' (xs2 ++ xs.take (cap2 - xs2.length))) ∧ Below2 w w' g c g2 c2
set_option maxRecDepth 100000 in
set_option maxHeartbeats 4000000 in
theorem Pour_any {B g c cap g2 c2 cap2 : Nat} {lost lost2 : Int} {ps ps2 : List Nat} {xs xs2 : List Int} (w : World) (h : QAt w B g c cap lost ps xs) (h2 : QAt w B g2 c2 cap2 lost2 ps2 xs2) (hg : g ≠ g2) (hc : c ≠ c2) :
    Calls Try.prog 21 #[.pointer (some ⟨g, 0, none⟩), .pointer (some ⟨g2, 0, none⟩)] w fun e w' => Poured w w' e B g c cap g2 c2 cap2 lost lost2 xs xs2 := by
  obtain ⟨c0, _, _⟩ := h.cells
  obtain ⟨d0, _, _⟩ := h2.cells
  have hcc : ∀ w, (binOp .eql 71 (.chan (some c)) (.chan (some c2))).run Try.prog w = .ok (.bool false) w := fun w => chan_ne w hc
  have hr2 := h2.room
  have hh2 := h2.hi
  have H1 := Lib.hid h
  have H2 := Lib.hid h2
  have HG := Lib.hid hg
  have HC := Lib.hid hc
  clear h h2 hg
  go_enter Try.func21, Try.ntmps21
  go_wp2
  go_quiet (fail)
  clear c0 d0
  go_wp2
  go_loopw [5] (fun t5 wr => ∃ (i : Nat) (q q2 : List Nat), i ≤ xs.length ∧ i ≤ cap2 - xs2.length ∧ t5 = .int .i64 i ∧ QAt wr B g c cap lost q (xs.drop i) ∧ QAt wr B g2 c2 cap2 lost2 q2 (xs2 ++ xs.take i) ∧ Below2 w wr g c g2 c2) (fun t5 _ => cap2 - (intOf t5).toNat)
  case atStart => exact ⟨0, ps, ps2, by omega, by omega, rfl, H1.out.drewN _, by simpa using H2.out.drewN _, Below2.drewN _ _ _ _ _ _⟩
  case round =>
    obtain ⟨i, q, q2, hi1, hi2, rfl, hq, hq2, hb⟩ := hrel
    have hl2 : (xs2 ++ xs.take i).length = xs2.length + i := by rw [List.length_append, List.length_take]; omega
    have HL2 := Lib.hid hl2
    have HN := Lib.hid (room_any wr hq2)
    rw [hl2] at HN
    have HQ := Lib.hid hq
    have HQ2 := Lib.hid hq2
    have HB := Lib.hid hb
    clear hq hq2 hb hl2
    by_cases hroom : i < cap2 - xs2.length
    · have hpos : (0 : Int) < ((cap2 - (xs2.length + i) : Nat) : Int) := by omega
      generalize ((cap2 - (xs2.length + i) : Nat) : Int) = rm at *
      go_wp2_with fail
      refine HN.out.mono ?_
      rintro e w1 ⟨rfl, m, rfl⟩
      by_cases hil : i < xs.length
      · obtain ⟨x, hx⟩ : ∃ x, xs[i]? = some x := ⟨_, List.getElem?_eq_getElem hil⟩
        have hd : xs.drop i = x :: xs.drop (i + 1) := by
          obtain ⟨hi, rfl⟩ := List.getElem?_eq_some_iff.1 hx
          exact List.drop_eq_getElem_cons hi
        obtain ⟨p, q', rfl⟩ : ∃ p q', q = p :: q' := by
          have h1 := HQ.out.th.len
          rw [hd] at h1
          cases q with
          | nil => simp at h1
          | cons p q' => exact ⟨p, q', rfl⟩
        have HX := Lib.hid hx
        have hq := HQ.out
        rw [hd] at hq
        have HNT := Lib.hid (take_some _ (hq.drewN m))
        have HQQ := Lib.hid hq
        clear hd hx hq
        go_wp2_with fail
        refine HNT.out.mono ?_
        rintro e w2 ⟨rfl, hq1, hp, ht⟩
        have hq2 := (HQ2.out.drewN m).other (HQQ.out.drewN m) HG.out.symm HC.out.symm ht
        have HNP := Lib.hid (put_room p x w2 hq2 hp (by rw [HL2.out]; omega))
        have HQ3 := Lib.hid hq1
        have HQ4 := Lib.hid hq2
        have HB2 := Lib.hid ((HB.out.trans (Below2.drewN _ _ _ _ _ _)).trans (Below2.left ht))
        clear hq1 hp ht hq2
        go_wp2_with fail
        refine HNP.out.mono ?_
        rintro e w3 ⟨rfl, hq5, ht⟩
        have HQ6 := Lib.hid (HQ3.out.other HQ4.out HG.out HC.out ht)
        have hq5' := hq5
        rw [List.append_assoc, take_snoc' HX.out] at hq5'
        have HQ5 := Lib.hid hq5'
        have HB3 := Lib.hid (HB2.out.trans (Below2.right ht))
        clear hq5 hq5' ht
        go_wp2
        go_roundw
        case rel => exact ⟨i + 1, _, _, by omega, by omega, by go_num, HQ6.out, HQ5.out, HB3.out⟩
        case measure => simp [intOf]; omega
      · have hxd : xs.drop i = [] := List.drop_of_length_le (by omega)
        have hq := HQ.out
        rw [hxd] at hq
        obtain rfl : q = [] := by
          have h1 := hq.th.len
          cases q with
          | nil => rfl
          | cons p q' => simp at h1
        have HNT := Lib.hid (take_none _ (hq.drewN m))
        have HQQ := Lib.hid hq
        obtain rfl : i = xs.length := by omega
        clear hq hxd
        go_wp2_with fail
        refine HNT.out.mono ?_
        rintro e w2 ⟨rfl, rfl⟩
        go_wp2
        go_ret
        refine ⟨by rw [Nat.min_eq_left (by omega)]; rfl, ⟨[], ?_⟩, ⟨q2, ?_⟩, HB.out.trans (Below2.drewN _ _ _ _ _ _)⟩
        · rw [List.drop_of_length_le (by omega)]
          exact HQQ.out.drewN m
        · have := HQ2.out.drewN m
          rwa [List.take_of_length_le (Nat.le_refl _), ← List.take_of_length_le (l := xs) (i := cap2 - xs2.length) (by omega)] at this
    · have hz : ((cap2 - (xs2.length + i) : Nat) : Int) = 0 := by omega
      rw [hz] at HN
      clear hz
      go_wp2_with fail
      refine HN.out.mono ?_
      rintro e w1 ⟨rfl, m, rfl⟩
      go_wp2
      go_ret
      obtain rfl : i = cap2 - xs2.length := by omega
      exact ⟨by rw [Nat.min_eq_right (by omega)]; rfl, ⟨q, HQ.out.drewN m⟩, ⟨q2, HQ2.out.drewN m⟩, HB.out.trans (Below2.drewN _ _ _ _ _ _)⟩
end Go.Proofs.Ytmnbpgigdobehaa.QI
