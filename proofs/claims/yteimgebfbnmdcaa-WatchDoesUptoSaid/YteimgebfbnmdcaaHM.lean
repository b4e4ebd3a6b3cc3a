/- Watch's sets out of rows: setOf, At, Play. -/
import Derived.Test.YteimgebfbnmdcaaHK
namespace Go.Proofs.Yteimgebfbnmdcaa
open Go.RowKit Go.Shelf
open Go.Maps (Keyed)

theorem lies_cells {α : Type} {enc : α → List Value} {k : Nat} (hk : ∀ x, (enc x).length = k) {w : World} {T : TypeId} {B n c : Nat} {a : Option Addr} {l : List α} (hk0 : 0 < k) (h : Lies w T k B a n c (l.flatMap enc)) {i : Nat} {x : α} (hi : l[i]? = some x) :
    ∃ b off, a = some ⟨b, off, none⟩ ∧ b < w.heap.size ∧ ∀ (j : Nat) (u : Value), (enc x)[j]? = some u → w.cell? ⟨b, off + i * k + j, none⟩ = some u := by
  cases a with
  | none =>
    exfalso
    have h0 := (h.nil rfl).1
    have h1 := h.len
    rw [h0, Nat.zero_mul, fm_len hk] at h1
    have hil := (List.getElem?_eq_some_iff.1 hi).1
    have := Nat.mul_pos (show 0 < l.length by omega) hk0
    omega
  | some ad =>
    obtain ⟨b, off, spot⟩ := ad
    obtain ⟨h1, h2, _, h4⟩ := h.at_ (by
      have hil := (List.getElem?_eq_some_iff.1 hi).1
      have h1 := h.len
      rw [fm_len hk] at h1
      have := Nat.mul_pos (show 0 < l.length by omega) hk0
      exact Nat.pos_of_ne_zero (fun e => by rw [e, Nat.zero_mul] at h1; omega)) _ rfl
    simp only at h1 h2
    subst h1
    refine ⟨b, off, rfl, h2, fun j u hj => ?_⟩
    have hj2 : j < k := by rw [← hk x]; exact (List.getElem?_eq_some_iff.1 hj).1
    have := h4 (i * k + j) u (by rw [fm_at hk hi hj2]; exact hj)
    rw [add_plain] at this
    rw [← this, Nat.add_assoc]
theorem foldl_take {α β : Type} (f : β → α → β) (z : β) {l : List α} {i : Nat} {x : α} (h : l[i]? = some x) : (l.take (i + 1)).foldl f z = f ((l.take i).foldl f z) x := by
  rw [List.take_add_one, h, List.foldl_append]; rfl
theorem len_adds (S l : List Tp) : (l.foldl addS S).length ≤ S.length + l.length := by
  induction l generalizing S with
  | nil => simp
  | cons t l ih =>
    rw [List.foldl_cons, List.length_cons]
    have := ih (addS S t)
    have := len_addS S t
    omega
theorem mem_adds {S l : List Tp} {x : Tp} : x ∈ l.foldl addS S ↔ x ∈ S ∨ x ∈ l := by
  induction l generalizing S with
  | nil => simp
  | cons t l ih =>
    rw [List.foldl_cons, ih, mem_addS, List.mem_cons, or_assoc]
theorem Chg.at_ {w w' : World} {b : Nat} {B : Nat} (h : Chg w w' (fun k => k = b)) (hb : B ≤ b) (hB : B ≤ w.heap.size) : Below B w w' := h.below (fun k e => by rw [e]; exact hb) hB
set_option maxRecDepth 100000 in
set_option maxHeartbeats 4000000 in
theorem setOf_any {w : World} {a : Option Addr} {n c : Nat} {l : List Tp} (hl : Lies w 47 3 0 a n c (l.flatMap tc)) (hln : l.length = n) (hf : ∀ t ∈ l, t.fits) (hn : n ≤ 1099511627776) :
    Calls Try.prog 37 #[.slice a n c] w fun e w' => ∃ b, e = .returned (.map (some b)) ∧ SetAt w' b (l.foldl addS []) ∧ w.heap.size ≤ b ∧ Below w.heap.size w w' := by
  have hmm := @run_makeMap Try.prog
  have HM := Lib.hid (SetAt.made w)
  have HB0 := Lib.hid (below_alloc w (.map #[] 0))
  have HL := Lib.hid hl
  have HF := Lib.hid hf
  have HLN := Lib.hid hln
  obtain ⟨b, hb⟩ : ∃ b, b = w.heap.size := ⟨_, rfl⟩
  have HBE := Lib.hid hb
  clear hl hf hln
  go_enter Try.func37, Try.ntmps37
  go_wp2_with fail
  rw [← hb]
  clear hb
  go_loopw [9] (fun iv wr => ∃ i : Nat, i ≤ n ∧ iv = .int .i64 i ∧ SetAt wr b ((l.take i).foldl addS []) ∧ Below w.heap.size w wr) (fun iv _ => n - (intOf iv).toNat)
  case atStart => exact ⟨0, by omega, rfl, by rw [HBE.out]; exact HM.out, HB0.out⟩
  case round =>
    clear HM HB0
    obtain ⟨i, hin, rfl, hS, hbl⟩ := hrel
    by_cases hil : i < n
    · obtain ⟨t, hti⟩ : ∃ t, l[i]? = some t := ⟨_, List.getElem?_eq_getElem (show i < l.length by rw [HLN.out]; exact hil)⟩
      obtain ⟨bb, off, rfl, hbb, hcc⟩ := lies_cells tc_len (by decide) HL.out hti
      have c0 := (hbl.cell (p := ⟨bb, off + i * 3, none⟩) hbb).trans (hcc 0 _ rfl)
      have c1 := (hbl.cell (p := ⟨bb, off + i * 3 + 1, none⟩) hbb).trans (hcc 1 _ rfl)
      have c2 := (hbl.cell (p := ⟨bb, off + i * 3 + 2, none⟩) hbb).trans (hcc 2 _ rfl)
      have hil2 : (i : Int) < (n : Int) := by omega
      have hfold := foldl_take addS [] hti
      have hlen := len_adds [] (l.take i)
      simp only [List.length_nil, List.length_take] at hlen
      have HP := Lib.hid (put_any (hS.below (below_alloc wr (.cells #[.string t.o, .string t.r, .string t.u] 47))) (by omega) (HF.out t (List.mem_of_getElem? hti)))
      have HBL := Lib.hid (bell_alloc hbl (.cells #[.string t.o, .string t.r, .string t.u] 47))
      have HFO := Lib.hid hfold
      clear hcc hbb hS hbl hfold hlen hti
      go_wp2_with fail
      refine HP.out.mono ?_
      rintro _ w1 ⟨rfl, hS1, hc1⟩
      have HE := Lib.hid (show SetAt w1 b ((l.take (i + 1)).foldl addS []) ∧ Below w.heap.size w w1 from ⟨by rw [HFO.out]; exact hS1, HBL.out.trans (hc1.at_ (by rw [HBE.out]; exact Nat.le_refl _) HBL.out.size)⟩)
      clear hS1 hc1 HP HBL c0 c1 c2
      go_wp2
      go_roundw
      case rel => exact ⟨i + 1, by omega, by go_num, HE.out⟩
      case measure => simp [intOf]; omega
    · obtain rfl : i = n := by omega
      have HE := Lib.hid (show SetAt wr b (l.foldl addS []) ∧ Below w.heap.size w wr from ⟨by rw [List.take_of_length_le (by rw [HLN.out]; exact Nat.le_refl _)] at hS; exact hS, hbl⟩)
      clear hS hbl
      go_wp2
      go_ret
      exact ⟨b, rfl, HE.out.1, by rw [HBE.out]; exact Nat.le_refl _, HE.out.2⟩
end Go.Proofs.Yteimgebfbnmdcaa
