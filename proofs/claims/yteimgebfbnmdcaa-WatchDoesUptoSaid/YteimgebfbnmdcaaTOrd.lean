/- TupleOrders: tuples have one order. -/
import Derived.Test.YteimgebfbnmdcaaT6
namespace Go.Proofs.Yteimgebfbnmdcaa
open Go.RowKit

theorem cb_range (l m : List UInt8) : Lib.compareBytes l m = -1 ∨ Lib.compareBytes l m = 0 ∨ Lib.compareBytes l m = 1 := by
  induction l generalizing m with
  | nil => cases m <;> simp [Lib.compareBytes]
  | cons a l ih =>
    cases m with
    | nil => simp [Lib.compareBytes]
    | cons b m =>
      unfold Lib.compareBytes
      split
      · simp
      · split
        · simp
        · exact ih m
theorem cb_zero (l m : List UInt8) : Lib.compareBytes l m = 0 ↔ l = m := by
  induction l generalizing m with
  | nil => cases m <;> simp [Lib.compareBytes]
  | cons a l ih =>
    cases m with
    | nil => simp [Lib.compareBytes]
    | cons b m =>
      unfold Lib.compareBytes
      split
      · rename_i h
        simp
        intro h2
        exact absurd h (by rw [h2]; exact UInt8.lt_irrefl _)
      · split
        · rename_i h
          simp
          intro h2
          exact absurd h (by rw [h2]; exact UInt8.lt_irrefl _)
        · rename_i h1 h2
          rw [ih, List.cons.injEq]
          exact ⟨fun h => ⟨UInt8.le_antisymm (UInt8.not_lt.1 h2) (UInt8.not_lt.1 h1), h⟩, fun h => h.2⟩
theorem cb_neg (l m : List UInt8) : Lib.compareBytes m l = - Lib.compareBytes l m := by
  induction l generalizing m with
  | nil => cases m <;> simp [Lib.compareBytes]
  | cons a l ih =>
    cases m with
    | nil => simp [Lib.compareBytes]
    | cons b m =>
      unfold Lib.compareBytes
      by_cases h1 : a < b
      · rw [if_pos h1, if_neg (UInt8.not_lt.2 (UInt8.le_of_lt h1)), if_pos h1]
        rfl
      · by_cases h2 : b < a
        · simp [h1, h2]
        · simp [h1, h2, ih m]
theorem cb_less (l m : List UInt8) : Op.bytesLess l m = decide (Lib.compareBytes l m = -1) := by
  induction l generalizing m with
  | nil => cases m <;> simp [Lib.compareBytes, Op.bytesLess]
  | cons a l ih =>
    cases m with
    | nil => simp [Lib.compareBytes, Op.bytesLess]
    | cons b m =>
      unfold Lib.compareBytes Op.bytesLess
      by_cases h1 : a < b
      · simp [h1]
      · by_cases h2 : b < a
        · have hne : (a == b) = false := by
            rw [beq_eq_false_iff_ne]
            intro h
            rw [h] at h2
            exact absurd h2 (UInt8.lt_irrefl _)
          simp [h1, h2, hne]
        · have e : a = b := UInt8.le_antisymm (UInt8.not_lt.1 h2) (UInt8.not_lt.1 h1)
          subst e
          simp [h1, ih m]
theorem cb_trans (l m n : List UInt8) (h1 : Lib.compareBytes l m ≤ 0) (h2 : Lib.compareBytes m n ≤ 0) : Lib.compareBytes l n ≤ 0 := by
  induction l generalizing m n with
  | nil => cases n <;> simp [Lib.compareBytes]
  | cons a l ih =>
    cases m with
    | nil => simp [Lib.compareBytes] at h1
    | cons b m =>
      cases n with
      | nil => simp [Lib.compareBytes] at h2
      | cons c n =>
        unfold Lib.compareBytes at h1 h2 ⊢
        by_cases a1 : a < b
        · by_cases b1 : b < c
          · rw [if_pos (UInt8.lt_trans a1 b1)]; omega
          · by_cases b2 : c < b
            · rw [if_neg b1, if_pos b2] at h2; omega
            · have e : b = c := UInt8.le_antisymm (UInt8.not_lt.1 b2) (UInt8.not_lt.1 b1)
              rw [← e, if_pos a1]; omega
        · by_cases a2 : b < a
          · rw [if_neg a1, if_pos a2] at h1; omega
          · have e : a = b := UInt8.le_antisymm (UInt8.not_lt.1 a2) (UInt8.not_lt.1 a1)
            rw [if_neg a1, if_neg a2] at h1
            subst e
            by_cases b1 : a < c
            · rw [if_pos b1]; omega
            · by_cases b2 : c < a
              · rw [if_neg b1, if_pos b2] at h2; omega
              · rw [if_neg b1, if_neg b2] at h2 ⊢
                exact ih m n h1 h2

/-- Texts in their order. -/
def cb (a b : ByteArray) : Int := Lib.compareBytes a.data.toList b.data.toList
def cmpT (a b : Tq) : Int := if cb a.1 b.1 ≠ 0 then cb a.1 b.1 else if cb a.2.1 b.2.1 ≠ 0 then cb a.2.1 b.2.1 else cb a.2.2 b.2.2
def lessT (a b : Tq) : Bool := if cb a.1 b.1 ≠ 0 then decide (cb a.1 b.1 = -1) else if cb a.2.1 b.2.1 ≠ 0 then decide (cb a.2.1 b.2.1 = -1) else decide (cb a.2.2 b.2.2 = -1)
theorem cbs_zero (a b : ByteArray) : cb a b = 0 ↔ a = b := by
  rw [cb, cb_zero]
  exact ⟨data_ext, fun h => by rw [h]⟩
theorem cbs_neg (a b : ByteArray) : cb b a = - cb a b := cb_neg _ _
theorem cbs_range (a b : ByteArray) : cb a b = -1 ∨ cb a b = 0 ∨ cb a b = 1 := cb_range _ _
theorem cmpT_range (a b : Tq) : cmpT a b = -1 ∨ cmpT a b = 0 ∨ cmpT a b = 1 := by
  unfold cmpT
  split
  · exact cbs_range _ _
  · split
    · exact cbs_range _ _
    · exact cbs_range _ _
theorem cmpT_zero (a b : Tq) : cmpT a b = 0 ↔ a = b := by
  obtain ⟨a1, a2, a3⟩ := a
  obtain ⟨b1, b2, b3⟩ := b
  have z1 := cbs_zero a1 b1
  have z2 := cbs_zero a2 b2
  have z3 := cbs_zero a3 b3
  simp only [cmpT, Prod.mk.injEq]
  rw [← z1, ← z2, ← z3]
  split
  · omega
  · split <;> omega
theorem cmpT_neg (a b : Tq) : cmpT b a = - cmpT a b := by
  simp only [cmpT]
  rw [cbs_neg a.1, cbs_neg a.2.1, cbs_neg a.2.2]
  by_cases h1 : cb a.1 b.1 = 0
  · by_cases h2 : cb a.2.1 b.2.1 = 0
    · simp [h1, h2]
    · simp [h1, h2]
  · simp [h1]
theorem cmpT_less (a b : Tq) : lessT a b = decide (cmpT a b = -1) := by
  simp only [cmpT, lessT]
  split
  · rfl
  · split <;> rfl
theorem cmpT_trans (a b c : Tq) (h1 : cmpT a b ≤ 0) (h2 : cmpT b c ≤ 0) : cmpT a c ≤ 0 := by
  obtain ⟨a1, a2, a3⟩ := a
  obtain ⟨b1, b2, b3⟩ := b
  obtain ⟨c1, c2, c3⟩ := c
  simp only [cmpT] at h1 h2 ⊢
  have t : ∀ x y z : ByteArray, cb x y ≤ 0 → cb y z ≤ 0 → cb x z ≤ 0 := fun x y z => cb_trans _ _ _
  have u : ∀ x y z : ByteArray, cb x y ≤ 0 → cb y z ≤ 0 → cb x z = 0 → cb x y = 0 ∧ cb y z = 0 := by
    intro x y z p q r
    have e := (cbs_zero x z).1 r
    subst e
    have := cbs_neg x y
    omega
  have n1 := t a1 b1 c1
  have n2 := t a2 b2 c2
  have n3 := t a3 b3 c3
  have u1 := u a1 b1 c1
  have u2 := u a2 b2 c2
  split at h1 <;> split at h2 <;> (try split at h1) <;> (try split at h2) <;> (try split) <;> (try split) <;> first | omega | (simp_all <;> omega)

set_option maxHeartbeats 1000000 in
set_option maxRecDepth 100000 in
theorem scompare_any (a b : ByteArray) (w : World) :
    Calls Try.prog 48 #[.string a, .string b] w fun e w' => e = .returned (.int .i64 (cb a b)) ∧ w' = w := by
  go_enter Try.func48, Try.ntmps48
  go_wp2
  rw [run_callFunc_extern Try.func75 (by kernel_rfl) (by kernel_rfl) (by kernel_rfl) (e := Extern.BytealgCompare.compare) (by kernel_rfl), Lib.run_compareString]
  simp only [Result.andThen]
  rw [Oper.upon_value]
  go_wp2
  go_ret
  exact ⟨rfl, rfl⟩

theorem idx0 (a b c a' b' c' : ByteArray) (w : World) : (Instr.index 90 (.agg #[.string a, .string a', .string b, .string b', .string c, .string c']) (.int .i64 0)).run Try.prog w = .ok (.agg #[.string a, .string a']) w := by kernel_rfl
theorem idx1 (a b c a' b' c' : ByteArray) (w : World) : (Instr.index 90 (.agg #[.string a, .string a', .string b, .string b', .string c, .string c']) (.int .i64 1)).run Try.prog w = .ok (.agg #[.string b, .string b']) w := by kernel_rfl
theorem idx2 (a b c a' b' c' : ByteArray) (w : World) : (Instr.index 90 (.agg #[.string a, .string a', .string b, .string b', .string c, .string c']) (.int .i64 2)).run Try.prog w = .ok (.agg #[.string c, .string c']) w := by kernel_rfl

set_option maxHeartbeats 2000000 in
set_option maxRecDepth 100000 in
theorem compare_any (a b c a' b' c' : ByteArray) (w : World) :
    Calls Try.prog 31 #[TupV a b c, TupV a' b' c'] w fun e w' => e = .returned (.int .i64 (cmpT (a, b, c) (a', b', c'))) ∧ Below w.heap.size w w' := by
  have K1 := Lib.hid (fun w => scompare_any a a' w)
  have K2 := Lib.hid (fun w => scompare_any b b' w)
  have K3 := Lib.hid (fun w => scompare_any c c' w)
  have i0 := fun w => idx0 a b c a' b' c' w
  have i1 := fun w => idx1 a b c a' b' c' w
  have i2 := fun w => idx2 a b c a' b' c' w
  have hr : cmpT (a, b, c) (a', b', c') = if cb a a' ≠ 0 then cb a a' else if cb b b' ≠ 0 then cb b b' else cb c c' := rfl
  have HR := Lib.hid hr
  clear hr
  generalize cmpT (a, b, c) (a', b', c') = r at *
  generalize cb a a' = r1 at *
  generalize cb b b' = r2 at *
  generalize cb c c' = r3 at *
  unfold TupV
  go_enter Try.func31, Try.ntmps31
  go_wp2
  go_loopw [24] (fun iv wr => ((iv = .int .i64 0) ∨ (iv = .int .i64 1 ∧ r1 = 0) ∨ (iv = .int .i64 2 ∧ r1 = 0 ∧ r2 = 0) ∨ (iv = .int .i64 3 ∧ r1 = 0 ∧ r2 = 0 ∧ r3 = 0)) ∧ Below w.heap.size w wr) (fun iv _ => 3 - (intOf iv).toNat)
  case atStart => exact ⟨.inl rfl, (below_alloc w _).trans ((below_alloc _ _).mono (by simp))⟩
  case round =>
    obtain ⟨hcase, hbl⟩ := hrel
    have HBL := Lib.hid hbl
    have hsz := hbl.size
    clear hbl
    rcases hcase with rfl | ⟨rfl, h1⟩ | ⟨rfl, h1, h2⟩ | ⟨rfl, h1, h2, h3⟩
    · go_wp2_with fail
      refine (K1.out _).mono ?_
      rintro e w1 ⟨rfl, rfl⟩
      by_cases h1 : r1 = 0
      · subst h1
        go_wp2
        go_roundw
        case rel => exact ⟨.inr (.inl ⟨rfl, by simp⟩), HBL.out.trans ((below_alloc _ _).mono hsz)⟩
        case measure => simp [intOf]
      · have e : r = r1 := by rw [HR.out, if_pos h1]
        subst e
        go_wp2
        go_ret
        exact ⟨rfl, HBL.out.trans ((below_alloc _ _).mono hsz)⟩
    · subst h1
      go_wp2_with fail
      refine (K2.out _).mono ?_
      rintro e w1 ⟨rfl, rfl⟩
      by_cases h2 : r2 = 0
      · subst h2
        go_wp2
        go_roundw
        case rel => exact ⟨.inr (.inr (.inl ⟨rfl, by simp, by simp⟩)), HBL.out.trans ((below_alloc _ _).mono hsz)⟩
        case measure => simp [intOf]
      · have e : r = r2 := by rw [HR.out, if_neg (by simp), if_pos h2]
        subst e
        go_wp2
        go_ret
        exact ⟨rfl, HBL.out.trans ((below_alloc _ _).mono hsz)⟩
    · subst h1 h2
      go_wp2_with fail
      refine (K3.out _).mono ?_
      rintro e w1 ⟨rfl, rfl⟩
      by_cases h3 : r3 = 0
      · subst h3
        go_wp2
        go_roundw
        case rel => exact ⟨.inr (.inr (.inr ⟨rfl, by simp, by simp, by simp⟩)), HBL.out.trans ((below_alloc _ _).mono hsz)⟩
        case measure => simp [intOf]
      · have e : r = r3 := by rw [HR.out, if_neg (by simp), if_neg (by simp)]
        subst e
        go_wp2
        go_ret
        exact ⟨rfl, HBL.out.trans ((below_alloc _ _).mono hsz)⟩
    · subst h1 h2 h3
      have e : r = 0 := by rw [HR.out, if_neg (by simp), if_neg (by simp)]
      subst e
      go_wp2
      go_ret
      exact ⟨rfl, HBL.out⟩

theorem bytesLess_cb (a b : ByteArray) : Op.bytesLess a.toList b.toList = decide (cb a b = -1) := by
  rw [Lib.toList_data, Lib.toList_data, cb_less]
  rfl
theorem beq_cb (a b : ByteArray) : (a.toList == b.toList) = decide (cb a b = 0) := by
  rw [Bool.eq_iff_iff, decide_eq_true_eq, cbs_zero, beq_iff_eq, Lib.toList_data, Lib.toList_data]
  exact ⟨data_ext, fun h => by rw [h]⟩

end Go.Proofs.Yteimgebfbnmdcaa
