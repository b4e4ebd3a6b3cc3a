/- TupleOrders: tuples have one order. -/
import Derived.Test.YtfomhbaebgcleaaTOpen
namespace Go.Proofs.Ytfomhbaebgcleaa
open Go.RowKit

theorem cb_range (l m : List UInt8) : Lib.compareBytes l m = -1 ∨ Lib.compareBytes l m = 0 ∨ Lib.compareBytes l m = 1 := by
  induction l generalizing m with
  | nil => cases m <;> simp [Lib.compareBytes]
  | cons a l ih =>
    cases m with
    | nil => simp [Lib.compareBytes]
    | cons b m =>
      unfold Lib.compareBytes
      split
      · simp
      · split
        · simp
        · exact ih m
theorem cb_zero (l m : List UInt8) : Lib.compareBytes l m = 0 ↔ l = m := by
  induction l generalizing m with
  | nil => cases m <;> simp [Lib.compareBytes]
  | cons a l ih =>
    cases m with
    | nil => simp [Lib.compareBytes]
    | cons b m =>
      unfold Lib.compareBytes
      split
      · rename_i h
        simp
        intro h2
        exact absurd h (by rw [h2]; exact UInt8.lt_irrefl _)
      · split
        · rename_i h
          simp
          intro h2
          exact absurd h (by rw [h2]; exact UInt8.lt_irrefl _)
        · rename_i h1 h2
          rw [ih, List.cons.injEq]
          exact ⟨fun h => ⟨UInt8.le_antisymm (UInt8.not_lt.1 h2) (UInt8.not_lt.1 h1), h⟩, fun h => h.2⟩
theorem cb_neg (l m : List UInt8) : Lib.compareBytes m l = - Lib.compareBytes l m := by
  induction l generalizing m with
  | nil => cases m <;> simp [Lib.compareBytes]
  | cons a l ih =>
    cases m with
    | nil => simp [Lib.compareBytes]
    | cons b m =>
      unfold Lib.compareBytes
      by_cases h1 : a < b
      · rw [if_pos h1, if_neg (UInt8.not_lt.2 (UInt8.le_of_lt h1)), if_pos h1]
        rfl
      · by_cases h2 : b < a
        · simp [h1, h2]
        · simp [h1, h2, ih m]
theorem cb_less (l m : List UInt8) : Op.bytesLess l m = decide (Lib.compareBytes l m = -1) := by
  induction l generalizing m with
  | nil => cases m <;> simp [Lib.compareBytes, Op.bytesLess]
  | cons a l ih =>
    cases m with
    | nil => simp [Lib.compareBytes, Op.bytesLess]
    | cons b m =>
      unfold Lib.compareBytes Op.bytesLess
      by_cases h1 : a < b
      · simp [h1]
      · by_cases h2 : b < a
        · have hne : (a == b) = false := by
            rw [beq_eq_false_iff_ne]
            intro h
            rw [h] at h2
            exact absurd h2 (UInt8.lt_irrefl _)
          simp [h1, h2, hne]
        · have e : a = b := UInt8.le_antisymm (UInt8.not_lt.1 h2) (UInt8.not_lt.1 h1)
          subst e
          simp [h1, ih m]
theorem cb_trans (l m n : List UInt8) (h1 : Lib.compareBytes l m ≤ 0) (h2 : Lib.compareBytes m n ≤ 0) : Lib.compareBytes l n ≤ 0 := by
  induction l generalizing m n with
  | nil => cases n <;> simp [Lib.compareBytes]
  | cons a l ih =>
    cases m with
    | nil => simp [Lib.compareBytes] at h1
    | cons b m =>
      cases n with
      | nil => simp [Lib.compareBytes] at h2
      | cons c n =>
        unfold Lib.compareBytes at h1 h2 ⊢
        by_cases a1 : a < b
        · by_cases b1 : b < c
          · rw [if_pos (UInt8.lt_trans a1 b1)]; omega
          · by_cases b2 : c < b
            · rw [if_neg b1, if_pos b2] at h2; omega
            · have e : b = c := UInt8.le_antisymm (UInt8.not_lt.1 b2) (UInt8.not_lt.1 b1)
              rw [← e, if_pos a1]; omega
        · by_cases a2 : b < a
          · rw [if_neg a1, if_pos a2] at h1; omega
          · have e : a = b := UInt8.le_antisymm (UInt8.not_lt.1 a2) (UInt8.not_lt.1 a1)
            rw [if_neg a1, if_neg a2] at h1
            subst e
            by_cases b1 : a < c
            · rw [if_pos b1]; omega
            · by_cases b2 : c < a
              · rw [if_neg b1, if_pos b2] at h2; omega
              · rw [if_neg b1, if_neg b2] at h2 ⊢
                exact ih m n h1 h2

/-- Texts in their order. -/
def cb (a b : ByteArray) : Int := Lib.compareBytes a.data.toList b.data.toList
def cmpT (a b : Tp) : Int := if cb a.1 b.1 ≠ 0 then cb a.1 b.1 else if cb a.2.1 b.2.1 ≠ 0 then cb a.2.1 b.2.1 else cb a.2.2 b.2.2
def lessT (a b : Tp) : Bool := if cb a.1 b.1 ≠ 0 then decide (cb a.1 b.1 = -1) else if cb a.2.1 b.2.1 ≠ 0 then decide (cb a.2.1 b.2.1 = -1) else decide (cb a.2.2 b.2.2 = -1)
theorem cbs_zero (a b : ByteArray) : cb a b = 0 ↔ a = b := by
  rw [cb, cb_zero]
  exact ⟨data_ext, fun h => by rw [h]⟩
theorem cbs_neg (a b : ByteArray) : cb b a = - cb a b := cb_neg _ _
theorem cbs_range (a b : ByteArray) : cb a b = -1 ∨ cb a b = 0 ∨ cb a b = 1 := cb_range _ _
theorem cmpT_range (a b : Tp) : cmpT a b = -1 ∨ cmpT a b = 0 ∨ cmpT a b = 1 := by
  unfold cmpT
  split
  · exact cbs_range _ _
  · split
    · exact cbs_range _ _
    · exact cbs_range _ _
theorem cmpT_zero (a b : Tp) : cmpT a b = 0 ↔ a = b := by
  obtain ⟨a1, a2, a3⟩ := a
  obtain ⟨b1, b2, b3⟩ := b
  have z1 := cbs_zero a1 b1
  have z2 := cbs_zero a2 b2
  have z3 := cbs_zero a3 b3
  simp only [cmpT, Prod.mk.injEq]
  rw [← z1, ← z2, ← z3]
  split
  · omega
  · split <;> omega
theorem cmpT_neg (a b : Tp) : cmpT b a = - cmpT a b := by
  simp only [cmpT]
  rw [cbs_neg a.1, cbs_neg a.2.1, cbs_neg a.2.2]
  by_cases h1 : cb a.1 b.1 = 0
  · by_cases h2 : cb a.2.1 b.2.1 = 0
    · simp [h1, h2]
    · simp [h1, h2]
  · simp [h1]
theorem cmpT_less (a b : Tp) : lessT a b = decide (cmpT a b = -1) := by
  simp only [cmpT, lessT]
  split
  · rfl
  · split <;> rfl
theorem cmpT_trans (a b c : Tp) (h1 : cmpT a b ≤ 0) (h2 : cmpT b c ≤ 0) : cmpT a c ≤ 0 := by
  obtain ⟨a1, a2, a3⟩ := a
  obtain ⟨b1, b2, b3⟩ := b
  obtain ⟨c1, c2, c3⟩ := c
  simp only [cmpT] at h1 h2 ⊢
  have t : ∀ x y z : ByteArray, cb x y ≤ 0 → cb y z ≤ 0 → cb x z ≤ 0 := fun x y z => cb_trans _ _ _
  have u : ∀ x y z : ByteArray, cb x y ≤ 0 → cb y z ≤ 0 → cb x z = 0 → cb x y = 0 ∧ cb y z = 0 := by
    intro x y z p q r
    have e := (cbs_zero x z).1 r
    subst e
    have := cbs_neg x y
    omega
  have n1 := t a1 b1 c1
  have n2 := t a2 b2 c2
  have n3 := t a3 b3 c3
  have u1 := u a1 b1 c1
  have u2 := u a2 b2 c2
  split at h1 <;> split at h2 <;> (try split at h1) <;> (try split at h2) <;> (try split) <;> (try split) <;> first | omega | (simp_all <;> omega)

set_option maxHeartbeats 1000000 in
set_option maxRecDepth 100000 in
theorem scompare_any (a b : ByteArray) (w : World) :
    Calls Try.prog 25 #[.string a, .string b] w fun e w' => e = .returned (.int .i64 (cb a b)) ∧ w' = w := by
  go_enter Try.func25, Try.ntmps25
  go_wp2
  rw [run_callFunc_extern Try.func30 (by kernel_rfl) (by kernel_rfl) (by kernel_rfl) (e := Extern.BytealgCompare.compare) (by kernel_rfl), Lib.run_compareString]
  simp only [Result.andThen]
  rw [Oper.upon_value]
  go_wp2
  go_ret
  exact ⟨rfl, rfl⟩

theorem idx0 (a b c a' b' c' : ByteArray) (w : World) : (Instr.index 51 (.agg #[.string a, .string a', .string b, .string b', .string c, .string c']) (.int .i64 0)).run Try.prog w = .ok (.agg #[.string a, .string a']) w := by kernel_rfl
theorem idx1 (a b c a' b' c' : ByteArray) (w : World) : (Instr.index 51 (.agg #[.string a, .string a', .string b, .string b', .string c, .string c']) (.int .i64 1)).run Try.prog w = .ok (.agg #[.string b, .string b']) w := by kernel_rfl
theorem idx2 (a b c a' b' c' : ByteArray) (w : World) : (Instr.index 51 (.agg #[.string a, .string a', .string b, .string b', .string c, .string c']) (.int .i64 2)).run Try.prog w = .ok (.agg #[.string c, .string c']) w := by kernel_rfl

set_option maxHeartbeats 2000000 in
set_option maxRecDepth 100000 in
theorem compare_any (a b c a' b' c' : ByteArray) (w : World) :
    Calls Try.prog 18 #[TupV a b c, TupV a' b' c'] w fun e w' => e = .returned (.int .i64 (cmpT (a, b, c) (a', b', c'))) ∧ Below w.heap.size w w' := by
  have K1 := Lib.hid (fun w => scompare_any a a' w)
  have K2 := Lib.hid (fun w => scompare_any b b' w)
  have K3 := Lib.hid (fun w => scompare_any c c' w)
  have i0 := fun w => idx0 a b c a' b' c' w
  have i1 := fun w => idx1 a b c a' b' c' w
  have i2 := fun w => idx2 a b c a' b' c' w
  have hr : cmpT (a, b, c) (a', b', c') = if cb a a' ≠ 0 then cb a a' else if cb b b' ≠ 0 then cb b b' else cb c c' := rfl
  have HR := Lib.hid hr
  clear hr
  generalize cmpT (a, b, c) (a', b', c') = r at *
  generalize cb a a' = r1 at *
  generalize cb b b' = r2 at *
  generalize cb c c' = r3 at *
  unfold TupV
  go_enter Try.func18, Try.ntmps18
  go_wp2
  go_loopw [24] (fun iv wr => ((iv = .int .i64 0) ∨ (iv = .int .i64 1 ∧ r1 = 0) ∨ (iv = .int .i64 2 ∧ r1 = 0 ∧ r2 = 0) ∨ (iv = .int .i64 3 ∧ r1 = 0 ∧ r2 = 0 ∧ r3 = 0)) ∧ Below w.heap.size w wr) (fun iv _ => 3 - (intOf iv).toNat)
  case atStart => exact ⟨.inl rfl, (below_alloc w _).trans ((below_alloc _ _).mono (by simp))⟩
  case round =>
    obtain ⟨hcase, hbl⟩ := hrel
    have HBL := Lib.hid hbl
    have hsz := hbl.size
    clear hbl
    rcases hcase with rfl | ⟨rfl, h1⟩ | ⟨rfl, h1, h2⟩ | ⟨rfl, h1, h2, h3⟩
    · go_wp2_with fail
      refine (K1.out _).mono ?_
      rintro e w1 ⟨rfl, rfl⟩
      by_cases h1 : r1 = 0
      · subst h1
        go_wp2
        go_roundw
        case rel => exact ⟨.inr (.inl ⟨rfl, by simp⟩), HBL.out.trans ((below_alloc _ _).mono hsz)⟩
        case measure => simp [intOf]
      · have e : r = r1 := by rw [HR.out, if_pos h1]
        subst e
        go_wp2
        go_ret
        exact ⟨rfl, HBL.out.trans ((below_alloc _ _).mono hsz)⟩
    · subst h1
      go_wp2_with fail
      refine (K2.out _).mono ?_
      rintro e w1 ⟨rfl, rfl⟩
      by_cases h2 : r2 = 0
      · subst h2
        go_wp2
        go_roundw
        case rel => exact ⟨.inr (.inr (.inl ⟨rfl, by simp, by simp⟩)), HBL.out.trans ((below_alloc _ _).mono hsz)⟩
        case measure => simp [intOf]
      · have e : r = r2 := by rw [HR.out, if_neg (by simp), if_pos h2]
        subst e
        go_wp2
        go_ret
        exact ⟨rfl, HBL.out.trans ((below_alloc _ _).mono hsz)⟩
    · subst h1 h2
      go_wp2_with fail
      refine (K3.out _).mono ?_
      rintro e w1 ⟨rfl, rfl⟩
      by_cases h3 : r3 = 0
      · subst h3
        go_wp2
        go_roundw
        case rel => exact ⟨.inr (.inr (.inr ⟨rfl, by simp, by simp, by simp⟩)), HBL.out.trans ((below_alloc _ _).mono hsz)⟩
        case measure => simp [intOf]
      · have e : r = r3 := by rw [HR.out, if_neg (by simp), if_neg (by simp)]
        subst e
        go_wp2
        go_ret
        exact ⟨rfl, HBL.out.trans ((below_alloc _ _).mono hsz)⟩
    · subst h1 h2 h3
      have e : r = 0 := by rw [HR.out, if_neg (by simp), if_neg (by simp)]
      subst e
      go_wp2
      go_ret
      exact ⟨rfl, HBL.out⟩

theorem bytesLess_cb (a b : ByteArray) : Op.bytesLess a.toList b.toList = decide (cb a b = -1) := by
  rw [Lib.toList_data, Lib.toList_data, cb_less]
  rfl
theorem beq_cb (a b : ByteArray) : (a.toList == b.toList) = decide (cb a b = 0) := by
  rw [Bool.eq_iff_iff, decide_eq_true_eq, cbs_zero, beq_iff_eq, Lib.toList_data, Lib.toList_data]
  exact ⟨data_ext, fun h => by rw [h]⟩

set_option maxHeartbeats 2000000 in
set_option maxRecDepth 100000 in
theorem less_any (a b c a' b' c' : ByteArray) (w : World) :
    Calls Try.prog 19 #[TupV a b c, TupV a' b' c'] w fun e w' => e = .returned (.bool (lessT (a, b, c) (a', b', c'))) ∧ Below w.heap.size w w' := by
  have hr : lessT (a, b, c) (a', b', c') = if cb a a' ≠ 0 then decide (cb a a' = -1) else if cb b b' ≠ 0 then decide (cb b b' = -1) else decide (cb c c' = -1) := rfl
  rw [hr]
  have e1 := beq_cb a a'
  have e2 := beq_cb b b'
  have f1 := bytesLess_cb a a'
  have f2 := bytesLess_cb b b'
  have f3 := bytesLess_cb c c'
  unfold TupV
  have hB : Below w.heap.size w ((w.alloc (.cells #[.string a, .string b, .string c] 23)).alloc (.cells #[.string a', .string b', .string c'] 23)) := (below_alloc w _).trans ((below_alloc _ _).mono (by simp))
  have HB := Lib.hid hB
  clear hB hr
  by_cases h1 : cb a a' = 0
  · by_cases h2 : cb b b' = 0
    · rw [if_neg (by simp [h1]), if_neg (by simp [h2])]
      rw [h1] at e1
      rw [h2] at e2
      simp only [decide_true] at e1 e2
      generalize decide (cb c c' = -1) = r at *
      clear h1 h2 f1 f2
      go_enter Try.func19, Try.ntmps19
      go_wp2
      go_ret
      exact ⟨rfl, HB.out⟩
    · rw [if_neg (by simp [h1]), if_pos h2]
      rw [h1] at e1
      simp only [decide_true] at e1
      rw [decide_eq_false h2] at e2
      generalize decide (cb b b' = -1) = r at *
      clear h1 h2 f1 f3
      go_enter Try.func19, Try.ntmps19
      go_wp2
      go_ret
      exact ⟨rfl, HB.out⟩
  · rw [if_pos h1]
    rw [decide_eq_false h1] at e1
    generalize decide (cb a a' = -1) = r at *
    clear h1 f2 f3 e2
    go_enter Try.func19, Try.ntmps19
    go_wp2
    go_ret
    exact ⟨rfl, HB.out⟩

theorem trip_beq (a b c a' b' c' : ByteArray) : ((a.toList == a'.toList) && (b.toList == b'.toList) && (c.toList == c'.toList)) = decide (cmpT (a, b, c) (a', b', c') = 0) := by
  rw [beq_cb, beq_cb, beq_cb, Bool.eq_iff_iff]
  simp only [Bool.and_eq_true, decide_eq_true_eq, cbs_zero, cmpT_zero, Prod.mk.injEq, and_assoc]

/-- Three tuples in their blocks. -/
def Held3 (w V : World) (g0 g1 g2 : Nat) (x0 y0 z0 x1 y1 z1 x2 y2 z2 : ByteArray) : Prop :=
  (V.cell? ⟨g0, 0, none⟩ = some (.string x0) ∧ V.cell? ⟨g0, 1, none⟩ = some (.string y0) ∧ V.cell? ⟨g0, 2, none⟩ = some (.string z0)) ∧
  (V.cell? ⟨g1, 0, none⟩ = some (.string x1) ∧ V.cell? ⟨g1, 1, none⟩ = some (.string y1) ∧ V.cell? ⟨g1, 2, none⟩ = some (.string z1)) ∧
  (V.cell? ⟨g2, 0, none⟩ = some (.string x2) ∧ V.cell? ⟨g2, 1, none⟩ = some (.string y2) ∧ V.cell? ⟨g2, 2, none⟩ = some (.string z2)) ∧ Below w.heap.size w V
theorem cells_below {W W' : World} {g : Nat} {x y z : ByteArray} (h : W.cell? ⟨g, 0, none⟩ = some (.string x) ∧ W.cell? ⟨g, 1, none⟩ = some (.string y) ∧ W.cell? ⟨g, 2, none⟩ = some (.string z)) (hb : Below W.heap.size W W') :
    W'.cell? ⟨g, 0, none⟩ = some (.string x) ∧ W'.cell? ⟨g, 1, none⟩ = some (.string y) ∧ W'.cell? ⟨g, 2, none⟩ = some (.string z) := by
  have hl := World.block_lt_of_cell? W ⟨g, 0, none⟩ h.1
  exact ⟨(hb.cell (p := ⟨g, 0, none⟩) hl).trans h.1, (hb.cell (p := ⟨g, 1, none⟩) hl).trans h.2.1, (hb.cell (p := ⟨g, 2, none⟩) hl).trans h.2.2⟩
theorem cells_new (W : World) (x y z : ByteArray) (t : TypeId) (fr : Nat × Nat) : (W.alloc (.cells #[.string x, .string y, .string z] t fr)).cell? ⟨W.heap.size, 0, none⟩ = some (.string x) ∧ (W.alloc (.cells #[.string x, .string y, .string z] t fr)).cell? ⟨W.heap.size, 1, none⟩ = some (.string y) ∧ (W.alloc (.cells #[.string x, .string y, .string z] t fr)).cell? ⟨W.heap.size, 2, none⟩ = some (.string z) :=
  ⟨by rw [new_cell]; rfl, by rw [new_cell]; rfl, by rw [new_cell]; rfl⟩
theorem Held3.keep {w V V' : World} {g0 g1 g2 : Nat} {x0 y0 z0 x1 y1 z1 x2 y2 z2 : ByteArray} (h : Held3 w V g0 g1 g2 x0 y0 z0 x1 y1 z1 x2 y2 z2) (hb : Below V.heap.size V V') : Held3 w V' g0 g1 g2 x0 y0 z0 x1 y1 z1 x2 y2 z2 :=
  ⟨cells_below h.1 hb, cells_below h.2.1 hb, cells_below h.2.2.1 hb, h.2.2.2.trans (hb.mono h.2.2.2.size)⟩
theorem Held3.start (w : World) (x0 y0 z0 x1 y1 z1 x2 y2 z2 : ByteArray) (t : TypeId) (f : Nat × Nat) :
    Held3 w (((w.alloc (.cells #[.string x0, .string y0, .string z0] t f)).alloc (.cells #[.string x1, .string y1, .string z1] t f)).alloc (.cells #[.string x2, .string y2, .string z2] t f)) w.heap.size (w.heap.size + 1) (w.heap.size + 1 + 1) x0 y0 z0 x1 y1 z1 x2 y2 z2 := by
  have e1 : (w.alloc (.cells #[.string x0, .string y0, .string z0] t f)).heap.size = w.heap.size + 1 := by simp
  have e2 : ((w.alloc (.cells #[.string x0, .string y0, .string z0] t f)).alloc (.cells #[.string x1, .string y1, .string z1] t f)).heap.size = w.heap.size + 1 + 1 := by simp
  have a := cells_new w x0 y0 z0 t f
  have b := cells_new (w.alloc (.cells #[.string x0, .string y0, .string z0] t f)) x1 y1 z1 t f
  have c := cells_new ((w.alloc (.cells #[.string x0, .string y0, .string z0] t f)).alloc (.cells #[.string x1, .string y1, .string z1] t f)) x2 y2 z2 t f
  rw [e1] at b
  rw [e2] at c
  exact ⟨cells_below (cells_below a (below_alloc _ _)) (below_alloc _ _), cells_below b (below_alloc _ _), c, ((below_alloc w _).trans ((below_alloc _ _).mono (by rw [e1]; omega))).trans ((below_alloc _ _).mono (by rw [e2]; omega))⟩

set_option maxHeartbeats 2000000 in
set_option maxRecDepth 100000 in
theorem orders_walk (x0 y0 z0 x1 y1 z1 x2 y2 z2 : ByteArray) (w : World) (_ : Tp.small (x0, y0, z0)) (_ : Tp.small (x1, y1, z1)) (_ : Tp.small (x2, y2, z2)) :
    Calls Try.prog 5 #[.agg #[.string x0, .string y0, .string z0], .agg #[.string x1, .string y1, .string z1], .agg #[.string x2, .string y2, .string z2]] w fun e w' => e = .returned (.bool true) ∧ Below w.heap.size w w' := by

  have HA := Lib.hid (fun w => awake_any w)
  have C01 := Lib.hid (fun w => compare_any x0 y0 z0 x1 y1 z1 w)
  have C10 := Lib.hid (fun w => compare_any x1 y1 z1 x0 y0 z0 w)
  have C12 := Lib.hid (fun w => compare_any x1 y1 z1 x2 y2 z2 w)
  have C02 := Lib.hid (fun w => compare_any x0 y0 z0 x2 y2 z2 w)
  have L01 := Lib.hid (fun w => less_any x0 y0 z0 x1 y1 z1 w)
  have hr := cmpT_range (x0, y0, z0) (x1, y1, z1)
  have hq := trip_beq x0 y0 z0 x1 y1 z1
  rw [cmpT_less] at L01
  rw [cmpT_neg (x0, y0, z0)] at C10
  have htr := cmpT_trans (x0, y0, z0) (x1, y1, z1) (x2, y2, z2)
  have hr12 := cmpT_range (x1, y1, z1) (x2, y2, z2)
  have hr02 := cmpT_range (x0, y0, z0) (x2, y2, z2)
  unfold TupV at C01 C10 C12 C02 L01
  generalize cmpT (x0, y0, z0) (x1, y1, z1) = n at *
  generalize cmpT (x1, y1, z1) (x2, y2, z2) = m at *
  generalize cmpT (x0, y0, z0) (x2, y2, z2) = p at *
  have HB0 := Lib.hid (Held3.start w x0 y0 z0 x1 y1 z1 x2 y2 z2 23 (0, 0))
  have HT := Lib.hid htr
  have HR := Lib.hid hr
  have HR12 := Lib.hid hr12
  have HR02 := Lib.hid hr02
  have HQ := Lib.hid hq
  clear htr hr hr12 hr02 hq
  go_enter Try.func5, Try.ntmps5
  go_wp2_with fail
  refine (HA.out _).mono ?_
  rintro e w1 ⟨rfl, hb1⟩
  have H1 := Lib.hid (HB0.out.keep hb1)
  clear hb1 HB0
  generalize w.heap.size + 1 + 1 = g2 at *
  generalize w.heap.size + 1 = g1 at *
  obtain ⟨g0, hg0⟩ : ∃ g0, g0 = w.heap.size := ⟨_, rfl⟩
  rw [← hg0] at H1 ⊢
  have HG := Lib.hid hg0
  clear hg0
  obtain ⟨⟨a0, a1, a2⟩, ⟨b0, b1, b2⟩, ⟨c0, c1, c2⟩, _⟩ := H1.out
  go_wp2_with fail
  refine (C01.out _).mono ?_
  rintro e w2 ⟨rfl, hb2⟩
  have H2 := Lib.hid (H1.out.keep hb2)
  clear a0 a1 a2 b0 b1 b2 c0 c1 c2 hb2
  obtain ⟨⟨a0, a1, a2⟩, ⟨b0, b1, b2⟩, ⟨c0, c1, c2⟩, _⟩ := H2.out
  rcases HR.out with hn | hn | hn
  · subst hn
    have hq : ((x0.toList == x1.toList) = false) ∨ ((x0.toList == x1.toList) = true ∧ (y0.toList == y1.toList) = false) ∨ ((x0.toList == x1.toList) = true ∧ (y0.toList == y1.toList) = true ∧ (z0.toList == z1.toList) = false) := by
      have hq := HQ.out
      revert hq
      cases (x0.toList == x1.toList) <;> cases (y0.toList == y1.toList) <;> cases (z0.toList == z1.toList) <;> decide
    rcases hq with e0 | ⟨e0, e1⟩ | ⟨e0, e1, e2⟩
    · go_wp2_with fail
      refine (L01.out _).mono ?_
      rintro e w3 ⟨rfl, hb⟩
      have H3 := Lib.hid (H2.out.keep hb)
      clear a0 a1 a2 b0 b1 b2 c0 c1 c2 hb
      obtain ⟨⟨a0, a1, a2⟩, ⟨b0, b1, b2⟩, ⟨c0, c1, c2⟩, _⟩ := H3.out
      go_wp2_with fail
      refine (C10.out _).mono ?_
      rintro e w4 ⟨rfl, hb⟩
      have H4 := Lib.hid (H3.out.keep hb)
      clear a0 a1 a2 b0 b1 b2 c0 c1 c2 hb
      obtain ⟨⟨a0, a1, a2⟩, ⟨b0, b1, b2⟩, ⟨c0, c1, c2⟩, _⟩ := H4.out
      go_wp2_with fail
      refine (C12.out _).mono ?_
      rintro e w5 ⟨rfl, hb⟩
      have H5 := Lib.hid (H4.out.keep hb)
      clear a0 a1 a2 b0 b1 b2 c0 c1 c2 hb
      obtain ⟨⟨a0, a1, a2⟩, ⟨b0, b1, b2⟩, ⟨c0, c1, c2⟩, _⟩ := H5.out
      rcases HR12.out with hm | hm | hm
      · subst hm
        obtain hp : p ≤ 0 := HT.out (by simp) (by simp)
        have HP := Lib.hid hp
        clear hp
        go_wp2_with fail
        refine (C02.out _).mono ?_
        rintro e w6 ⟨rfl, hb⟩
        have H6 := Lib.hid (H5.out.keep hb)
        clear a0 a1 a2 b0 b1 b2 c0 c1 c2 hb
        obtain ⟨⟨a0, a1, a2⟩, ⟨b0, b1, b2⟩, ⟨c0, c1, c2⟩, _⟩ := H6.out
        have hp := HP.out
        go_wp2
        go_ret
        exact ⟨rfl, H6.out.2.2.2⟩
      · subst hm
        obtain hp : p ≤ 0 := HT.out (by simp) (by simp)
        have HP := Lib.hid hp
        clear hp
        go_wp2_with fail
        refine (C02.out _).mono ?_
        rintro e w6 ⟨rfl, hb⟩
        have H6 := Lib.hid (H5.out.keep hb)
        clear a0 a1 a2 b0 b1 b2 c0 c1 c2 hb
        obtain ⟨⟨a0, a1, a2⟩, ⟨b0, b1, b2⟩, ⟨c0, c1, c2⟩, _⟩ := H6.out
        have hp := HP.out
        go_wp2
        go_ret
        exact ⟨rfl, H6.out.2.2.2⟩
      · subst hm
        go_wp2
        go_ret
        exact ⟨rfl, H5.out.2.2.2⟩
    · go_wp2_with fail
      refine (L01.out _).mono ?_
      rintro e w3 ⟨rfl, hb⟩
      have H3 := Lib.hid (H2.out.keep hb)
      clear a0 a1 a2 b0 b1 b2 c0 c1 c2 hb
      obtain ⟨⟨a0, a1, a2⟩, ⟨b0, b1, b2⟩, ⟨c0, c1, c2⟩, _⟩ := H3.out
      go_wp2_with fail
      refine (C10.out _).mono ?_
      rintro e w4 ⟨rfl, hb⟩
      have H4 := Lib.hid (H3.out.keep hb)
      clear a0 a1 a2 b0 b1 b2 c0 c1 c2 hb
      obtain ⟨⟨a0, a1, a2⟩, ⟨b0, b1, b2⟩, ⟨c0, c1, c2⟩, _⟩ := H4.out
      go_wp2_with fail
      refine (C12.out _).mono ?_
      rintro e w5 ⟨rfl, hb⟩
      have H5 := Lib.hid (H4.out.keep hb)
      clear a0 a1 a2 b0 b1 b2 c0 c1 c2 hb
      obtain ⟨⟨a0, a1, a2⟩, ⟨b0, b1, b2⟩, ⟨c0, c1, c2⟩, _⟩ := H5.out
      rcases HR12.out with hm | hm | hm
      · subst hm
        obtain hp : p ≤ 0 := HT.out (by simp) (by simp)
        have HP := Lib.hid hp
        clear hp
        go_wp2_with fail
        refine (C02.out _).mono ?_
        rintro e w6 ⟨rfl, hb⟩
        have H6 := Lib.hid (H5.out.keep hb)
        clear a0 a1 a2 b0 b1 b2 c0 c1 c2 hb
        obtain ⟨⟨a0, a1, a2⟩, ⟨b0, b1, b2⟩, ⟨c0, c1, c2⟩, _⟩ := H6.out
        have hp := HP.out
        go_wp2
        go_ret
        exact ⟨rfl, H6.out.2.2.2⟩
      · subst hm
        obtain hp : p ≤ 0 := HT.out (by simp) (by simp)
        have HP := Lib.hid hp
        clear hp
        go_wp2_with fail
        refine (C02.out _).mono ?_
        rintro e w6 ⟨rfl, hb⟩
        have H6 := Lib.hid (H5.out.keep hb)
        clear a0 a1 a2 b0 b1 b2 c0 c1 c2 hb
        obtain ⟨⟨a0, a1, a2⟩, ⟨b0, b1, b2⟩, ⟨c0, c1, c2⟩, _⟩ := H6.out
        have hp := HP.out
        go_wp2
        go_ret
        exact ⟨rfl, H6.out.2.2.2⟩
      · subst hm
        go_wp2
        go_ret
        exact ⟨rfl, H5.out.2.2.2⟩
    · go_wp2_with fail
      refine (L01.out _).mono ?_
      rintro e w3 ⟨rfl, hb⟩
      have H3 := Lib.hid (H2.out.keep hb)
      clear a0 a1 a2 b0 b1 b2 c0 c1 c2 hb
      obtain ⟨⟨a0, a1, a2⟩, ⟨b0, b1, b2⟩, ⟨c0, c1, c2⟩, _⟩ := H3.out
      go_wp2_with fail
      refine (C10.out _).mono ?_
      rintro e w4 ⟨rfl, hb⟩
      have H4 := Lib.hid (H3.out.keep hb)
      clear a0 a1 a2 b0 b1 b2 c0 c1 c2 hb
      obtain ⟨⟨a0, a1, a2⟩, ⟨b0, b1, b2⟩, ⟨c0, c1, c2⟩, _⟩ := H4.out
      go_wp2_with fail
      refine (C12.out _).mono ?_
      rintro e w5 ⟨rfl, hb⟩
      have H5 := Lib.hid (H4.out.keep hb)
      clear a0 a1 a2 b0 b1 b2 c0 c1 c2 hb
      obtain ⟨⟨a0, a1, a2⟩, ⟨b0, b1, b2⟩, ⟨c0, c1, c2⟩, _⟩ := H5.out
      rcases HR12.out with hm | hm | hm
      · subst hm
        obtain hp : p ≤ 0 := HT.out (by simp) (by simp)
        have HP := Lib.hid hp
        clear hp
        go_wp2_with fail
        refine (C02.out _).mono ?_
        rintro e w6 ⟨rfl, hb⟩
        have H6 := Lib.hid (H5.out.keep hb)
        clear a0 a1 a2 b0 b1 b2 c0 c1 c2 hb
        obtain ⟨⟨a0, a1, a2⟩, ⟨b0, b1, b2⟩, ⟨c0, c1, c2⟩, _⟩ := H6.out
        have hp := HP.out
        go_wp2
        go_ret
        exact ⟨rfl, H6.out.2.2.2⟩
      · subst hm
        obtain hp : p ≤ 0 := HT.out (by simp) (by simp)
        have HP := Lib.hid hp
        clear hp
        go_wp2_with fail
        refine (C02.out _).mono ?_
        rintro e w6 ⟨rfl, hb⟩
        have H6 := Lib.hid (H5.out.keep hb)
        clear a0 a1 a2 b0 b1 b2 c0 c1 c2 hb
        obtain ⟨⟨a0, a1, a2⟩, ⟨b0, b1, b2⟩, ⟨c0, c1, c2⟩, _⟩ := H6.out
        have hp := HP.out
        go_wp2
        go_ret
        exact ⟨rfl, H6.out.2.2.2⟩
      · subst hm
        go_wp2
        go_ret
        exact ⟨rfl, H5.out.2.2.2⟩
  · subst hn
    have hq := HQ.out
    simp only [decide_true, Bool.and_eq_true] at hq
    obtain ⟨⟨e0, e1⟩, e2⟩ := hq
    go_wp2_with fail
    refine (C10.out _).mono ?_
    rintro e w4 ⟨rfl, hb⟩
    have H4 := Lib.hid (H2.out.keep hb)
    clear a0 a1 a2 b0 b1 b2 c0 c1 c2 hb
    obtain ⟨⟨a0, a1, a2⟩, ⟨b0, b1, b2⟩, ⟨c0, c1, c2⟩, _⟩ := H4.out
    go_wp2_with fail
    refine (C12.out _).mono ?_
    rintro e w5 ⟨rfl, hb⟩
    have H5 := Lib.hid (H4.out.keep hb)
    clear a0 a1 a2 b0 b1 b2 c0 c1 c2 hb
    obtain ⟨⟨a0, a1, a2⟩, ⟨b0, b1, b2⟩, ⟨c0, c1, c2⟩, _⟩ := H5.out
    rcases HR12.out with hm | hm | hm
    · subst hm
      obtain hp : p ≤ 0 := HT.out (by simp) (by simp)
      have HP := Lib.hid hp
      clear hp
      go_wp2_with fail
      refine (C02.out _).mono ?_
      rintro e w6 ⟨rfl, hb⟩
      have H6 := Lib.hid (H5.out.keep hb)
      clear a0 a1 a2 b0 b1 b2 c0 c1 c2 hb
      obtain ⟨⟨a0, a1, a2⟩, ⟨b0, b1, b2⟩, ⟨c0, c1, c2⟩, _⟩ := H6.out
      have hp := HP.out
      go_wp2
      go_ret
      exact ⟨rfl, H6.out.2.2.2⟩
    · subst hm
      obtain hp : p ≤ 0 := HT.out (by simp) (by simp)
      have HP := Lib.hid hp
      clear hp
      go_wp2_with fail
      refine (C02.out _).mono ?_
      rintro e w6 ⟨rfl, hb⟩
      have H6 := Lib.hid (H5.out.keep hb)
      clear a0 a1 a2 b0 b1 b2 c0 c1 c2 hb
      obtain ⟨⟨a0, a1, a2⟩, ⟨b0, b1, b2⟩, ⟨c0, c1, c2⟩, _⟩ := H6.out
      have hp := HP.out
      go_wp2
      go_ret
      exact ⟨rfl, H6.out.2.2.2⟩
    · subst hm
      go_wp2
      go_ret
      exact ⟨rfl, H5.out.2.2.2⟩
  · subst hn
    have hq : ((x0.toList == x1.toList) = false) ∨ ((x0.toList == x1.toList) = true ∧ (y0.toList == y1.toList) = false) ∨ ((x0.toList == x1.toList) = true ∧ (y0.toList == y1.toList) = true ∧ (z0.toList == z1.toList) = false) := by
      have hq := HQ.out
      revert hq
      cases (x0.toList == x1.toList) <;> cases (y0.toList == y1.toList) <;> cases (z0.toList == z1.toList) <;> decide
    rcases hq with e0 | ⟨e0, e1⟩ | ⟨e0, e1, e2⟩
    · go_wp2_with fail
      refine (L01.out _).mono ?_
      rintro e w3 ⟨rfl, hb⟩
      have H3 := Lib.hid (H2.out.keep hb)
      clear a0 a1 a2 b0 b1 b2 c0 c1 c2 hb
      obtain ⟨⟨a0, a1, a2⟩, ⟨b0, b1, b2⟩, ⟨c0, c1, c2⟩, _⟩ := H3.out
      go_wp2_with fail
      refine (C10.out _).mono ?_
      rintro e w4 ⟨rfl, hb⟩
      have H4 := Lib.hid (H3.out.keep hb)
      clear a0 a1 a2 b0 b1 b2 c0 c1 c2 hb
      obtain ⟨⟨a0, a1, a2⟩, ⟨b0, b1, b2⟩, ⟨c0, c1, c2⟩, _⟩ := H4.out
      go_wp2
      go_ret
      exact ⟨rfl, H4.out.2.2.2⟩
    · go_wp2_with fail
      refine (L01.out _).mono ?_
      rintro e w3 ⟨rfl, hb⟩
      have H3 := Lib.hid (H2.out.keep hb)
      clear a0 a1 a2 b0 b1 b2 c0 c1 c2 hb
      obtain ⟨⟨a0, a1, a2⟩, ⟨b0, b1, b2⟩, ⟨c0, c1, c2⟩, _⟩ := H3.out
      go_wp2_with fail
      refine (C10.out _).mono ?_
      rintro e w4 ⟨rfl, hb⟩
      have H4 := Lib.hid (H3.out.keep hb)
      clear a0 a1 a2 b0 b1 b2 c0 c1 c2 hb
      obtain ⟨⟨a0, a1, a2⟩, ⟨b0, b1, b2⟩, ⟨c0, c1, c2⟩, _⟩ := H4.out
      go_wp2
      go_ret
      exact ⟨rfl, H4.out.2.2.2⟩
    · go_wp2_with fail
      refine (L01.out _).mono ?_
      rintro e w3 ⟨rfl, hb⟩
      have H3 := Lib.hid (H2.out.keep hb)
      clear a0 a1 a2 b0 b1 b2 c0 c1 c2 hb
      obtain ⟨⟨a0, a1, a2⟩, ⟨b0, b1, b2⟩, ⟨c0, c1, c2⟩, _⟩ := H3.out
      go_wp2_with fail
      refine (C10.out _).mono ?_
      rintro e w4 ⟨rfl, hb⟩
      have H4 := Lib.hid (H3.out.keep hb)
      clear a0 a1 a2 b0 b1 b2 c0 c1 c2 hb
      obtain ⟨⟨a0, a1, a2⟩, ⟨b0, b1, b2⟩, ⟨c0, c1, c2⟩, _⟩ := H4.out
      go_wp2
      go_ret
      exact ⟨rfl, H4.out.2.2.2⟩
end Go.Proofs.Ytfomhbaebgcleaa
