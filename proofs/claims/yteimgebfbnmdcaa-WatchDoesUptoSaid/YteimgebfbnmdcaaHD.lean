/- How watch compares: changes by revision, then tuple; rows by tuple, then revision; mutations by tuple. -/
import Derived.Test.YteimgebfbnmdcaaHC
namespace Go.Proofs.Yteimgebfbnmdcaa
open Go.RowKit
open Go.Shelf
open Go.Maps (Keyed)
open Go.Sort (SWO)

/-- A change. -/
structure Ch where
  rev : Int
  del : Bool
  t : Tp
instance : DecidableEq Ch := fun a b => decidable_of_iff (a.rev = b.rev ∧ a.del = b.del ∧ a.t = b.t)
  ⟨fun ⟨h1, h2, h3⟩ => by cases a; cases b; cases h1; cases h2; cases h3; rfl, fun h => by rw [h]; exact ⟨rfl, rfl, rfl⟩⟩
instance : Inhabited Ch := ⟨⟨0, false, default⟩⟩
instance : Inhabited Rw := ⟨⟨default, 0, 0⟩⟩
instance : Inhabited Mu := ⟨⟨false, default⟩⟩
def chc (c : Ch) : List Value := [.int .i64 c.rev, .bool c.del, .string c.t.o, .string c.t.r, .string c.t.u]
def rw1 (r : Rw) : List Value := [.string r.t.o, .string r.t.r, .string r.t.u, .int .i64 r.s, .int .i64 r.u]
def muc (m : Mu) : List Value := [.bool m.d, .string m.t.o, .string m.t.r, .string m.t.u]
theorem chc_len (c : Ch) : (chc c).length = 5 := rfl
theorem rw1_len (c : Rw) : (rw1 c).length = 5 := rfl
theorem muc_len (c : Mu) : (muc c).length = 4 := rfl
theorem chc_one (x : Ch) : ∀ v ∈ chc x, v.oneCell' = true := fun v hv => by
  simp only [chc, List.mem_cons, List.not_mem_nil, or_false] at hv
  rcases hv with rfl | rfl | rfl | rfl | rfl <;> rfl
theorem rw1_one (x : Rw) : ∀ v ∈ rw1 x, v.oneCell' = true := fun v hv => by
  simp only [rw1, List.mem_cons, List.not_mem_nil, or_false] at hv
  rcases hv with rfl | rfl | rfl | rfl | rfl <;> rfl
theorem muc_one (x : Mu) : ∀ v ∈ muc x, v.oneCell' = true := fun v hv => by
  simp only [muc, List.mem_cons, List.not_mem_nil, or_false] at hv
  rcases hv with rfl | rfl | rfl | rfl <;> rfl
theorem rwc_fm (l : List Rw) : rwc l = l.flatMap rw1 := rfl
/-- The first that isn't 0. -/
def orI (a b : Int) : Int := if a ≠ 0 then a else b
def cfC (x y : Ch) : Int := orI (Lib.compareInt x.rev y.rev) (cmpT (tq x.t) (tq y.t))
def cfR (x y : Rw) : Int := orI (cmpT (tq x.t) (tq y.t)) (Lib.compareInt x.s y.s)
def cfM (x y : Mu) : Int := cmpT (tq x.t) (tq y.t)
/-- Does a change stand ahead of another one? -/
def clt (x y : Ch) : Bool := if x.rev = y.rev then ltT x.t y.t else decide (x.rev < y.rev)
theorem cmpI (a b : Int) : Lib.compareInt a b = if a < b then -1 else if b < a then 1 else 0 := by
  unfold Lib.compareInt
  by_cases h1 : a < b
  · simp [h1]
  · by_cases h2 : b < a <;> simp [h1, h2]
theorem cmpT_lt (x y : Tp) : decide (cmpT (tq x) (tq y) < 0) = ltT x y := by
  unfold ltT
  rcases cmpT_range (tq x) (tq y) with h | h | h <;> rw [h] <;> rfl
theorem ltOf_cfC : ltOf cfC = clt := by
  funext x y
  unfold ltOf cfC clt orI
  rw [cmpI]
  by_cases h1 : x.rev < y.rev
  · simp [h1, show ¬ x.rev = y.rev by omega]
  · by_cases h2 : y.rev < x.rev
    · simp [h1, h2, show ¬ x.rev = y.rev by omega]
    · have h3 : x.rev = y.rev := by omega
      simp only [h3, Int.lt_irrefl, if_false, if_true, ne_eq, not_true_eq_false]
      exact cmpT_lt _ _
theorem ltOf_cfR : ltOf cfR = rlt ltT := by
  funext x y
  unfold ltOf cfR rlt orI
  rw [cmpI]
  by_cases h0 : x.t = y.t
  · have h1 : cmpT (tq x.t) (tq y.t) = 0 := (cmpT_zero _ _).2 (by rw [h0])
    rw [h1, if_pos h0]
    simp only [ne_eq, not_true_eq_false, if_false]
    by_cases h1 : x.s < y.s
    · simp [h1]
    · by_cases h2 : y.s < x.s <;> simp [h1, h2]
  · have h1 : cmpT (tq x.t) (tq y.t) ≠ 0 := fun h => h0 (tq_inj ((cmpT_zero _ _).1 h))
    rw [if_neg h0, if_pos h1]
    exact cmpT_lt _ _
theorem ltOf_cfM : ltOf cfM = fun x y => ltT x.t y.t := by
  funext x y
  exact cmpT_lt _ _
theorem swoT0 : SWO ltT where
  irrefl := ordT.irr
  trans x y z := ordT.tr x y z
  ntrans x y z h1 h2 := by
    cases h3 : ltT x z with
    | false => rfl
    | true =>
      by_cases hxy : x = y
      · rw [hxy, h2] at h3; cases h3
      · have := ordT.tr _ _ _ (ordT.tri _ _ hxy h1) h3
        rw [h2] at this; cases this
theorem swoC : SWO clt where
  irrefl x := by unfold clt; rw [if_pos rfl]; exact ordT.irr _
  trans x y z h1 h2 := by
    unfold clt at *
    by_cases e1 : x.rev = y.rev <;> by_cases e2 : y.rev = z.rev
    · rw [if_pos e1] at h1; rw [if_pos e2] at h2; rw [if_pos (e1.trans e2)]; exact ordT.tr _ _ _ h1 h2
    · rw [if_neg e2] at h2; rw [if_neg (by omega)]; simp at h2 ⊢; omega
    · rw [if_neg e1] at h1; rw [if_neg (by omega)]; simp at h1 ⊢; omega
    · rw [if_neg e1] at h1; rw [if_neg e2] at h2; simp at h1 h2; rw [if_neg (by omega)]; simp; omega
  ntrans x y z h1 h2 := by
    unfold clt at *
    by_cases e1 : x.rev = y.rev <;> by_cases e2 : y.rev = z.rev
    · rw [if_pos e1] at h1; rw [if_pos e2] at h2; rw [if_pos (e1.trans e2)]; exact swoT0.ntrans _ _ _ h1 h2
    · rw [if_neg e2] at h2; rw [if_neg (by omega)]; simp at h2 ⊢; omega
    · rw [if_neg e1] at h1; rw [if_neg (by omega)]; simp at h1 ⊢; omega
    · rw [if_neg e1] at h1; rw [if_neg e2] at h2; simp at h1 h2; rw [if_neg (by omega)]; simp; omega
theorem swoR : SWO (rlt ltT) where
  irrefl := rlt_irr
  trans x y z := rlt_tr ordT
  ntrans x y z h1 h2 := by
    unfold rlt at *
    by_cases e1 : x.t = y.t <;> by_cases e2 : y.t = z.t
    · rw [if_pos e1] at h1; rw [if_pos e2] at h2; rw [if_pos (e1.trans e2)]; simp at h1 h2 ⊢; omega
    · rw [if_neg e2] at h2; rw [e1, if_neg e2]; exact h2
    · rw [if_neg e1] at h1; rw [← e2, if_neg e1]; exact h1
    · rw [if_neg e1] at h1; rw [if_neg e2] at h2
      by_cases e3 : x.t = z.t
      · have h4 := ordT.tri _ _ e1 h1
        rw [e3, h2] at h4; cases h4
      · rw [if_neg e3]; exact swoT0.ntrans _ _ _ h1 h2
set_option maxHeartbeats 1000000 in
set_option maxRecDepth 100000 in
theorem or_any (W : World) (b : Nat) (x y : Int) (h0 : W.cell? ⟨b, 0, none⟩ = some (.int .i64 x)) (h1 : W.cell? ⟨b, 1, none⟩ = some (.int .i64 y)) :
    Calls Try.prog 29 #[.slice (some ⟨b, 0, none⟩) 2 2] W fun e w' => e = .returned (.int .i64 (orI x y)) ∧ w' = W := by
  have hr : orI x y = if x ≠ 0 then x else y := rfl
  have HR := Lib.hid hr
  clear hr
  generalize orI x y = r at *
  go_enter Try.func29, Try.ntmps29
  go_wp2_with fail
  go_loopw [8] (fun iv wr => ((iv = .int .i64 0) ∨ (iv = .int .i64 1 ∧ x = 0) ∨ (iv = .int .i64 2 ∧ x = 0 ∧ y = 0)) ∧ wr = W) (fun iv _ => 2 - (intOf iv).toNat)
  case atStart => exact ⟨.inl rfl, rfl⟩
  case round =>
    obtain ⟨hcase, rfl⟩ := hrel
    rcases hcase with rfl | ⟨rfl, hx⟩ | ⟨rfl, hx, hy⟩
    · by_cases hx : x = 0
      · subst hx
        go_wp2
        go_roundw
        case rel => exact ⟨.inr (.inl ⟨rfl, by simp⟩), trivial⟩
        case measure => simp [intOf]
      · have e : r = x := by rw [HR.out, if_pos hx]
        subst e
        go_wp2
        go_ret
        exact ⟨rfl, rfl⟩
    · subst hx
      by_cases hy : y = 0
      · subst hy
        go_wp2
        go_roundw
        case rel => exact ⟨.inr (.inr ⟨rfl, by simp, by simp⟩), trivial⟩
        case measure => simp [intOf]
      · have e : r = y := by rw [HR.out, if_neg (by simp)]
        subst e
        go_wp2
        go_ret
        exact ⟨rfl, rfl⟩
    · subst hx hy
      have e : r = 0 := by rw [HR.out, if_neg (by simp)]
      subst e
      go_wp2
      go_ret
      exact ⟨rfl, rfl⟩
theorem cmp64_any (a b : Int) (W : World) : Calls Try.prog 30 #[.int .i64 a, .int .i64 b] W fun e w' => e = .returned (.int .i64 (Lib.compareInt a b)) ∧ w' = W := by
  have h := AnyG.cmp_Compare_int Try.layCmp a b W
  exact h
end Go.Proofs.Yteimgebfbnmdcaa
