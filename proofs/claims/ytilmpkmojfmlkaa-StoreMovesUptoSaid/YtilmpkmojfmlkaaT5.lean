/- Layer 5: one tuple looked at, on both sides; tuples as texts. -/
import Derived.Test.YtilmpkmojfmlkaaT4
namespace Go.Proofs.Ytilmpkmojfmlkaa
open Go.RowKit

/-- A tuple as it lies in memory. -/
def TupV (a b c : ByteArray) : Value := .agg #[.string a, .string b, .string c]
theorem tup_bad {a : ByteArray} (b c : ByteArray) (h : objE a ≠ 0) : tupE a b c = objE a := by rw [tupE, if_neg h]
theorem tup_name {a b : ByteArray} (c : ByteArray) (h : objE a = 0) (h1 : nameB b = false) : tupE a b c = 50 := by rw [tupE, if_pos h, h1]; rfl
theorem tup_user {a b : ByteArray} (c : ByteArray) (h : objE a = 0) (h1 : nameB b = true) : tupE a b c = usrE c := by rw [tupE, if_pos h, h1]; rfl
theorem below_box (w : World) (o : Obj) (n : Nat) : Below w.heap.size w ((w.alloc o).drewN n) := (below_alloc w o).trans ⟨rfl, rfl, rfl, Nat.le_refl _, fun _ _ => rfl⟩

set_option maxHeartbeats 2000000 in
set_option maxRecDepth 100000 in
theorem checkOne_any (a b c : ByteArray) (w : World) (ha : a.size ≤ 9223372036854775806) (hc : c.size ≤ 9223372036854775806) :
    Calls Try.prog 63 #[TupV a b c] w fun e w' => e = .returned (.int .i64 (tupE a b c)) ∧ Below w.heap.size w w' := by
  have HO := Lib.hid (fun w => object_any a w ha)
  have HU := Lib.hid (fun w => user_any c w hc)
  have HN := Lib.hid (fun w => isName_any b w)
  have H1 := Lib.hid (@tup_bad a b c)
  have H2 := Lib.hid (@tup_name a b c)
  have H3 := Lib.hid (@tup_user a b c)
  generalize objE a = z at *
  generalize objA a = oa at *
  generalize objB a = ob at *
  generalize nameB b = n1 at *
  generalize usrE c = ue at *
  generalize usrA c = ua at *
  generalize usrB c = ub at *
  generalize tupE a b c = te at *
  unfold TupV
  go_enter Try.func63, Try.ntmps63
  go_wp2_with fail
  refine (HO.out _).mono ?_
  rintro e w1 ⟨rfl, n, rfl⟩
  by_cases hz : z = 0
  · subst hz
    go_wp2_with fail
    refine (HN.out _).mono ?_
    rintro e w1 ⟨rfl, rfl⟩
    cases n1 with
    | false =>
      obtain rfl := H2.out (by simp) (by simp)
      go_wp2
      go_ret
      exact ⟨rfl, below_box _ _ _⟩
    | true =>
      obtain rfl := H3.out (by simp) (by simp)
      go_wp2_with fail
      refine (HU.out _).mono ?_
      rintro e w1 ⟨rfl, m, rfl⟩
      go_wp2
      go_ret
      exact ⟨rfl, below_box _ _ _⟩
  · obtain rfl := H1.out hz
    go_wp2
    go_ret
    exact ⟨rfl, below_box _ _ _⟩

set_option maxHeartbeats 2000000 in
set_option maxRecDepth 100000 in
theorem checkR_any (a b c : ByteArray) (w : World) (ha : a.size ≤ 9223372036854775806) (hc : c.size ≤ 9223372036854775806) :
    Calls Try.prog 19 #[TupV a b c] w fun e w' => e = .returned (.int .i64 (tupE a b c)) ∧ Below w.heap.size w w' := by
  have HO := Lib.hid (fun w => objectR_any a w ha)
  have HU := Lib.hid (fun w => userR_any c w hc)
  have HN := Lib.hid (fun w => name_any b w)
  have H1 := Lib.hid (@tup_bad a b c)
  have H2 := Lib.hid (@tup_name a b c)
  have H3 := Lib.hid (@tup_user a b c)
  generalize objE a = z at *
  generalize objA a = oa at *
  generalize objB a = ob at *
  generalize nameB b = n1 at *
  generalize usrE c = ue at *
  generalize usrA c = ua at *
  generalize usrB c = ub at *
  generalize tupE a b c = te at *
  unfold TupV
  go_enter Try.func19, Try.ntmps19
  go_wp2_with fail
  refine (HO.out _).mono ?_
  rintro e w1 ⟨rfl, n, rfl⟩
  by_cases hz : z = 0
  · subst hz
    go_wp2_with fail
    refine (HN.out _).mono ?_
    rintro e w1 ⟨rfl, rfl⟩
    cases n1 with
    | false =>
      obtain rfl := H2.out (by simp) (by simp)
      go_wp2
      go_ret
      exact ⟨rfl, below_box _ _ _⟩
    | true =>
      obtain rfl := H3.out (by simp) (by simp)
      go_wp2_with fail
      refine (HU.out _).mono ?_
      rintro e w1 ⟨rfl, m, rfl⟩
      go_wp2
      go_ret
      exact ⟨rfl, below_box _ _ _⟩
  · obtain rfl := H1.out hz
    go_wp2
    go_ret
    exact ⟨rfl, below_box _ _ _⟩

/-- A tuple as text. -/
def prn (a b c : ByteArray) : ByteArray := a ++ ⟨#[35]⟩ ++ b ++ ⟨#[64]⟩ ++ c
end Go.Proofs.Ytilmpkmojfmlkaa
