/- The document's bytes of a number. -/
import Derived.Test.YteodldmbnghfcaaGreatCCuts
namespace Go.Proofs.YteodldmbnghfcaaGreat
open Go.RowKit

theorem one_str (x : Int) (hx : 0 ≤ x ∧ x < 256) (wr : World) : (convert 68 9 (.slice (some ⟨wr.heap.size, 0, none⟩) 1 1)).run Tryz.prog (wr.alloc (.cells #[.int .u8 x] 5)) = .ok (.string (strOfNums [x])) (wr.alloc (.cells #[.int .u8 x] 5)) :=
  (IsB.lit wr [x] (0, 0) (by intro y hy; obtain rfl : y = x := by simpa using hy
                             exact hx)).str 1

set_option maxRecDepth 100000 in
set_option maxHeartbeats 2000000 in
theorem refint_any (n : Int) (w : World) (h1 : -9223372036854775808 ≤ n) (h2 : n ≤ 9223372036854775807) :
    Calls Tryz.prog 52 #[.int .i64 n] w fun e w' => e = .returned (.string (strOfNums (Vi.int n))) ∧ Below w.heap.size w w' := by
  have hz := Vi.zig_lt n h1 h2
  have hlen := Vi.int_length n h1 h2
  obtain ⟨u0, hu0⟩ : ∃ u0, u0 = Vi.zig n := ⟨_, rfl⟩
  have HV := Lib.hid (show Vi.int n = Vi.vi u0 by rw [hu0]; rfl)
  have hcv := one_str
  have hcase : (0 ≤ n ∧ (u0 : Int) = 2 * n) ∨ (n < 0 ∧ (u0 : Int) = 2 * (-n - 1) + 1) := by
    rw [hu0]
    unfold Vi.zig
    split <;> omega
  rw [← hu0] at hz
  have HL := Lib.hid (show (Vi.vi u0).length ≤ 10 by rw [← HV.out]; exact hlen)
  clear hlen hu0
  rcases hcase with ⟨h0, hu⟩ | ⟨h0, hu⟩
  · have hw1 : IntKind.u64.wrap n = n := by rw [IntKind.wrap_u64]; omega
    have hw2 : IntKind.u64.wrap (n * 2) = (u0 : Int) := by rw [IntKind.wrap_u64]; omega
    go_enter Tryz.func52, Tryz.ntmps52
    go_wp2_with fail
    go_loopw [3, 4] (fun uv sv wr => ∃ (u : Nat) (pre : List Int), uv = .int .u64 u ∧ u < 18446744073709551616 ∧ pre ++ Vi.vi u = Vi.vi u0 ∧ sv = .string (strOfNums pre) ∧ Below w.heap.size w wr) (fun uv _ _ => (intOf uv).toNat)
    case atStart => exact ⟨u0, [], (by first | rfl | (simp only [hw1, hw2]) | (congr 1; omega)), hz, rfl, rfl, Below.refl _ _⟩
    case round =>
      obtain ⟨u, pre, rfl, hu, hpre, rfl, hbel⟩ := hrel
      have hpl : pre.length ≤ 10 := by have h1 := HL.out; rw [← hpre, List.length_append] at h1; omega
      have hps : (strOfNums pre).size ≤ 10 := by rw [strOfNums_size]; exact hpl
      have hsz := hbel.size
      by_cases h128 : 128 ≤ u
      · have hcv2 := one_str ((u : Int) % 128 + 128) (by omega) wr
        have hone : (strOfNums [((u : Int) % 128 + 128)]).size = 1 := by rw [strOfNums_size]; rfl
        have HP := Lib.hid (show strOfNums pre ++ strOfNums [((u : Int) % 128 + 128)] = strOfNums (pre ++ [((u % 128 + 128 : Nat) : Int)]) by rw [str_append]; congr 2)
        have HQ := Lib.hid (show (pre ++ [((u % 128 + 128 : Nat) : Int)]) ++ Vi.vi (u / 128) = Vi.vi u0 by rw [← hpre, Vi.vi_big u h128, List.append_assoc]; rfl)
        have HB := Lib.hid (hbel.alloc hsz (.cells #[.int .u8 ((u : Int) % 128 + 128)] 5))
        generalize strOfNums [((u : Int) % 128 + 128)] = D at *
        generalize hS : strOfNums pre = S at *
        clear hpre hbel hpl hS
        go_wp2
        go_roundw
        case rel => exact ⟨u / 128, _, by go_num, by omega, HQ.out, by rw [← HP.out], HB.out⟩
        case measure => simp [intOf]; omega
      · have hcv2 := one_str (u : Int) (by omega) wr
        have hone : (strOfNums [(u : Int)]).size = 1 := by rw [strOfNums_size]; rfl
        have HP := Lib.hid (show strOfNums pre ++ strOfNums [(u : Int)] = strOfNums (Vi.int n) by rw [str_append, HV.out, ← hpre, Vi.vi_small u (by omega)])
        have HB := Lib.hid (hbel.alloc hsz (.cells #[.int .u8 (u : Int)] 5))
        generalize strOfNums [(u : Int)] = D at *
        generalize hS : strOfNums pre = S at *
        clear hpre hbel hpl hS
        go_wp2
        go_ret
        exact ⟨by rw [← HP.out]; rfl, HB.out⟩
  · have hw1 : IntKind.i64.wrap (-(n + 1)) = -(n + 1) := by rw [IntKind.wrap_i64]; omega
    have hw2 : IntKind.u64.wrap (-(n + 1)) = -(n + 1) := by rw [IntKind.wrap_u64]; omega
    have hw3 : IntKind.u64.wrap (-(n + 1) * 2) = -(n + 1) * 2 := by rw [IntKind.wrap_u64]; omega
    have hw4 : IntKind.u64.wrap (-(n + 1) * 2 + 1) = (u0 : Int) := by rw [IntKind.wrap_u64]; omega
    go_enter Tryz.func52, Tryz.ntmps52
    go_wp2_with fail
    go_loopw [3, 4] (fun uv sv wr => ∃ (u : Nat) (pre : List Int), uv = .int .u64 u ∧ u < 18446744073709551616 ∧ pre ++ Vi.vi u = Vi.vi u0 ∧ sv = .string (strOfNums pre) ∧ Below w.heap.size w wr) (fun uv _ _ => (intOf uv).toNat)
    case atStart => exact ⟨u0, [], (by first | rfl | (simp only [hw1, hw2, hw3, hw4]) | (congr 1; omega)), hz, rfl, rfl, Below.refl _ _⟩
    case round =>
      obtain ⟨u, pre, rfl, hu, hpre, rfl, hbel⟩ := hrel
      have hpl : pre.length ≤ 10 := by have h1 := HL.out; rw [← hpre, List.length_append] at h1; omega
      have hps : (strOfNums pre).size ≤ 10 := by rw [strOfNums_size]; exact hpl
      have hsz := hbel.size
      by_cases h128 : 128 ≤ u
      · have hcv2 := one_str ((u : Int) % 128 + 128) (by omega) wr
        have hone : (strOfNums [((u : Int) % 128 + 128)]).size = 1 := by rw [strOfNums_size]; rfl
        have HP := Lib.hid (show strOfNums pre ++ strOfNums [((u : Int) % 128 + 128)] = strOfNums (pre ++ [((u % 128 + 128 : Nat) : Int)]) by rw [str_append]; congr 2)
        have HQ := Lib.hid (show (pre ++ [((u % 128 + 128 : Nat) : Int)]) ++ Vi.vi (u / 128) = Vi.vi u0 by rw [← hpre, Vi.vi_big u h128, List.append_assoc]; rfl)
        have HB := Lib.hid (hbel.alloc hsz (.cells #[.int .u8 ((u : Int) % 128 + 128)] 5))
        generalize strOfNums [((u : Int) % 128 + 128)] = D at *
        generalize hS : strOfNums pre = S at *
        clear hpre hbel hpl hS
        go_wp2
        go_roundw
        case rel => exact ⟨u / 128, _, by go_num, by omega, HQ.out, by rw [← HP.out], HB.out⟩
        case measure => simp [intOf]; omega
      · have hcv2 := one_str (u : Int) (by omega) wr
        have hone : (strOfNums [(u : Int)]).size = 1 := by rw [strOfNums_size]; rfl
        have HP := Lib.hid (show strOfNums pre ++ strOfNums [(u : Int)] = strOfNums (Vi.int n) by rw [str_append, HV.out, ← hpre, Vi.vi_small u (by omega)])
        have HB := Lib.hid (hbel.alloc hsz (.cells #[.int .u8 (u : Int)] 5))
        generalize strOfNums [(u : Int)] = D at *
        generalize hS : strOfNums pre = S at *
        clear hpre hbel hpl hS
        go_wp2
        go_ret
        exact ⟨by rw [← HP.out]; rfl, HB.out⟩
end Go.Proofs.YteodldmbnghfcaaGreat
