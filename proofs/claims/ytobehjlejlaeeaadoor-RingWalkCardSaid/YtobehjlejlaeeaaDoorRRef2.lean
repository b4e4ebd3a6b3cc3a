/- The document's digits. -/
import Derived.Test.YtobehjlejlaeeaaDoorRRef
namespace Go.Proofs.YtobehjlejlaeeaaDoor
open Go.RowKit

abbrev tens : ByteArray := ⟨#[48, 49, 50, 51, 52, 53, 54, 55, 56, 57]⟩
set_option maxRecDepth 100000 in
theorem tens_at : ∀ n : Fin 10, tens.extract n.val (n.val + 1) = Mt.dec n.val := by decide +kernel
set_option maxRecDepth 100000 in
theorem dec_two_at : ∀ n : Fin 90, Mt.dec ((n.val + 10) / 10) ++ Mt.dec ((n.val + 10) % 10) = Mt.dec (n.val + 10) := by decide +kernel
theorem dec_two (n : Nat) (h10 : 10 ≤ n) (hn : n < 100) : Mt.dec (n / 10) ++ Mt.dec (n % 10) = Mt.dec n := by
  have e := dec_two_at ⟨n - 10, by omega⟩
  simpa only [show n - 10 + 10 = n by omega] using e
set_option maxRecDepth 100000 in
theorem tens_run (n : Nat) (w : World) (hn : n < 10) : (Instr.slice 9 (.string tens) (some (.int .i64 (n : Int))) (some (.int .i64 ((n : Int) + 1))) none).run Tryd.prog w = .ok (.string (Mt.dec n)) w := by
  have h := str_slice tens n (n + 1) (by omega) (by have : tens.size = 10 := rfl; omega) w
  rw [tens_at ⟨n, hn⟩] at h
  simpa using h
set_option maxRecDepth 100000 in
set_option maxHeartbeats 2000000 in
theorem decimal_one (n : Nat) (w : World) (hn : n < 10) :
    Calls Tryd.prog 26 #[.int .i64 (n : Int)] w fun e w' => e = .returned (.string (Mt.dec n)) ∧ w = w' := by
  have hd := tens_run n w hn
  go_enter Tryd.func26, Tryd.ntmps26
  go_wp2
  go_ret
  exact ⟨rfl, rfl⟩
set_option maxRecDepth 100000 in
set_option maxHeartbeats 2000000 in
theorem decimal_any (n : Nat) (w : World) (hn : n < 100) :
    Calls Tryd.prog 26 #[.int .i64 (n : Int)] w fun e w' => e = .returned (.string (Mt.dec n)) ∧ w = w' := by
  by_cases h : n < 10
  · exact decimal_one n w h
  · have H2 := Lib.hid (dec_two n (by omega) hn)
    have ha := run_string_add_sum (P := Tryd.prog) w (Mt.dec (n / 10)) (Mt.dec (n % 10)) (by have := Mt.dec_size (n / 10); have := Mt.dec_size (n % 10); omega)
    have e1 : (n : Int) / 10 = ((n / 10 : Nat) : Int) := by omega
    have e2 : (n : Int) % 10 = ((n % 10 : Nat) : Int) := by omega
    have D1 := Lib.hid (decimal_one (n / 10) w (by omega))
    have D2 := Lib.hid (decimal_one (n % 10) w (by omega))
    rw [H2.out] at ha
    have E1 := Lib.hid e1; have E2 := Lib.hid e2
    clear e1 e2
    go_enter Tryd.func26, Tryd.ntmps26
    go_wp2_with (go_at_call 26; first
      | (rw [E1.out]; with_reducible refine D1.out.mono ?_; rintro e w1 ⟨rfl, rfl⟩)
      | (rw [E2.out]; with_reducible refine D2.out.mono ?_; rintro e w1 ⟨rfl, rfl⟩))
    go_ret
    exact ⟨rfl, rfl⟩
end Go.Proofs.YtobehjlejlaeeaaDoor
