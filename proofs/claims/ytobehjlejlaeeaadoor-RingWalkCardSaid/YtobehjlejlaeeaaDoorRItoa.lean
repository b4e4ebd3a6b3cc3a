/- The ring's Slot; numbers below 100 in digits. -/
import Derived.Test.YtobehjlejlaeeaaDoorRHash
namespace Go.Proofs.YtobehjlejlaeeaaDoor
open Go.RowKit

def Mt.slot (s : ByteArray) : Nat := Mt.hash s % 16
theorem Mt.slot_lt (s : ByteArray) : Mt.slot s < 16 := Nat.mod_lt _ (by omega)
theorem slot_int (s : ByteArray) : (Mt.hash s : Int) % 16 = ((Mt.slot s : Nat) : Int) := by
  unfold Mt.slot
  omega
set_option maxRecDepth 100000 in
set_option maxHeartbeats 2000000 in
theorem slot_any (s : ByteArray) (w : World) (hs : s.size ≤ 140737488355328) :
    Calls Tryd.prog 11 #[.string s] w fun e w' => e = .returned (.int .i64 (Mt.slot s : Nat)) ∧ w = w' := by
  have hl := Mt.hash_lt s
  have HR := Lib.hid (slot_int s)
  go_enter Tryd.func11, Tryd.ntmps11
  go_wp2_with (go_at_call 10; refine (hash_any s _ hs).mono ?_; rintro e w1 ⟨rfl, rfl⟩; generalize Mt.hash s = h at *)
  go_ret
  exact ⟨by rw [← HR.out]; rfl, rfl⟩
abbrev digs : ByteArray := ⟨#[48, 49, 50, 51, 52, 53, 54, 55, 56, 57, 97, 98, 99, 100, 101, 102, 103, 104, 105, 106, 107, 108, 109, 110, 111, 112, 113, 114, 115, 116, 117, 118, 119, 120, 121, 122]⟩
abbrev smls : ByteArray := ⟨#[48, 48, 48, 49, 48, 50, 48, 51, 48, 52, 48, 53, 48, 54, 48, 55, 48, 56, 48, 57, 49, 48, 49, 49, 49, 50, 49, 51, 49, 52, 49, 53, 49, 54, 49, 55, 49, 56, 49, 57, 50, 48, 50, 49, 50, 50, 50, 51, 50, 52, 50, 53, 50, 54, 50, 55, 50, 56, 50, 57, 51, 48, 51, 49, 51, 50, 51, 51, 51, 52, 51, 53, 51, 54, 51, 55, 51, 56, 51, 57, 52, 48, 52, 49, 52, 50, 52, 51, 52, 52, 52, 53, 52, 54, 52, 55, 52, 56, 52, 57, 53, 48, 53, 49, 53, 50, 53, 51, 53, 52, 53, 53, 53, 54, 53, 55, 53, 56, 53, 57, 54, 48, 54, 49, 54, 50, 54, 51, 54, 52, 54, 53, 54, 54, 54, 55, 54, 56, 54, 57, 55, 48, 55, 49, 55, 50, 55, 51, 55, 52, 55, 53, 55, 54, 55, 55, 55, 56, 55, 57, 56, 48, 56, 49, 56, 50, 56, 51, 56, 52, 56, 53, 56, 54, 56, 55, 56, 56, 56, 57, 57, 48, 57, 49, 57, 50, 57, 51, 57, 52, 57, 53, 57, 54, 57, 55, 57, 56, 57, 57]⟩
set_option maxRecDepth 100000 in
theorem digs_at : ∀ n : Fin 10, digs.extract n.val (n.val + 1) = Mt.dec n.val := by decide +kernel
set_option maxRecDepth 100000 in
theorem smls_at : ∀ n : Fin 90, smls.extract (2 * (n.val + 10)) (2 * (n.val + 10) + 2) = Mt.dec (n.val + 10) := by decide +kernel
set_option maxRecDepth 100000 in
theorem digs_run (n : Nat) (w : World) (hn : n < 10) : (Instr.slice 9 (.string digs) (some (.int .i64 (n : Int))) (some (.int .i64 ((n : Int) + 1))) none).run Tryd.prog w = .ok (.string (Mt.dec n)) w := by
  have h := str_slice digs n (n + 1) (by omega) (by have : digs.size = 36 := rfl; omega) w
  rw [digs_at ⟨n, hn⟩] at h
  simpa using h
set_option maxRecDepth 100000 in
theorem smls_run (n : Nat) (w : World) (h10 : 10 ≤ n) (hn : n < 100) : (Instr.slice 9 (.string smls) (some (.int .i64 ((n : Int) * 2))) (some (.int .i64 ((n : Int) * 2 + 2))) none).run Tryd.prog w = .ok (.string (Mt.dec n)) w := by
  have h := str_slice smls (2 * n) (2 * n + 2) (by omega) (by have : smls.size = 200 := rfl; omega) w
  have e := smls_at ⟨n - 10, by omega⟩
  simp only [show n - 10 + 10 = n by omega] at e
  rw [e] at h
  rw [show (n : Int) * 2 + 2 = ((2 * n + 2 : Nat) : Int) by omega, show (n : Int) * 2 = ((2 * n : Nat) : Int) by omega]
  exact h
set_option maxRecDepth 100000 in
set_option maxHeartbeats 2000000 in
theorem small_any (n : Nat) (w : World) (hn : n < 100) :
    Calls Tryd.prog 29 #[.int .i64 (n : Int)] w fun e w' => e = .returned (.string (Mt.dec n)) ∧ w = w' := by
  by_cases h : n < 10
  · have hd := digs_run n w h
    go_enter Tryd.func29, Tryd.ntmps29
    go_wp2
    go_ret
    exact ⟨rfl, rfl⟩
  · have hd := smls_run n w (by omega) hn
    go_enter Tryd.func29, Tryd.ntmps29
    go_wp2
    go_ret
    exact ⟨rfl, rfl⟩
set_option maxRecDepth 100000 in
set_option maxHeartbeats 2000000 in
theorem format_any (n : Nat) (w : World) (hn : n < 100) :
    Calls Tryd.prog 28 #[.int .i64 (n : Int), .int .i64 10] w fun e w' => e = .returned (.string (Mt.dec n)) ∧ w = w' := by
  go_enter Tryd.func28, Tryd.ntmps28
  go_wp2_with (go_at_call 29; refine (small_any n _ hn).mono ?_; rintro e w1 ⟨rfl, rfl⟩)
  go_ret
  exact ⟨rfl, rfl⟩
set_option maxRecDepth 100000 in
set_option maxHeartbeats 2000000 in
theorem itoa_in (n : Nat) (w : World) (hn : n < 100) :
    Calls Tryd.prog 27 #[.int .i64 (n : Int)] w fun e w' => e = .returned (.string (Mt.dec n)) ∧ w = w' := by
  go_enter Tryd.func27, Tryd.ntmps27
  go_wp2_with (go_at_call 28; refine (format_any n _ hn).mono ?_; rintro e w1 ⟨rfl, rfl⟩)
  go_ret
  exact ⟨rfl, rfl⟩
set_option maxRecDepth 100000 in
set_option maxHeartbeats 2000000 in
theorem itoa_any (n : Nat) (w : World) (hn : n < 100) :
    Calls Tryd.prog 25 #[.int .i64 (n : Int)] w fun e w' => e = .returned (.string (Mt.dec n)) ∧ w = w' := by
  go_enter Tryd.func25, Tryd.ntmps25
  go_wp2_with (go_at_call 27; refine (itoa_in n _ hn).mono ?_; rintro e w1 ⟨rfl, rfl⟩)
  go_ret
  exact ⟨rfl, rfl⟩
end Go.Proofs.YtobehjlejlaeeaaDoor
