/- The walks of frame.stir. -/
import Derived.Test.YtjilhmidgebfbaaRows
import Derived.Test.YtjilhmidgebfbaaMath
import Derived.WalkKit
import Derived.ProofKit
import Derived.OpenShut
import Derived.Laws.BitsAllLaws
import Derived.Lib.Hide
import Derived.Outline
namespace Go.Proofs.Ytjilhmidgebfbaa.Fr
open Go.RowKit

theorem xor32 (a b : Nat) (ha : a < 4294967296) (hb : b < 4294967296) : bits .xor .u32 (a : Int) (b : Int) = ((a ^^^ b : Nat) : Int) := u32_xor_nat a b ha hb
theorem and32 (a : Nat) (ha : a < 4294967296) : bits .and .u32 (a : Int) 1 = ((a % 2 : Nat) : Int) := by
  have h := u32_and_nat a 1 ha (by omega)
  rw [Nat.and_one_is_mod] at h
  exact h

set_option maxHeartbeats 400000 in
theorem stir_any (s b : Nat) (w : World) (hs : s < 4294967296) (hb : b < 256) :
    Calls Try.prog 73 #[.int .u32 s, .int .u8 b] w fun e w' => e = .returned (.int .u32 (Mt.stir s b : Nat)) ∧ w = w' := by
  have hx := xor32 s b hs (by omega)
  have hlt : s ^^^ b < 4294967296 := Nat.xor_lt_two_pow (n := 32) (by omega) (by omega)
  go_enter Try.func73, Try.ntmps73
  go_wp2
  clear hx
  go_loop [0, 10] (fun x i => ∃ k : Nat, k ≤ 8 ∧ i = .int .i64 k ∧ x = .int .u32 (Mt.steps k (s ^^^ b) : Nat)) (fun _ i => 8 - (intOf i).toNat)
  case atStart => exact ⟨0, by omega, rfl, rfl⟩
  case round =>
    obtain ⟨k, hk, rfl, rfl⟩ := hrel
    have hst : Mt.step (Mt.steps k (s ^^^ b)) = Mt.steps (k + 1) (s ^^^ b) := rfl
    have hl := Mt.steps_lt k _ hlt
    have HS := Lib.hid hst
    clear hst
    generalize hg : Mt.steps k (s ^^^ b) = t at *
    have HG := Lib.hid hg
    clear hg
    have ha := and32 t hl
    by_cases h8 : k < 8
    · by_cases ho : t % 2 = 1
      · have hx : bits .xor .u32 ((t : Int) / 2) 2197175160 = ((t / 2 ^^^ 2197175160 : Nat) : Int) := xor32 (t / 2) 2197175160 (by omega) (by omega)
        have he : Mt.step t = (t / 2) ^^^ 2197175160 := by simp [Mt.step, ho]
        have HE := Lib.hid he
        clear he
        rw [ho] at ha
        go_wp2
        go_round
        case rel => exact ⟨k + 1, by omega, by go_num, by rw [← HS.out, HE.out]⟩
        case measure => simp [intOf]; omega
      · have he : Mt.step t = t / 2 := by simp [Mt.step, ho]
        have HE := Lib.hid he
        clear he
        rw [show t % 2 = 0 by omega] at ha
        clear ho
        go_wp2
        go_round
        case rel => exact ⟨k + 1, by omega, by go_num, by rw [← HS.out, HE.out]; try go_num⟩
        case measure => simp [intOf]; omega
    · go_wp2
      go_ret
      have h8' : k = 8 := by omega
      exact ⟨by rw [← HG.out, h8']; rfl, rfl⟩
end Go.Proofs.Ytjilhmidgebfbaa.Fr
