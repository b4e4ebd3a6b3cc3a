/- The walks of frame.word and frame.putWord. -/
import Derived.Test.YtjilhmidgebfbaaWalk2
namespace Go.Proofs.Ytjilhmidgebfbaa.Fr
open Go.RowKit

/-- The number of k bytes, the highest first. -/
def wd (xs : List Int) : Nat → Nat
  | 0 => 0
  | k + 1 => wd xs k * 256 + (xs.getD k 0).toNat

theorem wd_lt (xs : List Int) (hb : ∀ x ∈ xs, 0 ≤ x ∧ x < 256) : ∀ k, k ≤ xs.length → wd xs k < 256 ^ k := by
  intro k
  induction k with
  | zero => intro _; simp [wd]
  | succ k ih =>
    intro hk
    have h1 := ih (by omega)
    have h2 := hb _ (Mt.getD_mem xs k (by omega))
    rw [wd, Nat.pow_succ]
    omega
theorem or32 (a y : Nat) (ha : a < 16777216) (hy : y < 256) : bits .or .u32 ((a : Int) * 256) (y : Int) = ((a * 256 + y : Nat) : Int) := by
  have h := u32_or_nat (a * 256) y (by omega) (by omega)
  have e : a * 256 ||| y = a * 256 + y := by
    have := Nat.shiftLeft_add_eq_or_of_lt (b := y) (i := 8) (by omega) a
    rw [Nat.shiftLeft_eq] at this
    exact this.symm
  rw [e] at h
  exact h

set_option maxHeartbeats 400000 in
theorem word_any (b off n c : Nat) (xs : List Int) (w : World) (hn : 4 ≤ n) (hmx : n ≤ maxLen) (hxs : IsB w (some ⟨b, off, none⟩) n xs) :
    Calls Try.prog 61 #[.slice (some ⟨b, off, none⟩) n c] w fun e w' => e = .returned (.int .u32 (wd xs 4 : Nat)) ∧ w = w' := by
  obtain ⟨hlen, hb, hat⟩ := hxs
  unfold maxLen at hmx
  obtain ⟨b', off', he, hc⟩ := hat.resolve_left (by omega)
  injection he with he
  injection he with e1 e2 e3
  subst e1 e2
  have HC := Lib.hid hc
  have HL := Lib.hid hlen
  have HB := Lib.hid hb
  clear hc hlen hb e3 hat
  go_enter Try.func61, Try.ntmps61
  go_wp2
  go_loop [3, 5] (fun x i => ∃ k : Nat, k ≤ 4 ∧ i = .int .i64 k ∧ x = .int .u32 (wd xs k : Nat)) (fun _ i => 4 - (intOf i).toNat)
  case atStart => exact ⟨0, by omega, rfl, rfl⟩
  case round =>
    obtain ⟨k, hk, rfl, rfl⟩ := hrel
    by_cases h4 : k < 4
    · have hcell := HC.out k (by omega)
      have hbj : 0 ≤ xs.getD k 0 ∧ xs.getD k 0 < 256 := HB.out _ (Mt.getD_mem _ _ (by have := HL.out; omega))
      have hlt : wd xs k < 16777216 := Nat.lt_of_lt_of_le (wd_lt xs HB.out k (by have := HL.out; omega)) (Nat.pow_le_pow_right (n := 256) (by omega) (show k ≤ 3 by omega))
      have HS := Lib.hid (show wd xs (k + 1) = wd xs k * 256 + (xs.getD k 0).toNat from rfl)
      generalize hg : wd xs k = s at *
      obtain ⟨y, hy⟩ : ∃ y : Nat, xs.getD k 0 = (y : Int) := ⟨(xs.getD k 0).toNat, by omega⟩
      have HY := Lib.hid (show (xs.getD k 0).toNat = y by omega)
      have hy3 : y < 256 := by omega
      rw [hy] at hcell
      clear hy hbj hg
      have hor := or32 s y hlt hy3
      go_wp2
      go_round
      case rel => exact ⟨k + 1, by omega, by go_num, by rw [HS.out, HY.out]; go_num⟩
      case measure => simp [intOf]; omega
    · have h4' : k = 4 := by omega
      have HS := Lib.hid (show wd xs k = wd xs 4 by rw [h4'])
      clear h4'
      go_wp2
      go_ret
      exact ⟨by rw [HS.out]; rfl, rfl⟩
end Go.Proofs.Ytjilhmidgebfbaa.Fr
