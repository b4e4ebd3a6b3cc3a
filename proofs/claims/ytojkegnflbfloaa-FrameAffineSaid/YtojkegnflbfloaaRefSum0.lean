/- Plain facts: the CRC bit by bit (porterref01.Sum) and byte by byte (frame.Sum). -/
import Derived.Test.YtojkegnflbfloaaTellsMath
namespace Go.Proofs.Ytojkegnflbfloaa.Mt

/-- One bit taken in. -/
def bitstep (s b : Nat) : Nat := if (s % 2 + b) % 2 = 1 then (s / 2) ^^^ 2197175160 else s / 2
/-- The first k bits of a byte taken in, the lowest first. -/
def bitsteps (s y : Nat) : Nat → Nat
  | 0 => s
  | k + 1 => bitstep (bitsteps s y k) (y / 2 ^ k % 2)

theorem xor_half (a b : Nat) : (a ^^^ b) / 2 = a / 2 ^^^ b / 2 := by
  apply Nat.eq_of_testBit_eq
  intro i
  simp [Nat.testBit_div_two, Nat.testBit_xor]
theorem xor_low (a b : Nat) : (a ^^^ b) % 2 = (a % 2 + b % 2) % 2 := by
  have h0 : ∀ x : Nat, x % 2 = (x.testBit 0).toNat := by
    intro x
    rw [Nat.testBit_zero]
    rcases Nat.mod_two_eq_zero_or_one x with h | h <;> simp [h]
  rw [h0 (a ^^^ b), Nat.testBit_xor, h0 a, h0 b]
  cases a.testBit 0 <;> cases b.testBit 0 <;> rfl
theorem steps_bits (s y : Nat) : ∀ k, steps k (s ^^^ y) = bitsteps s y k ^^^ (y / 2 ^ k) := by
  intro k
  induction k with
  | zero => simp [steps, bitsteps]
  | succ k ih =>
    have e : y / 2 ^ (k + 1) = y / 2 ^ k / 2 := by rw [Nat.pow_succ, Nat.div_div_eq_div_mul]
    rw [steps, ih, bitsteps, step, bitstep, xor_low, xor_half, e]
    rw [show (bitsteps s y k % 2 + y / 2 ^ k % 2) % 2 = (bitsteps s y k % 2 + y / 2 ^ k % 2 % 2) % 2 by omega]
    split
    · rw [Nat.xor_assoc, Nat.xor_assoc, Nat.xor_comm (y / 2 ^ k / 2)]
    · rfl
theorem bits_stir (s y : Nat) (hy : y < 256) : bitsteps s y 8 = stir s y := by
  have := steps_bits s y 8
  rw [show y / 2 ^ 8 = 0 by omega, Nat.xor_zero] at this
  exact this.symm
theorem bitstep_lt (s b : Nat) (h : s < 4294967296) : bitstep s b < 4294967296 := by
  unfold bitstep
  split
  · exact Nat.xor_lt_two_pow (n := 32) (by omega) (by omega)
  · omega

/-- The state when i bits have been taken in. -/
def fed (l : List Int) : Nat → Nat
  | 0 => 4294967295
  | i + 1 => bitstep (fed l i) ((l.getD (i / 8) 0).toNat / 2 ^ (i % 8) % 2)
theorem fed_lt (l : List Int) : ∀ i, fed l i < 4294967296
  | 0 => by simp [fed]
  | i + 1 => bitstep_lt _ _ (fed_lt l i)
theorem fed_bits (l : List Int) (j : Nat) : ∀ k, k ≤ 8 → fed l (8 * j + k) = bitsteps (fed l (8 * j)) (l.getD j 0).toNat k := by
  intro k
  induction k with
  | zero => intro _; rfl
  | succ k ih =>
    intro hk
    rw [← Nat.add_assoc, fed, ih (by omega), bitsteps, show (8 * j + k) / 8 = j by omega, show (8 * j + k) % 8 = k by omega]
theorem fed_crc (l : List Int) (hb : ∀ x ∈ l, 0 ≤ x ∧ x < 256) : ∀ j, j ≤ l.length → fed l (8 * j) = crc 4294967295 (l.take j) := by
  intro j
  induction j with
  | zero => intro _; simp [fed, crc]
  | succ j ih =>
    intro hj
    have hx := hb _ (getD_mem l j (by omega))
    rw [show 8 * (j + 1) = 8 * j + 8 by omega, fed_bits l j 8 (by omega), bits_stir _ _ (by omega), ih (by omega), crc_take l j _ (by omega)]
theorem fed_all (l : List Int) (hb : ∀ x ∈ l, 0 ≤ x ∧ x < 256) : 4294967295 - fed l (8 * l.length) = sum l := by
  rw [fed_crc l hb _ (Nat.le_refl _), List.take_of_length_le (Nat.le_refl _), sum]

/-- Bit k of a state. -/
def bitOf (s k : Nat) : Nat := s / 2 ^ k % 2
theorem bitOf_xor (a b k : Nat) : bitOf (a ^^^ b) k = (bitOf a k + bitOf b k) % 2 := by
  have h0 : ∀ x : Nat, bitOf x k = (x.testBit k).toNat := by
    intro x
    rw [Nat.testBit_eq_decide_div_mod_eq, bitOf]
    rcases Nat.mod_two_eq_zero_or_one (x / 2 ^ k) with h | h <;> simp [h]
  rw [h0, h0, h0, Nat.testBit_xor]
  cases a.testBit k <;> cases b.testBit k <;> rfl
theorem bitOf_half (s k : Nat) : bitOf (s / 2) k = bitOf s (k + 1) := by
  unfold bitOf
  rw [Nat.div_div_eq_div_mul, ← Nat.pow_succ']
theorem bitOf_top (s k : Nat) (h : s < 4294967296) (hk : 32 ≤ k) : bitOf s k = 0 := by
  unfold bitOf
  have : (2 : Nat) ^ 32 ≤ 2 ^ k := Nat.pow_le_pow_right (by omega) hk
  rw [Nat.div_eq_of_lt (by omega)]
theorem bitOf_step (s b k : Nat) : bitOf (bitstep s b) k = (bitOf s (k + 1) + (s % 2 + b) % 2 * bitOf 2197175160 k) % 2 := by
  unfold bitstep
  have h1 : bitOf s (k + 1) % 2 = bitOf s (k + 1) := by unfold bitOf; omega
  split <;> rename_i h
  · rw [bitOf_xor, bitOf_half, h, Nat.one_mul]
  · rw [bitOf_half, show (s % 2 + b) % 2 = 0 by omega, Nat.zero_mul]; omega
end Go.Proofs.Ytojkegnflbfloaa.Mt
