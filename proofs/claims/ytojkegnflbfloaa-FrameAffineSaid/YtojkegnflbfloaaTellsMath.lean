/- A turned bit turns the sum: the CRC's step takes no two states to one. -/
import Derived.Test.YtojkegnflbfloaaOnly
namespace Go.Proofs.Ytojkegnflbfloaa.Mt

theorem xor_left {a b c : Nat} (h : a ^^^ c = b ^^^ c) : a = b := by
  have := congrArg (· ^^^ c) h
  simpa [Nat.xor_assoc] using this
theorem xor_right {a b c : Nat} (h : c ^^^ a = c ^^^ b) : a = b := by
  rw [Nat.xor_comm c a, Nat.xor_comm c b] at h
  exact xor_left h
theorem step_inj {s t : Nat} (hs : s < 4294967296) (ht : t < 4294967296) (h : step s = step t) : s = t := by
  have big : ∀ a, a < 2147483648 → Nat.testBit (a ^^^ 2197175160) 31 = true := by
    intro a ha
    rw [Nat.testBit_xor, Nat.testBit_lt_two_pow (show a < 2 ^ 31 by omega)]
    decide
  have small : ∀ a, a < 2147483648 → Nat.testBit a 31 = false := fun a ha => Nat.testBit_lt_two_pow (show a < 2 ^ 31 by omega)
  unfold step at h
  split at h <;> split at h
  · have := xor_left h
    omega
  · have h1 := big (s / 2) (by omega)
    rw [h, small (t / 2) (by omega)] at h1
    cases h1
  · have h1 := big (t / 2) (by omega)
    rw [← h, small (s / 2) (by omega)] at h1
    cases h1
  · omega
theorem steps_inj {k s t : Nat} (hs : s < 4294967296) (ht : t < 4294967296) (h : steps k s = steps k t) : s = t := by
  induction k with
  | zero => exact h
  | succ k ih => exact ih (step_inj (steps_lt k s hs) (steps_lt k t ht) h)
theorem xor_lt32 {a b : Nat} (ha : a < 4294967296) (hb : b < 256) : a ^^^ b < 4294967296 := Nat.xor_lt_two_pow (n := 32) (by omega) (by omega)
theorem stir_inj_state {s t b : Nat} (hs : s < 4294967296) (ht : t < 4294967296) (hb : b < 256) (h : stir s b = stir t b) : s = t :=
  xor_left (steps_inj (xor_lt32 hs hb) (xor_lt32 ht hb) h)
theorem stir_inj_byte {s b c : Nat} (hs : s < 4294967296) (hb : b < 256) (hc : c < 256) (h : stir s b = stir s c) : b = c :=
  xor_right (steps_inj (xor_lt32 hs hb) (xor_lt32 hs hc) h)
theorem crc_inj (l : List Int) : ∀ {s t : Nat}, s < 4294967296 → t < 4294967296 → (∀ x ∈ l, 0 ≤ x ∧ x < 256) → crc s l = crc t l → s = t := by
  induction l with
  | nil => intro s t _ _ _ h; exact h
  | cons x l ih =>
    intro s t hs ht hx h
    have hx0 := hx x (by simp)
    have h' : crc (stir s x.toNat) l = crc (stir t x.toNat) l := h
    have := ih (stir_lt _ _ hs (by omega)) (stir_lt _ _ ht (by omega)) (fun y hy => hx y (by simp [hy])) h'
    exact stir_inj_state hs ht (by omega) this
theorem sum_differs (p q : List Int) (x y : Int) (hp : ∀ z ∈ p, 0 ≤ z ∧ z < 256) (hq : ∀ z ∈ q, 0 ≤ z ∧ z < 256) (hx : 0 ≤ x ∧ x < 256) (hy : 0 ≤ y ∧ y < 256) (hne : x ≠ y) :
    sum (p ++ x :: q) ≠ sum (p ++ y :: q) := by
  intro h
  have hs := crc_lt p 4294967295 (by omega) hp
  have l1 := stir_lt _ x.toNat hs (by omega)
  have l2 := stir_lt _ y.toNat hs (by omega)
  have c1 : crc 4294967295 (p ++ x :: q) = crc (stir (crc 4294967295 p) x.toNat) q := by rw [crc_append]; rfl
  have c2 : crc 4294967295 (p ++ y :: q) = crc (stir (crc 4294967295 p) y.toNat) q := by rw [crc_append]; rfl
  have b1 := crc_lt q _ l1 hq
  have b2 := crc_lt q _ l2 hq
  unfold sum at h
  rw [c1, c2] at h
  have h2 := crc_inj q l1 l2 hq (by omega)
  have h3 := stir_inj_byte hs (by omega) (by omega) h2
  omega
end Go.Proofs.Ytojkegnflbfloaa.Mt
namespace Go.Proofs.Ytojkegnflbfloaa
open Go.RowKit

theorem split_at (xs : List Int) (i : Nat) (h : i < xs.length) : xs = xs.take i ++ xs.getD i 0 :: xs.drop (i + 1) := by
  have : xs.drop i = xs.getD i 0 :: xs.drop (i + 1) := by
    rw [List.drop_eq_getElem_cons h]
    simp [List.getD, h]
  rw [← this, List.take_append_drop]
theorem set_at (xs : List Int) (i : Nat) (v : Int) (h : i < xs.length) : xs.set i v = xs.take i ++ v :: xs.drop (i + 1) := by
  rw [List.set_eq_take_append_cons_drop, if_pos h]
theorem set_byte {xs : List Int} (hb : ∀ x ∈ xs, 0 ≤ x ∧ x < 256) (i : Nat) (v : Int) (hv : 0 ≤ v ∧ v < 256) : ∀ x ∈ xs.set i v, 0 ≤ x ∧ x < 256 := by
  intro x hx
  rcases List.mem_or_eq_of_mem_set hx with h | h
  · exact hb x h
  · rw [h]; exact hv

theorem wd_congr {l m : List Int} (h : ∀ i, i < 4 → l.getD i 0 = m.getD i 0) : wd l 4 = wd m 4 := by
  simp only [wd, h 0 (by omega), h 1 (by omega), h 2 (by omega), h 3 (by omega)]

theorem err_turned (xs : List Int) (hb : ∀ x ∈ xs, 0 ≤ x ∧ x < 256) (hl : xs.length ≤ 16384) (i : Nat) (h4 : 4 ≤ i) (hi : i < 8 + xs.length) (v : Int) (hv : 0 ≤ v ∧ v < 256) (hne : v ≠ (sealed xs).getD i 0) :
    err ((sealed xs).set i v) = 11 := by
  have hsl := sealed_length xs
  have hw : wd ((sealed xs).set i v) 4 = xs.length := by
    have h0 := wd_sealed xs hl []
    rw [List.append_nil] at h0
    rw [← h0]
    apply wd_congr
    intro j hj
    simp only [List.getD, List.getElem?_set]
    rw [if_neg (by omega)]
  have e1 : (((sealed xs).set i v).drop 0).take 4 = be xs.length := by
    rw [List.drop_zero, List.take_set, List.set_eq_of_length_le (by simp; omega), take_sealed]
  have e3 : ¬ Mt.sum ((((sealed xs).set i v).drop 0).take 4 ++ pay ((sealed xs).set i v)) = wd (((sealed xs).set i v).drop 4) 4 := by
    rw [e1, pay, hw]
    rcases Nat.lt_or_ge i 8 with h8 | h8
    · -- a byte of the sum
      have d8 : ((sealed xs).set i v).drop 8 = xs := by
        rw [List.drop_set, if_pos h8, drop8_sealed]
      rw [d8, List.take_of_length_le (Nat.le_refl _)]
      intro h
      have hL : ((((sealed xs).set i v).drop 4).take 4).length = 4 := by simp; omega
      have hB : ∀ x ∈ (((sealed xs).set i v).drop 4).take 4, 0 ≤ x ∧ x < 256 := fun x hx =>
        set_byte (sealed_byte xs hb hl) i v hv x (List.mem_of_mem_drop (List.mem_of_mem_take hx))
      have h1 := be_wd _ hL hB
      rw [wd_take, ← h] at h1
      have h2 : (((sealed xs).drop 4).take 4) = be (Mt.sum (be xs.length ++ xs)) := by rw [drop4_sealed]; simp [be]
      rw [← h2] at h1
      have h3 := congrArg (fun l => l.getD (i - 4) 0) h1
      simp only [List.getD, List.getElem?_take, List.getElem?_drop, List.getElem?_set] at h3
      rw [if_pos (by omega), if_pos (by omega), if_pos (by omega), if_pos (by omega)] at h3
      apply hne
      have h5 : 4 + (i - 4) = i := by omega
      rw [h5] at h3
      simpa [List.getD] using h3.symm
    · -- a byte of the payload
      have d4 : wd (((sealed xs).set i v).drop 4) 4 = Mt.sum (be xs.length ++ xs) := by
        have : wd ((sealed xs).drop 4) 4 = Mt.sum (be xs.length ++ xs) := by rw [drop4_sealed]; exact wd_be _ (sum_lt _) _
        rw [← this]
        apply wd_congr
        intro j hj
        simp only [List.getD, List.getElem?_drop, List.getElem?_set]
        rw [if_neg (by omega)]
      have d8 : ((sealed xs).set i v).drop 8 = xs.set (i - 8) v := by
        rw [List.drop_set, if_neg (by omega), drop8_sealed]
      rw [d4, d8, List.take_of_length_le (by simp)]
      have hj : i - 8 < xs.length := by omega
      have hx : (sealed xs).getD i 0 = xs.getD (i - 8) 0 := by
        have := congrArg (fun l => l.getD (i - 8) 0) (drop8_sealed xs)
        simp only [List.getD, List.getElem?_drop] at this
        rw [show 8 + (i - 8) = i by omega] at this
        simpa [List.getD] using this
      rw [hx] at hne
      rw [set_at _ _ _ hj]
      intro h
      have h0 := split_at xs (i - 8) hj
      have h9 : be xs.length ++ xs = (be xs.length ++ xs.take (i - 8)) ++ xs.getD (i - 8) 0 :: xs.drop (i - 8 + 1) := by
        rw [List.append_assoc, ← h0]
      rw [h9, ← List.append_assoc] at h
      exact Mt.sum_differs _ _ _ _ (by
        intro z hz
        rcases List.mem_append.1 hz with hz | hz
        · exact be_byte _ (by omega) z hz
        · exact hb z (List.mem_of_mem_take hz)) (fun z hz => hb z (List.mem_of_mem_drop hz)) hv (hb _ (Mt.getD_mem _ _ hj)) hne h
  simp only [err, hw]
  rw [if_neg (by simp; omega), if_neg (by omega), if_neg (by simp; omega), if_neg e3]
end Go.Proofs.Ytojkegnflbfloaa
