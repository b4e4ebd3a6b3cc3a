/- Plain facts on frames: what is sealed is opened again, and the other way round. -/
import Derived.Test.YtjilhmidgebfbaaWalk6
namespace Go.Proofs.Ytjilhmidgebfbaa.Fr
open Go.RowKit

theorem wd_be (x : Nat) (hx : x < 4294967296) (r : List Int) : wd (be x ++ r) 4 = x := by
  simp [wd, be, List.getD]
  omega
theorem be_length (x : Nat) : (be x).length = 4 := rfl
theorem sum_lt (l : List Int) : Mt.sum l < 4294967296 := by unfold Mt.sum; omega
theorem take_sealed (xs : List Int) : (sealed xs).take 4 = be xs.length := by simp [sealed, be]
theorem drop4_sealed (xs : List Int) : (sealed xs).drop 4 = be (Mt.sum (be xs.length ++ xs)) ++ xs := by simp [sealed, be]
theorem drop8_sealed (xs : List Int) : (sealed xs).drop 8 = xs := by simp [sealed, be]
theorem wd_sealed (xs : List Int) (h : xs.length ≤ 16384) (r : List Int) : wd (sealed xs ++ r) 4 = xs.length := by
  simp only [sealed, List.append_assoc]
  exact wd_be _ (by omega) _
theorem pay_sealed (xs : List Int) (h : xs.length ≤ 16384) (r : List Int) : pay (sealed xs ++ r) = xs := by
  have hl := sealed_length xs
  rw [pay, wd_sealed xs h, List.drop_append_of_le_length (by omega), drop8_sealed]
  simp
theorem err_sealed (xs : List Int) (h : xs.length ≤ 16384) (r : List Int) : err (sealed xs ++ r) = 0 := by
  have hl := sealed_length xs
  have h1 : ¬ (sealed xs ++ r).length < 8 := by simp; omega
  have h2 : ¬ (sealed xs ++ r).length < 8 + xs.length := by simp; omega
  have h3 : ((sealed xs ++ r).drop 0).take 4 = be xs.length := by
    rw [List.drop_zero, List.take_append_of_le_length (by omega), take_sealed]
  have h4 : wd ((sealed xs ++ r).drop 4) 4 = Mt.sum (be xs.length ++ xs) := by
    rw [List.drop_append_of_le_length (by omega), drop4_sealed, List.append_assoc]
    exact wd_be _ (sum_lt _) _
  simp only [err, wd_sealed xs h]
  rw [if_neg h1, if_neg (by omega), if_neg h2, h3, h4, pay_sealed xs h, if_pos rfl]
theorem nine : Mt.sum [49, 50, 51, 52, 53, 54, 55, 56, 57] = 3808858755 := by decide +kernel
end Go.Proofs.Ytjilhmidgebfbaa.Fr
