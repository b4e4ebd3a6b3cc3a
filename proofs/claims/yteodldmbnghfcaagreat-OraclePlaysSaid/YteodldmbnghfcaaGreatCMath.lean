/- Plain facts on numbers as bytes. No Go in sight. -/
import Derived.IntWalk
namespace Go.Proofs.YteodldmbnghfcaaGreat.Vi

/-- A number with its sign in the lowest bit. -/
def zig (n : Int) : Nat := if 0 ≤ n then 2 * n.toNat else 2 * (-n - 1).toNat + 1
/-- Seven bits a byte, the lowest first. -/
def vi (u : Nat) : List Int := if h : u < 128 then [(u : Int)] else ((u % 128 + 128 : Nat) : Int) :: vi (u / 128)
termination_by u
decreasing_by omega
def int (n : Int) : List Int := vi (zig n)

theorem zig_lt (n : Int) (h1 : -9223372036854775808 ≤ n) (h2 : n ≤ 9223372036854775807) : zig n < 18446744073709551616 := by
  unfold zig
  split <;> omega
theorem vi_small (u : Nat) (h : u < 128) : vi u = [(u : Int)] := by rw [vi, dif_pos h]
theorem vi_big (u : Nat) (h : 128 ≤ u) : vi u = ((u % 128 + 128 : Nat) : Int) :: vi (u / 128) := by rw [vi, dif_neg (by omega)]
theorem vi_byte : ∀ (m u : Nat), u ≤ m → ∀ x ∈ vi u, 0 ≤ x ∧ x < 256 := by
  intro m
  induction m with
  | zero =>
    intro u hu x hx
    rw [vi_small u (by omega)] at hx
    simp at hx
    omega
  | succ m ih =>
    intro u hu x hx
    by_cases h : u < 128
    · rw [vi_small u h] at hx
      simp at hx
      omega
    · rw [vi_big u (by omega)] at hx
      rcases List.mem_cons.1 hx with rfl | hx
      · omega
      · exact ih (u / 128) (by omega) x hx
theorem int_byte (n : Int) : ∀ x ∈ int n, 0 ≤ x ∧ x < 256 := vi_byte _ _ (Nat.le_refl _)
theorem vi_length : ∀ (k u : Nat), u < 128 ^ (k + 1) → (vi u).length ≤ k + 1 := by
  intro k
  induction k with
  | zero => intro u h; rw [vi_small u (by simpa using h)]; simp
  | succ k ih =>
    intro u h
    by_cases hu : u < 128
    · rw [vi_small u hu]; simp
    · rw [vi_big u (by omega)]
      have := ih (u / 128) (by rw [Nat.pow_succ] at h; omega)
      simp only [List.length_cons]
      omega
theorem int_length (n : Int) (h1 : -9223372036854775808 ≤ n) (h2 : n ≤ 9223372036854775807) : (int n).length ≤ 10 :=
  vi_length 9 _ (Nat.lt_of_lt_of_le (zig_lt n h1 h2) (by decide))
theorem vi_pos (u : Nat) : 1 ≤ (vi u).length := by
  by_cases h : u < 128
  · rw [vi_small u h]; simp
  · rw [vi_big u (by omega)]; simp
end Go.Proofs.YteodldmbnghfcaaGreat.Vi
