/- Plain facts on numbers and lists: the CRC as a function on naturals. No Go in sight. -/
namespace Go.Proofs.Ytjilhmidgebfbaa.Mt

def step (s : Nat) : Nat := if s % 2 = 1 then (s / 2) ^^^ 2197175160 else s / 2
def steps : Nat → Nat → Nat
  | 0, s => s
  | k + 1, s => step (steps k s)
def stir (s b : Nat) : Nat := steps 8 (s ^^^ b)
def crc (s : Nat) (l : List Int) : Nat := l.foldl (fun s x => stir s x.toNat) s
def sum (l : List Int) : Nat := 4294967295 - crc 4294967295 l

theorem step_lt (s : Nat) (h : s < 4294967296) : step s < 4294967296 := by
  unfold step
  split
  · exact Nat.xor_lt_two_pow (n := 32) (by omega) (by omega)
  · omega
theorem steps_lt (k s : Nat) (h : s < 4294967296) : steps k s < 4294967296 := by
  induction k with
  | zero => exact h
  | succ k ih => exact step_lt _ ih
theorem stir_lt (s b : Nat) (h : s < 4294967296) (hb : b < 256) : stir s b < 4294967296 :=
  steps_lt 8 _ (Nat.xor_lt_two_pow (n := 32) (by omega) (by omega))
theorem crc_lt (l : List Int) : ∀ (s : Nat), s < 4294967296 → (∀ x ∈ l, 0 ≤ x ∧ x < 256) → crc s l < 4294967296 := by
  induction l with
  | nil => intro s h _; exact h
  | cons x l ih =>
    intro s h hx
    refine ih _ (stir_lt _ _ h ?_) (fun y hy => hx y (by simp [hy]))
    have := hx x (by simp)
    omega
theorem crc_append (l m : List Int) (s : Nat) : crc s (l ++ m) = crc (crc s l) m := by simp [crc, List.foldl_append]
theorem crc_snoc (l : List Int) (x : Int) (s : Nat) : crc s (l ++ [x]) = stir (crc s l) x.toNat := by simp [crc, List.foldl_append]
theorem take_snoc (l : List Int) (k : Nat) (h : k < l.length) : l.take (k + 1) = l.take k ++ [l.getD k 0] := by
  rw [List.take_succ_eq_append_getElem h]; simp [List.getD, h]
theorem crc_take (l : List Int) (k s : Nat) (h : k < l.length) : crc s (l.take (k + 1)) = stir (crc s (l.take k)) (l.getD k 0).toNat := by
  rw [take_snoc l k h, crc_snoc]
theorem not32 (s : Nat) (h : s < 4294967296) : 4294967295 ^^^ s = 4294967295 - s := by
  have h1 : (BitVec.allOnes 32 ^^^ BitVec.ofNat 32 s) = ~~~ (BitVec.ofNat 32 s) := BitVec.allOnes_xor
  have h2 := congrArg BitVec.toNat h1
  rw [BitVec.toNat_not, BitVec.toNat_xor, BitVec.toNat_ofNat, BitVec.toNat_allOnes, Nat.mod_eq_of_lt (by omega)] at h2
  exact h2
theorem getD_mem (l : List Int) (i : Nat) (h : i < l.length) : l.getD i 0 ∈ l := by
  simp [List.getD, h]
end Go.Proofs.Ytjilhmidgebfbaa.Mt
