/- A turned bit turns the sum: the CRC's step takes no two states to one. Plain facts: the CRC bit by bit (porterref01.Sum) and byte by byte (frame.Sum). The walks of porterref01.bit and porterref01.Sum. The walks of porterref01.Number, Seal, Open and Cut. The walk of porterref01.Open. -/
import Derived.Test.YteodldmbnghfcaaGreatFacts
import Derived.Deep.QuietTactic
import Derived.BigQuiet
import Derived.IntWalk
import Derived.Laws.Tables
import Derived.Deep.WholeRow
import Derived.Lib.SlBytesRow
import Derived.Deep.RegionHeld3
namespace Go.Proofs.YteodldmbnghfcaaGreat.Mt

theorem xor_left {a b c : Nat} (h : a ^^^ c = b ^^^ c) : a = b := by
  have := congrArg (· ^^^ c) h
  simpa [Nat.xor_assoc] using this
theorem xor_right {a b c : Nat} (h : c ^^^ a = c ^^^ b) : a = b := by
  rw [Nat.xor_comm c a, Nat.xor_comm c b] at h
  exact xor_left h
theorem step_inj {s t : Nat} (hs : s < 4294967296) (ht : t < 4294967296) (h : step s = step t) : s = t := by
  have big : ∀ a, a < 2147483648 → Nat.testBit (a ^^^ 2197175160) 31 = true := by
    intro a ha
    rw [Nat.testBit_xor, Nat.testBit_lt_two_pow (show a < 2 ^ 31 by omega)]
    decide
  have small : ∀ a, a < 2147483648 → Nat.testBit a 31 = false := fun a ha => Nat.testBit_lt_two_pow (show a < 2 ^ 31 by omega)
  unfold step at h
  split at h <;> split at h
  · have := xor_left h
    omega
  · have h1 := big (s / 2) (by omega)
    rw [h, small (t / 2) (by omega)] at h1
    cases h1
  · have h1 := big (t / 2) (by omega)
    rw [← h, small (s / 2) (by omega)] at h1
    cases h1
  · omega
theorem steps_inj {k s t : Nat} (hs : s < 4294967296) (ht : t < 4294967296) (h : steps k s = steps k t) : s = t := by
  induction k with
  | zero => exact h
  | succ k ih => exact ih (step_inj (steps_lt k s hs) (steps_lt k t ht) h)
theorem xor_lt32 {a b : Nat} (ha : a < 4294967296) (hb : b < 256) : a ^^^ b < 4294967296 := Nat.xor_lt_two_pow (n := 32) (by omega) (by omega)
theorem stir_inj_state {s t b : Nat} (hs : s < 4294967296) (ht : t < 4294967296) (hb : b < 256) (h : stir s b = stir t b) : s = t :=
  xor_left (steps_inj (xor_lt32 hs hb) (xor_lt32 ht hb) h)
theorem stir_inj_byte {s b c : Nat} (hs : s < 4294967296) (hb : b < 256) (hc : c < 256) (h : stir s b = stir s c) : b = c :=
  xor_right (steps_inj (xor_lt32 hs hb) (xor_lt32 hs hc) h)
theorem crc_inj (l : List Int) : ∀ {s t : Nat}, s < 4294967296 → t < 4294967296 → (∀ x ∈ l, 0 ≤ x ∧ x < 256) → crc s l = crc t l → s = t := by
  induction l with
  | nil => intro s t _ _ _ h; exact h
  | cons x l ih =>
    intro s t hs ht hx h
    have hx0 := hx x (by simp)
    have h' : crc (stir s x.toNat) l = crc (stir t x.toNat) l := h
    have := ih (stir_lt _ _ hs (by omega)) (stir_lt _ _ ht (by omega)) (fun y hy => hx y (by simp [hy])) h'
    exact stir_inj_state hs ht (by omega) this
theorem sum_differs (p q : List Int) (x y : Int) (hp : ∀ z ∈ p, 0 ≤ z ∧ z < 256) (hq : ∀ z ∈ q, 0 ≤ z ∧ z < 256) (hx : 0 ≤ x ∧ x < 256) (hy : 0 ≤ y ∧ y < 256) (hne : x ≠ y) :
    sum (p ++ x :: q) ≠ sum (p ++ y :: q) := by
  intro h
  have hs := crc_lt p 4294967295 (by omega) hp
  have l1 := stir_lt _ x.toNat hs (by omega)
  have l2 := stir_lt _ y.toNat hs (by omega)
  have c1 : crc 4294967295 (p ++ x :: q) = crc (stir (crc 4294967295 p) x.toNat) q := by rw [crc_append]; rfl
  have c2 : crc 4294967295 (p ++ y :: q) = crc (stir (crc 4294967295 p) y.toNat) q := by rw [crc_append]; rfl
  have b1 := crc_lt q _ l1 hq
  have b2 := crc_lt q _ l2 hq
  unfold sum at h
  rw [c1, c2] at h
  have h2 := crc_inj q l1 l2 hq (by omega)
  have h3 := stir_inj_byte hs (by omega) (by omega) h2
  omega
end Go.Proofs.YteodldmbnghfcaaGreat.Mt
namespace Go.Proofs.YteodldmbnghfcaaGreat.Fr
open Go.RowKit

theorem split_at (xs : List Int) (i : Nat) (h : i < xs.length) : xs = xs.take i ++ xs.getD i 0 :: xs.drop (i + 1) := by
  have : xs.drop i = xs.getD i 0 :: xs.drop (i + 1) := by
    rw [List.drop_eq_getElem_cons h]
    simp [List.getD, h]
  rw [← this, List.take_append_drop]
theorem set_at (xs : List Int) (i : Nat) (v : Int) (h : i < xs.length) : xs.set i v = xs.take i ++ v :: xs.drop (i + 1) := by
  rw [List.set_eq_take_append_cons_drop, if_pos h]
theorem set_byte {xs : List Int} (hb : ∀ x ∈ xs, 0 ≤ x ∧ x < 256) (i : Nat) (v : Int) (hv : 0 ≤ v ∧ v < 256) : ∀ x ∈ xs.set i v, 0 ≤ x ∧ x < 256 := by
  intro x hx
  rcases List.mem_or_eq_of_mem_set hx with h | h
  · exact hb x h
  · rw [h]; exact hv

theorem wd_congr {l m : List Int} (h : ∀ i, i < 4 → l.getD i 0 = m.getD i 0) : wd l 4 = wd m 4 := by
  simp only [wd, h 0 (by omega), h 1 (by omega), h 2 (by omega), h 3 (by omega)]
end Go.Proofs.YteodldmbnghfcaaGreat.Fr

namespace Go.Proofs.YteodldmbnghfcaaGreat.Mt

/-- One bit taken in. -/
def bitstep (s b : Nat) : Nat := if (s % 2 + b) % 2 = 1 then (s / 2) ^^^ 2197175160 else s / 2
/-- The first k bits of a byte taken in, the lowest first. -/
def bitsteps (s y : Nat) : Nat → Nat
  | 0 => s
  | k + 1 => bitstep (bitsteps s y k) (y / 2 ^ k % 2)

theorem xor_half (a b : Nat) : (a ^^^ b) / 2 = a / 2 ^^^ b / 2 := by
  apply Nat.eq_of_testBit_eq
  intro i
  simp [Nat.testBit_div_two, Nat.testBit_xor]
theorem xor_low (a b : Nat) : (a ^^^ b) % 2 = (a % 2 + b % 2) % 2 := by
  have h0 : ∀ x : Nat, x % 2 = (x.testBit 0).toNat := by
    intro x
    rw [Nat.testBit_zero]
    rcases Nat.mod_two_eq_zero_or_one x with h | h <;> simp [h]
  rw [h0 (a ^^^ b), Nat.testBit_xor, h0 a, h0 b]
  cases a.testBit 0 <;> cases b.testBit 0 <;> rfl
theorem steps_bits (s y : Nat) : ∀ k, steps k (s ^^^ y) = bitsteps s y k ^^^ (y / 2 ^ k) := by
  intro k
  induction k with
  | zero => simp [steps, bitsteps]
  | succ k ih =>
    have e : y / 2 ^ (k + 1) = y / 2 ^ k / 2 := by rw [Nat.pow_succ, Nat.div_div_eq_div_mul]
    rw [steps, ih, bitsteps, step, bitstep, xor_low, xor_half, e]
    rw [show (bitsteps s y k % 2 + y / 2 ^ k % 2) % 2 = (bitsteps s y k % 2 + y / 2 ^ k % 2 % 2) % 2 by omega]
    split
    · rw [Nat.xor_assoc, Nat.xor_assoc, Nat.xor_comm (y / 2 ^ k / 2)]
    · rfl
theorem bits_stir (s y : Nat) (hy : y < 256) : bitsteps s y 8 = stir s y := by
  have := steps_bits s y 8
  rw [show y / 2 ^ 8 = 0 by omega, Nat.xor_zero] at this
  exact this.symm
theorem bitstep_lt (s b : Nat) (h : s < 4294967296) : bitstep s b < 4294967296 := by
  unfold bitstep
  split
  · exact Nat.xor_lt_two_pow (n := 32) (by omega) (by omega)
  · omega

/-- The state when i bits have been taken in. -/
def fed (l : List Int) : Nat → Nat
  | 0 => 4294967295
  | i + 1 => bitstep (fed l i) ((l.getD (i / 8) 0).toNat / 2 ^ (i % 8) % 2)
theorem fed_lt (l : List Int) : ∀ i, fed l i < 4294967296
  | 0 => by simp [fed]
  | i + 1 => bitstep_lt _ _ (fed_lt l i)
theorem fed_bits (l : List Int) (j : Nat) : ∀ k, k ≤ 8 → fed l (8 * j + k) = bitsteps (fed l (8 * j)) (l.getD j 0).toNat k := by
  intro k
  induction k with
  | zero => intro _; rfl
  | succ k ih =>
    intro hk
    rw [← Nat.add_assoc, fed, ih (by omega), bitsteps, show (8 * j + k) / 8 = j by omega, show (8 * j + k) % 8 = k by omega]
theorem fed_crc (l : List Int) (hb : ∀ x ∈ l, 0 ≤ x ∧ x < 256) : ∀ j, j ≤ l.length → fed l (8 * j) = crc 4294967295 (l.take j) := by
  intro j
  induction j with
  | zero => intro _; simp [fed, crc]
  | succ j ih =>
    intro hj
    have hx := hb _ (getD_mem l j (by omega))
    rw [show 8 * (j + 1) = 8 * j + 8 by omega, fed_bits l j 8 (by omega), bits_stir _ _ (by omega), ih (by omega), crc_take l j _ (by omega)]
theorem fed_all (l : List Int) (hb : ∀ x ∈ l, 0 ≤ x ∧ x < 256) : 4294967295 - fed l (8 * l.length) = sum l := by
  rw [fed_crc l hb _ (Nat.le_refl _), List.take_of_length_le (Nat.le_refl _), sum]

/-- Bit k of a state. -/
def bitOf (s k : Nat) : Nat := s / 2 ^ k % 2
theorem bitOf_xor (a b k : Nat) : bitOf (a ^^^ b) k = (bitOf a k + bitOf b k) % 2 := by
  have h0 : ∀ x : Nat, bitOf x k = (x.testBit k).toNat := by
    intro x
    rw [Nat.testBit_eq_decide_div_mod_eq, bitOf]
    rcases Nat.mod_two_eq_zero_or_one (x / 2 ^ k) with h | h <;> simp [h]
  rw [h0, h0, h0, Nat.testBit_xor]
  cases a.testBit k <;> cases b.testBit k <;> rfl
theorem bitOf_half (s k : Nat) : bitOf (s / 2) k = bitOf s (k + 1) := by
  unfold bitOf
  rw [Nat.div_div_eq_div_mul, ← Nat.pow_succ']
theorem bitOf_top (s k : Nat) (h : s < 4294967296) (hk : 32 ≤ k) : bitOf s k = 0 := by
  unfold bitOf
  have : (2 : Nat) ^ 32 ≤ 2 ^ k := Nat.pow_le_pow_right (by omega) hk
  rw [Nat.div_eq_of_lt (by omega)]
theorem bitOf_step (s b k : Nat) : bitOf (bitstep s b) k = (bitOf s (k + 1) + (s % 2 + b) % 2 * bitOf 2197175160 k) % 2 := by
  unfold bitstep
  have h1 : bitOf s (k + 1) % 2 = bitOf s (k + 1) := by unfold bitOf; omega
  split <;> rename_i h
  · rw [bitOf_xor, bitOf_half, h, Nat.one_mul]
  · rw [bitOf_half, show (s % 2 + b) % 2 = 0 by omega, Nat.zero_mul]; omega
end Go.Proofs.YteodldmbnghfcaaGreat.Mt

namespace Go.Proofs.YteodldmbnghfcaaGreat.Fr
open Go.RowKit

theorem bit_num (y k : Nat) (hy : y < 256) : (wrap64 ((y : Int) / 2 ^ k)).tmod 2 = ((y / 2 ^ k % 2 : Nat) : Int) := by
  have e : ((y : Int) / 2 ^ k) = ((y / 2 ^ k : Nat) : Int) := by rw [Int.natCast_ediv]; simp
  have hl : y / 2 ^ k ≤ y := Nat.div_le_self _ _
  rw [e]
  generalize y / 2 ^ k = z at *
  rw [IntWalk.wrap64_in _ (by omega), IntWalk.rem_in _ _ (by omega)]
  omega

set_option maxRecDepth 100000 in
set_option maxHeartbeats 1000000 in
theorem bit_any (s : ByteArray) (i : Nat) (w : World) (hi : i / 8 < s.size) (hs : s.size ≤ 140737488355328) :
    Calls Tryz.prog 68 #[.string s, .int .i64 i] w fun e w' => e = .returned (.int .i64 ((s[i / 8].toNat / 2 ^ (i % 8) % 2 : Nat))) ∧ w = w' := by
  have hy : s[i / 8].toNat < 256 := UInt8.toNat_lt _
  go_enter Tryz.func68, Tryz.ntmps68
  go_wp2
  go_ret
  exact ⟨by rw [← bit_num _ _ hy]; rfl, rfl⟩

def bitsOf (s : Nat) : List Value := (List.range 32).map fun k => .int .i64 ((Mt.bitOf s k : Nat))
theorem Tryz.infoI : (Tryz.prog.info? 3).map (fun i => (i.zero, i.size, i.bytes)) = some (some (.int .i64 0), 1, 8) := by kernel_rfl

/-- The powers' places, as the text lays them. -/
def PW : Array Value := #[.int .i64 0, .int .i64 0, .int .i64 0, .int .i64 1, .int .i64 1, .int .i64 1, .int .i64 1, .int .i64 0, .int .i64 1, .int .i64 1, .int .i64 0, .int .i64 1, .int .i64 1, .int .i64 1, .int .i64 0, .int .i64 0, .int .i64 0, .int .i64 1, .int .i64 1, .int .i64 0, .int .i64 1, .int .i64 1, .int .i64 1, .int .i64 1, .int .i64 0, .int .i64 1, .int .i64 0, .int .i64 0, .int .i64 0, .int .i64 0, .int .i64 0, .int .i64 1]
theorem PW_list : PW.toList = (List.range 32).map fun k => (Value.int .i64 ((Mt.bitOf 2197175160 k : Nat))) := by kernel_rfl
theorem PW_at (k : Nat) (hk : k < 32) : PW[k]? = some (.int .i64 ((Mt.bitOf 2197175160 k : Nat))) := by
  rw [← Array.getElem?_toList, PW_list]
  simp [hk]

theorem wpList_build_as {P : Program} {ops : Array Oper} {rest : List Oper} {o : Oper} {a : Act} {w : World} {Q : Exit → Act → World → Prop} (hg : o.guard = none) (t : TypeId) (parts : Array (Nat × Operand)) (ho : o.op = .build t parts)
    (cells : Array Value) (hf : P.built t (parts.map fun (i, x) => (i, a.eval x)).toList = some cells)
    (h : wpList P ops Q rest (a.put o.dst (.agg cells)) w) : wpList P ops Q (o :: rest) a w := by
  refine wpList_build hg t parts ho (by rw [hf]; rfl) ?_
  rw [hf]
  exact h

theorem str_at (xs : List Int) (j : Nat) (h : j < (strOfNums xs).size) : (strOfNums xs)[j].toNat = (xs.getD j 0).toNat % 256 := by
  have hl : j < xs.length := by rwa [strOfNums_size] at h
  have := byte_at' (strOfNums xs) j h (by rw [strOfNums_data]; simpa using hl)
  rw [← this]
  simp [strOfNums_data, List.getD, hl]
def inBit (xs : List Int) (i : Nat) : Nat := (xs.getD (i / 8) 0).toNat / 2 ^ (i % 8) % 2
set_option maxRecDepth 100000 in
theorem bit_str (s : ByteArray) (xs : List Int) (hs : s = strOfNums xs) (hb : ∀ x ∈ xs, 0 ≤ x ∧ x < 256) (hn : xs.length ≤ 140737488355328) (i : Nat) (w : World) (hi : i / 8 < xs.length) :
    Calls Tryz.prog 68 #[.string s, .int .i64 i] w fun e w' => e = .returned (.int .i64 ((inBit xs i : Nat))) ∧ w = w' := by
  subst hs
  have h1 : i / 8 < (strOfNums xs).size := by rw [strOfNums_size]; exact hi
  have h2 := bit_any (strOfNums xs) i w h1 (by rw [strOfNums_size]; exact hn)
  have hb2 := hb _ (Mt.getD_mem xs (i / 8) hi)
  have h3 : (strOfNums xs)[i / 8].toNat = (xs.getD (i / 8) 0).toNat := by
    rw [str_at xs (i / 8) h1]
    omega
  rw [h3] at h2
  exact h2

/-- The first k cells are 1, the others 0. -/
def ones (k : Nat) : List Value := List.replicate k (.int .i64 1) ++ List.replicate (32 - k) (.int .i64 0)
theorem ones_set (k : Nat) (hk : k < 32) : (ones k).set k (.int .i64 1) = ones (k + 1) := by
  unfold ones
  rw [List.set_append_right _ _ (by simp), show 32 - k = (32 - (k + 1)) + 1 by omega, List.replicate_succ' (n := k), List.replicate_succ (n := 32 - (k + 1))]
  simp
theorem ones_all : ones 32 = bitsOf 4294967295 := by kernel_rfl
theorem bitsOf_at (s k : Nat) (hk : k < 32) : (bitsOf s)[k]? = some (.int .i64 ((Mt.bitOf s k : Nat))) := by simp [bitsOf, hk]
theorem bitsOf_ext (s : Nat) (l : List Value) (hl : l.length = 32) (h : ∀ j, j < 32 → l[j]? = some (.int .i64 ((Mt.bitOf s j : Nat)))) : l = bitsOf s := by
  apply List.ext_getElem?
  intro j
  rcases Nat.lt_or_ge j 32 with hj | hj
  · rw [h j hj, bitsOf_at s j hj]
  · rw [List.getElem?_eq_none (by omega), List.getElem?_eq_none (by simp [bitsOf]; omega)]
theorem owns_other {w : World} {base n : Nat} {e : TypeId} {g cap : Nat} {xs : List Value} (h : w.ownsRow base e 1 (.slice (some ⟨g, 0, none⟩) n cap) n xs) (a : Addr) (ha : a.block ≠ g) (u : Value) : (w.setCell a u).ownsRow base e 1 (.slice (some ⟨g, 0, none⟩) n cap) n xs := by
  obtain ⟨h1, h2⟩ := h
  refine ⟨h1, ?_⟩
  rcases h2 with ⟨h2, _⟩ | ⟨g', cap', cur, hv, hg, hh, r⟩
  · cases h2
  · injection hv with e1 e2 e3
    injection e1 with e1
    injection e1 with e1
    subst e1
    exact .inr ⟨g, cap', cur, by rw [e3], hg, by rw [Below.heap_setCell _ _ _ _ (by omega)]; exact hh, r⟩

theorem inner_rel {w0 wr : World} {B A N k st nx : Nat} {l' : List Value} {v : Int} (hAN : A ≠ N) (hk : k < 32)
    (hA : wr.ownsRow B 3 1 (.slice (some ⟨A, 0, none⟩) 32 32) 32 (bitsOf st)) (hN : wr.ownsRow B 3 1 (.slice (some ⟨N, 0, none⟩) 32 32) 32 l')
    (hl : ∀ j, j < k → l'[j]? = some (.int .i64 ((Mt.bitOf nx j : Nat)))) (hb : Below B w0 wr) (hv : v = ((Mt.bitOf nx k : Nat) : Int)) :
    (wr.setCell ⟨N, k, none⟩ (.int .i64 v)).ownsRow B 3 1 (.slice (some ⟨A, 0, none⟩) 32 32) 32 (bitsOf st) ∧
    (∃ l2 : List Value, (wr.setCell ⟨N, k, none⟩ (.int .i64 v)).ownsRow B 3 1 (.slice (some ⟨N, 0, none⟩) 32 32) 32 l2 ∧ ∀ j, j < k + 1 → l2[j]? = some (.int .i64 ((Mt.bitOf nx j : Nat)))) ∧
    Below B w0 (wr.setCell ⟨N, k, none⟩ (.int .i64 v)) := by
  have hlen : l'.length = 32 := by simpa using hN.1
  refine ⟨owns_other hA ⟨N, k, none⟩ (fun h => hAN h.symm) _, ⟨_, (hN.stored k (.int .i64 v)).1, fun j hj => ?_⟩, hb.setCell (p := ⟨N, k, none⟩) (hN.lt N rfl).1 _⟩
  rw [List.getElem?_set]
  by_cases h : k = j
  · subst h
    rw [if_pos rfl, if_pos (by omega), hv]
  · rw [if_neg h]
    exact hl j (by omega)

/-- The sum of the first k places that are 0. -/
def outTo (s k : Nat) : Nat := 2 ^ k - 1 - s % 2 ^ k
theorem outTo_succ (s k : Nat) : outTo s (k + 1) = outTo s k + (1 - Mt.bitOf s k) * 2 ^ k := by
  have hp : 0 < 2 ^ k := Nat.two_pow_pos _
  have hl : s % 2 ^ k < 2 ^ k := Nat.mod_lt _ hp
  have h1 : s % 2 ^ (k + 1) = s % 2 ^ k + 2 ^ k * (s / 2 ^ k % 2) := Nat.mod_pow_succ
  unfold outTo Mt.bitOf
  rw [h1, Nat.pow_succ]
  rcases Nat.mod_two_eq_zero_or_one (s / 2 ^ k) with h | h
  · rw [h]
    omega
  · rw [h]
    omega
theorem outTo_lt (s k : Nat) (hk : k ≤ 32) : outTo s k < 4294967296 := by
  have : 2 ^ k ≤ 2 ^ 32 := Nat.pow_le_pow_right (by omega) hk
  unfold outTo
  omega
theorem outTo_all (s : Nat) (h : s < 4294967296) : outTo s 32 = 4294967295 - s := by
  unfold outTo
  rw [Nat.mod_eq_of_lt (by omega)]

set_option maxRecDepth 100000 in
set_option maxHeartbeats 8000000 in
theorem refsum_any (s : ByteArray) (xs : List Int) (w : World) (hs : s = strOfNums xs) (hb : ∀ x ∈ xs, 0 ≤ x ∧ x < 256) (hn : xs.length ≤ 140737488355328) :
    Calls Tryz.prog 57 #[.string s] w fun e w' => e = .returned (.int .u32 (Mt.sum xs : Nat)) ∧ Below w.heap.size w w' := by
  obtain ⟨i0, hi, hz0, hz1, hz2⟩ := info_parts Tryz.infoI
  go_enter Tryz.func57, Tryz.ntmps57
  have hst := run_storeCells_new (P := Tryz.prog) w 143 #[.int .i64 0, .int .i64 0, .int .i64 0, .int .i64 0, .int .i64 0, .int .i64 0, .int .i64 0, .int .i64 0, .int .i64 0, .int .i64 0, .int .i64 0, .int .i64 0, .int .i64 0, .int .i64 0, .int .i64 0, .int .i64 0, .int .i64 0, .int .i64 0, .int .i64 0, .int .i64 0, .int .i64 0, .int .i64 0, .int .i64 0, .int .i64 0, .int .i64 0, .int .i64 0, .int .i64 0, .int .i64 0, .int .i64 0, .int .i64 0, .int .i64 0, .int .i64 0] PW (by kernel_rfl) rfl (by kernel_rfl)
  have HS := Lib.hid hs
  have HB := Lib.hid hb
  clear hs hb
  obtain ⟨w0, hw0⟩ : ∃ w0, w0 = w.alloc (.cells PW 143) := ⟨_, rfl⟩
  have s0 : w0.heap.size = w.heap.size + 1 := by rw [hw0]; simp
  have hpw : ∀ wr, Below (w.heap.size + 1) w0 wr → ∀ k, k < 32 → wr.cell? ⟨w.heap.size, k, none⟩ = some (.int .i64 ((Mt.bitOf 2197175160 k : Nat))) := by
    intro wr hb k hk
    rw [hb.cell (p := ⟨w.heap.size, k, none⟩) (by simp), hw0, World.cell?_alloc_mark, PW_at k hk]
  have hbel0 : Below w.heap.size w w0 := by rw [hw0]; exact (Below.refl _ _).alloc (Nat.le_refl _) _
  have HPW := Lib.hid hpw
  have HBEL := Lib.hid hbel0
  have HS0 := Lib.hid s0
  have HW0 := Lib.hid hw0
  clear hpw hbel0 s0 hw0
  go_wp2_with (first
    | (with_reducible refine wpList_build_as rfl 143 _ rfl PW (by kernel_rfl) ?_)
    | (at_make; rw [← HW0.out]; refine wpList_make_full _ rfl _ _ 38 rfl (w.heap.size + 1) 3 i0 (.int .i64 0) 1 Tryz.underlying38 hi hz0 hz1 .i64 .i64 32 32 32 rfl rfl rfl rfl (by rw [hz2]; decide) (by simp [maxLen]) (by rw [HS0.out]; exact Nat.le_refl _) ?_; intro w1 hown1 hgrow1))
  have hB1 : Below (w.heap.size + 1) w0 w1 := (Below.refl _ _).grown hgrow1 (by rw [HS0.out]; exact Nat.le_refl _) (by intro k hk; cases hk)
  have e0 : (madeCells (Value.int .i64 0).cells (32 * 1)).toList = ones 0 := (toList_madeCells_one (.int .i64 0) 32).trans (by simp [ones])
  rw [e0] at hown1
  clear e0 hst
  generalize hA0 : w0.heap.size = A0 at *
  go_loopw [5] (fun v wr => ∃ k : Nat, k ≤ 32 ∧ v = .int .i64 k ∧ wr.ownsRow (w.heap.size + 1) 3 1 (.slice (some ⟨A0, 0, none⟩) 32 32) 32 (ones k) ∧ Below (w.heap.size + 1) w0 wr)
    (fun v _ => 32 - (intOf v).toNat)
  case atStart => exact ⟨0, by omega, rfl, hown1, hB1⟩
  case round =>
    obtain ⟨k, hk, rfl, hown, hbel⟩ := hrel
    clear hown1 hB1
    by_cases hk2 : k < 32
    · have hfr := hown.frozenAt k
      have hcell : wr.cell? ⟨A0, k, none⟩ = (ones k)[k]? := hown.cellAt k (by omega)
      have hz : (ones k)[k]? = some (.int .i64 0) := by
        unfold ones
        rw [List.getElem?_append_right (by simp)]
        rw [List.length_replicate, Nat.sub_self, List.getElem?_replicate, if_pos (by omega)]
      rw [hz] at hcell
      have hnew := (hown.stored k (.int .i64 1)).1
      rw [ones_set k hk2] at hnew
      have hbnew := hbel.setCell (p := ⟨A0, k, none⟩) (hown.lt A0 rfl).1 (.int .i64 1)
      have HN := Lib.hid hnew
      have HBN := Lib.hid hbnew
      clear hown hbel hz hnew hbnew
      go_wp2
      go_roundw
      case rel => exact ⟨k + 1, by omega, by go_num, HN.out, HBN.out⟩
      case measure => simp [intOf]; omega
    · obtain rfl : k = 32 := by omega
      rw [ones_all] at hown
      have hsz : w.heap.size + 1 ≤ wr.heap.size := by rw [← HS0.out]; have := hbel.size; omega
      go_wp2_with (at_make; refine wpList_make_full _ rfl _ _ 38 rfl (w.heap.size + 1) 3 i0 (.int .i64 0) 1 Tryz.underlying38 hi hz0 hz1 .i64 .i64 32 32 32 rfl rfl rfl rfl (by rw [hz2]; decide) (by simp [maxLen]) hsz ?_; intro w2 hown2 hgrow2)
      have hA := hown.kept hgrow2 (.inr (by simp [Value.ownBlock]))
      have hbel2 := hbel.grown hgrow2 hsz (by intro q hq; cases hq)
      have hAN : A0 ≠ wr.heap.size := by have := (hown.lt A0 rfl).2; omega
      generalize (madeCells (Value.int .i64 0).cells (32 * 1)).toList = l0 at *
      generalize hN0 : wr.heap.size = N0 at *
      clear hown hbel hgrow2 hsz hgrow1 hk hk2
      have hfed : Mt.fed xs 0 = 4294967295 := rfl
      rw [← hfed] at hA
      clear hfed
      go_wp2_with fail
      go_loopw [4, 6, 7] (fun v4 v6 v7 wr => ∃ (A N i : Nat) (l : List Value), i ≤ 8 * xs.length ∧ v7 = .int .i64 i ∧ A ≠ N ∧ v4 = .slice (some ⟨A, 0, none⟩) 32 32 ∧ v6 = .slice (some ⟨N, 0, none⟩) 32 32 ∧
          wr.ownsRow (w.heap.size + 1) 3 1 (.slice (some ⟨A, 0, none⟩) 32 32) 32 (bitsOf (Mt.fed xs i)) ∧ wr.ownsRow (w.heap.size + 1) 3 1 (.slice (some ⟨N, 0, none⟩) 32 32) 32 l ∧ Below (w.heap.size + 1) w0 wr)
        (fun _ _ v7 _ => 8 * xs.length - (intOf v7).toNat)
      case atStart => exact ⟨A0, N0, 0, l0, by omega, rfl, hAN, rfl, rfl, hA, hown2, hbel2⟩
      case round =>
        clear hA hown2 hbel2 hAN
        obtain ⟨A, N, i, l, hi8, rfl, hAN, rfl, rfl, hA, hN, hbel⟩ := hrel
        have hlen : s.size = xs.length := by rw [HS.out, strOfNums_size]
        by_cases hlt : i < 8 * xs.length
        · have hlt' : (i : Int) < (s.size : Int) * 8 := by omega
          have hsl : s.size ≤ 140737488355328 := by omega
          have hbit : ∀ w, Calls Tryz.prog 68 #[.string s, .int .i64 i] w fun e w' => e = .returned (.int .i64 ((inBit xs i : Nat))) ∧ w' = w :=
            fun w => (bit_str s xs HS.out HB.out hn i w (by omega)).mono fun _ _ ⟨h1, h2⟩ => ⟨h1, h2.symm⟩
          have HBIT := Lib.hid hbit
          have hc0 : wr.cell? ⟨A, 0, none⟩ = some (.int .i64 ((Mt.bitOf (Mt.fed xs i) 0 : Nat))) := (hA.cellAt 0 (by omega)).trans (bitsOf_at _ 0 (by omega))
          have hst : Mt.fed xs (i + 1) = Mt.bitstep (Mt.fed xs i) (inBit xs i) := rfl
          have HST := Lib.hid hst
          have hb1 : Mt.bitOf (Mt.fed xs i) 0 ≤ 1 := by unfold Mt.bitOf; omega
          have hb2 : inBit xs i ≤ 1 := by unfold inBit; omega
          generalize hst1 : Mt.fed xs i = st at *
          generalize hbv : inBit xs i = bv at *
          generalize ha0 : Mt.bitOf st 0 = a0 at *
          have HA := Lib.hid hA
          have HN := Lib.hid hN
          have HBL := Lib.hid hbel
          clear hA hN hbel hbit hst hlen
          have HA0' := Lib.hid ha0
          have HST1 := Lib.hid hst1
          have HBV := Lib.hid hbv
          clear ha0 hst1 hbv
          have q1 : IntKind.i64.wrap ((a0 : Int) + bv) = (a0 : Int) + bv := IntWalk.i64_in _ (by omega)
          have q2 : ((a0 : Int) + bv).tmod 2 = (((a0 + bv) % 2 : Nat) : Int) := by rw [IntWalk.rem_in _ _ (by omega)]; omega
          go_wp2_with fail
          go_quiet ((go_at_call 68; refine Calls.quiet_of_same (HBIT.out _)))
          have hz1 : 0 ≤ ((a0 : Int) + bv) % 2 ∧ ((a0 : Int) + bv) % 2 ≤ 1 := by omega
          have hz2' : ((a0 : Int) + bv) % 2 = (((a0 + bv) % 2 : Nat) : Int) := by omega
          have HZ2 := Lib.hid hz2'
          clear q1 q2 hz2'
          go_wp2_with fail
          have hA2 : (wr.drewN nq).ownsRow (w.heap.size + 1) 3 1 (.slice (some ⟨A, 0, none⟩) 32 32) 32 (bitsOf st) := HA.out
          have hN2 : (wr.drewN nq).ownsRow (w.heap.size + 1) 3 1 (.slice (some ⟨N, 0, none⟩) 32 32) 32 l := HN.out
          have hb2' : Below (w.heap.size + 1) w0 (wr.drewN nq) := HBL.out.trans ⟨rfl, rfl, rfl, Nat.le_refl _, fun _ _ => rfl⟩
          generalize wr.drewN nq = wq at *
          generalize ((a0 : Int) + bv) % 2 = z at *
          clear hc0 HBIT
          go_loopw [9] (fun v wr => ∃ k : Nat, k ≤ 32 ∧ v = .int .i64 k ∧ wr.ownsRow (w.heap.size + 1) 3 1 (.slice (some ⟨A, 0, none⟩) 32 32) 32 (bitsOf st) ∧
              (∃ l' : List Value, wr.ownsRow (w.heap.size + 1) 3 1 (.slice (some ⟨N, 0, none⟩) 32 32) 32 l' ∧ ∀ j, j < k → l'[j]? = some (.int .i64 ((Mt.bitOf (Mt.fed xs (i + 1)) j : Nat)))) ∧ Below (w.heap.size + 1) w0 wr)
            (fun v _ => 32 - (intOf v).toNat)
          case atStart => exact ⟨0, by omega, rfl, hA2, ⟨l, hN2, fun j hj => absurd hj (by omega)⟩, hb2'⟩
          case round =>
            clear hA2 hN2 hb2'
            obtain ⟨k, hk, rfl, hA3, ⟨l', hN3, hl'⟩, hb3⟩ := hrel
            by_cases hk2 : k < 32
            · have hcp := HPW.out wr hb3 k hk2
              have hfr := hN3.frozenAt k
              have hlen' : l'.length = 32 := by simpa using hN3.1
              obtain ⟨v0, hv0⟩ : ∃ v0, l'[k]? = some v0 := ⟨l'[k], by simp [hlen', hk2]⟩
              have hcn : wr.cell? ⟨N, k, none⟩ = some v0 := (hN3.cellAt k (by omega)).trans hv0
              have hx1 : Mt.bitOf st (k + 1) ≤ 1 := by unfold Mt.bitOf; omega
              have hp1 : Mt.bitOf 2197175160 k ≤ 1 := by unfold Mt.bitOf; omega
              have hmath : Mt.bitOf (Mt.fed xs (i + 1)) k = (Mt.bitOf st (k + 1) + (a0 + bv) % 2 * Mt.bitOf 2197175160 k) % 2 := by
                rw [HST.out, Mt.bitOf_step, ← HA0'.out]
                unfold Mt.bitOf
                simp
              have htop : k = 31 → Mt.bitOf st (k + 1) = 0 := by
                rintro rfl
                exact Mt.bitOf_top st 32 (by rw [← HST1.out]; exact Mt.fed_lt _ _) (by omega)
              have HM := Lib.hid hmath
              have HL' := Lib.hid hl'
              have HA3 := Lib.hid hA3
              have HN3 := Lib.hid hN3
              have HB3 := Lib.hid hb3
              have hgN := (hN3.lt N rfl).1
              have HV0 := Lib.hid hv0
              have HTOP := Lib.hid htop
              have HLEN := Lib.hid hlen'
              have hcx : k < 31 → wr.cell? ⟨A, k + 1, none⟩ = some (.int .i64 ((Mt.bitOf st (k + 1) : Nat))) := fun h => (hA3.cellAt (k + 1) (by omega)).trans (bitsOf_at _ (k + 1) (by omega))
              clear hmath hl' hA3 hN3 hb3 hv0 htop hlen'
              generalize hxv : Mt.bitOf st (k + 1) = x at *
              generalize hpv : Mt.bitOf 2197175160 k = p at *
              clear hxv hpv
              by_cases hk3 : k < 31
              · have hcx' := hcx hk3
                clear hcx
                rcases (show p = 0 ∨ p = 1 by omega) with rfl | rfl
                · go_wp2
                  go_roundw
                  case rel => first | exact ⟨k + 1, by omega, by go_num, inner_rel hAN hk2 HA3.out HN3.out HL'.out HB3.out (by rw [HM.out]; have := HZ2.out; omega)⟩ | exact ⟨k + 1, by omega, by go_num, inner_rel hAN hk2 HA3.out HN3.out HL'.out HB3.out (by rw [HM.out, HTOP.out (by omega)]; have := HZ2.out; omega)⟩
                  case measure => simp [intOf]; omega
                · go_wp2
                  go_roundw
                  case rel => first | exact ⟨k + 1, by omega, by go_num, inner_rel hAN hk2 HA3.out HN3.out HL'.out HB3.out (by rw [HM.out]; have := HZ2.out; omega)⟩ | exact ⟨k + 1, by omega, by go_num, inner_rel hAN hk2 HA3.out HN3.out HL'.out HB3.out (by rw [HM.out, HTOP.out (by omega)]; have := HZ2.out; omega)⟩
                  case measure => simp [intOf]; omega
              · clear hcx
                rcases (show p = 0 ∨ p = 1 by omega) with rfl | rfl
                · go_wp2
                  go_roundw
                  case rel => first | exact ⟨k + 1, by omega, by go_num, inner_rel hAN hk2 HA3.out HN3.out HL'.out HB3.out (by rw [HM.out]; have := HZ2.out; omega)⟩ | exact ⟨k + 1, by omega, by go_num, inner_rel hAN hk2 HA3.out HN3.out HL'.out HB3.out (by rw [HM.out, HTOP.out (by omega)]; have := HZ2.out; omega)⟩
                  case measure => simp [intOf]; omega
                · go_wp2
                  go_roundw
                  case rel => first | exact ⟨k + 1, by omega, by go_num, inner_rel hAN hk2 HA3.out HN3.out HL'.out HB3.out (by rw [HM.out]; have := HZ2.out; omega)⟩ | exact ⟨k + 1, by omega, by go_num, inner_rel hAN hk2 HA3.out HN3.out HL'.out HB3.out (by rw [HM.out, HTOP.out (by omega)]; have := HZ2.out; omega)⟩
                  case measure => simp [intOf]; omega
            · go_wp2_with fail
              go_roundw
              case rel =>
                obtain rfl : k = 32 := by omega
                have hlq : l' = bitsOf (Mt.fed xs (i + 1)) := bitsOf_ext _ l' (by simpa using hN3.1) hl'
                rw [hlq] at hN3
                exact ⟨N, A, i + 1, bitsOf st, by omega, by go_num, fun h => hAN h.symm, rfl, rfl, hN3, hA3, hb3⟩
              case measure => simp [intOf]; omega
        · obtain rfl : i = 8 * xs.length := by omega
          have hge : ¬ (((8 * xs.length : Nat) : Int) < (s.size : Int) * 8) := by omega
          have hsl : s.size ≤ 140737488355328 := by omega
          have HA := Lib.hid hA
          have hstl := Mt.fed_lt xs (8 * xs.length)
          have HFIN := Lib.hid (Mt.fed_all xs HB.out)
          have HBL := Lib.hid hbel
          generalize Mt.fed xs (8 * xs.length) = st at *
          clear hN hA hbel
          go_wp2_with fail
          go_loop [11, 12] (fun o v => ∃ j : Nat, j ≤ 32 ∧ v = .int .i64 j ∧ o = .int .u32 ((outTo st j : Nat))) (fun _ v => 32 - (intOf v).toNat)
          case atStart => exact ⟨0, by omega, rfl, by simp [outTo]⟩
          case round =>
            obtain ⟨j, hj, rfl, rfl⟩ := hrel
            by_cases hj2 : j < 32
            · have hcell : wr.cell? ⟨A, j, none⟩ = some (.int .i64 ((Mt.bitOf st j : Nat))) := (HA.out.cellAt j (by omega)).trans (bitsOf_at _ j hj2)
              have hq1 : Mt.bitOf st j ≤ 1 := by unfold Mt.bitOf; omega
              have hsu := outTo_succ st j
              have hlt := outTo_lt st (j + 1) (by omega)
              have HSU := Lib.hid hsu
              have hpw : 2 ^ j ≤ 2147483648 := Nat.pow_le_pow_right (n := 2) (by omega) (show j ≤ 31 by omega)
              have hpi : ((2 : Int) ^ j) = ((2 ^ j : Nat) : Int) := by simp
              generalize hq : Mt.bitOf st j = q at *
              clear hq hsu
              rcases (show q = 0 ∨ q = 1 by omega) with rfl | rfl
              · have h1 : outTo st (j + 1) = outTo st j + 2 ^ j := by rw [HSU.out]; omega
                rw [h1] at hlt
                have H1 := Lib.hid h1
                clear h1
                generalize 2 ^ j = p at *
                generalize outTo st j = o at *
                go_wp2_with fail
                go_round
                case rel => exact ⟨j + 1, by omega, by go_num, by rw [H1.out]; go_num⟩
                case measure => simp [intOf]; omega
              · have h1 : outTo st (j + 1) = outTo st j := by rw [HSU.out]; omega
                have H1 := Lib.hid h1
                clear h1 hpi hpw hlt
                go_wp2_with fail
                go_round
                case rel => exact ⟨j + 1, by omega, by go_num, by rw [H1.out]⟩
                case measure => simp [intOf]; omega
            · obtain rfl : j = 32 := by omega
              have h1 := outTo_all st hstl
              have H1 := Lib.hid h1
              clear h1
              go_wp2
              go_ret
              exact ⟨by rw [H1.out, HFIN.out]; rfl, HBEL.out.trans (HBL.out.mono (by omega))⟩
end Go.Proofs.YteodldmbnghfcaaGreat.Fr

namespace Go.Proofs.YteodldmbnghfcaaGreat.Fr
open Go.RowKit
theorem IsB.str {w : World} {a : Option Addr} {n : Nat} {xs : List Int} (h : IsB w a n xs) (c : Nat) :
    (convert 68 9 (.slice a n c)).run Tryz.prog w = .ok (.string (strOfNums xs)) w := by
  obtain ⟨h1, _, h3⟩ := h
  rcases h3 with h3 | ⟨b, off, rfl, hc⟩
  · subst h3
    have hx : xs = [] := List.eq_nil_of_length_eq_zero h1
    subst hx
    cases a with
    | none => exact run_convert_bytes_nil w 68 5 Tryz.underlying68 Tryz.underlying5 _ _ 9 Tryz.underlying9
    | some ad =>
      rw [run_convert_bytes_string w 68 9 5 _ 0 c Tryz.underlying68 Tryz.underlying5 Tryz.underlying9, run_bytesToString w _ 0 c [] (by simpa using run_loadCells_list (P := Tryz.prog) w ad [] (fun j v hj => by simp at hj))]
      rfl
  · exact run_convert_bytes_arg w 68 5 Tryz.underlying68 Tryz.underlying5 b off n c xs h1 hc 9 Tryz.underlying9
theorem IsB.lit (w : World) (xs : List Int) (fr : Nat × Nat) (hb : ∀ x ∈ xs, 0 ≤ x ∧ x < 256) : IsB (w.alloc (.cells (xs.map (Value.int .u8)).toArray 5 fr)) (some ⟨w.heap.size, 0, none⟩) xs.length xs := by
  refine ⟨rfl, hb, .inr ⟨_, _, rfl, fun i hi => ?_⟩⟩
  rw [World.cell?_alloc_mark]
  simp [List.getD, hi]

theorem str_append (l m : List Int) : strOfNums l ++ strOfNums m = strOfNums (l ++ m) := by
  apply ByteArray.ext
  apply Array.toList_inj.1
  simp [strOfNums]
theorem str_sub (l : List Int) (i j : Nat) : (strOfNums l).extract i j = strOfNums ((l.drop i).take (j - i)) := by
  apply ByteArray.ext
  apply Array.toList_inj.1
  rw [Lib.extract_data]
  simp [strOfNums, List.map_take, List.map_drop]
theorem lit_str (w : World) (x : Int) (hx : 0 ≤ x ∧ x < 256) : (convert 68 9 (.slice (some ⟨w.heap.size, 0, none⟩) 1 1)).run Tryz.prog (w.alloc (.cells #[.int .u8 x] 5)) = .ok (.string (strOfNums [x])) (w.alloc (.cells #[.int .u8 x] 5)) :=
  (IsB.lit w [x] (0, 0) (by intro y hy; simp at hy; subst hy; exact hx)).str 1
/-- A number's bytes that are there after k rounds. -/
def beTo (x k : Nat) : List Int := (be x).drop (4 - k)

set_option maxRecDepth 100000 in
set_option maxHeartbeats 2000000 in
theorem number_any (x : Nat) (w : World) (hx : x < 4294967296) :
    Calls Tryz.prog 56 #[.int .u32 x] w fun e w' => e = .returned (.string (strOfNums (be x))) ∧ Below w.heap.size w w' := by
  go_enter Tryz.func56, Tryz.ntmps56
  go_wp2_with fail
  go_loopw [0, 3, 4] (fun a o i wr => ∃ k : Nat, k ≤ 4 ∧ i = .int .i64 k ∧ a = .int .u32 ((x / 256 ^ k : Nat)) ∧ o = .string (strOfNums (beTo x k)) ∧ Below w.heap.size w wr)
    (fun _ _ i _ => 4 - (intOf i).toNat)
  case atStart => exact ⟨0, by omega, rfl, by simp, rfl, Below.refl _ _⟩
  case round =>
    obtain ⟨k, hk, rfl, rfl, rfl, hbel⟩ := hrel
    by_cases h4 : k < 4
    · have hm : x / 256 ^ k < 4294967296 := Nat.lt_of_le_of_lt (Nat.div_le_self _ _) hx
      have hnx : x / 256 ^ (k + 1) = x / 256 ^ k / 256 := by rw [Nat.pow_succ, Nat.div_div_eq_div_mul]
      have hbe : strOfNums [(((x / 256 ^ k % 256 : Nat)) : Int)] ++ strOfNums (beTo x k) = strOfNums (beTo x (k + 1)) := by
        rw [str_append]
        have p3 : (256 : Nat) ^ 3 = 16777216 := rfl
        rcases (show k = 0 ∨ k = 1 ∨ k = 2 ∨ k = 3 by omega) with rfl | rfl | rfl | rfl
        · simp [beTo, be]
        · simp [beTo, be]
        · simp [beTo, be]
        · have e3 : x / 256 ^ 3 % 256 = x / 16777216 := by rw [p3]; omega
          rw [e3]
          rfl
      have hl : (strOfNums (beTo x k)).size ≤ 4 := by rw [strOfNums_size]; simp [beTo, be]
      have HNX := Lib.hid hnx
      have HBE := Lib.hid hbe
      generalize strOfNums (beTo x k) = S at *
      generalize x / 256 ^ k = m at *
      have hcv := lit_str wr ((m : Int) % 256) (by omega)
      have hone : (strOfNums [((m : Int) % 256)]).size = 1 := by rw [strOfNums_size]; rfl
      have hcast : ((m % 256 : Nat) : Int) = (m : Int) % 256 := by omega
      rw [hcast] at HBE
      generalize strOfNums [((m : Int) % 256)] = D at *
      have hsz := hbel.size
      have HB := Lib.hid (hbel.alloc hsz (.cells #[.int .u8 ((m : Int) % 256)] 5))
      have hd1 : D.size ≤ 1 := by omega
      clear hnx hbe hcast hbel hone
      go_wp2
      go_roundw
      case rel => exact ⟨k + 1, by omega, by go_num, by rw [HNX.out]; go_num, by rw [← HBE.out], HB.out⟩
      case measure => simp [intOf]; omega
    · have h4' : k = 4 := by omega
      have hfin : strOfNums (beTo x k) = strOfNums (be x) := by rw [h4']; rfl
      have HF := Lib.hid hfin
      have HB := Lib.hid hbel
      clear hfin hbel h4'
      go_wp2
      go_ret
      exact ⟨by rw [← HF.out]; rfl, HB.out⟩

set_option maxRecDepth 100000 in
set_option maxHeartbeats 2000000 in
theorem refseal_any (xs : List Int) (S : ByteArray) (w : World) (hS : S = strOfNums xs) (hb : ∀ x ∈ xs, 0 ≤ x ∧ x < 256) (hn : xs.length ≤ 1048576) :
    Calls Tryz.prog 38 #[.string S] w fun e w' => e = .returned (if xs.length ≤ 16384 then .tuple #[.string (strOfNums (sealed xs)), .int .i64 0] else .tuple #[.string ByteArray.empty, .int .i64 2]) ∧ Below w.heap.size w w' := by
  have hsz : S.size = xs.length := by rw [hS, strOfNums_size]
  have HS := Lib.hid hS
  have HSZ := Lib.hid hsz
  by_cases hl : xs.length ≤ 16384
  · have hs : S.size ≤ 16384 := by omega
    rw [if_pos hl]
    have HL := Lib.hid hl
    clear hS hsz hn hl
    go_enter Tryz.func38, Tryz.ntmps38
    go_wp2_with fail
    refine (number_any S.size _ (by omega)).mono ?_
    rintro e w1 ⟨rfl, hb1⟩
    have hz : (strOfNums (be S.size)).size = 4 := by rw [strOfNums_size]; rfl
    have hap : strOfNums (be S.size) ++ S = strOfNums (be xs.length ++ xs) := by rw [HS.out, str_append, strOfNums_size]
    have HAP := Lib.hid hap
    obtain ⟨Z, hZ⟩ : ∃ Z, Z = strOfNums (be S.size) := ⟨_, rfl⟩
    rw [← hZ] at hz HAP ⊢
    have hzl : Z.size ≤ 4 := by omega
    have HZ := Lib.hid hZ
    have HB1 := Lib.hid hb1
    clear hz hap hZ hb1
    go_wp2_with fail
    refine (refsum_any (Z ++ S) (be xs.length ++ xs) _ HAP.out (by
      intro x hx
      rcases List.mem_append.1 hx with h | h
      · exact be_byte _ (by have := HL.out; omega) x h
      · exact hb x h) (by have := HL.out; simp [be_length]; omega)).mono ?_
    rintro e w2 ⟨rfl, hb2⟩
    have HB2 := Lib.hid (HB1.out.trans (hb2.mono HB1.out.size))
    clear hb2
    go_wp2_with fail
    refine (number_any _ _ (sum_lt _)).mono ?_
    rintro e w3 ⟨rfl, hb3⟩
    have HB3 := Lib.hid (HB2.out.trans (hb3.mono HB2.out.size))
    have hy : (strOfNums (be (Mt.sum (be xs.length ++ xs)))).size = 4 := by rw [strOfNums_size]; rfl
    have hap2 : (Z ++ strOfNums (be (Mt.sum (be xs.length ++ xs)))) ++ S = strOfNums (sealed xs) := by
      rw [HZ.out, HS.out, strOfNums_size, str_append, str_append]
      rfl
    have HAP2 := Lib.hid hap2
    generalize strOfNums (be (Mt.sum (be xs.length ++ xs))) = Y at *
    have hyl : Y.size ≤ 4 := by omega
    clear hb3 hy hap2
    go_wp2
    go_ret2
    exact ⟨by rw [← HAP2.out]; rfl, HB3.out⟩
  · have hs : 16384 < S.size := by omega
    rw [if_neg hl]
    clear hS hsz hl
    have hs2 : S.size ≤ 1048576 := by have := HSZ.out; omega
    clear hn
    go_enter Tryz.func38, Tryz.ntmps38
    go_wp2
    go_ret2
    exact ⟨rfl, Below.refl _ _⟩
end Go.Proofs.YteodldmbnghfcaaGreat.Fr

namespace Go.Proofs.YteodldmbnghfcaaGreat.Fr
open Go.RowKit

theorem be_wd (l : List Int) (hl : l.length = 4) (hb : ∀ x ∈ l, 0 ≤ x ∧ x < 256) : be (wd l 4) = l := by
  match l, hl with
  | [a, b, c, d], _ =>
    have ha := hb a (by simp)
    have hb' := hb b (by simp)
    have hc := hb c (by simp)
    have hd := hb d (by simp)
    simp only [be, wd, List.getD]
    simp
    omega
theorem wd_take (l : List Int) : wd (l.take 4) 4 = wd l 4 := by
  simp [wd, List.getD]
theorem pay_byte {xs : List Int} (hb : ∀ x ∈ xs, 0 ≤ x ∧ x < 256) : ∀ x ∈ pay xs, 0 ≤ x ∧ x < 256 := fun x hx => hb x (List.mem_of_mem_drop (List.mem_of_mem_take hx))

theorem sAt {S : ByteArray} {xs : List Int} (hS : S = strOfNums xs) (hb : ∀ x ∈ xs, 0 ≤ x ∧ x < 256) (k : Nat) (h : k < S.size) : S[k].toNat = (xs.getD k 0).toNat := by
  subst hS
  have hl : k < xs.length := by rwa [strOfNums_size] at h
  rw [str_at xs k h]
  have := hb _ (Mt.getD_mem xs k hl)
  omega

theorem str_slice (S : ByteArray) (i j : Nat) (hij : i ≤ j) (hj : j ≤ S.size) (w : World) :
    (Instr.slice 9 (.string S) (some (.int .i64 (i : Int))) (some (.int .i64 (j : Int))) none).run Tryz.prog w = .ok (.string (S.extract i j)) w := by
  have := run_slice_string (P := Tryz.prog) (w := w) 9 S .i64 .i64 (i : Int) (j : Int) Tryz.underlying9 (by omega) (by omega) (by omega)
  simpa using this

theorem str_inj {l m : List Int} (hl : ∀ x ∈ l, 0 ≤ x ∧ x < 256) (hm : ∀ x ∈ m, 0 ≤ x ∧ x < 256) (h : strOfNums l = strOfNums m) : l = m := by
  have h1 : (strOfNums l).data.toList.map (fun b => (b.toNat : Int)) = (strOfNums m).data.toList.map (fun b => (b.toNat : Int)) := by rw [h]
  have key : ∀ k : List Int, (∀ x ∈ k, 0 ≤ x ∧ x < 256) → (strOfNums k).data.toList.map (fun b => (b.toNat : Int)) = k := by
    intro k hk
    rw [strOfNums_data, List.map_map]
    conv => rhs; rw [← List.map_id k]
    apply List.map_congr_left
    intro x hx
    have := hk x hx
    simp
    omega
  rw [key l hl, key m hm] at h1
  exact h1
theorem str_ne {A B : ByteArray} (h : A ≠ B) : (A.toList == B.toList) = false := by
  rw [beq_eq_false_iff_ne]
  intro h2
  apply h
  rw [ByteArray.toList_eq, ByteArray.toList_eq] at h2
  exact ByteArray.ext (Array.toList_inj.1 h2)

def ROpenPost (w : World) (xs : List Int) (e : Ending) (w' : World) : Prop :=
  Below w.heap.size w w' ∧
  ((err xs = 0 ∧ e = .returned (.tuple #[.string (strOfNums (pay xs)), .int .i64 ((8 + wd xs 4 : Nat)), .int .i64 0])) ∨
   (err xs ≠ 0 ∧ e = .returned (.tuple #[.string ByteArray.empty, .int .i64 0, .int .i64 (err xs : Nat)])))
theorem ROpenPost.bad {w w' : World} {xs : List Int} {e : Ending} {k : Nat} (hb : Below w.heap.size w w') (h : err xs = k) (hk : k ≠ 0) (he : e = .returned (.tuple #[.string ByteArray.empty, .int .i64 0, .int .i64 (k : Nat)])) : ROpenPost w xs e w' :=
  ⟨hb, .inr ⟨by omega, by rw [he, h]⟩⟩

set_option maxHeartbeats 4000000 in
theorem refopen_any (xs : List Int) (S : ByteArray) (w : World) (hS : S = strOfNums xs) (hb : ∀ x ∈ xs, 0 ≤ x ∧ x < 256) (hn : xs.length ≤ 1048576) :
    Calls Tryz.prog 43 #[.string S] w (ROpenPost w xs) := by
  have hsz : S.size = xs.length := by rw [hS, strOfNums_size]
  have HS := Lib.hid hS
  have HSZ := Lib.hid hsz
  have hs : S.size ≤ 1048576 := by omega
  have HB := Lib.hid hb
  clear hS hsz hn hb
  by_cases h8 : S.size < 8
  · go_enter Tryz.func43, Tryz.ntmps43
    go_wp2
    go_ret3
    exact ROpenPost.bad (Below.refl _ _) (k := 10) (by simp only [err]; rw [if_pos (by have := HSZ.out; omega)]) (by decide) rfl
  · go_enter Tryz.func43, Tryz.ntmps43
    go_wp2_with fail
    go_loop [5, 6] (fun a i => ∃ k : Nat, k ≤ 4 ∧ i = .int .i64 k ∧ a = .int .i64 ((wd xs k : Nat))) (fun _ i => 4 - (intOf i).toNat)
    case atStart => exact ⟨0, by omega, rfl, rfl⟩
    case round =>
      obtain ⟨k, hk, rfl, rfl⟩ := hrel
      by_cases h4 : k < 4
      · have hkS : k < S.size := by omega
        have hy : S[k].toNat < 256 := UInt8.toNat_lt _
        have hlt : wd xs k < 16777216 := Nat.lt_of_lt_of_le (wd_lt xs HB.out k (by have := HSZ.out; omega)) (Nat.pow_le_pow_right (n := 256) (by omega) (show k ≤ 3 by omega))
        have hw : wd xs (k + 1) = wd xs k * 256 + S[k].toNat := by rw [sAt HS.out HB.out k hkS]; rfl
        have HW := Lib.hid hw
        clear hw
        generalize wd xs k = m at *
        go_wp2_with fail
        go_round
        case rel => exact ⟨k + 1, by omega, by go_num, by rw [HW.out]; go_num⟩
        case measure => simp [intOf]; omega
      · obtain rfl : k = 4 := by omega
        have hlt := wd_lt xs HB.out 4 (by have := HSZ.out; omega)
        by_cases h1 : 16384 < wd xs 4
        · have he : err xs = 2 := by simp only [err]; rw [if_neg (by have := HSZ.out; omega), if_pos h1]
          have HE := Lib.hid he
          have hlt2 : wd xs 4 < 4294967296 := by omega
          clear he hlt
          generalize wd xs 4 = t at *
          go_wp2
          go_ret3
          exact ROpenPost.bad (Below.refl _ _) HE.out (by decide) rfl
        · by_cases h2 : S.size < 8 + wd xs 4
          · have he : err xs = 10 := by simp only [err]; rw [if_neg (by have := HSZ.out; omega), if_neg h1, if_pos (by have := HSZ.out; omega)]
            have HE := Lib.hid he
            clear he hlt
            generalize wd xs 4 = t at *
            go_wp2
            go_ret3
            exact ROpenPost.bad (Below.refl _ _) HE.out (by decide) rfl
          · have hx4 : S.extract 0 4 = strOfNums ((xs.drop 0).take 4) := by rw [HS.out, str_sub]
            have hxp : S.extract 8 (8 + wd xs 4) = strOfNums (pay xs) := by rw [HS.out, str_sub, show 8 + wd xs 4 - 8 = wd xs 4 by omega]; rfl
            have hx48 : S.extract 4 8 = strOfNums ((xs.drop 4).take 4) := by rw [HS.out, str_sub]
            have hcat : S.extract 0 4 ++ S.extract 8 (8 + wd xs 4) = strOfNums ((xs.drop 0).take 4 ++ pay xs) := by rw [hx4, hxp, str_append]
            have hbb : ∀ x ∈ (xs.drop 0).take 4 ++ pay xs, 0 ≤ x ∧ x < 256 := by
              intro x hx
              rcases List.mem_append.1 hx with h | h
              · exact HB.out x (List.mem_of_mem_drop (List.mem_of_mem_take h))
              · exact pay_byte HB.out x h
            have hcl : ((xs.drop 0).take 4 ++ pay xs).length ≤ 140737488355328 := by simp [pay]; omega
            have he0 : Mt.sum ((xs.drop 0).take 4 ++ pay xs) = wd (xs.drop 4) 4 → err xs = 0 := by
              intro h
              have := HSZ.out
              simp only [err]
              rw [if_neg (by omega), if_neg (by omega), if_neg (by omega), if_pos h]
            have he1 : ¬ Mt.sum ((xs.drop 0).take 4 ++ pay xs) = wd (xs.drop 4) 4 → err xs = 11 := by
              intro h
              have := HSZ.out
              simp only [err]
              rw [if_neg (by omega), if_neg (by omega), if_neg (by omega), if_neg h]
            have hbw : be (wd (xs.drop 4) 4) = (xs.drop 4).take 4 := by
              rw [← wd_take]
              exact be_wd _ (by simp; have := HSZ.out; omega) (fun x hx => HB.out x (List.mem_of_mem_drop (List.mem_of_mem_take hx)))
            have z4 : (S.extract 0 4).size = 4 := by rw [hx4, strOfNums_size]; simp; have := HSZ.out; omega
            have zp : (S.extract 8 (8 + wd xs 4)).size = wd xs 4 := by rw [hxp, strOfNums_size]; simp [pay]; have := HSZ.out; omega
            have HX48 := Lib.hid hx48
            have HCAT := Lib.hid hcat
            have HBB := Lib.hid hbb
            have HCL := Lib.hid hcl
            have HE0 := Lib.hid he0
            have HE1 := Lib.hid he1
            have HBW := Lib.hid hbw
            have HXP := Lib.hid hxp
            have i1 : (4 : Int) ≤ (S.size : Int) := by omega
            have i2 : (8 : Int) ≤ (S.size : Int) := by omega
            have i3 : (S.extract 0 4).size ≤ 4 := by omega
            have i4 : (S.extract 8 (8 + wd xs 4)).size ≤ 16384 := by omega
            have hs8 : ∀ w, (Instr.slice 9 (.string S) (some (.int .i64 8)) (some (.int .i64 (8 + ((wd xs 4 : Nat) : Int)))) none).run Tryz.prog w = .ok (.string (S.extract 8 (8 + wd xs 4))) w := fun w => str_slice S 8 (8 + wd xs 4) (by omega) (by omega) w
            have hs4 : ∀ w, (Instr.slice 9 (.string S) (some (.int .i64 4)) (some (.int .i64 8)) none).run Tryz.prog w = .ok (.string (S.extract 4 8)) w := fun w => str_slice S 4 8 (by omega) (by omega) w
            generalize ht : wd xs 4 = t at *
            have HT := Lib.hid ht
            generalize S.extract 8 (8 + t) = XP at *
            generalize S.extract 4 8 = X48 at *
            have hadd : ∀ w, (Op.stringOp .add (S.extract 0 4) XP).run Tryz.prog w = .ok (.string (S.extract 0 4 ++ XP)) w := fun w => run_string_add_sum w _ _ (by omega)
            clear hx4 hxp hx48 hcat hbb hcl he0 he1 hbw hlt ht z4 zp
            go_wp2_with fail
            go_region_held3 (fun _ => True) (trivial) (first
              | (go_at_call 57; refine (refsum_any _ _ _ HCAT.out HBB.out HCL.out).mono ?_; rintro e w1 ⟨rfl, hb1⟩)
              | (go_at_call 56; refine (number_any _ _ (sum_lt _)).mono ?_; rintro e w2 ⟨rfl, hb2⟩))
            have HBF := Lib.hid hb2
            have HBA := Lib.hid hb1
            have hd0 : xs.drop 0 = xs := rfl
            rw [hd0] at HE0 HE1
            have hbb := HBA.out.size
            have hdr : Below w.heap.size w w.drew := ⟨rfl, rfl, rfl, Nat.le_refl _, fun _ _ => rfl⟩
            have HBT := Lib.hid ((hdr.trans HBA.out).trans (HBF.out.mono hbb))
            clear hb1 hb2 hd0 hbb hadd hs4 hs8 hdr
            by_cases hq : Mt.sum (xs.take 4 ++ pay xs) = wd (xs.drop 4) 4
            · have hY : strOfNums (be (Mt.sum (xs.take 4 ++ pay xs))) = X48 := by rw [hq, HBW.out, HX48.out]
              rw [hY]
              have heq : (X48.toList == X48.toList) = true := by simp
              have HQ := Lib.hid hq
              clear hq hY
              go_wp2
              · rename_i hc; exfalso; rw [heq] at hc; exact absurd hc (by decide)
              go_ret3
              exact ⟨HBT.out, .inl ⟨HE0.out HQ.out, by rw [HXP.out, HT.out]; rfl⟩⟩
            · have hY : ((strOfNums (be (Mt.sum (xs.take 4 ++ pay xs)))).toList == X48.toList) = false := by
                apply str_ne
                rw [HX48.out]
                intro h
                have h1 := str_inj (be_byte _ (sum_lt _)) (fun x hx => HB.out x (List.mem_of_mem_drop (List.mem_of_mem_take hx))) h
                have h2 := wd_be (Mt.sum (xs.take 4 ++ pay xs)) (sum_lt _) []
                rw [List.append_nil, h1, wd_take] at h2
                exact hq h2.symm
              have HQ := Lib.hid hq
              clear hq
              go_wp2
              · go_ret3
                exact ROpenPost.bad HBT.out (HE1.out HQ.out) (by decide) rfl
              · rename_i hc; exfalso; rw [hY] at hc; exact absurd hc (by decide)
end Go.Proofs.YteodldmbnghfcaaGreat.Fr
