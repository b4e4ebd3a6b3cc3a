/- The walk of code.GetInt. -/
import Derived.Test.YteodldmbnghfcaaGreatC8
import Derived.OwnWalk
import Derived.Lib.Zigzag
namespace Go.Proofs.YteodldmbnghfcaaGreat
open Go.RowKit

namespace Vi
def unzig (u : Nat) : Int := if u % 2 = 0 then ((u / 2 : Nat) : Int) else -((u / 2 : Nat) : Int) - 1
/-- The number with which some bytes begin, how many bytes it has, the error. -/
def get : Nat → Nat → List Int → Int × Nat × Int
  | _, _, [] => (0, 0, 10)
  | i, u, x :: l => if i = 9 ∧ 1 < x then (0, 0, 20) else if 128 ≤ x then get (i + 1) (u + (x.toNat % 128) * 128 ^ i) l else if x = 0 ∧ 0 < i then (0, 0, 20) else (unzig (u + x.toNat * 128 ^ i), i + 1, 0)
end Vi
/-- Bytes as they lie in memory, ahead of block B. -/
def BytesAt (w : World) (B : Nat) (a : Option Addr) (n : Nat) (xs : List Int) : Prop :=
  xs.length = n ∧ (n = 0 ∨ ∃ b off, a = some ⟨b, off, none⟩ ∧ b < B ∧ ∀ i x, xs[i]? = some x → w.cell? ⟨b, off + i, none⟩ = some (.int .u8 x) ∧ 0 ≤ x ∧ x < 256)

theorem or_seven (u i : Nat) (x : Int) (hx0 : 0 ≤ x) (hx1 : x < 256) (hi : i ≤ 9) (hu : u < 128 ^ i) (h9 : i = 9 → x ≤ 1) :
    bits .or .u64 (u : Int) (IntKind.u64.wrap (IntKind.u64.wrap (bits .and .u8 x 127) * 2 ^ (7 * i))) = ((u + (x.toNat % 128) * 128 ^ i : Nat) : Int) := by
  obtain ⟨y, rfl⟩ : ∃ y : Nat, x = (y : Int) := ⟨x.toNat, by omega⟩
  have e1 : bits .and .u8 (y : Int) 127 = ((y % 128 : Nat) : Int) := by
    have := u8_and_nat y 127 (by omega) (by omega)
    have h2 : y &&& 127 = y % 128 := Nat.and_two_pow_sub_one_eq_mod y 7
    rw [h2] at this
    exact this
  have hp : (128 : Nat) ^ i = 2 ^ (7 * i) := by rw [Nat.pow_mul]
  have hlt : (y % 128) * 2 ^ (7 * i) < 18446744073709551616 := by
    by_cases h : i = 9
    · have := h9 h
      subst h
      have : y % 128 ≤ 1 := by omega
      calc (y % 128) * 2 ^ (7 * 9) ≤ 1 * 2 ^ (7 * 9) := Nat.mul_le_mul_right _ this
        _ < 18446744073709551616 := by decide
    · have h1 : 2 ^ (7 * i) ≤ 2 ^ 56 := Nat.pow_le_pow_right (by decide) (by omega)
      calc (y % 128) * 2 ^ (7 * i) ≤ 128 * 2 ^ 56 := Nat.mul_le_mul (by omega) h1
        _ < 18446744073709551616 := by decide
  have hul : u < 18446744073709551616 := by
    have h1 : 2 ^ (7 * i) ≤ 2 ^ 63 := Nat.pow_le_pow_right (by decide) (by omega)
    rw [hp] at hu
    exact Nat.lt_of_lt_of_le hu (Nat.le_trans h1 (by decide))
  have e2 : IntKind.u64.wrap ((y % 128 : Nat) : Int) = ((y % 128 : Nat) : Int) := by rw [IntKind.wrap_u64]; omega
  have e3 : IntKind.u64.wrap (((y % 128 : Nat) : Int) * 2 ^ (7 * i)) = (((y % 128) * 2 ^ (7 * i) : Nat) : Int) := by
    have : ((y % 128 : Nat) : Int) * 2 ^ (7 * i) = (((y % 128) * 2 ^ (7 * i) : Nat) : Int) := by rw [Int.natCast_mul, Int.natCast_pow]; rfl
    rw [this, IntKind.wrap_u64]
    omega
  rw [e1, e2, e3, u64_or_nat _ _ hul hlt]
  have h4 := Nat.two_pow_add_eq_or_of_lt (show u < 2 ^ (7 * i) by rw [← hp]; exact hu) (y % 128)
  rw [Nat.or_comm, Nat.mul_comm, ← h4, hp, Int.toNat_natCast]
  rw [Nat.mul_comm, Nat.add_comm]
theorem pow_seven (u y i : Nat) (hu : u < 128 ^ i) (hy : y < 128) : u + y * 128 ^ i < 128 ^ (i + 1) := by
  rw [Nat.pow_succ]
  have h1 : (y + 1) * 128 ^ i ≤ 128 * 128 ^ i := Nat.mul_le_mul_right _ hy
  rw [Nat.add_mul, Nat.one_mul] at h1
  rw [Nat.mul_comm (128 ^ i) 128]
  omega
theorem zig_back (U : Nat) (h : U < 18446744073709551616) : bits .xor .i64 (wrap64 ((U : Int) / 2)) (wrap64 (-wrap64 (bits .and .u64 (U : Int) 1))) = Vi.unzig U := by
  rw [Lib.u64_and1 _ (by omega) (by omega)]
  have e0 : wrap64 ((U : Int) / 2) = ((U / 2 : Nat) : Int) := by rw [← IntWalk.i64_left, IntKind.wrap_i64]; omega
  rw [e0]
  unfold Vi.unzig
  by_cases h2 : U % 2 = 0
  · have e1 : wrap64 (-wrap64 ((U : Int) % 2)) = 0 := by
      have : (U : Int) % 2 = 0 := by omega
      rw [this]; simp only [← IntWalk.i64_left, IntKind.wrap_i64]; decide
    rw [e1, if_pos h2]
    show IntKind.i64.wrap ((BitVec.ofInt 64 ((U / 2 : Nat) : Int) ^^^ BitVec.ofInt 64 0).toNat : Int) = _
    have h3 : (BitVec.ofInt 64 0) = 0#64 := by decide
    have h4 : (BitVec.ofInt 64 ((U / 2 : Nat) : Int)).toNat = U / 2 := by
      rw [BitVec.ofInt_natCast, BitVec.toNat_ofNat]; exact Nat.mod_eq_of_lt (by omega)
    rw [h3, BitVec.xor_zero, h4, IntKind.wrap_i64]
    omega
  · have e1 : wrap64 (-wrap64 ((U : Int) % 2)) = -1 := by
      have : (U : Int) % 2 = 1 := by omega
      rw [this]; simp only [← IntWalk.i64_left, IntKind.wrap_i64]; decide
    rw [e1, if_neg h2]
    have := Lib.i64_not (U / 2) (by omega)
    have hc : bits .xor .i64 ((U / 2 : Nat) : Int) (-1) = bits .xor .i64 (-1) ((U / 2 : Nat) : Int) := by
      show IntKind.i64.wrap ((BitVec.ofInt 64 ((U / 2 : Nat) : Int) ^^^ BitVec.ofInt 64 (-1)).toNat : Int) = IntKind.i64.wrap ((BitVec.ofInt 64 (-1) ^^^ BitVec.ofInt 64 ((U / 2 : Nat) : Int)).toNat : Int)
      rw [BitVec.xor_comm]
    rw [hc]
    exact this
theorem U_lt (u i : Nat) (x : Int) (hx0 : 0 ≤ x) (h128 : ¬ 128 ≤ x) (hi : i ≤ 9) (hu : u < 128 ^ i) (h9 : i = 9 → x ≤ 1) : u + x.toNat * 128 ^ i < 18446744073709551616 := by
  by_cases h : i = 9
  · have := h9 h
    subst h
    have h1 : x.toNat ≤ 1 := by omega
    have h2 : x.toNat * 128 ^ 9 ≤ 1 * 128 ^ 9 := Nat.mul_le_mul_right _ h1
    have h3 : (128 : Nat) ^ 9 = 9223372036854775808 := by decide
    rw [h3] at *
    omega
  · have h1 := pow_seven u x.toNat i hu (by omega)
    have h2 : 128 ^ (i + 1) ≤ 128 ^ 9 := Nat.pow_le_pow_right (by decide) (by omega)
    have h3 : (128 : Nat) ^ 9 = 9223372036854775808 := by decide
    rw [h3] at h2
    omega
set_option maxRecDepth 100000 in
set_option maxHeartbeats 4000000 in
theorem getint_any (B : Nat) (a : Option Addr) (n c : Nat) (xs : List Int) (w : World) (h : BytesAt w B a n xs) (hn : n ≤ 9223372036854775807) :
    Calls Tryz.prog 101 #[.slice a n c] w fun e w' => e = .returned (.tuple #[.int .i64 (Vi.get 0 0 xs).1, .int .i64 ((Vi.get 0 0 xs).2.1 : Nat), .int .i64 (Vi.get 0 0 xs).2.2]) ∧ w' = w := by
  obtain ⟨hml, hcell⟩ := h
  have HML := Lib.hid hml
  have HC := Lib.hid hcell
  clear hml hcell
  go_enter Tryz.func101, Tryz.ntmps101
  go_wp2
  go_loopw [5, 10] (fun uv iv wr => ∃ (i u : Nat), i ≤ n ∧ i ≤ 9 ∧ iv = .int .i64 i ∧ uv = .int .u64 u ∧ u < 128 ^ i ∧ Vi.get i u (xs.drop i) = Vi.get 0 0 xs ∧ wr = w) (fun _ iv _ => n - (intOf iv).toNat)
  case atStart => exact ⟨0, 0, by omega, by omega, rfl, rfl, by simp, by simp, rfl⟩
  case round =>
    obtain ⟨i, u, hin, hi9, rfl, rfl, hu, hget, rfl⟩ := hrel
    by_cases hil : i < n
    · obtain ⟨b, off, rfl, hbB, hcc⟩ := HC.out.resolve_left (by omega)
      obtain ⟨x, hx⟩ : ∃ x, xs[i]? = some x := ⟨_, List.getElem?_eq_getElem (show i < xs.length by rw [HML.out]; exact hil)⟩
      obtain ⟨c0, hx0, hx1⟩ := hcc i x hx
      have hdr : xs.drop i = x :: xs.drop (i + 1) := by
        obtain ⟨hi, rfl⟩ := List.getElem?_eq_some_iff.1 hx
        exact List.drop_eq_getElem_cons hi
      rw [hdr, Vi.get] at hget
      clear hcc hdr
      by_cases h9 : i = 9 ∧ 1 < x
      · rw [if_pos h9] at hget
        obtain ⟨rfl, h1x⟩ := h9
        have HG := Lib.hid hget
        clear hget
        go_wp2
        go_ret3
        rw [← HG.out]
        exact ⟨rfl, rfl⟩
      · by_cases h128 : 128 ≤ x
        · go_wp2
          rw [if_neg h9, if_pos h128] at hget
          rw [or_seven u i x hx0 hx1 hi9 hu (fun h => by rcases Classical.em (1 < x) with h' | h'; exact absurd ⟨h, h'⟩ h9; omega)]
          have hi8 : i ≠ 9 := fun h => h9 ⟨h, by omega⟩
          exact ⟨⟨i + 1, _, by omega, by omega, by go_num, rfl, pow_seven u (x.toNat % 128) i hu (by omega), hget, trivial⟩, by simp [intOf]; omega⟩
        · have hi9x : i = 9 → x ≤ 1 := fun h => by rcases Classical.em (1 < x) with h' | h'; exact absurd ⟨h, h'⟩ h9; omega
          have hor := or_seven u i x hx0 hx1 hi9 hu hi9x
          have hxm : x.toNat % 128 = x.toNat := by omega
          rw [hxm] at hor
          have hzb := zig_back _ (U_lt u i x hx0 h128 hi9 hu hi9x)
          rw [if_neg h9, if_neg h128] at hget
          by_cases hx00 : x = 0
          · subst hx00
            by_cases hi0 : i = 0
            · subst hi0
              rw [if_neg (by omega)] at hget
              have HG := Lib.hid hget
              rw [Nat.add_zero] at c0
              simp only [Nat.mul_zero, Int.pow_zero, Int.mul_one] at hor
              have HOR := Lib.hid hor
              have HZB := Lib.hid hzb
              clear hget hor hzb h9 hi9x
              go_wp2
              go_ret3
              rw [HOR.out, HZB.out, ← HG.out]
              exact ⟨rfl, rfl⟩
            · rw [if_pos ⟨rfl, by omega⟩] at hget
              have HG := Lib.hid hget
              clear hget hor hzb hi9x
              by_cases hi99 : i = 9
              · subst hi99
                go_wp2
                go_ret3
                rw [← HG.out]
                exact ⟨rfl, rfl⟩
              · go_wp2
                go_ret3
                rw [← HG.out]
                exact ⟨rfl, rfl⟩
          · rw [if_neg (by rintro ⟨h, _⟩; exact hx00 h)] at hget
            have HG := Lib.hid hget
            have HOR := Lib.hid hor
            have HZB := Lib.hid hzb
            clear hget hor hzb
            by_cases hi0 : i = 0
            · subst hi0
              rw [Nat.add_zero] at c0
              have hor := HOR.out
              simp only [Nat.mul_zero, Int.pow_zero, Int.mul_one] at hor
              have HOR2 := Lib.hid hor
              clear hor h9 hi9x
              go_wp2
              go_ret3
              rw [HOR2.out, HZB.out, ← HG.out]
              exact ⟨rfl, rfl⟩
            · by_cases hi99 : i = 9
              · subst hi99
                have hx1' := hi9x rfl
                have HOR2 : Hid (bits .or .u64 (u : Int) (IntKind.u64.wrap (IntKind.u64.wrap (bits .and .u8 x 127) * 9223372036854775808)) = ((u + x.toNat * 128 ^ 9 : Nat) : Int)) := Lib.hid HOR.out
                clear h9 hi9x
                go_wp2
                go_ret3
                rw [HOR2.out, HZB.out, ← HG.out]
                exact ⟨rfl, rfl⟩
              · clear h9 hi9x
                go_wp2
                go_ret3
                rw [HOR.out, HZB.out, ← HG.out]
                exact ⟨rfl, rfl⟩
    · have hin' : i = n := by omega
      rw [List.drop_of_length_le (by rw [HML.out]; omega), Vi.get] at hget
      have HG := Lib.hid hget
      clear hget hu
      go_wp2
      go_ret3
      rw [← HG.out]
      exact ⟨rfl, rfl⟩
end Go.Proofs.YteodldmbnghfcaaGreat
