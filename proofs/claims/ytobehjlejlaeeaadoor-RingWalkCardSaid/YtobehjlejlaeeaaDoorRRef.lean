/- The document's Hash, digits. -/
import Derived.Test.YtobehjlejlaeeaaDoorRCheck
namespace Go.Proofs.YtobehjlejlaeeaaDoor
open Go.RowKit

theorem xor64 (a b : Nat) (ha : a < 18446744073709551616) (hb : b < 18446744073709551616) : bits .xor .u64 (a : Int) (b : Int) = ((a ^^^ b : Nat) : Int) := u64_xor_nat a b ha hb
set_option maxRecDepth 100000 in
set_option maxHeartbeats 4000000 in
theorem shift_any (h n : Nat) (w : World) (hh : h < 4294967296) (hn : n ≤ 32) :
    Calls Tryd.prog 22 #[.int .u64 h, .int .i64 n] w fun e w' => e = .returned (.int .u64 (Mt.sh h (2 ^ n) : Nat)) ∧ w = w' := by
  go_enter Tryd.func22, Tryd.ntmps22
  go_wp2
  go_loop [5, 6] (fun l i => ∃ k : Nat, k ≤ n ∧ i = .int .i64 k ∧ l = .int .u64 ((h / 2 ^ k : Nat) : Int)) (fun _ i => n - (intOf i).toNat)
  case atStart => exact ⟨0, Nat.zero_le _, rfl, by simp⟩
  case round =>
    obtain ⟨k, hk, rfl, rfl⟩ := hrel
    have hle : h / 2 ^ k ≤ h := Nat.div_le_self _ _
    by_cases hlt : k < n
    · have HS := Lib.hid (show h / 2 ^ (k + 1) = h / 2 ^ k / 2 by rw [Nat.pow_succ, Nat.div_div_eq_div_mul])
      generalize h / 2 ^ k = x at *
      go_wp2
      go_round
      case rel => exact ⟨k + 1, by omega, by go_num, by rw [HS.out]; go_num⟩
      case measure => simp [intOf]; omega
    · obtain rfl : k = n := by omega
      have HX := Lib.hid (show Mt.sh h (2 ^ k) = h ^^^ (h / 2 ^ k) from rfl)
      generalize h / 2 ^ k = x at *
      have hx := xor64 h x (by omega) (by omega)
      go_wp2
      go_ret
      exact ⟨by rw [HX.out]; rfl, rfl⟩
theorem shift16 (h : Nat) (w : World) (hh : h < 4294967296) : Calls Tryd.prog 22 #[.int .u64 h, .int .i64 16] w fun e w' => e = .returned (.int .u64 (Mt.sh h 65536 : Nat)) ∧ w = w' := by
  have := shift_any h 16 w hh (by omega)
  rwa [show (2 : Nat) ^ 16 = 65536 from rfl] at this
theorem shift13 (h : Nat) (w : World) (hh : h < 4294967296) : Calls Tryd.prog 22 #[.int .u64 h, .int .i64 13] w fun e w' => e = .returned (.int .u64 (Mt.sh h 8192 : Nat)) ∧ w = w' := by
  have := shift_any h 13 w hh (by omega)
  rwa [show (2 : Nat) ^ 13 = 8192 from rfl] at this
set_option maxRecDepth 100000 in
set_option maxHeartbeats 4000000 in
theorem rhash_any (s : ByteArray) (w : World) (hs : s.size ≤ 140737488355328) :
    Calls Tryd.prog 9 #[.string s] w fun e w' => e = .returned (.int .u64 (Mt.hash s : Nat)) ∧ w = w' := by
  go_enter Tryd.func9, Tryd.ntmps9
  go_wp2
  go_loop [3, 4] (fun h i => ∃ k : Nat, k ≤ s.size ∧ i = .int .i64 k ∧ h = .int .u64 (Mt.fnv (s.data.toList.take k) : Nat)) (fun _ i => s.size - (intOf i).toNat)
  case atStart => exact ⟨0, Nat.zero_le _, rfl, rfl⟩
  case round =>
    obtain ⟨k, hk, rfl, rfl⟩ := hrel
    by_cases hlt : k < s.size
    · have HT := Lib.hid (Mt.fnv_take s k hlt)
      have hl := Mt.fnv_lt (s.data.toList.take k)
      generalize Mt.fnv (s.data.toList.take k) = h at *
      have hb : s[k].toNat < 256 := UInt8.toNat_lt _
      have hx := xor64 h s[k].toNat (by omega) (by omega)
      have hxl : h ^^^ s[k].toNat < 4294967296 := Nat.xor_lt_two_pow (n := 32) hl (by omega)
      go_wp2
      go_round
      case rel => exact ⟨k + 1, by omega, by go_num, by rw [HT.out]; rfl⟩
      case measure => simp [intOf]; omega
    · have hk' : k = s.size := by omega
      have hl := Mt.fnv_lt (s.data.toList.take k)
      have HF := Lib.hid (show Mt.hash s = Mt.fin (Mt.fnv (s.data.toList.take k)) by
        rw [List.take_of_length_le (by simp; omega)]
        rfl)
      generalize Mt.fnv (s.data.toList.take k) = h at *
      have HFI := Lib.hid (show Mt.fin h = Mt.sh (Mt.mulm (Mt.sh (Mt.mulm (Mt.sh h 65536) 2246822507) 8192) 3266489909) 65536 from rfl)
      have e2 : ((Mt.sh h 65536 : Nat) : Int) * 2246822507 % 4294967296 = _ := mul32 (Mt.sh h 65536) 2246822507
      have l1 := Mt.sh_lt h 65536 hl
      have l2 := Mt.mulm_lt (Mt.sh h 65536) 2246822507
      have s16 := fun w : World => shift16 h w hl
      generalize Mt.sh h 65536 = a1 at *
      generalize Mt.mulm a1 2246822507 = b1 at *
      have s13 := fun w : World => shift13 b1 w l2
      have l3 := Mt.sh_lt b1 8192 l2
      have e4 : ((Mt.sh b1 8192 : Nat) : Int) * 3266489909 % 4294967296 = _ := mul32 (Mt.sh b1 8192) 3266489909
      generalize Mt.sh b1 8192 = a2 at *
      have l4 := Mt.mulm_lt a2 3266489909
      generalize Mt.mulm a2 3266489909 = b2 at *
      have s16b := fun w : World => shift16 b2 w l4
      generalize Mt.sh b2 65536 = a3 at *
      have S16 := Lib.hid s16; have S13 := Lib.hid s13; have S16B := Lib.hid s16b
      clear s16 s13 s16b
      go_wp2_with (go_at_call 22; first
        | (with_reducible refine (S16.out _).mono ?_; rintro e w1 ⟨rfl, rfl⟩)
        | (with_reducible refine (S13.out _).mono ?_; rintro e w1 ⟨rfl, rfl⟩)
        | (with_reducible refine (S16B.out _).mono ?_; rintro e w1 ⟨rfl, rfl⟩))
      go_ret
      exact ⟨by rw [HF.out, HFI.out]; rfl, rfl⟩
end Go.Proofs.YtobehjlejlaeeaaDoor
