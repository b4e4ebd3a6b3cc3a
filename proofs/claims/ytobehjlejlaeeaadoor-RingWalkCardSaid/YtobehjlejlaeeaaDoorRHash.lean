/- The ring's Hash and Slot. -/
import Derived.Test.YtobehjlejlaeeaaDoorTB
import Derived.Test.YtobehjlejlaeeaaDoorRMath
namespace Go.Proofs.YtobehjlejlaeeaaDoor
open Go.RowKit

theorem xor32 (a b : Nat) (ha : a < 4294967296) (hb : b < 4294967296) : bits .xor .u32 (a : Int) (b : Int) = ((a ^^^ b : Nat) : Int) := u32_xor_nat a b ha hb
theorem sh65536 (h : Nat) (hh : h < 4294967296) : bits .xor .u32 (h : Int) ((h : Int) / 65536) = ((Mt.sh h 65536 : Nat) : Int) := by
  have e : (h : Int) / 65536 = ((h / 65536 : Nat) : Int) := by omega
  rw [e, xor32 h (h / 65536) hh (by omega)]
  rfl
theorem sh8192 (h : Nat) (hh : h < 4294967296) : bits .xor .u32 (h : Int) ((h : Int) / 8192) = ((Mt.sh h 8192 : Nat) : Int) := by
  have e : (h : Int) / 8192 = ((h / 8192 : Nat) : Int) := by omega
  rw [e, xor32 h (h / 8192) hh (by omega)]
  rfl
theorem mul32 (h m : Nat) : (h : Int) * (m : Int) % 4294967296 = ((Mt.mulm h m : Nat) : Int) := by
  unfold Mt.mulm
  omega
set_option maxRecDepth 100000 in
set_option maxHeartbeats 2000000 in
theorem hash_any (s : ByteArray) (w : World) (hs : s.size ≤ 140737488355328) :
    Calls Tryd.prog 10 #[.string s] w fun e w' => e = .returned (.int .u32 (Mt.hash s : Nat)) ∧ w = w' := by
  go_enter Tryd.func10, Tryd.ntmps10
  go_wp2
  go_loop [3, 4, 7] (fun h _ i => ∃ k : Nat, k ≤ s.size ∧ i = .int .i64 k ∧ h = .int .u32 (Mt.fnv (s.data.toList.take k) : Nat)) (fun _ _ i => s.size - (intOf i).toNat)
  case atStart => exact ⟨0, Nat.zero_le _, rfl, rfl⟩
  case round =>
    obtain ⟨k, hk, rfl, rfl⟩ := hrel
    by_cases hlt : k < s.size
    · have HT := Lib.hid (Mt.fnv_take s k hlt)
      have hl := Mt.fnv_lt (s.data.toList.take k)
      generalize Mt.fnv (s.data.toList.take k) = h at *
      have hb : s[k].toNat < 256 := UInt8.toNat_lt _
      have hx := xor32 h s[k].toNat hl (by omega)
      have hxl : h ^^^ s[k].toNat < 4294967296 := Nat.xor_lt_two_pow (n := 32) hl (by omega)
      go_wp2
      go_round
      case rel => exact ⟨k + 1, by omega, by go_num, by rw [HT.out]; rfl⟩
      case measure => simp [intOf]; omega
    · go_wp2
      go_ret
      have hk' : k = s.size := by omega
      have hl := Mt.fnv_lt (s.data.toList.take k)
      have hf : Mt.hash s = Mt.fin (Mt.fnv (s.data.toList.take k)) := by
        rw [List.take_of_length_le (by simp; omega)]
        rfl
      rw [hf]
      generalize Mt.fnv (s.data.toList.take k) = h at *
      have e1 := sh65536 h hl
      have e2 : ((Mt.sh h 65536 : Nat) : Int) * 2246822507 % 4294967296 = _ := mul32 (Mt.sh h 65536) 2246822507
      have e3 := sh8192 _ (Mt.mulm_lt (Mt.sh h 65536) 2246822507)
      have e4 : ((Mt.sh (Mt.mulm (Mt.sh h 65536) 2246822507) 8192 : Nat) : Int) * 3266489909 % 4294967296 = _ := mul32 (Mt.sh (Mt.mulm (Mt.sh h 65536) 2246822507) 8192) 3266489909
      have e5 := sh65536 _ (Mt.mulm_lt (Mt.sh (Mt.mulm (Mt.sh h 65536) 2246822507) 8192) 3266489909)
      refine ⟨?_, rfl⟩
      simp only [Array.getD_eq_getD_getElem?, List.getElem?_toArray, e1, e2, e3, e4, e5]
      rfl
end Go.Proofs.YtobehjlejlaeeaaDoor
