/- Layer 5: names, and the first place of a byte: both sides' walks. -/
import Derived.Test.YtilmpkmojfmlkaaT0
namespace Go.Proofs.Ytilmpkmojfmlkaa
open Go.RowKit

set_option maxHeartbeats 1000000 in
theorem inName_any (b : Nat) (w : World) (hb : b < 256) :
    Calls Try.prog 101 #[.int .u8 b] w fun e w' => e = .returned (.bool (okN b)) ∧ w' = w := by
  go_enter Try.func101, Try.ntmps101
  go_wp2
  all_goals (go_ret; refine ⟨?_, rfl⟩; simp [okN]; first | (rw [Bool.eq_iff_iff]; simp; omega) | omega)

set_option maxHeartbeats 1000000 in
set_option maxRecDepth 100000 in
theorem indexByte_any (S : ByteArray) (c : Int) (w : World) :
    Calls Try.prog 106 #[.string S, .int .u8 c] w fun e w' => e = .returned (.int .i64 (Lib.indexByte S.data.toList c.toNat.toUInt8)) ∧ w' = w := by
  go_enter Try.func106, Try.ntmps106
  go_wp2
  rw [run_callFunc_extern Try.func110 (by kernel_rfl) (by kernel_rfl) (by kernel_rfl) (e := Extern.BytealgIndexByte.indexByte) (by kernel_rfl), Lib.run_indexByteString]
  simp only [Result.andThen]
  rw [Oper.upon_value]
  go_wp2
  go_ret
  exact ⟨rfl, rfl⟩

set_option maxHeartbeats 1000000 in
set_option maxRecDepth 100000 in
theorem isName_any (S : ByteArray) (w : World) :
    Calls Try.prog 88 #[.string S] w fun e w' => e = .returned (.bool (nameB S)) ∧ w' = w := by
  by_cases h0 : 0 < S.size
  · by_cases h1 : S.size ≤ 32
    · have hn : nameB S = S.data.toList.all okB := by simp [nameB, h0, h1]
      have HN := Lib.hid hn
      clear hn
      go_enter Try.func88, Try.ntmps88
      go_wp2
      go_loop [14] (fun i => ∃ k : Nat, k ≤ S.size ∧ i = .int .i64 k ∧ (S.data.toList.take k).all okB = true) (fun i => S.size - (intOf i).toNat)
      case atStart => exact ⟨0, by omega, rfl, rfl⟩
      case round =>
        obtain ⟨k, hk, rfl, hall⟩ := hrel
        have HALL := Lib.hid hall
        clear hall
        by_cases hks : k < S.size
        · go_wp2_with fail
          refine (inName_any _ _ (by have := S[k].toNat_lt; simpa using this)).mono ?_
          rintro e w1 ⟨rfl, rfl⟩
          rw [at_get S k hks]
          have hs := all_take_succ S k hks
          rw [HALL.out, Bool.true_and] at hs
          cases ho : okN (at_ S k) with
          | true =>
            rw [ho] at hs
            have HS := Lib.hid hs
            clear hs ho
            go_wp2
            go_round
            case rel => exact ⟨k + 1, by omega, by go_num, HS.out⟩
            case measure => simp [intOf]; omega
          | false =>
            rw [ho] at hs
            have hf : S.data.toList.all okB = false := by
              cases h : S.data.toList.all okB with
              | false => rfl
              | true => rw [show (S.data.toList.take (k + 1)).all okB = true from List.all_eq_true.2 fun x hx => List.all_eq_true.1 h x (List.mem_of_mem_take hx)] at hs; cases hs
            have HS := Lib.hid (HN.out.trans hf)
            clear hs hf ho
            go_wp2
            go_ret
            exact ⟨by rw [HS.out]; rfl, rfl⟩
        · have hk2 : k = S.data.toList.length := by rw [← Lib.size_eq]; omega
          have hf := HALL.out
          rw [hk2, List.take_length] at hf
          have HS := Lib.hid (HN.out.trans hf)
          clear hk2 hf
          go_wp2
          go_ret
          exact ⟨by rw [HS.out]; rfl, rfl⟩
    · have hn : nameB S = false := by simp [nameB, h1]
      rw [hn]
      go_enter Try.func88, Try.ntmps88
      go_wp2
      go_ret
      exact ⟨rfl, rfl⟩
  · have hn : nameB S = false := by simp [nameB, h0]
    rw [hn]
    go_enter Try.func88, Try.ntmps88
    go_wp2
    go_ret
    exact ⟨rfl, rfl⟩

set_option maxHeartbeats 2000000 in
set_option maxRecDepth 100000 in
theorem name_any (S : ByteArray) (w : World) :
    Calls Try.prog 46 #[.string S] w fun e w' => e = .returned (.bool (nameB S)) ∧ w' = w := by
  by_cases h0 : 0 < S.size
  · by_cases h1 : S.size ≤ 32
    · have hn : nameB S = S.data.toList.all okB := by simp [nameB, h0, h1]
      have HN := Lib.hid hn
      clear hn
      go_enter Try.func46, Try.ntmps46
      go_wp2
      go_loop [3] (fun i => ∃ k : Nat, k ≤ S.size ∧ i = .int .i64 k ∧ (S.data.toList.take k).all okB = true) (fun i => S.size - (intOf i).toNat)
      case atStart => exact ⟨0, by omega, rfl, rfl⟩
      case round =>
        obtain ⟨k, hk, rfl, hall⟩ := hrel
        have HALL := Lib.hid hall
        clear hall
        by_cases hks : k < S.size
        · have hs := all_take_succ S k hks
          rw [HALL.out, Bool.true_and] at hs
          have hg := at_get S k hks
          have hlt : at_ S k < 256 := by rw [← hg]; have := S[k].toNat_lt; simpa using this
          obtain ⟨b, hb⟩ : ∃ b, b = at_ S k := ⟨_, rfl⟩
          rw [← hb] at hs hg hlt
          clear hb
          cases ho : okN b with
          | true =>
            rw [ho] at hs
            have HS := Lib.hid hs
            have q : (b = 95 ∨ (48 ≤ b ∧ b ≤ 57)) ∨ (97 ≤ b ∧ b ≤ 122) := by simp [okN] at ho; omega
            clear hs ho
            rcases q with (q | q) | q
            all_goals go_wp2
            all_goals go_round
            all_goals first | exact ⟨k + 1, by omega, by go_num, HS.out⟩ | (simp [intOf]; omega)
          | false =>
            rw [ho] at hs
            have hf : S.data.toList.all okB = false := by
              cases h : S.data.toList.all okB with
              | false => rfl
              | true => rw [show (S.data.toList.take (k + 1)).all okB = true from List.all_eq_true.2 fun x hx => List.all_eq_true.1 h x (List.mem_of_mem_take hx)] at hs; cases hs
            have HS := Lib.hid (HN.out.trans hf)
            have q : b ≠ 95 ∧ (b < 48 ∨ 57 < b) ∧ (b < 97 ∨ 122 < b) := by simp [okN] at ho; omega
            clear hs hf ho
            have q1 := q
            rcases (show (b < 48) ∨ (57 < b ∧ b < 95) ∨ (95 < b ∧ b < 97) ∨ 122 < b by omega) with q2 | ⟨q2, q3⟩ | ⟨q2, q3⟩ | q2
            · clear q1
              go_wp2
              all_goals first | (exfalso; omega) | (go_ret; exact ⟨by rw [HS.out]; rfl, rfl⟩) | (exfalso; simp_all; omega)
            · clear q1
              go_wp2
              all_goals first | (exfalso; omega) | (go_ret; exact ⟨by rw [HS.out]; rfl, rfl⟩) | (exfalso; simp_all; omega)
            · clear q1
              go_wp2
              all_goals first | (exfalso; omega) | (go_ret; exact ⟨by rw [HS.out]; rfl, rfl⟩) | (exfalso; simp_all; omega)
            · clear q1
              go_wp2
              all_goals first | (exfalso; omega) | (go_ret; exact ⟨by rw [HS.out]; rfl, rfl⟩) | (exfalso; simp_all; omega)
        · have hk2 : k = S.data.toList.length := by rw [← Lib.size_eq]; omega
          have hf := HALL.out
          rw [hk2, List.take_length] at hf
          have HS := Lib.hid (HN.out.trans hf)
          clear hk2 hf
          go_wp2
          go_ret
          exact ⟨by rw [HS.out]; rfl, rfl⟩
    · have hn : nameB S = false := by simp [nameB, h1]
      rw [hn]
      go_enter Try.func46, Try.ntmps46
      go_wp2
      go_ret
      exact ⟨rfl, rfl⟩
  · have hn : nameB S = false := by simp [nameB, h0]
    rw [hn]
    go_enter Try.func46, Try.ntmps46
    go_wp2
    go_ret
    exact ⟨rfl, rfl⟩

theorem idxOf_at (l : List UInt8) (x : UInt8) (k : Nat) (hk : k < l.length) (hb : k ≤ l.idxOf x) (h : l.getD k 0 = x) : l.idxOf x = k := by
  induction l generalizing k with
  | nil => simp at hk
  | cons b l ih =>
    cases k with
    | zero => simp at h; simp [h]
    | succ k =>
      rw [List.idxOf_cons] at hb ⊢
      by_cases hbx : (b == x) = true
      · simp [hbx] at hb
      · have hbx' : (b == x) = false := by simpa using hbx
        simp only [hbx', cond_false] at hb ⊢
        rw [ih k (by simpa using hk) (by omega) (by simpa using h)]
theorem idxOf_past (l : List UInt8) (x : UInt8) (k : Nat) (hk : k < l.length) (hb : k ≤ l.idxOf x) (h : l.getD k 0 ≠ x) : k + 1 ≤ l.idxOf x := by
  rcases Nat.lt_or_ge k (l.idxOf x) with h1 | h1
  · omega
  · have e : l.idxOf x = k := by omega
    exfalso
    apply h
    have h2 : l.idxOf x < l.length := by omega
    have h3 := List.getElem_idxOf h2
    rw [List.getD_eq_getElem?_getD, List.getElem?_eq_getElem hk]
    simp only [Option.getD_some]
    simpa [e] using h3

/-- The first place of a byte, or -1. -/
def fnd (x : UInt8) (S : ByteArray) : Int := if has x S then (ix x S : Int) else -1
set_option maxHeartbeats 1000000 in
set_option maxRecDepth 100000 in
theorem find_any (S : ByteArray) (x : UInt8) (w : World) (hS : S.size ≤ 9223372036854775807) :
    Calls Try.prog 64 #[.string S, .int .u8 (x.toNat : Int)] w fun e w' => e = .returned (.int .i64 (fnd x S)) ∧ w' = w := by
  go_enter Try.func64, Try.ntmps64
  go_wp2
  go_loop [5] (fun i => ∃ k : Nat, k ≤ S.size ∧ i = .int .i64 k ∧ k ≤ ix x S) (fun i => S.size - (intOf i).toNat)
  case atStart => exact ⟨0, by omega, rfl, by omega⟩
  case round =>
    obtain ⟨k, hk, rfl, hall⟩ := hrel
    by_cases hks : k < S.size
    · have hks' : k < S.data.toList.length := by rw [← Lib.size_eq]; exact hks
      have hg := at_get S k hks
      by_cases hx : S.data.toList.getD k 0 = x
      · have hxx : at_ S k = x.toNat := by rw [at_, hx]
        have hi : ix x S = k := idxOf_at _ _ _ hks' hall hx
        have hh : fnd x S = k := by simp [fnd, has, hi, hks]
        rw [hxx] at hg
        have HH := Lib.hid hh
        clear hh hi hx hxx hall
        go_wp2
        go_ret
        exact ⟨by rw [HH.out]; rfl, rfl⟩
      · have hxx : at_ S k ≠ x.toNat := by
          intro h
          apply hx
          exact UInt8.toNat_inj.1 h
        have hi : k + 1 ≤ ix x S := idxOf_past _ _ _ hks' hall hx
        have hne : (S[k].toNat : Int) ≠ (x.toNat : Int) := by rw [hg]; omega
        have HH := Lib.hid hi
        clear hi hx hxx hall hg
        go_wp2
        go_round
        case rel => exact ⟨k + 1, by omega, by go_num, HH.out⟩
        case measure => simp [intOf]; omega
    · have hh : fnd x S = -1 := by
        have := ix_le x S
        rw [fnd, if_neg (by simp [has]; omega)]
      have HH := Lib.hid hh
      clear hh hall
      go_wp2
      go_ret
      exact ⟨by rw [HH.out]; rfl, rfl⟩
end Go.Proofs.Ytilmpkmojfmlkaa
