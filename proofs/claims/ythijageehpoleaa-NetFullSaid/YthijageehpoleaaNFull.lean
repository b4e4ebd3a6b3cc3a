/- NetFull: more packets than there may be. -/
import Derived.Test.YthijageehpoleaaNF0
namespace Go.Proofs.Ythijageehpoleaa
open Go.RowKit

set_option maxRecDepth 100000 in
set_option maxHeartbeats 16000000 in
theorem full_walk (s k : Int) (w : World) :
    Calls Try.prog 5 #[.int .i64 s, .int .i64 k] w fun e w' => e = .returned (.bool true) ∧ Below w.heap.size w w' := by
  have HA := Lib.hid (awake_any w)
  by_cases hbad : s < 0 ∨ k < 0 ∨ 5000 < s ∨ 5000 < k
  · have h0 : s < 0 ∨ (0 ≤ s ∧ k < 0) ∨ (0 ≤ s ∧ 0 ≤ k ∧ 5000 < s) ∨ (0 ≤ s ∧ 0 ≤ k ∧ s ≤ 5000 ∧ 5000 < k) := by omega
    clear hbad
    rcases h0 with h1 | ⟨h1, h2⟩ | ⟨h1, h2, h3⟩ | ⟨h1, h2, h3, h4⟩
    all_goals
      go_enter Try.func5, Try.ntmps5
      go_wp2_with fail
      refine HA.out.mono ?_
      rintro e w1 ⟨rfl, hb1⟩
      have HB1 := Lib.hid hb1
      clear hb1
      go_wp2
      go_ret
      exact ⟨rfl, HB1.out⟩
  · obtain ⟨S, rfl⟩ : ∃ S : Nat, s = (S : Int) := ⟨s.toNat, by omega⟩
    obtain ⟨K, rfl⟩ : ∃ K : Nat, k = (K : Int) := ⟨k.toNat, by omega⟩
    have hS : S ≤ 5000 := by omega
    have hK : K ≤ 5000 := by omega
    clear hbad
    have hd1 : decide ((S : Int) < 0) = false := by rw [decide_eq_false_iff_not]; omega
    have hd2 : decide ((K : Int) < 0) = false := by rw [decide_eq_false_iff_not]; omega
    have hd3 : decide (5000 < (S : Int)) = false := by rw [decide_eq_false_iff_not]; omega
    have hd4 : decide (5000 < (K : Int)) = false := by rw [decide_eq_false_iff_not]; omega
    obtain ⟨M, hM⟩ : ∃ M, M = min (S + K) 4096 := ⟨_, rfl⟩
    have hmn : ∀ (ts : Array TypeId) (t : TypeId) (W : World), (Builtin.min_ ts t #[.int .i64 ((S : Int) + (K : Int)), .int .i64 4096]).run Try.prog W = .ok (.int .i64 (M : Int)) W := by
      intro ts t W
      rw [run_min_int2]
      congr 2
      split <;> omega
    have HM := Lib.hid hM
    clear hM
    go_enter Try.func5, Try.ntmps5
    go_wp2_with fail
    refine HA.out.mono ?_
    rintro e w1 ⟨rfl, hb1⟩
    have HB1 := Lib.hid hb1
    have HNW := Lib.hid (new_good 1 w1 (by decide) (by decide))
    clear hb1
    go_wp2_with fail
    refine HNW.out.mono ?_
    rintro e w2 ⟨rfl, hN2, hb2⟩
    have hF2 : FS w w2 w1.heap.size 0 := ⟨⟨_, _, hN2, rfl, by intro p hp; cases hp⟩, HB1.out.trans (hb2.mono HB1.out.size), HB1.out.size, hb2.size⟩
    have HF2 := Lib.hid hF2
    clear hN2 hb2 hF2 HNW
    generalize w1.heap.size = g at *
    go_wp2_with fail
    go_loopw [7] (fun iv wr => ∃ i : Nat, i ≤ S ∧ iv = .int .i64 i ∧ FS w wr g (min i 4096)) (fun iv _ => S - (intOf iv).toNat)
    case atStart => exact ⟨0, by omega, by go_num, HF2.out⟩
    case round =>
      clear HF2
      obtain ⟨i, hi, rfl, hF⟩ := hrel
      have HF := Lib.hid hF
      clear hF
      by_cases hiS : i < S
      · by_cases hi4 : i < 4096
        · have hb4 : decide ((i : Int) < 4096) = true := by rw [decide_eq_true_eq]; omega
          have HC := Lib.hid (HF.out.send_ok (by omega))
          go_wp2_with fail
          refine HC.out.mono ?_
          rintro e w3 ⟨rfl, hF3⟩
          have HF3 := Lib.hid (show FS w w3 g (min (i + 1) 4096) by rw [show min (i + 1) 4096 = min i 4096 + 1 by omega]; exact hF3)
          clear hF3 HC HF
          go_wp2
          go_roundw
          case rel => exact ⟨i + 1, by omega, by go_num, HF3.out⟩
          case measure => simp [intOf]; omega
        · have hb4 : decide ((i : Int) < 4096) = false := by rw [decide_eq_false_iff_not]; omega
          have HC := Lib.hid (HF.out.send_full (by omega))
          go_wp2_with fail
          refine HC.out.mono ?_
          rintro e w3 ⟨rfl, hF3⟩
          have HF3 := Lib.hid (show FS w w3 g (min (i + 1) 4096) by rw [show min (i + 1) 4096 = min i 4096 by omega]; exact hF3)
          clear hF3 HC HF
          go_wp2
          go_roundw
          case rel => exact ⟨i + 1, by omega, by go_num, HF3.out⟩
          case measure => simp [intOf]; omega
      · obtain rfl : i = S := by omega
        clear hiS
        rcases Nat.eq_zero_or_pos i with h0 | h0
        · have hq0 : ((i : Int) == 0) = true := by simp [h0]
          have hgt : decide (0 < i) = false := by rw [decide_eq_false_iff_not]; omega
          have HF' := Lib.hid (show FS w wr g 0 from by have h := HF.out; rw [show min i 4096 = 0 by omega] at h; exact h)
          clear HF h0
          go_wp2_with fail
          go_loopw [9] (fun iv wq => ∃ j : Nat, j ≤ K ∧ iv = .int .i64 j ∧ FS w wq g 0) (fun iv _ => K - (intOf iv).toNat)
          case atStart => exact ⟨0, by omega, by go_num, HF'.out⟩
          case round =>
            clear HF'
            obtain ⟨j, hj, rfl, hF⟩ := hrel
            have HF := Lib.hid hF
            clear hF
            by_cases hjK : j < K
            · have HC := Lib.hid HF.out.copy_none
              go_wp2_with fail
              refine HC.out.mono ?_
              rintro e w3 ⟨rfl, hF3⟩
              have HF3 := Lib.hid hF3
              clear hF3 HC HF
              go_wp2
              go_roundw
              case rel => exact ⟨j + 1, by omega, by go_num, HF3.out⟩
              case measure => simp [intOf]; omega
            · obtain rfl : j = K := by omega
              clear hjK
              go_wp2_with fail
              refine HF.out.len.mono ?_
              rintro e w4 ⟨rfl, hF4⟩
              have HF4 := Lib.hid hF4
              clear hF4
              go_wp2_with fail
              refine (HF4.out.lose (by omega)).mono ?_
              rintro e w5 ⟨rfl, hF5⟩
              have HF5 := Lib.hid hF5
              clear hF5
              go_wp2_with fail
              refine HF5.out.len.mono ?_
              rintro e w6 ⟨rfl, hF6⟩
              have HF6 := Lib.hid hF6
              clear hF6
              go_wp2
              go_ret
              exact ⟨rfl, HF6.out.2.1⟩
        · have hne : ((i : Int) == 0) = false := by rw [beq_eq_false_iff_ne]; omega
          have hgt : decide (0 < (i : Int)) = true := by rw [decide_eq_true_eq]; omega
          have HF' := Lib.hid (show FS w wr g (min (i + 0) 4096) from HF.out)
          clear HF
          go_wp2_with fail
          go_loopw [9] (fun iv wq => ∃ j : Nat, j ≤ K ∧ iv = .int .i64 j ∧ FS w wq g (min (i + j) 4096)) (fun iv _ => K - (intOf iv).toNat)
          case atStart => exact ⟨0, by omega, by go_num, HF'.out⟩
          case round =>
            clear HF'
            obtain ⟨j, hj, rfl, hF⟩ := hrel
            have HF := Lib.hid hF
            clear hF
            by_cases hjK : j < K
            · by_cases hi4 : i + j < 4096
              · have hb4 : decide ((i : Int) + (j : Int) < 4096) = true := by rw [decide_eq_true_eq]; omega
                have HC := Lib.hid (HF.out.copy_ok (by omega) (by omega))
                go_wp2_with fail
                refine HC.out.mono ?_
                rintro e w3 ⟨rfl, hF3⟩
                have HF3 := Lib.hid (show FS w w3 g (min (i + (j + 1)) 4096) by rw [show min (i + (j + 1)) 4096 = min (i + j) 4096 + 1 by omega]; exact hF3)
                clear hF3 HC HF
                go_wp2
                go_roundw
                case rel => exact ⟨j + 1, by omega, by go_num, HF3.out⟩
                case measure => simp [intOf]; omega
              · have hb4 : decide ((i : Int) + (j : Int) < 4096) = false := by rw [decide_eq_false_iff_not]; omega
                have HC := Lib.hid (HF.out.copy_full (by omega))
                go_wp2_with fail
                refine HC.out.mono ?_
                rintro e w3 ⟨rfl, hF3⟩
                have HF3 := Lib.hid (show FS w w3 g (min (i + (j + 1)) 4096) by rw [show min (i + (j + 1)) 4096 = min (i + j) 4096 by omega]; exact hF3)
                clear hF3 HC HF
                go_wp2
                go_roundw
                case rel => exact ⟨j + 1, by omega, by go_num, HF3.out⟩
                case measure => simp [intOf]; omega
            · obtain rfl : j = K := by omega
              clear hjK
              rw [← HM.out] at HF
              have hM4 : M ≤ 4096 := by have := HM.out; omega
              have hMp : 0 < M := by have := HM.out; omega
              go_wp2_with fail
              refine HF.out.len.mono ?_
              rintro e w4 ⟨rfl, hF4⟩
              have HF4 := Lib.hid hF4
              clear hF4
              go_wp2_with fail
              refine (HF4.out.lose (by omega)).mono ?_
              rintro e w5 ⟨rfl, hF5⟩
              have HF5 := Lib.hid hF5
              clear hF5
              go_wp2_with fail
              refine HF5.out.len.mono ?_
              rintro e w6 ⟨rfl, hF6⟩
              have HF6 := Lib.hid hF6
              clear hF6
              go_wp2
              go_ret
              exact ⟨rfl, HF6.out.2.1⟩
end Go.Proofs.Ythijageehpoleaa
