/- The document's reading of a number. -/
import Derived.Test.YteodldmbnghfcaaGreatCRefI
import Derived.Test.YteodldmbnghfcaaGreatCInv
namespace Go.Proofs.YteodldmbnghfcaaGreat
open Go.RowKit

theorem str_at (l : List Int) (hl : ∀ x ∈ l, 0 ≤ x ∧ x < 256) (i : Nat) (h : i < (strOfNums l).size) : (((strOfNums l)[i].toNat : Nat) : Int) = l.getD i 0 := by
  have hi : i < l.length := by rw [strOfNums_size] at h; exact h
  have h1 : (strOfNums l).data.toList[i]? = some ((strOfNums l)[i]) := by
    rw [List.getElem?_eq_getElem (by rw [strOfNums_data, List.length_map]; exact hi)]
    rfl
  rw [strOfNums_data, List.getElem?_map, List.getElem?_eq_getElem hi] at h1
  simp only [Option.map_some, Option.some.injEq] at h1
  rw [← h1, List.getD_eq_getElem?_getD, List.getElem?_eq_getElem hi, Option.getD_some]
  have := hl l[i] (List.getElem_mem hi)
  simp
  omega

set_option maxRecDepth 100000 in
set_option maxHeartbeats 2000000 in
theorem refget_any (xs : List Int) (w : World) (hx : ∀ x ∈ xs, 0 ≤ x ∧ x < 256) (hn : xs.length ≤ 140737488351232) :
    Calls Tryz.prog 69 #[.string (strOfNums xs)] w fun e w' => e = .returned (.tuple #[.int .i64 (Vi.get 0 0 xs).1, .int .i64 ((Vi.get 0 0 xs).2.1 : Nat), .int .i64 (Vi.get 0 0 xs).2.2]) ∧ Below w.heap.size w w' := by
  have hss := strOfNums_size xs
  obtain ⟨S, hS⟩ : ∃ S, S = strOfNums xs := ⟨_, rfl⟩
  obtain ⟨G, hG⟩ : ∃ G, G = Vi.get 0 0 xs := ⟨_, rfl⟩
  rw [← hS] at hss ⊢
  rw [← hG]
  have HS := Lib.hid hS
  have HG := Lib.hid hG
  have HX := Lib.hid hx
  clear hS hG hx
  go_enter Tryz.func69, Tryz.ntmps69
  go_wp2_with fail
  go_loopw [5, 6, 7] (fun uv pv iv wr => ∃ (i : Nat) (pre : List Int), i ≤ xs.length ∧ i ≤ 9 ∧ iv = .int .i64 i ∧ pre = xs.take i ∧ (∀ c ∈ pre, 128 ≤ c ∧ c < 256) ∧ uv = .int .u64 (Vi.val pre : Nat) ∧ pv = .int .u64 ((128 ^ i : Nat) : Int) ∧ Vi.get i (Vi.val pre) (xs.drop i) = G ∧ Below w.heap.size w wr) (fun _ _ iv _ => xs.length - (intOf iv).toNat)
  case atStart => exact ⟨0, [], by omega, by omega, rfl, rfl, by simp, rfl, rfl, HG.out.symm, Below.refl _ _⟩
  case round =>
    obtain ⟨i, pre, hin, hi9, rfl, hpre, hcc, rfl, rfl, hget, hbel⟩ := hrel
    by_cases hil : i < xs.length
    rotate_left
    · have hG0 : G = (0, 0, 10) := by rw [← hget, List.drop_of_length_le (by omega)]; rfl
      subst hG0
      have HB := Lib.hid hbel
      clear hget hbel hpre hcc HG
      go_wp2
      go_ret3
      exact ⟨rfl, HB.out⟩
    have hiS : i < S.size := by rw [hss]; exact hil
    have hxi := HX.out _ (getD_mem xs i hil)
    have hat : ((S[i].toNat : Nat) : Int) = xs.getD i 0 := by
      have h0 := HS.out
      subst h0
      exact str_at xs HX.out i hiS
    have hdrop : xs.drop i = xs.getD i 0 :: xs.drop (i + 1) := by
      rw [List.drop_eq_getElem_cons hil, List.getD_eq_getElem?_getD, List.getElem?_eq_getElem hil]
      rfl
    have htake : xs.take (i + 1) = pre ++ [xs.getD i 0] := by
      rw [List.take_succ_eq_append_getElem hil, hpre, List.getD_eq_getElem?_getD, List.getElem?_eq_getElem hil]
      rfl
    have hpl : pre.length = i := by rw [hpre, List.length_take]; omega
    rw [hdrop, Vi.get] at hget
    obtain ⟨y, hy⟩ : ∃ y : Nat, xs.getD i 0 = (y : Int) := ⟨(xs.getD i 0).toNat, by omega⟩
    rw [hy] at hxi hat hget htake
    have hy256 : y < 256 := by omega
    have hvl := Vi.val_lt pre
    rw [hpl] at hvl
    have hsl := fun w : World => str_head S (i + 1) (by omega) w
    have hsl' := fun w : World => (show (Instr.slice 9 (.string S) none (some (.int .i64 ((i : Int) + 1))) none).run Tryz.prog w = .ok (.string (S.extract 0 (i + 1))) w by have := hsl w; simpa using this)
    have hext : S.extract 0 (i + 1) = strOfNums (pre ++ [(y : Int)]) := by
      rw [HS.out, str_sub, List.drop_zero, Nat.sub_zero, htake]
    have HE := Lib.hid hext
    have HB := Lib.hid hbel
    have HT := Lib.hid htake
    have HC := Lib.hid hcc
    clear hdrop hy hsl hext hbel htake hcc hpre hxi
    by_cases h9 : i = 9 ∧ (1 : Int) < (y : Int)
    · rw [if_pos h9] at hget
      subst hget
      obtain ⟨rfl, h91⟩ := h9
      have h91' : 1 < y := by omega
      clear HG h91
      go_wp2
      go_ret3
      exact ⟨rfl, HB.out⟩
    rw [if_neg h9] at hget
    have hp63 : 128 ^ i ≤ 9223372036854775808 := by
      have : (128 : Nat) ^ i ≤ 128 ^ 9 := Nat.pow_le_pow_right (by omega) hi9
      exact this
    have hUlt : Vi.val pre + (y % 128) * 128 ^ i < 18446744073709551616 := by
      by_cases h99 : i = 9
      · subst h99
        have : y ≤ 1 := by omega
        have h3 : (128 : Nat) ^ 9 = 9223372036854775808 := by decide
        rw [h3] at hvl ⊢
        have : y % 128 ≤ 1 := by omega
        omega
      · have h4 : (128 : Nat) ^ (i + 1) ≤ 128 ^ 9 := Nat.pow_le_pow_right (by omega) (by omega)
        have h5 := Vi.val_lt (pre ++ [(y : Int)])
        rw [Vi.val_snoc, List.length_append, hpl, Int.toNat_natCast, show i + [(y : Int)].length = i + 1 from rfl] at h5
        have h3 : (128 : Nat) ^ 9 = 9223372036854775808 := by decide
        omega
    obtain ⟨U, hU⟩ : ∃ U : Nat, U = Vi.val pre + (y % 128) * 128 ^ i := ⟨_, rfl⟩
    have hm1 : IntKind.u64.wrap ((y : Int) % 128 * ((128 ^ i : Nat) : Int)) = (((y % 128) * 128 ^ i : Nat) : Int) := by
      have : (y : Int) % 128 * ((128 ^ i : Nat) : Int) = (((y % 128) * 128 ^ i : Nat) : Int) := by rw [Int.natCast_mul]; rfl
      rw [this, IntKind.wrap_u64]
      omega
    have hm2 : IntKind.u64.wrap (((Vi.val pre : Nat) : Int) + (((y % 128) * 128 ^ i : Nat) : Int)) = (U : Int) := by
      rw [IntKind.wrap_u64]
      omega
    rw [← hU] at hUlt
    by_cases h128 : 128 ≤ y
    · rw [if_pos (by omega)] at hget
      have hi99 : i ≠ 9 := fun h => h9 ⟨h, by omega⟩
      have hp8 : (128 : Nat) ^ (i + 1) = 128 ^ i * 128 := by rw [Nat.pow_succ]
      have hm3 : IntKind.u64.wrap (((128 ^ i : Nat) : Int) * 128) = ((128 ^ (i + 1) : Nat) : Int) := by
        have h4 : (128 : Nat) ^ (i + 1) ≤ 128 ^ 9 := Nat.pow_le_pow_right (by omega) (by omega)
        have h3 : (128 : Nat) ^ 9 = 9223372036854775808 := by decide
        rw [IntKind.wrap_u64]
        omega
      have hUv : U = Vi.val (pre ++ [(y : Int)]) := by rw [hU, Vi.val_snoc, hpl, Int.toNat_natCast]
      rw [Int.toNat_natCast, ← hU, hUv] at hget
      have HGT := Lib.hid hget
      have HUV := Lib.hid hUv
      have HCC := Lib.hid (show ∀ c ∈ pre ++ [(y : Int)], 128 ≤ c ∧ c < 256 from fun c hc => by
        rcases List.mem_append.1 hc with hc | hc
        · exact HC.out c hc
        · obtain rfl : c = (y : Int) := by simpa using hc
          omega)
      clear hget hU hp8 hUv HG
      generalize Vi.val pre = V at *
      generalize (y % 128) * 128 ^ i = M at *
      obtain ⟨p1, hp1⟩ : ∃ p1 : Nat, p1 = 128 ^ (i + 1) := ⟨_, rfl⟩
      rw [← hp1] at hm3
      have HP1 := Lib.hid hp1
      clear hp1
      generalize 128 ^ i = p0 at *
      go_wp2
      go_roundw
      case rel => exact ⟨i + 1, pre ++ [(y : Int)], by omega, by omega, by go_num, HT.out.symm, HCC.out, by rw [← HUV.out], by rw [HP1.out], HGT.out, HB.out⟩
      case measure => simp [intOf]; omega
    · rw [if_neg (by omega)] at hget
      have hcan := Vi.canon (pre := pre) (x := (y : Int)) HC.out ⟨by omega, by omega⟩
      have hyy : y % 128 = y := by omega
      rw [hpl, Int.toNat_natCast] at hcan
      rw [Int.toNat_natCast] at hget
      rw [hyy] at hU hm1 hm2
      rw [← hU] at hcan hget
      have hby1 : ∀ c ∈ Vi.int (Vi.unzig U), 0 ≤ c ∧ c < 256 := Vi.int_byte _
      have hby2 : ∀ c ∈ pre ++ [(y : Int)], 0 ≤ c ∧ c < 256 := fun c hc => by
        rcases List.mem_append.1 hc with hc | hc
        · have := HC.out c hc; omega
        · obtain rfl : c = (y : Int) := by simpa using hc
          omega
      have hir := unzig_in U hUlt
      have HR := Lib.hid (fun w => refint_any (Vi.unzig U) w hir.1 hir.2)
      have hcmp : ((strOfNums (Vi.int (Vi.unzig U))).toList == (S.extract 0 (i + 1)).toList) = decide (¬ ((y : Int) = 0 ∧ 0 < i)) := by
        rw [HE.out, Bool.eq_iff_iff, beq_iff_eq, decide_eq_true_eq, ← hcan]
        constructor
        · intro h
          exact str_inj hby1 hby2 (by
            apply ByteArray.ext
            apply Array.toList_inj.1
            rw [← Lib.toList_data, ← Lib.toList_data]
            exact h)
        · intro h
          rw [h]
      have HCMP := Lib.hid hcmp
      have hun : (U % 2 = 0 ∧ Vi.unzig U = ((U : Int) / 2)) ∨ (U % 2 = 1 ∧ Vi.unzig U = -((U : Int) / 2) - 1) := by
        unfold Vi.unzig
        split <;> omega
      have HGT := Lib.hid hget
      have hmod : (U % 2 = 0 ∧ (U : Int) % 2 = 0) ∨ (U % 2 = 1 ∧ (U : Int) % 2 = 1) := by omega
      clear hget hU hcan hby1 hby2 hir hcmp HG hyy
      generalize Vi.val pre = V at *
      generalize y * 128 ^ i = M at *
      generalize hp0 : 128 ^ i = p0 at *
      generalize Vi.unzig U = q at *
      rcases (show i ≠ 9 ∨ (i = 9 ∧ y ≤ 1) by omega) with hne | ⟨hne, hy1⟩
      · have b9 : ((i : Int) == 9) = false := by simp; omega
        clear h9 hne
        have hw51 : IntKind.i64.wrap ((i : Int) + 1) = (i : Int) + 1 := IntWalk.i64_in _ (by omega)
        rcases hun with ⟨hu1, hu2⟩ | ⟨hu1, hu2⟩
        · subst hu2
          by_cases hz : (y : Int) = 0 ∧ 0 < i
          · have hcm := HCMP.out
            rw [decide_eq_false (fun h => h hz)] at hcm
            have hgt := HGT.out
            rw [if_pos hz] at hgt
            have HG2 := Lib.hid hgt
            have HCM := Lib.hid hcm
            clear hgt hz hcm
            go_wp2_with fail
            have hcm := HCM.out
            go_region_held3 (fun V' => Below w.heap.size w V') (first | exact HB.out.trans ⟨rfl, rfl, rfl, Nat.le_refl _, fun _ _ => rfl⟩ | assumption | exact Below.trans (by assumption) (Below.mono (by assumption) (Below.size (by assumption)))) (first
              | (go_at_call 52; (with_reducible refine (HR.out _).mono ?_); rintro e w' ⟨rfl, hbn⟩))
            have HBF := Lib.hid (show Below w.heap.size w w' by assumption)
            clear hcm
            go_wp2
            go_ret3
            exact ⟨by rw [← HG2.out]; rfl, HBF.out⟩
          · have hcm := HCMP.out
            rw [decide_eq_true (hz)] at hcm
            have hgt := HGT.out
            rw [if_neg hz] at hgt
            have HG2 := Lib.hid hgt
            have HCM := Lib.hid hcm
            clear hgt hz hcm
            go_wp2_with fail
            have hcm := HCM.out
            go_region_held3 (fun V' => Below w.heap.size w V') (first | exact HB.out.trans ⟨rfl, rfl, rfl, Nat.le_refl _, fun _ _ => rfl⟩ | assumption | exact Below.trans (by assumption) (Below.mono (by assumption) (Below.size (by assumption)))) (first
              | (go_at_call 52; (with_reducible refine (HR.out _).mono ?_); rintro e w' ⟨rfl, hbn⟩))
            have HBF := Lib.hid (show Below w.heap.size w w' by assumption)
            clear hcm
            go_wp2
            go_ret3
            exact ⟨by rw [← HG2.out]; rfl, HBF.out⟩
        · subst hu2
          by_cases hz : (y : Int) = 0 ∧ 0 < i
          · have hcm := HCMP.out
            rw [decide_eq_false (fun h => h hz)] at hcm
            have hgt := HGT.out
            rw [if_pos hz] at hgt
            have HG2 := Lib.hid hgt
            have HCM := Lib.hid hcm
            clear hgt hz hcm
            go_wp2_with fail
            have hcm := HCM.out
            go_region_held3 (fun V' => Below w.heap.size w V') (first | exact HB.out.trans ⟨rfl, rfl, rfl, Nat.le_refl _, fun _ _ => rfl⟩ | assumption | exact Below.trans (by assumption) (Below.mono (by assumption) (Below.size (by assumption)))) (first
              | (go_at_call 52; (with_reducible refine (HR.out _).mono ?_); rintro e w' ⟨rfl, hbn⟩))
            have HBF := Lib.hid (show Below w.heap.size w w' by assumption)
            clear hcm
            go_wp2
            go_ret3
            exact ⟨by rw [← HG2.out]; rfl, HBF.out⟩
          · have hcm := HCMP.out
            rw [decide_eq_true (hz)] at hcm
            have hgt := HGT.out
            rw [if_neg hz] at hgt
            have HG2 := Lib.hid hgt
            have HCM := Lib.hid hcm
            clear hgt hz hcm
            go_wp2_with fail
            have hcm := HCM.out
            go_region_held3 (fun V' => Below w.heap.size w V') (first | exact HB.out.trans ⟨rfl, rfl, rfl, Nat.le_refl _, fun _ _ => rfl⟩ | assumption | exact Below.trans (by assumption) (Below.mono (by assumption) (Below.size (by assumption)))) (first
              | (go_at_call 52; (with_reducible refine (HR.out _).mono ?_); rintro e w' ⟨rfl, hbn⟩))
            have HBF := Lib.hid (show Below w.heap.size w w' by assumption)
            clear hcm
            go_wp2
            go_ret3
            exact ⟨by rw [← HG2.out]; rfl, HBF.out⟩
      · have b9 : ((i : Int) == 9) = true := by simp; omega
        clear h9 hne
        have hw51 : IntKind.i64.wrap ((i : Int) + 1) = (i : Int) + 1 := IntWalk.i64_in _ (by omega)
        rcases hun with ⟨hu1, hu2⟩ | ⟨hu1, hu2⟩
        · subst hu2
          by_cases hz : (y : Int) = 0 ∧ 0 < i
          · have hcm := HCMP.out
            rw [decide_eq_false (fun h => h hz)] at hcm
            have hgt := HGT.out
            rw [if_pos hz] at hgt
            have HG2 := Lib.hid hgt
            have HCM := Lib.hid hcm
            clear hgt hz hcm
            go_wp2_with fail
            have hcm := HCM.out
            go_region_held3 (fun V' => Below w.heap.size w V') (first | exact HB.out.trans ⟨rfl, rfl, rfl, Nat.le_refl _, fun _ _ => rfl⟩ | assumption | exact Below.trans (by assumption) (Below.mono (by assumption) (Below.size (by assumption)))) (first
              | (go_at_call 52; (with_reducible refine (HR.out _).mono ?_); rintro e w' ⟨rfl, hbn⟩))
            have HBF := Lib.hid (show Below w.heap.size w w' by assumption)
            clear hcm
            go_wp2
            go_ret3
            exact ⟨by rw [← HG2.out]; rfl, HBF.out⟩
          · have hcm := HCMP.out
            rw [decide_eq_true (hz)] at hcm
            have hgt := HGT.out
            rw [if_neg hz] at hgt
            have HG2 := Lib.hid hgt
            have HCM := Lib.hid hcm
            clear hgt hz hcm
            go_wp2_with fail
            have hcm := HCM.out
            go_region_held3 (fun V' => Below w.heap.size w V') (first | exact HB.out.trans ⟨rfl, rfl, rfl, Nat.le_refl _, fun _ _ => rfl⟩ | assumption | exact Below.trans (by assumption) (Below.mono (by assumption) (Below.size (by assumption)))) (first
              | (go_at_call 52; (with_reducible refine (HR.out _).mono ?_); rintro e w' ⟨rfl, hbn⟩))
            have HBF := Lib.hid (show Below w.heap.size w w' by assumption)
            clear hcm
            go_wp2
            go_ret3
            exact ⟨by rw [← HG2.out]; rfl, HBF.out⟩
        · subst hu2
          by_cases hz : (y : Int) = 0 ∧ 0 < i
          · have hcm := HCMP.out
            rw [decide_eq_false (fun h => h hz)] at hcm
            have hgt := HGT.out
            rw [if_pos hz] at hgt
            have HG2 := Lib.hid hgt
            have HCM := Lib.hid hcm
            clear hgt hz hcm
            go_wp2_with fail
            have hcm := HCM.out
            go_region_held3 (fun V' => Below w.heap.size w V') (first | exact HB.out.trans ⟨rfl, rfl, rfl, Nat.le_refl _, fun _ _ => rfl⟩ | assumption | exact Below.trans (by assumption) (Below.mono (by assumption) (Below.size (by assumption)))) (first
              | (go_at_call 52; (with_reducible refine (HR.out _).mono ?_); rintro e w' ⟨rfl, hbn⟩))
            have HBF := Lib.hid (show Below w.heap.size w w' by assumption)
            clear hcm
            go_wp2
            go_ret3
            exact ⟨by rw [← HG2.out]; rfl, HBF.out⟩
          · have hcm := HCMP.out
            rw [decide_eq_true (hz)] at hcm
            have hgt := HGT.out
            rw [if_neg hz] at hgt
            have HG2 := Lib.hid hgt
            have HCM := Lib.hid hcm
            clear hgt hz hcm
            go_wp2_with fail
            have hcm := HCM.out
            go_region_held3 (fun V' => Below w.heap.size w V') (first | exact HB.out.trans ⟨rfl, rfl, rfl, Nat.le_refl _, fun _ _ => rfl⟩ | assumption | exact Below.trans (by assumption) (Below.mono (by assumption) (Below.size (by assumption)))) (first
              | (go_at_call 52; (with_reducible refine (HR.out _).mono ?_); rintro e w' ⟨rfl, hbn⟩))
            have HBF := Lib.hid (show Below w.heap.size w w' by assumption)
            clear hcm
            go_wp2
            go_ret3
            exact ⟨by rw [← HG2.out]; rfl, HBF.out⟩
end Go.Proofs.YteodldmbnghfcaaGreat
