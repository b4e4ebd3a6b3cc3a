/- The walk of porterref01.Open. -/
import Derived.Test.YtojkegnflbfloaaRef2
namespace Go.Proofs.Ytojkegnflbfloaa
open Go.RowKit

theorem sAt {S : ByteArray} {xs : List Int} (hS : S = strOfNums xs) (hb : ∀ x ∈ xs, 0 ≤ x ∧ x < 256) (k : Nat) (h : k < S.size) : S[k].toNat = (xs.getD k 0).toNat := by
  subst hS
  have hl : k < xs.length := by rwa [strOfNums_size] at h
  rw [str_at xs k h]
  have := hb _ (Mt.getD_mem xs k hl)
  omega

theorem str_slice (S : ByteArray) (i j : Nat) (hij : i ≤ j) (hj : j ≤ S.size) (w : World) :
    (Instr.slice 9 (.string S) (some (.int .i64 (i : Int))) (some (.int .i64 (j : Int))) none).run Try.prog w = .ok (.string (S.extract i j)) w := by
  have := run_slice_string (P := Try.prog) (w := w) 9 S .i64 .i64 (i : Int) (j : Int) Try.underlying9 (by omega) (by omega) (by omega)
  simpa using this

theorem str_inj {l m : List Int} (hl : ∀ x ∈ l, 0 ≤ x ∧ x < 256) (hm : ∀ x ∈ m, 0 ≤ x ∧ x < 256) (h : strOfNums l = strOfNums m) : l = m := by
  have h1 : (strOfNums l).data.toList.map (fun b => (b.toNat : Int)) = (strOfNums m).data.toList.map (fun b => (b.toNat : Int)) := by rw [h]
  have key : ∀ k : List Int, (∀ x ∈ k, 0 ≤ x ∧ x < 256) → (strOfNums k).data.toList.map (fun b => (b.toNat : Int)) = k := by
    intro k hk
    rw [strOfNums_data, List.map_map]
    conv => rhs; rw [← List.map_id k]
    apply List.map_congr_left
    intro x hx
    have := hk x hx
    simp
    omega
  rw [key l hl, key m hm] at h1
  exact h1
theorem str_ne {A B : ByteArray} (h : A ≠ B) : (A.toList == B.toList) = false := by
  rw [beq_eq_false_iff_ne]
  intro h2
  apply h
  rw [ByteArray.toList_eq, ByteArray.toList_eq] at h2
  exact ByteArray.ext (Array.toList_inj.1 h2)

def ROpenPost (w : World) (xs : List Int) (e : Ending) (w' : World) : Prop :=
  Below w.heap.size w w' ∧
  ((err xs = 0 ∧ e = .returned (.tuple #[.string (strOfNums (pay xs)), .int .i64 ((8 + wd xs 4 : Nat)), .int .i64 0])) ∨
   (err xs ≠ 0 ∧ e = .returned (.tuple #[.string ByteArray.empty, .int .i64 0, .int .i64 (err xs : Nat)])))
theorem ROpenPost.bad {w w' : World} {xs : List Int} {e : Ending} {k : Nat} (hb : Below w.heap.size w w') (h : err xs = k) (hk : k ≠ 0) (he : e = .returned (.tuple #[.string ByteArray.empty, .int .i64 0, .int .i64 (k : Nat)])) : ROpenPost w xs e w' :=
  ⟨hb, .inr ⟨by omega, by rw [he, h]⟩⟩

set_option maxHeartbeats 4000000 in
theorem refopen_any (xs : List Int) (S : ByteArray) (w : World) (hS : S = strOfNums xs) (hb : ∀ x ∈ xs, 0 ≤ x ∧ x < 256) (hn : xs.length ≤ 1048576) :
    Calls Try.prog 17 #[.string S] w (ROpenPost w xs) := by
  have hsz : S.size = xs.length := by rw [hS, strOfNums_size]
  have HS := Lib.hid hS
  have HSZ := Lib.hid hsz
  have hs : S.size ≤ 1048576 := by omega
  have HB := Lib.hid hb
  clear hS hsz hn hb
  by_cases h8 : S.size < 8
  · go_enter Try.func17, Try.ntmps17
    go_wp2
    go_ret3
    exact ROpenPost.bad (Below.refl _ _) (k := 10) (by simp only [err]; rw [if_pos (by have := HSZ.out; omega)]) (by decide) rfl
  · go_enter Try.func17, Try.ntmps17
    go_wp2_with fail
    go_loop [5, 6] (fun a i => ∃ k : Nat, k ≤ 4 ∧ i = .int .i64 k ∧ a = .int .i64 ((wd xs k : Nat))) (fun _ i => 4 - (intOf i).toNat)
    case atStart => exact ⟨0, by omega, rfl, rfl⟩
    case round =>
      obtain ⟨k, hk, rfl, rfl⟩ := hrel
      by_cases h4 : k < 4
      · have hkS : k < S.size := by omega
        have hy : S[k].toNat < 256 := UInt8.toNat_lt _
        have hlt : wd xs k < 16777216 := Nat.lt_of_lt_of_le (wd_lt xs HB.out k (by have := HSZ.out; omega)) (Nat.pow_le_pow_right (n := 256) (by omega) (show k ≤ 3 by omega))
        have hw : wd xs (k + 1) = wd xs k * 256 + S[k].toNat := by rw [sAt HS.out HB.out k hkS]; rfl
        have HW := Lib.hid hw
        clear hw
        generalize wd xs k = m at *
        go_wp2_with fail
        go_round
        case rel => exact ⟨k + 1, by omega, by go_num, by rw [HW.out]; go_num⟩
        case measure => simp [intOf]; omega
      · obtain rfl : k = 4 := by omega
        have hlt := wd_lt xs HB.out 4 (by have := HSZ.out; omega)
        by_cases h1 : 16384 < wd xs 4
        · have he : err xs = 2 := by simp only [err]; rw [if_neg (by have := HSZ.out; omega), if_pos h1]
          have HE := Lib.hid he
          have hlt2 : wd xs 4 < 4294967296 := by omega
          clear he hlt
          generalize wd xs 4 = t at *
          go_wp2
          go_ret3
          exact ROpenPost.bad (Below.refl _ _) HE.out (by decide) rfl
        · by_cases h2 : S.size < 8 + wd xs 4
          · have he : err xs = 10 := by simp only [err]; rw [if_neg (by have := HSZ.out; omega), if_neg h1, if_pos (by have := HSZ.out; omega)]
            have HE := Lib.hid he
            clear he hlt
            generalize wd xs 4 = t at *
            go_wp2
            go_ret3
            exact ROpenPost.bad (Below.refl _ _) HE.out (by decide) rfl
          · have hx4 : S.extract 0 4 = strOfNums ((xs.drop 0).take 4) := by rw [HS.out, str_sub]
            have hxp : S.extract 8 (8 + wd xs 4) = strOfNums (pay xs) := by rw [HS.out, str_sub, show 8 + wd xs 4 - 8 = wd xs 4 by omega]; rfl
            have hx48 : S.extract 4 8 = strOfNums ((xs.drop 4).take 4) := by rw [HS.out, str_sub]
            have hcat : S.extract 0 4 ++ S.extract 8 (8 + wd xs 4) = strOfNums ((xs.drop 0).take 4 ++ pay xs) := by rw [hx4, hxp, str_append]
            have hbb : ∀ x ∈ (xs.drop 0).take 4 ++ pay xs, 0 ≤ x ∧ x < 256 := by
              intro x hx
              rcases List.mem_append.1 hx with h | h
              · exact HB.out x (List.mem_of_mem_drop (List.mem_of_mem_take h))
              · exact pay_byte HB.out x h
            have hcl : ((xs.drop 0).take 4 ++ pay xs).length ≤ 140737488355328 := by simp [pay]; omega
            have he0 : Mt.sum ((xs.drop 0).take 4 ++ pay xs) = wd (xs.drop 4) 4 → err xs = 0 := by
              intro h
              have := HSZ.out
              simp only [err]
              rw [if_neg (by omega), if_neg (by omega), if_neg (by omega), if_pos h]
            have he1 : ¬ Mt.sum ((xs.drop 0).take 4 ++ pay xs) = wd (xs.drop 4) 4 → err xs = 11 := by
              intro h
              have := HSZ.out
              simp only [err]
              rw [if_neg (by omega), if_neg (by omega), if_neg (by omega), if_neg h]
            have hbw : be (wd (xs.drop 4) 4) = (xs.drop 4).take 4 := by
              rw [← wd_take]
              exact be_wd _ (by simp; have := HSZ.out; omega) (fun x hx => HB.out x (List.mem_of_mem_drop (List.mem_of_mem_take hx)))
            have z4 : (S.extract 0 4).size = 4 := by rw [hx4, strOfNums_size]; simp; have := HSZ.out; omega
            have zp : (S.extract 8 (8 + wd xs 4)).size = wd xs 4 := by rw [hxp, strOfNums_size]; simp [pay]; have := HSZ.out; omega
            have HX48 := Lib.hid hx48
            have HCAT := Lib.hid hcat
            have HBB := Lib.hid hbb
            have HCL := Lib.hid hcl
            have HE0 := Lib.hid he0
            have HE1 := Lib.hid he1
            have HBW := Lib.hid hbw
            have HXP := Lib.hid hxp
            have i1 : (4 : Int) ≤ (S.size : Int) := by omega
            have i2 : (8 : Int) ≤ (S.size : Int) := by omega
            have i3 : (S.extract 0 4).size ≤ 4 := by omega
            have i4 : (S.extract 8 (8 + wd xs 4)).size ≤ 16384 := by omega
            have hs8 : ∀ w, (Instr.slice 9 (.string S) (some (.int .i64 8)) (some (.int .i64 (8 + ((wd xs 4 : Nat) : Int)))) none).run Try.prog w = .ok (.string (S.extract 8 (8 + wd xs 4))) w := fun w => str_slice S 8 (8 + wd xs 4) (by omega) (by omega) w
            have hs4 : ∀ w, (Instr.slice 9 (.string S) (some (.int .i64 4)) (some (.int .i64 8)) none).run Try.prog w = .ok (.string (S.extract 4 8)) w := fun w => str_slice S 4 8 (by omega) (by omega) w
            generalize ht : wd xs 4 = t at *
            have HT := Lib.hid ht
            generalize S.extract 8 (8 + t) = XP at *
            generalize S.extract 4 8 = X48 at *
            have hadd : ∀ w, (Op.stringOp .add (S.extract 0 4) XP).run Try.prog w = .ok (.string (S.extract 0 4 ++ XP)) w := fun w => run_string_add_sum w _ _ (by omega)
            clear hx4 hxp hx48 hcat hbb hcl he0 he1 hbw hlt ht z4 zp
            go_wp2_with fail
            go_region_held3 (fun _ => True) (trivial) (first
              | (go_at_call 12; refine (refsum_any _ _ _ HCAT.out HBB.out HCL.out).mono ?_; rintro e w1 ⟨rfl, hb1⟩)
              | (go_at_call 25; refine (number_any _ _ (sum_lt _)).mono ?_; rintro e w2 ⟨rfl, hb2⟩))
            have HBF := Lib.hid hb2
            have HBA := Lib.hid hb1
            have hd0 : xs.drop 0 = xs := rfl
            rw [hd0] at HE0 HE1
            have hbb := HBA.out.size
            have hdr : Below w.heap.size w w.drew := ⟨rfl, rfl, rfl, Nat.le_refl _, fun _ _ => rfl⟩
            have HBT := Lib.hid ((hdr.trans HBA.out).trans (HBF.out.mono hbb))
            clear hb1 hb2 hd0 hbb hadd hs4 hs8 hdr
            by_cases hq : Mt.sum (xs.take 4 ++ pay xs) = wd (xs.drop 4) 4
            · have hY : strOfNums (be (Mt.sum (xs.take 4 ++ pay xs))) = X48 := by rw [hq, HBW.out, HX48.out]
              rw [hY]
              have heq : (X48.toList == X48.toList) = true := by simp
              have HQ := Lib.hid hq
              clear hq hY
              go_wp2
              · rename_i hc; exfalso; rw [heq] at hc; exact absurd hc (by decide)
              go_ret3
              exact ⟨HBT.out, .inl ⟨HE0.out HQ.out, by rw [HXP.out, HT.out]; rfl⟩⟩
            · have hY : ((strOfNums (be (Mt.sum (xs.take 4 ++ pay xs)))).toList == X48.toList) = false := by
                apply str_ne
                rw [HX48.out]
                intro h
                have h1 := str_inj (be_byte _ (sum_lt _)) (fun x hx => HB.out x (List.mem_of_mem_drop (List.mem_of_mem_take hx))) h
                have h2 := wd_be (Mt.sum (xs.take 4 ++ pay xs)) (sum_lt _) []
                rw [List.append_nil, h1, wd_take] at h2
                exact hq h2.symm
              have HQ := Lib.hid hq
              clear hq
              go_wp2
              · go_ret3
                exact ROpenPost.bad HBT.out (HE1.out HQ.out) (by decide) rfl
              · rename_i hc; exfalso; rw [hY] at hc; exact absurd hc (by decide)
end Go.Proofs.Ytojkegnflbfloaa
