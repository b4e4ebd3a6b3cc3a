/- Layer 23: what a text is judged, and the number in it: the program's walks. -/
import Derived.Test.YtpiohfjmfehnoaaTk1
namespace Go.Proofs.Ytpiohfjmfehnoaa
open Go.RowKit

set_option maxHeartbeats 1000000 in
set_option maxRecDepth 100000 in
theorem value_any (ps : List Nat) (hp : ok31 ps) (hl : ps.length ≤ 100) (w : World) :
    Calls Try.prog 22 #[.string (T ps)] w fun e w' => e = .returned (.int .i64 (vl 0 ps : Nat)) ∧ w' = w := by
  have hsz := T_size ps
  obtain ⟨S, hS⟩ : ∃ S, S = T ps := ⟨_, rfl⟩
  rw [← hS] at hsz
  have HS := Lib.hid hS
  rw [← hS]
  clear hS
  go_enter Try.func22, Try.ntmps22
  go_wp2
  go_loop [3, 7] (fun s i => ∃ k a : Nat, k ≤ ps.length ∧ a ≤ 72057594037927936 ∧ i = .int .i64 k ∧ s = .int .i64 a ∧ vl 0 ps = vl a (ps.drop k)) (fun _ i => ps.length - (intOf i).toNat)
  case atStart => exact ⟨0, 0, by omega, by omega, rfl, rfl, rfl⟩
  case round =>
    obtain ⟨k, a, hk, ha, rfl, rfl, hv⟩ := hrel
    by_cases hks : k < ps.length
    · rw [List.drop_eq_getElem_cons hks, vl] at hv
      by_cases hm : 1125899906842624 < a
      · rw [if_pos hm] at hv
        have HV := Lib.hid hv
        clear hv
        go_wp2
        go_ret
        exact ⟨by rw [HV.out]; rfl, rfl⟩
      · rw [if_neg hm] at hv
        have hks' : k < S.size := by omega
        have hg := at_get S k hks'
        rw [show at_ S k = at_ (T ps) k by rw [HS.out], T_at ps hp k hks] at hg
        have hp31 := hp _ (List.getElem_mem hks)
        have hq := (sgn_facts hp31).2.2.1
        obtain ⟨p, hpd⟩ : ∃ p, p = ps[k] := ⟨_, rfl⟩
        rw [← hpd] at hq hp31 hg hv
        have HG := Lib.hid hg
        have HQ := Lib.hid hq
        have HV := Lib.hid hv
        clear hq hg hv hpd
        go_wp2_with fail
        refine (place_any _ _).mono ?_
        rintro e w1 ⟨rfl, rfl⟩
        rw [show pla _ = (p : Int) from by rw [Int.toNat_natCast, HG.out]; exact HQ.out]
        go_wp2
        go_round
        case rel => exact ⟨k + 1, a * 31 + p, by omega, by omega, by go_num, by go_num, HV.out⟩
        case measure => simp [intOf]; omega
    · rw [List.drop_eq_nil_of_le (by omega), vl] at hv
      have HV := Lib.hid hv
      clear hv
      go_wp2
      go_ret
      exact ⟨by rw [HV.out]; rfl, rfl⟩

/-- What is wrong with signs. -/
def jP (ps : List Nat) : Int := if ps.length < 2 then 10 else if ws 1 ps % 31 = 0 then (if ps.getD 1 0 = 0 ∧ 2 < ps.length then 51 else 0) else 11
def sgB (S : ByteArray) : Bool := S.data.toList.all fun b => decide (0 ≤ pla b)
theorem sgB_Sg {S : ByteArray} (h : sgB S = true) : Sg S := fun b hb => by simpa using List.all_eq_true.1 h b hb
theorem Sg_sgB {S : ByteArray} (h : Sg S) : sgB S = true := List.all_eq_true.2 fun b hb => by simpa using h b hb
def jE (S : ByteArray) : Int := if 16 < S.size then 2 else if sgB S then jP (P S) else 20
theorem all_stop (S : ByteArray) (k : Nat) (h : k < S.size) (hb : pla S[k] < 0) : sgB S = false := by
  have hs : ¬ sgB S = true := by
    intro hh
    have := sgB_Sg hh S[k] (by
      have h' : k < S.data.toList.length := by rw [← Lib.size_eq]; exact h
      have : S[k] = S.data.toList[k] := by rw [Array.getElem_toList]; rfl
      rw [this]
      exact List.getElem_mem h')
    omega
  simpa using hs
theorem all_more (S : ByteArray) (k : Nat) (h : k < S.size) (ht : (S.data.toList.take k).all (fun b => decide (0 ≤ pla b)) = true) (hb : 0 ≤ pla S[k]) : (S.data.toList.take (k + 1)).all (fun b => decide (0 ≤ pla b)) = true := by
  have h' : k < S.data.toList.length := by rw [← Lib.size_eq]; exact h
  have hx : S[k] = S.data.toList[k] := by rw [Array.getElem_toList]; rfl
  rw [List.take_add_one, List.all_append, ht, List.getElem?_eq_getElem h']
  rw [hx] at hb
  simpa using hb

set_option maxHeartbeats 1000000 in
set_option maxRecDepth 100000 in
theorem judge_any (S : ByteArray) (hS : S.size ≤ 140737488351232) (w : World) :
    Calls Try.prog 20 #[.string S] w fun e w' => e = .returned (.int .i64 (jE S)) ∧ w' = w := by
  by_cases h0 : 16 < S.size
  · have hj : jE S = 2 := by rw [jE, if_pos h0]
    rw [hj]
    go_enter Try.func20, Try.ntmps20
    go_wp2
    go_ret
    exact ⟨rfl, rfl⟩
  · have hj : jE S = if sgB S then jP (P S) else 20 := by rw [jE, if_neg h0]
    have HJ := Lib.hid hj
    clear hj
    go_enter Try.func20, Try.ntmps20
    go_wp2
    go_loop [9] (fun i => ∃ k : Nat, k ≤ S.size ∧ i = .int .i64 k ∧ (S.data.toList.take k).all (fun b => decide (0 ≤ pla b)) = true) (fun i => S.size - (intOf i).toNat)
    case atStart => exact ⟨0, by omega, rfl, rfl⟩
    case round =>
      obtain ⟨k, hk, rfl, hall⟩ := hrel
      have HALL := Lib.hid hall
      clear hall
      by_cases hks : k < S.size
      · go_wp2_with fail
        refine (place_any _ _).mono ?_
        rintro e w1 ⟨rfl, rfl⟩
        rw [show pla _ = pla S[k] from by simp]
        have hs := all_stop S k hks
        have hm := all_more S k hks HALL.out
        have hb1 := (pla_facts S[k]).1
        have hb2 := (pla_facts S[k]).2.1
        generalize pla S[k] = q at *
        by_cases hq : q < 0
        · have hf := hs hq
          have HF := Lib.hid hf
          clear hs hm hf
          go_wp2
          go_ret
          exact ⟨by rw [HJ.out, HF.out]; rfl, rfl⟩
        · have ht := hm (by omega)
          have HT := Lib.hid ht
          clear hs hm ht
          go_wp2
          go_round
          case rel => exact ⟨k + 1, by omega, by go_num, HT.out⟩
          case measure => simp [intOf]; omega
      · have hk2 : k = S.data.toList.length := by rw [← Lib.size_eq]; omega
        have ht : sgB S = true := by have := HALL.out; rw [hk2, List.take_length] at this; exact this
        have hTP := T_P (sgB_Sg ht)
        have hP := P_ok S
        have hPl := P_len S
        have hj := HJ.out
        rw [ht, if_pos rfl] at hj
        generalize P S = ps at *
        clear HJ HALL ht
        have hX := Lib.hid (fun w => sum_any ps hP (by omega) w)
        rw [hTP] at hX
        by_cases h1 : ps.length < 2
        · rw [jP, if_pos h1] at hj
          have HJ := Lib.hid hj
          clear hj hTP hP hk2
          go_wp2
          go_ret
          exact ⟨by rw [HJ.out]; rfl, rfl⟩
        · rw [jP, if_neg h1] at hj
          have hpos : 1 < S.size := by omega
          have hg := at_get S 1 hpos
          rw [show at_ S 1 = at_ (T ps) 1 by rw [hTP], T_at ps hP 1 (by omega)] at hg
          have hz := sgn_zero (hP _ (List.getElem_mem (h := (by omega : 1 < ps.length))))
          have hgd : ps.getD 1 0 = ps[1] := by rw [List.getD_eq_getElem?_getD, List.getElem?_eq_getElem (by omega)]; rfl
          rw [hgd] at hj
          have hsg := sgn_facts (hP _ (List.getElem_mem (h := (by omega : 1 < ps.length))))
          generalize ps[1] = p1 at *
          obtain ⟨b, hb⟩ : ∃ b : Nat, b = (sgn p1).toNat := ⟨_, rfl⟩
          have hz2 : b = 48 ↔ p1 = 0 := by omega
          rw [← hb] at hg
          have HG := Lib.hid hg
          have HZ := Lib.hid hz2
          have hb256 : b < 256 := by omega
          clear hg hz hgd hsg hb hTP hP hz2 hk2
          by_cases h2 : ws 1 ps % 31 = 0
          · rw [if_pos h2] at hj
            have HJ := Lib.hid hj
            clear hj
            have hg := HG.out
            by_cases h3 : b = 48
            · have hp0 := HZ.out.1 h3
              have HP0 := Lib.hid hp0
              clear hp0
              rw [h3] at hg
              by_cases h4 : 2 < ps.length
              · have hh : (51 : Int) = jE S := by rw [HJ.out, if_pos ⟨HP0.out, h4⟩]
                have HH := Lib.hid hh
                clear hh HJ
                have h4' : 2 < S.size := by omega
                clear h4
                go_wp2_with fail
                refine (hX.out _).mono ?_
                rintro e w1 ⟨rfl, rfl⟩
                rw [h2]
                go_wp2
                all_goals (go_ret; exact ⟨by rw [← HH.out]; rfl, rfl⟩)
              · have hh : (0 : Int) = jE S := by rw [HJ.out, if_neg (fun h => h4 h.2)]
                have HH := Lib.hid hh
                clear hh HJ
                have h4' : S.size = 2 := by omega
                clear h4
                go_wp2_with fail
                refine (hX.out _).mono ?_
                rintro e w1 ⟨rfl, rfl⟩
                rw [h2]
                go_wp2
                all_goals (go_ret; exact ⟨by rw [← HH.out]; rfl, rfl⟩)
            · have hh : (0 : Int) = jE S := by rw [HJ.out, if_neg (fun h => h3 (HZ.out.2 h.1))]
              have HH := Lib.hid hh
              clear hh HJ
              go_wp2_with fail
              refine (hX.out _).mono ?_
              rintro e w1 ⟨rfl, rfl⟩
              rw [h2]
              go_wp2
              all_goals (go_ret; exact ⟨by rw [← HH.out]; rfl, rfl⟩)
          · rw [if_neg h2] at hj
            have HJ := Lib.hid hj
            clear hj
            go_wp2_with fail
            refine (hX.out _).mono ?_
            rintro e w1 ⟨rfl, rfl⟩
            go_wp2
            go_ret
            exact ⟨by rw [HJ.out]; rfl, rfl⟩
end Go.Proofs.Ytpiohfjmfehnoaa
