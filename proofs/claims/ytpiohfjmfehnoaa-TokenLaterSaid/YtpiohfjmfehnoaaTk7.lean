/- Layer 23: the document's Parse. -/
import Derived.Test.YtpiohfjmfehnoaaTk6
namespace Go.Proofs.Ytpiohfjmfehnoaa
open Go.RowKit

theorem qE_cases {ps : List Nat} (h2 : 2 ≤ ps.length) (hs : ws 1 ps % 31 = 0) :
    qE ps = if ps.getD 1 0 = 0 ∧ 2 < ps.length then 51 else if ps.getD 0 0 < 8 ∧ vl 0 (mid ps) ≤ 1125899906842624 then 0 else 1 := by
  have hj : jP ps = if ps.getD 1 0 = 0 ∧ 2 < ps.length then 51 else 0 := by rw [jP, if_neg (by omega), if_pos hs]
  rw [qE, hj]
  by_cases h : ps.getD 1 0 = 0 ∧ 2 < ps.length
  · rw [if_pos h, if_pos h, if_neg (by decide)]
  · rw [if_neg h, if_neg h, if_pos rfl]

set_option maxHeartbeats 4000000 in
set_option maxRecDepth 100000 in
theorem rparse_any (S : ByteArray) (hS : S.size ≤ 140737488351232) (w : World) :
    Calls Try.prog 12 #[.string S] w fun e w' => e = .returned (.tuple #[.int .i64 (pN S), .int .i64 (pR S), .int .i64 (pE S)]) ∧ w' = w := by
  obtain ⟨R, hR⟩ : ∃ R, R = (Value.tuple #[.int .i64 (pN S), .int .i64 (pR S), .int .i64 (pE S)]) := ⟨_, rfl⟩
  rw [← hR]
  by_cases h0 : 16 < S.size
  · have hj : jE S = 2 := by rw [jE, if_pos h0]
    have he : pE S = 2 := by rw [pE, hj]; rfl
    have hn : pN S = 0 := by rw [pN, he]; rfl
    have hr : pR S = 0 := by rw [pR, he]; rfl
    rw [he, hn, hr] at hR
    have HRS := Lib.hid hR
    clear hj he hn hr hR
    go_enter Try.func12, Try.ntmps12
    go_wp2
    go_ret3
    exact ⟨by rw [HRS.out]; rfl, rfl⟩
  · have hj : jE S = if sgB S then jP (P S) else 20 := by rw [jE, if_neg h0]
    have HJ := Lib.hid hj
    have HRS := Lib.hid hR
    clear hj hR
    go_enter Try.func12, Try.ntmps12
    go_wp2
    go_loop [5] (fun i => ∃ k : Nat, k ≤ S.size ∧ i = .int .i64 k ∧ (S.data.toList.take k).all (fun b => decide (0 ≤ pla b)) = true) (fun i => S.size - (intOf i).toNat)
    case atStart => exact ⟨0, by omega, rfl, rfl⟩
    case round =>
      obtain ⟨k, hk, rfl, hall⟩ := hrel
      have HALL := Lib.hid hall
      clear hall
      by_cases hks : k < S.size
      · go_wp2_with fail
        refine (rsign_any _ (S[k].toNat_lt) _).mono ?_
        rintro e w1 ⟨rfl, rfl⟩
        rw [show pla _ = pla S[k] from by simp]
        have hs := all_stop S k hks
        have hm := all_more S k hks HALL.out
        have hb1 := (pla_facts S[k]).1
        have hb2 := (pla_facts S[k]).2.1
        generalize pla S[k] = q at *
        by_cases hq : q < 0
        · have hf := hs hq
          have hj := HJ.out
          rw [hf] at hj
          have hj : jE S = 20 := hj
          have he : pE S = 20 := by rw [pE, hj]; rfl
          have hn : pN S = 0 := by rw [pN, he]; rfl
          have hr : pR S = 0 := by rw [pR, he]; rfl
          have hR := HRS.out
          rw [he, hn, hr] at hR
          have HRS := Lib.hid hR
          clear hs hm hf hj he hn hr hR
          go_wp2
          go_ret3
          exact ⟨by rw [HRS.out]; rfl, rfl⟩
        · have ht := hm (by omega)
          have HT := Lib.hid ht
          clear hs hm ht
          go_wp2
          go_round
          case rel => exact ⟨k + 1, by omega, by go_num, HT.out⟩
          case measure => simp [intOf]; omega
      · have hk2 : k = S.data.toList.length := by rw [← Lib.size_eq]; omega
        have ht : sgB S = true := by have := HALL.out; rw [hk2, List.take_length] at this; exact this
        have hTP := T_P (sgB_Sg ht)
        have hP := P_ok S
        have hPl := P_len S
        have hj := HJ.out
        rw [ht, if_pos rfl] at hj
        have he : pE S = if jP (P S) = 0 then qE (P S) else jP (P S) := by rw [pE, hj]
        have hn : pN S = if pE S = 0 then (((P S).getD 0 0 : Nat) : Int) else 0 := rfl
        have hr : pR S = if pE S = 0 then ((vl 0 (mid (P S)) : Nat) : Int) else 0 := rfl
        have hR := HRS.out
        clear HRS
        generalize pN S = n at *
        generalize pR S = r at *
        generalize pE S = c at *
        generalize P S = ps at *
        have he2 : c = qE ps := by
          rw [he]
          split
          · rfl
          · rename_i h; rw [qE, if_neg h]
        clear he hj HJ HALL ht
        have hX := Lib.hid (fun w => rsum_any ps hP (by omega) w)
        rw [hTP] at hX
        by_cases h1 : ps.length < 2
        · have hc : c = 10 := by rw [he2, qE, jP, if_pos h1]; rfl
          rw [hc] at hn hr hR
          rw [if_neg (by decide)] at hn hr
          rw [hn, hr] at hR
          have HRS := Lib.hid hR
          clear hc he2 hTP hP hk2 hn hr hR
          go_wp2
          go_ret3
          exact ⟨by rw [HRS.out]; rfl, rfl⟩
        · by_cases h2 : ws 1 ps % 31 = 0
          · rw [qE_cases (by omega) h2] at he2
            rw [h2] at hX
            have hpos : 1 < S.size := by omega
            have hg := at_get S 1 hpos
            rw [show at_ S 1 = at_ (T ps) 1 by rw [hTP], T_at ps hP 1 (by omega)] at hg
            have hz := sgn_zero (hP _ (List.getElem_mem (h := (by omega : 1 < ps.length))))
            have hgd : ps.getD 1 0 = ps[1] := by rw [List.getD_eq_getElem?_getD, List.getElem?_eq_getElem (by omega)]; rfl
            rw [hgd] at he2
            have hsg := sgn_facts (hP _ (List.getElem_mem (h := (by omega : 1 < ps.length))))
            have hg0 := at_get S 0 (by omega)
            rw [show at_ S 0 = at_ (T ps) 0 by rw [hTP], T_at ps hP 0 (by omega)] at hg0
            have hgd0 : ps.getD 0 0 = ps[0] := by rw [List.getD_eq_getElem?_getD, List.getElem?_eq_getElem (by omega)]; rfl
            rw [hgd0] at he2 hn
            have hp31 := hP _ (List.getElem_mem (h := (by omega : 0 < ps.length)))
            have hq := (sgn_facts hp31).2.2.1
            have HM : ∀ j (h : j < (mid ps).length) (h2 : j + 1 < S.size), ∀ w, Calls Try.prog 23 #[.int .u8 ((S[j + 1]'h2).toNat : Nat)] w fun e w' => e = .returned (.int .i64 ((mid ps)[j] : Nat)) ∧ w' = w := by
              intro j h _ w
              have hl : j + 1 < ps.length := by rw [mid_len] at h; omega
              have hx := rsign_any (S[j + 1].toNat) (UInt8.toNat_lt _) w
              have hgj := at_get S (j + 1) (by omega)
              rw [show at_ S (j + 1) = at_ (T ps) (j + 1) by rw [hTP], T_at ps hP (j + 1) hl] at hgj
              have hqj := (sgn_facts (hP _ (List.getElem_mem hl))).2.2.1
              rw [show pla S[j + 1].toNat.toUInt8 = (ps[j + 1] : Int) by rw [hgj]; exact hqj] at hx
              rw [mid_at ps j h]
              exact hx
            have hS0 : 0 < S.size := by omega
            have HP0 : ∀ w, Calls Try.prog 23 #[.int .u8 ((S[0]'hS0).toNat : Nat)] w fun e w' => e = .returned (.int .i64 (ps[0] : Nat)) ∧ w' = w := by
              intro w
              have hx := rsign_any (S[0].toNat) (UInt8.toNat_lt _) w
              rw [show pla S[0].toNat.toUInt8 = (ps[0] : Int) by rw [hg0]; exact hq] at hx
              exact hx
            generalize ps[1] = p1 at *
            generalize ps[0] = p0 at *
            obtain ⟨b, hb⟩ : ∃ b : Nat, b = (sgn p1).toNat := ⟨_, rfl⟩
            have hz2 : b = 48 ↔ p1 = 0 := by omega
            rw [← hb] at hg
            have hb256 : b < 256 := by omega
            have hvl := vl_num 0 (mid ps)
            have hml := mid_len ps
            have hmo : ok31 (mid ps) := fun x hx => hP x (List.mem_of_mem_drop (List.mem_of_mem_take hx))
            generalize mid ps = ms at *
            have HM := Lib.hid HM
            have HP0 := Lib.hid HP0
            have HG := Lib.hid hg
            have HZ := Lib.hid hz2
            have HE := Lib.hid he2
            have HN := Lib.hid hn
            have HR := Lib.hid hr
            have HRS := Lib.hid hR
            have HV := Lib.hid hvl
            have HMO := Lib.hid hmo
            have hN2 : num 0 ms = num 0 ms := rfl
            clear hR hg hz hgd hsg hb hTP hP hz2 hk2 he2 hn hr hvl hmo hg0 hgd0 hq hN2
            go_wp2_with fail
            refine (hX.out _).mono ?_
            rintro e w1 ⟨rfl, rfl⟩
            go_wp2
            go_loop [6, 7, 8] (fun rv ov iv => ∃ (j x : Nat), j ≤ ms.length ∧ iv = .int .i64 (j + 1) ∧ x = num 0 (ms.take j) ∧ ((x ≤ 1125899906842624 ∧ rv = .int .i64 x ∧ ov = .bool false) ∨ (1125899906842624 < x ∧ rv = .int .i64 1125899906842624 ∧ ov = .bool true))) (fun _ _ i => ms.length + 1 - (intOf i).toNat)
            case atStart => exact ⟨0, 0, by omega, rfl, rfl, .inl ⟨by omega, rfl, rfl⟩⟩
            case round =>
              obtain ⟨j, x, hj, rfl, hx, hro⟩ := hrel
              by_cases hjl : j < ms.length
              · have hx2 := num_take ms j hjl
                have hm31 := HMO.out _ (List.getElem_mem hjl)
                have HC := Lib.hid (HM.out j hjl (by omega))
                rw [← hx] at hx2
                generalize ms[j] = m at *
                have HX := Lib.hid hx2
                clear hx hx2
                rcases hro with ⟨hxle, rfl, rfl⟩ | ⟨hxgt, rfl, rfl⟩
                · by_cases hnx : x * 31 + m ≤ 1125899906842624
                  · go_wp2_with fail
                    refine (HC.out _).mono ?_
                    rintro e w1 ⟨rfl, rfl⟩
                    go_wp2
                    go_round
                    case rel => exact ⟨j + 1, x * 31 + m, by omega, by go_num, HX.out.symm, .inl ⟨hnx, by go_num, by simp; omega⟩⟩
                    case measure => simp [intOf]; omega
                  · go_wp2_with fail
                    refine (HC.out _).mono ?_
                    rintro e w1 ⟨rfl, rfl⟩
                    go_wp2
                    go_round
                    case rel => exact ⟨j + 1, x * 31 + m, by omega, by go_num, HX.out.symm, .inr ⟨by omega, rfl, by simp; omega⟩⟩
                    case measure => simp [intOf]; omega
                · go_wp2_with fail
                  refine (HC.out _).mono ?_
                  rintro e w1 ⟨rfl, rfl⟩
                  go_wp2
                  go_round
                  case rel => exact ⟨j + 1, x * 31 + m, by omega, by go_num, HX.out.symm, .inr ⟨by omega, rfl, rfl⟩⟩
                  case measure => simp [intOf]; omega
              · have hjm : j = ms.length := by omega
                subst hjm
                rw [List.take_length] at hx
                rw [← hx] at HV
                have HX := Lib.hid hx
                clear hx
                have hg := HG.out
                by_cases hfm : p1 = 0 ∧ 2 < ps.length
                · have hc : c = 51 := by rw [HE.out, if_pos hfm]
                  have hn := HN.out
                  have hr := HR.out
                  have hR := HRS.out
                  rw [hc] at hn hr hR
                  rw [if_neg (by decide)] at hn hr
                  rw [hn, hr] at hR
                  have HRS := Lib.hid hR
                  have hb48 : b = 48 := HZ.out.2 hfm.1
                  have h2l : 2 < S.size := by omega
                  rw [hb48] at hg
                  clear hc hn hr hR hfm hb48 HE HN HR HZ HG
                  go_wp2
                  go_ret3
                  exact ⟨by rw [HRS.out]; rfl, rfl⟩
                · have he := HE.out
                  rw [if_neg hfm] at he
                  have hform : S.size = 2 ∨ (2 < S.size ∧ b ≠ 48) := by
                    rcases Nat.lt_or_ge 2 S.size with h | h
                    · exact .inr ⟨h, fun hb => hfm ⟨HZ.out.1 hb, by omega⟩⟩
                    · exact .inl (by omega)
                  have hv := HV.out
                  have hrange : (p0 < 8 ∧ x ≤ 1125899906842624 ∧ c = 0 ∧ n = p0 ∧ r = x) ∨ ((8 ≤ p0 ∨ 1125899906842624 < x) ∧ c = 1 ∧ n = 0 ∧ r = 0) := by
                    have hn := HN.out
                    have hr := HR.out
                    by_cases hok : p0 < 8 ∧ vl 0 ms ≤ 1125899906842624
                    · rw [if_pos hok] at he
                      have hx := hv.1 hok.2
                      rw [he, if_pos rfl] at hn hr
                      exact .inl ⟨hok.1, by omega, he, hn, by rw [hr, hx]⟩
                    · rw [if_neg hok] at he
                      rw [he, if_neg (by decide)] at hn hr
                      refine .inr ⟨?_, he, hn, hr⟩
                      rcases Nat.lt_or_ge p0 8 with h | h
                      · exact .inr (hv.2 (by omega))
                      · exact .inl h
                  clear he hv hfm HE HN HR HZ HG
                  rcases hrange with ⟨hp8, hx8, hc, hn, hr⟩ | ⟨hbad, hc, hn, hr⟩
                  · have hR := HRS.out
                    rw [hc, hn, hr] at hR
                    have HRS := Lib.hid hR
                    clear hc hn hr hR
                    rcases hro with ⟨hxle, rfl, rfl⟩ | ⟨hxgt, _, _⟩
                    rotate_left
                    · omega
                    rcases hform with hs2 | ⟨hs2, hb48⟩
                    all_goals
                      go_wp2_with fail
                      refine (HP0.out _).mono ?_
                      rintro e w1 ⟨rfl, rfl⟩
                      go_wp2_with fail
                      refine (HP0.out _).mono ?_
                      rintro e w1 ⟨rfl, rfl⟩
                      go_wp2
                      go_ret3
                      exact ⟨by rw [HRS.out]; rfl, rfl⟩
                  · have hR := HRS.out
                    rw [hc, hn, hr] at hR
                    have HRS := Lib.hid hR
                    clear hc hn hr hR
                    rcases hro with ⟨hxle, rfl, rfl⟩ | ⟨hxgt, rfl, rfl⟩
                    · have hp8 : 8 ≤ p0 := by omega
                      rcases hform with hs2 | ⟨hs2, hb48⟩
                      all_goals
                        go_wp2_with fail
                        refine (HP0.out _).mono ?_
                        rintro e w1 ⟨rfl, rfl⟩
                        go_wp2
                        go_ret3
                        exact ⟨by rw [HRS.out]; rfl, rfl⟩
                    · by_cases hp8 : 8 ≤ p0
                      · rcases hform with hs2 | ⟨hs2, hb48⟩
                        all_goals
                          go_wp2_with fail
                          refine (HP0.out _).mono ?_
                          rintro e w1 ⟨rfl, rfl⟩
                          go_wp2
                          go_ret3
                          exact ⟨by rw [HRS.out]; rfl, rfl⟩
                      · rcases hform with hs2 | ⟨hs2, hb48⟩
                        all_goals
                          go_wp2_with fail
                          refine (HP0.out _).mono ?_
                          rintro e w1 ⟨rfl, rfl⟩
                          go_wp2
                          go_ret3
                          exact ⟨by rw [HRS.out]; rfl, rfl⟩
          · have hc : c = 11 := by rw [he2, qE, jP, if_neg h1, if_neg h2]; rfl
            rw [hc] at hn hr hR
            rw [if_neg (by decide)] at hn hr
            rw [hn, hr] at hR
            have HRS := Lib.hid hR
            clear hc he2 hTP hP hk2 hn hr hR
            go_wp2_with fail
            refine (hX.out _).mono ?_
            rintro e w1 ⟨rfl, rfl⟩
            go_wp2
            go_ret3
            exact ⟨by rw [HRS.out]; rfl, rfl⟩
end Go.Proofs.Ytpiohfjmfehnoaa
