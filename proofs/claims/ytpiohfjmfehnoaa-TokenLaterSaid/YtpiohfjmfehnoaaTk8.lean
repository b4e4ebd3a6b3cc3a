/- Layer 23: a token's text is read again, and no other text is: plain facts. -/
import Derived.Test.YtpiohfjmfehnoaaTk7
namespace Go.Proofs.Ytpiohfjmfehnoaa
open Go.RowKit

theorem full_len {n r : Int} : (full n r).length = (dg r.toNat).length + 2 := by simp [full, pre]
theorem full_sum {n r : Int} (h : fitB n r = true) : ws 1 (full n r) % 31 = 0 := fin_right (by have := (pre_ok h).2; omega)
theorem full_mid {n r : Int} : mid (full n r) = dg r.toNat := by
  simp [mid, full, pre]
theorem full_jP {n r : Int} (h : fitB n r = true) : jP (full n r) = 0 := by
  have hl := full_len (n := n) (r := r)
  rw [jP, if_neg (by omega), if_pos (full_sum h), if_neg]
  rintro ⟨h1, h2⟩
  rcases Nat.eq_zero_or_pos r.toNat with h0 | h0
  · rw [h0, dg_zero] at hl; simp at hl; omega
  · obtain ⟨p, l, hd, hp⟩ := dg_head _ h0
    have : (full n r).getD 1 0 = p := by simp [full, pre, hd]
    omega
theorem jE_T {ps : List Nat} (h : ok31 ps) (hl : ps.length ≤ 16) : jE (T ps) = jP ps := by
  rw [jE, if_neg (by rw [T_size]; omega), if_pos (Sg_sgB (Sg_T h)), P_T h]
theorem read_full {n r : Int} (h : fitB n r = true) : pE (T (full n r)) = 0 ∧ pN (T (full n r)) = n ∧ pR (T (full n r)) = r := by
  obtain ⟨ho, hl⟩ := full_ok h
  have hf := fitB_iff.1 h
  have hj := jE_T ho (by omega)
  rw [full_jP h] at hj
  have hv : vl 0 (mid (full n r)) = r.toNat := by
    rw [full_mid]
    have h1 := vl_num 0 (dg r.toNat)
    rw [num_dg] at h1
    rcases Nat.lt_or_ge 1125899906842624 (vl 0 (dg r.toNat)) with h2 | h2
    · have := h1.2 h2; omega
    · exact h1.1 h2
  have hd : (full n r).getD 0 0 = n.toNat := by simp [full, pre]
  have he : pE (T (full n r)) = 0 := by
    rw [pE, if_pos hj, P_T ho, qE, if_pos (full_jP h), hv, hd, if_pos ⟨by omega, by omega⟩]
  refine ⟨he, ?_, ?_⟩
  · rw [pN, if_pos he, P_T ho, hd]; omega
  · rw [pR, if_pos he, P_T ho, hv]; omega
theorem pE_no {S : ByteArray} (h : pE S ≠ 0) : pN S = 0 ∧ pR S = 0 := ⟨by rw [pN, if_neg h], by rw [pR, if_neg h]⟩
theorem fin_uniq {ps : List Nat} {l : Nat} (hl : ps.length < 30) (h31 : l < 31) (h : ws 1 (ps ++ [l]) % 31 = 0) : ps ++ [l] = ps ++ [fin ps] := by rw [← fin_one hl h31 h]
theorem read_back {S : ByteArray} (h : pE S = 0) : fitB (pN S) (pR S) = true ∧ prT (pN S) (pR S) = S := by
  have hj : jE S = 0 := by
    by_cases hj : jE S = 0
    · exact hj
    · rw [pE, if_neg hj] at h; exact h
  obtain ⟨hs, hz, hjp, h2⟩ := jE_zero hj
  have hq := h
  rw [pE, if_pos hj, qE, if_pos hjp] at hq
  have hok : (P S).getD 0 0 < 8 ∧ vl 0 (mid (P S)) ≤ 1125899906842624 := by
    by_cases hk : (P S).getD 0 0 < 8 ∧ vl 0 (mid (P S)) ≤ 1125899906842624
    · exact hk
    · rw [if_neg hk] at hq; cases hq
  have hn : pN S = ((P S).getD 0 0 : Nat) := by rw [pN, if_pos h]
  have hr : pR S = (vl 0 (mid (P S)) : Nat) := by rw [pR, if_pos h]
  have hfit : fitB (pN S) (pR S) = true := fitB_iff.2 ⟨by omega, by omega, by omega, by omega⟩
  refine ⟨hfit, ?_⟩
  rw [prT, hfit, if_pos rfl]
  have hP := P_ok S
  have hPl := P_len S
  have hT := T_P hs
  have hsum : ws 1 (P S) % 31 = 0 := by
    rw [jP, if_neg (by omega)] at hjp
    by_cases hw : ws 1 (P S) % 31 = 0
    · exact hw
    · rw [if_neg hw] at hjp; cases hjp
  have hform : ¬((P S).getD 1 0 = 0 ∧ 2 < (P S).length) := by
    rw [jP, if_neg (by omega), if_pos hsum] at hjp
    intro hk
    rw [if_pos hk] at hjp
    cases hjp
  conv => rhs; rw [← hT]
  congr 1
  rw [full]
  have e1 : (pN S).toNat = (P S).getD 0 0 := by omega
  have e2 : (pR S).toNat = vl 0 (mid (P S)) := by omega
  unfold pre
  rw [e1, e2, (vl_num 0 (mid (P S))).1 hok.2]
  have hml := mid_len (P S)
  have hmo : ok31 (mid (P S)) := fun x hx => hP x (List.mem_of_mem_drop (List.mem_of_mem_take hx))
  generalize P S = ps at *
  -- the text is its first sign, what lies between, and its last sign
  have hsplit : ps = ps.getD 0 0 :: mid ps ++ [ps.getD (ps.length - 1) 0] := by
    match ps, h2 with
    | p :: l, h2 =>
      have hl : 1 ≤ l.length := by simp at h2; omega
      have h3 : mid (p :: l) = l.dropLast := by
        rw [mid, List.dropLast_eq_take]; simp
      have hne : l ≠ [] := by intro h; rw [h] at hl; simp at hl
      have h4 : (p :: l).getD ((p :: l).length - 1) 0 = l.getLast hne := by
        obtain ⟨m, hm⟩ : ∃ m, l.length = m + 1 := ⟨l.length - 1, by omega⟩
        rw [List.getLast_eq_getElem]
        simp only [hm, List.length_cons, Nat.add_sub_cancel, List.getD_cons_succ]
        rw [List.getD_eq_getElem?_getD, List.getElem?_eq_getElem (by omega)]
        rfl
      rw [h3, h4]
      show p :: l = p :: l.dropLast ++ [l.getLast hne]
      rw [List.cons_append, List.dropLast_concat_getLast]
  have hdg : dg (num 0 (mid ps)) = mid ps := by
    refine dg_num _ hmo ?_
    intro hh
    apply hform
    have hne : 0 < (mid ps).length := by
      cases hm : mid ps with
      | nil => rw [hm] at hh; simp at hh
      | cons a l => simp
    have h0 : (mid ps)[0]'hne = 0 := by
      rw [List.head?_eq_getElem?, List.getElem?_eq_getElem hne] at hh
      exact Option.some.inj hh
    rw [mid_at ps 0 hne] at h0
    refine ⟨?_, by omega⟩
    rw [List.getD_eq_getElem?_getD, List.getElem?_eq_getElem (by omega)]
    exact h0
  rw [hdg]
  have hlast : ps.getD (ps.length - 1) 0 < 31 := by
    rw [List.getD_eq_getElem?_getD, List.getElem?_eq_getElem (by omega)]
    exact hP _ (List.getElem_mem _)
  rw [hsplit] at hsum
  have hu := fin_uniq (ps := ps.getD 0 0 :: mid ps) (l := ps.getD (ps.length - 1) 0) (by simp; omega) hlast hsum
  rw [← hu]
  exact hsplit.symm

theorem slip_judged {ps : List Nat} (ho : ok31 ps) (hl : ps.length ≤ 16) (h2 : 2 ≤ ps.length) (hw : ws 1 ps % 31 ≠ 0) : pE (T ps) = 11 ∧ pN (T ps) = 0 ∧ pR (T ps) = 0 := by
  have hj := jE_T ho hl
  rw [jP, if_neg (by omega), if_neg hw] at hj
  have he : pE (T ps) = 11 := by rw [pE, hj]; rfl
  exact ⟨he, pE_no (by rw [he]; decide)⟩
/-- One sign changed. -/
theorem slip_one {n r : Int} (h : fitB n r = true) (i : Nat) (hi : i < (full n r).length) (b : Int) (hb : 0 ≤ b ∧ b < 256) (hne : b ≠ sgn (full n r)[i]) :
    (pE (strOfNums (((full n r).map sgn).set i b)) = 11 ∨ pE (strOfNums (((full n r).map sgn).set i b)) = 20) ∧ pN (strOfNums (((full n r).map sgn).set i b)) = 0 ∧ pR (strOfNums (((full n r).map sgn).set i b)) = 0 := by
  obtain ⟨ho, hl⟩ := full_ok h
  have hlen := full_len (n := n) (r := r)
  have hsum := full_sum h
  generalize full n r = ps at *
  have hbn : b.toNat.toUInt8.toNat = b.toNat := by simp; omega
  by_cases hp : 0 ≤ pla b.toNat.toUInt8
  · have hf := (pla_facts b.toNat.toUInt8).2
    have hs := hf.2 hp
    rw [hbn] at hs
    have hq : pn b.toNat.toUInt8 < 31 := by unfold pn; omega
    have hset : strOfNums ((ps.map sgn).set i b) = T (ps.set i (pn b.toNat.toUInt8)) := by
      rw [T, List.map_set, hs, show ((b.toNat : Nat) : Int) = b by omega]
    rw [hset]
    have hne2 : pn b.toNat.toUInt8 ≠ ps[i] := by
      intro hh
      apply hne
      rw [← hh, hs]
      omega
    have hok : ok31 (ps.set i (pn b.toNat.toUInt8)) := by
      intro x hx
      rcases List.mem_or_eq_of_mem_set hx with h1 | rfl
      · exact ho x h1
      · exact hq
    have := slip_judged hok (by rw [List.length_set]; omega) (by rw [List.length_set]; omega) (slip_set ho (by omega) hsum i _ hi hq hne2)
    exact ⟨.inl this.1, this.2⟩
  · have hsz : (strOfNums ((ps.map sgn).set i b)).size = ps.length := by rw [strOfNums_size, List.length_set, List.length_map]
    have hmem : b.toNat.toUInt8 ∈ (strOfNums ((ps.map sgn).set i b)).data.toList := by
      rw [strOfNums_data]
      exact List.mem_map.2 ⟨b, List.mem_set (by rw [List.length_map]; exact hi) b, rfl⟩
    have hsg : sgB (strOfNums ((ps.map sgn).set i b)) = false := by
      cases hx : sgB (strOfNums ((ps.map sgn).set i b)) with
      | false => rfl
      | true => exact absurd (sgB_Sg hx _ hmem) hp
    have hj : jE (strOfNums ((ps.map sgn).set i b)) = 20 := by rw [jE, hsz, if_neg (by omega), hsg]; rfl
    have he : pE (strOfNums ((ps.map sgn).set i b)) = 20 := by rw [pE, hj]; rfl
    exact ⟨.inr he, pE_no (by rw [he]; decide)⟩
/-- Two neighbours turned about. -/
theorem slip_turned {ps : List Nat} (ho : ok31 ps) (hl : ps.length ≤ 13) (hsum : ws 1 ps % 31 = 0) (i : Nat) (hi : i + 1 < ps.length) (hne : ps[i] ≠ ps[i + 1]) :
    pE (strOfNums (((ps.map sgn).set i (sgn ps[i + 1])).set (i + 1) (sgn ps[i]))) = 11 ∧ pN (strOfNums (((ps.map sgn).set i (sgn ps[i + 1])).set (i + 1) (sgn ps[i]))) = 0 ∧
    pR (strOfNums (((ps.map sgn).set i (sgn ps[i + 1])).set (i + 1) (sgn ps[i]))) = 0 := by
  rw [← List.map_set, ← List.map_set]
  refine slip_judged ?_ (by simp; omega) (by simp; omega) (slip_swap ho hsum i hi hne)
  intro x hx
  rcases List.mem_or_eq_of_mem_set hx with h1 | rfl
  · rcases List.mem_or_eq_of_mem_set h1 with h2 | rfl
    · exact ho x h2
    · exact ho _ (List.getElem_mem _)
  · exact ho _ (List.getElem_mem _)
theorem slip_two {n r : Int} (h : fitB n r = true) (i : Nat) (hi : i + 1 < (full n r).length) (hne : (full n r)[i] ≠ (full n r)[i + 1]) :
    pE (strOfNums ((((full n r).map sgn).set i (sgn (full n r)[i + 1])).set (i + 1) (sgn (full n r)[i]))) = 11 ∧
    pN (strOfNums ((((full n r).map sgn).set i (sgn (full n r)[i + 1])).set (i + 1) (sgn (full n r)[i]))) = 0 ∧
    pR (strOfNums ((((full n r).map sgn).set i (sgn (full n r)[i + 1])).set (i + 1) (sgn (full n r)[i]))) = 0 :=
  slip_turned (full_ok h).1 (full_ok h).2 (full_sum h) i hi hne
end Go.Proofs.Ytpiohfjmfehnoaa
