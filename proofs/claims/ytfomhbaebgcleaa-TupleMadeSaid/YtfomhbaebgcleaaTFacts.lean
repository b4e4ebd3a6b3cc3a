/- Layer 5: plain facts: a text put together is cut where it was put together. -/
import Derived.Test.YtfomhbaebgcleaaTOpen
namespace Go.Proofs.Ytfomhbaebgcleaa
open Go.RowKit

theorem app_list (A B : ByteArray) : (A ++ B).data.toList = A.data.toList ++ B.data.toList := by
  rw [ByteArray.data_append, Array.toList_append]
theorem one_list (x : UInt8) : (⟨#[x]⟩ : ByteArray).data.toList = [x] := rfl
theorem cut_app {x : UInt8} {A : ByteArray} (R : ByteArray) (h : x ∉ A.data.toList) : has x (A ++ (⟨#[x]⟩ ++ R)) = true ∧ hd x (A ++ (⟨#[x]⟩ ++ R)) = A ∧ tl x (A ++ (⟨#[x]⟩ ++ R)) = R := by
  have hl : (A ++ (⟨#[x]⟩ ++ R)).data.toList = A.data.toList ++ (x :: R.data.toList) := by rw [app_list, app_list, one_list]; rfl
  have hi : ix x (A ++ (⟨#[x]⟩ ++ R)) = A.data.toList.length := by
    rw [ix, hl, List.idxOf_append, if_neg h, List.idxOf_cons_self]
    omega
  have hs : (A ++ (⟨#[x]⟩ ++ R)).size = A.data.toList.length + (R.data.toList.length + 1) := by rw [Lib.size_eq, hl]; simp
  refine ⟨?_, ?_, ?_⟩
  · rw [has, hi, hs]; simp
  · apply data_ext
    rw [hd, Lib.extract_data, hl, hi]
    simp
  · apply data_ext
    rw [tl, Lib.extract_data, hl, hi, hs]
    rw [List.drop_append, List.drop_of_length_le (by omega), List.nil_append, show A.data.toList.length + 1 - A.data.toList.length = 1 by omega]
    exact List.take_of_length_le (by simp; omega)
theorem join_cut {x : UInt8} {S : ByteArray} (h : has x S = true) : hd x S ++ (⟨#[x]⟩ ++ tl x S) = S := by
  have hlt : S.data.toList.idxOf x < S.data.toList.length := by rw [← Lib.size_eq]; exact of_decide_eq_true h
  apply data_ext
  rw [app_list, app_list, one_list, hd, tl, Lib.extract_data, Lib.extract_data, ix, Lib.size_eq]
  rw [List.drop_zero, Nat.sub_zero, List.take_of_length_le (l := List.drop _ _) (by rw [List.length_drop]; exact Nat.le_refl _)]
  have h1 : S.data.toList.drop (S.data.toList.idxOf x) = x :: S.data.toList.drop (S.data.toList.idxOf x + 1) := by
    rw [List.drop_eq_getElem_cons hlt, List.getElem_idxOf hlt]
  calc _ = List.take (S.data.toList.idxOf x) S.data.toList ++ (x :: S.data.toList.drop (S.data.toList.idxOf x + 1)) := rfl
    _ = _ := by rw [← h1, List.take_append_drop]
theorem name_ok {S : ByteArray} (h : nameB S = true) : ∀ x ∈ S.data.toList, okB x = true := by
  simp only [nameB, Bool.and_eq_true] at h
  exact List.all_eq_true.1 h.2
theorem obj_ok {S : ByteArray} (h : objE S = 0) : has 58 S = true ∧ nameB (hd 58 S) = true ∧ nameB (tl 58 S) = true := by
  unfold objE at h
  split at h
  · split at h
    · rename_i h1 h2
      simp only [Bool.and_eq_true] at h2
      exact ⟨h1, h2.1, h2.2⟩
    · cases h
  · cases h
theorem obj_byte {S : ByteArray} (h : objE S = 0) : ∀ x ∈ S.data.toList, okB x = true ∨ x = 58 := by
  obtain ⟨h1, h2, h3⟩ := obj_ok h
  intro x hx
  rw [← join_cut h1, app_list, app_list, one_list] at hx
  simp only [List.mem_append, List.mem_singleton] at hx
  rcases hx with hx | hx | hx
  · exact .inl (name_ok h2 x hx)
  · exact .inr hx
  · exact .inl (name_ok h3 x hx)
theorem tup_ok {a b c : ByteArray} (h : tupE a b c = 0) : objE a = 0 ∧ nameB b = true ∧ usrE c = 0 := by
  unfold tupE at h
  split at h
  · split at h
    · exact ⟨by assumption, by assumption, h⟩
    · cases h
  · exact absurd h (by assumption)
theorem prn_assoc (a b c : ByteArray) : prn a b c = (a ++ (⟨#[35]⟩ ++ b)) ++ (⟨#[64]⟩ ++ c) := by
  simp only [prn, ByteArray.append_assoc]
theorem parse_print {a b c : ByteArray} (h : tupE a b c = 0) : prsE (prn a b c) = 0 ∧ prsA (prn a b c) = a ∧ prsB (prn a b c) = b ∧ prsC (prn a b c) = c := by
  obtain ⟨ha, hb, hc⟩ := tup_ok h
  have n1 : (35 : UInt8) ∉ a.data.toList := fun hx => by
    rcases obj_byte ha _ hx with h | h
    · exact absurd h (by decide)
    · exact absurd h (by decide)
  have n2 : (64 : UInt8) ∉ (a ++ (⟨#[35]⟩ ++ b)).data.toList := fun hx => by
    rw [app_list, app_list, one_list] at hx
    simp only [List.mem_append, List.mem_singleton] at hx
    rcases hx with hx | hx | hx
    · rcases obj_byte ha _ hx with h | h
      · exact absurd h (by decide)
      · exact absurd h (by decide)
    · exact absurd hx (by decide)
    · exact absurd (name_ok hb _ hx) (by decide)
  obtain ⟨c1, c2, c3⟩ := cut_app c n2
  obtain ⟨d1, d2, d3⟩ := cut_app b n1
  rw [← prn_assoc] at c1 c2 c3
  have e : tupE (hd 35 (hd 64 (prn a b c))) (tl 35 (hd 64 (prn a b c))) (tl 64 (prn a b c)) = 0 := by rw [c2, c3, d2, d3]; exact h
  obtain ⟨p1, p2, p3, p4⟩ := prs_good c1 (by rw [c2]; exact d1) e
  exact ⟨p1, by rw [p2, c2, d2], by rw [p3, c2, d3], by rw [p4, c3]⟩
theorem print_parse {S : ByteArray} (h : prsE S = 0) : prn (prsA S) (prsB S) (prsC S) = S := by
  cases h1 : has 64 S with
  | false => rw [(prs_no h1).1] at h; cases h
  | true =>
    cases h2 : has 35 (hd 64 S) with
    | false => rw [(prs_no2 h1 h2).1] at h; cases h
    | true =>
      by_cases h3 : tupE (hd 35 (hd 64 S)) (tl 35 (hd 64 S)) (tl 64 S) = 0
      · obtain ⟨_, p2, p3, p4⟩ := prs_good h1 h2 h3
        rw [p2, p3, p4, prn_assoc, join_cut h2, join_cut h1]
      · rw [(prs_bad h1 h2 h3).1] at h
        exact absurd h h3
theorem parse_none {S : ByteArray} (h : prsE S ≠ 0) : prsA S = ByteArray.empty ∧ prsB S = ByteArray.empty ∧ prsC S = ByteArray.empty := ⟨by rw [prsA, if_neg h], by rw [prsB, if_neg h], by rw [prsC, if_neg h]⟩
theorem prn_size (a b c : ByteArray) : (prn a b c).size = a.size + b.size + c.size + 2 := by
  have h1 : (⟨#[35]⟩ : ByteArray).size = 1 := rfl
  have h2 : (⟨#[64]⟩ : ByteArray).size = 1 := rfl
  simp only [prn, ByteArray.size_append, h1, h2]
  omega
theorem tupsE_snoc (l : List Tp) (t : Tp) : tupsE (l ++ [t]) = if tupsE l = 0 then t.e else tupsE l := by
  induction l with
  | nil => simp only [List.nil_append, tupsE_one]; simp [tupsE]
  | cons x l ih =>
    simp only [List.cons_append, tupsE, ih]
    by_cases h : x.e = 0
    · simp [h]
    · simp [h]
end Go.Proofs.Ytfomhbaebgcleaa
