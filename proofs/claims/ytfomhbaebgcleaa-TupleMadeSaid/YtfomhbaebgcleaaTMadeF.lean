/- Layer 5: plain facts: what is put together of names. -/
import Derived.Test.YtfomhbaebgcleaaTBack
namespace Go.Proofs.Ytfomhbaebgcleaa
open Go.RowKit

/-- Two texts with a sign between. -/
def jn (x : UInt8) (A B : ByteArray) : ByteArray := A ++ ⟨#[x]⟩ ++ B
theorem jn_assoc (x : UInt8) (A B : ByteArray) : jn x A B = A ++ (⟨#[x]⟩ ++ B) := by rw [jn, ByteArray.append_assoc]
theorem jn_list (x : UInt8) (A B : ByteArray) : (jn x A B).data.toList = A.data.toList ++ (x :: B.data.toList) := by
  rw [jn_assoc, app_list, app_list, one_list]
  rfl
theorem name_not {S : ByteArray} (h : nameB S = true) {x : UInt8} (hx : okB x = false) : x ∉ S.data.toList := fun hm => by
  rw [name_ok h x hm] at hx
  cases hx
theorem obj_made {A B : ByteArray} (ha : nameB A = true) (hb : nameB B = true) : objE (jn 58 A B) = 0 ∧ objA (jn 58 A B) = A ∧ objB (jn 58 A B) = B := by
  obtain ⟨c1, c2, c3⟩ := cut_app B (name_not ha (x := 58) (by decide))
  rw [← jn_assoc] at c1 c2 c3
  have e : objE (jn 58 A B) = 0 := by rw [objE, c1, c2, c3, ha, hb]; rfl
  exact ⟨e, by rw [objA, e, if_pos rfl, c2], by rw [objB, e, if_pos rfl, c3]⟩
theorem obj_unmade {A B : ByteArray} (h : objE (jn 58 A B) = 0) : nameB A = true ∧ nameB B = true := by
  obtain ⟨h1, h2, h3⟩ := obj_ok h
  have hc : (jn 58 A B).data.toList.count 58 = 1 := by
    rw [← join_cut h1, app_list, app_list, one_list, List.count_append, List.count_append, List.count_eq_zero.2 (name_not h2 (by decide)), List.count_eq_zero.2 (name_not h3 (by decide))]
    rfl
  rw [jn_list, List.count_append, List.count_cons_self] at hc
  have h0 : (58 : UInt8) ∉ A.data.toList := List.count_eq_zero.1 (by omega)
  obtain ⟨_, c2, c3⟩ := cut_app B h0
  rw [← jn_assoc] at c2 c3
  rw [c2] at h2
  rw [c3] at h3
  exact ⟨h2, h3⟩
theorem no_hash {A B : ByteArray} (ha : nameB A = true) (hb : nameB B = true) : (35 : UInt8) ∉ (jn 58 A B).data.toList := by
  rw [jn_list]
  simp only [List.mem_append, List.mem_cons, not_or]
  exact ⟨name_not ha (by decide), by decide, name_not hb (by decide)⟩
theorem has_mem {x : UInt8} {S : ByteArray} : has x S = true ↔ x ∈ S.data.toList := by
  rw [has, ix, Lib.size_eq, decide_eq_true_eq, List.idxOf_lt_length_iff]
theorem usr_made {A B : ByteArray} (ha : nameB A = true) (hb : nameB B = true) : usrE (jn 58 A B) = 0 := by
  have h0 : has 35 (jn 58 A B) = false := by
    cases h : has 35 (jn 58 A B) with
    | false => rfl
    | true => exact absurd (has_mem.1 h) (no_hash ha hb)
  exact (usr_good (by rw [hd_none h0]; exact (obj_made ha hb).1) (by rw [h0]; rfl)).1
theorem usr_unmade {A B : ByteArray} (h : usrE (jn 58 A B) = 0) (hn : (35 : UInt8) ∉ B.data.toList) : nameB A = true ∧ nameB B = true := by
  by_cases ho : objE (hd 35 (jn 58 A B)) = 0
  · cases h0 : has 35 (jn 58 A B) with
    | false =>
      rw [hd_none h0] at ho
      exact obj_unmade ho
    | true =>
      cases hb : nameB (tl 35 (jn 58 A B)) with
      | false => rw [(usr_name ho h0 hb).1] at h; cases h
      | true =>
        exfalso
        have h58 := name_not hb (x := 58) (by decide)
        apply h58
        have hm := has_mem.1 h0
        rw [jn_list] at hm
        have hA : (35 : UInt8) ∈ A.data.toList := by
          simp only [List.mem_append, List.mem_cons] at hm
          rcases hm with hm | hm | hm
          · exact hm
          · exact absurd hm (by decide)
          · exact absurd hm hn
        have hi : ix 35 (jn 58 A B) < A.data.toList.length := by
          rw [ix, jn_list, List.idxOf_append, if_pos hA]
          exact List.idxOf_lt_length_iff.2 hA
        rw [tl, Lib.extract_data, Lib.size_eq, List.take_of_length_le (by rw [List.length_drop]; exact Nat.le_refl _), jn_list, List.drop_append_of_le_length (by omega)]
        simp
  · rw [(usr_bad ho).1] at h
    exact absurd h ho
theorem usr_hash {A B C : ByteArray} (ha : nameB A = true) (hb : nameB B = true) (hc : nameB C = true) : usrE (jn 35 (jn 58 A B) C) = 0 ∧ usrA (jn 35 (jn 58 A B) C) = jn 58 A B ∧ usrB (jn 35 (jn 58 A B) C) = C := by
  obtain ⟨c1, c2, c3⟩ := cut_app C (no_hash ha hb)
  rw [← jn_assoc] at c1 c2 c3
  have := usr_good (S := jn 35 (jn 58 A B) C) (by rw [c2]; exact (obj_made ha hb).1) (by rw [c3, hc]; simp)
  rw [c2, c3] at this
  exact this
theorem tup_made {a b c d e : ByteArray} (h : (nameB a && nameB b && nameB c && nameB d && nameB e) = true) : tupE (jn 58 a b) c (jn 58 d e) = 0 := by
  simp only [Bool.and_eq_true] at h
  obtain ⟨⟨⟨⟨h1, h2⟩, h3⟩, h4⟩, h5⟩ := h
  rw [tup_user _ (obj_made h1 h2).1 h3]
  exact usr_made h4 h5
theorem tup_unmade {a b c d e : ByteArray} (h : (nameB a && nameB b && nameB c && nameB d && nameB e) = false) (hn : (35 : UInt8) ∉ e.data.toList) : tupE (jn 58 a b) c (jn 58 d e) ≠ 0 := by
  intro h0
  obtain ⟨h1, h2, h3⟩ := tup_ok h0
  obtain ⟨ha, hb⟩ := obj_unmade h1
  obtain ⟨hd', he⟩ := usr_unmade h3 hn
  rw [ha, hb, h2, hd', he] at h
  cases h
theorem jn_size (x : UInt8) (A B : ByteArray) : (jn x A B).size = A.size + B.size + 1 := by
  rw [Lib.size_eq, jn_list, Lib.size_eq A, Lib.size_eq B]
  simp
  omega
end Go.Proofs.Ytfomhbaebgcleaa
