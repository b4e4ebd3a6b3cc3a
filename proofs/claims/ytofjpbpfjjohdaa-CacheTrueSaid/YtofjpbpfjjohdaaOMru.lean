/- The keys used last, the last one ahead (lists alone). -/
import Derived.Test.YtofjpbpfjjohdaaTB
namespace Go.Proofs.Ytofjpbpfjjohdaa

def mstep (L : List Int) (k : Int) : List Int := k :: L.filter (fun x => decide (x ≠ k))
/-- All keys, each once, the one used last ahead. -/
def mru (P : List Int) : List Int := P.foldl mstep []
theorem mru_nil : mru [] = [] := rfl
theorem mru_snoc (P : List Int) (k : Int) : mru (P ++ [k]) = k :: (mru P).filter (fun x => decide (x ≠ k)) := by
  unfold mru
  rw [List.foldl_append]
  rfl
theorem snoc_ind {p : List Int → Prop} (h0 : p []) (h1 : ∀ l x, p l → p (l ++ [x])) (l : List Int) : p l := by
  have key : ∀ n (l : List Int), l.length = n → p l := by
    intro n
    induction n with
    | zero => intro l hl; rw [List.eq_nil_of_length_eq_zero hl]; exact h0
    | succ n ih =>
      intro l hl
      rcases List.eq_nil_or_concat l with e | ⟨m, x, e⟩
      · rw [e] at hl; simp at hl
      · rw [e, List.concat_eq_append]
        refine h1 _ _ (ih _ ?_)
        rw [e] at hl
        simp at hl
        exact hl
  exact key _ l rfl
theorem mem_mru (P : List Int) (k : Int) : k ∈ mru P ↔ k ∈ P := by
  induction P using snoc_ind with
  | h0 => simp [mru_nil]
  | h1 l x ih =>
    rw [mru_snoc, List.mem_cons, List.mem_filter, ih, List.mem_append, List.mem_singleton]
    by_cases h : k = x
    · simp [h]
    · simp [h]
theorem mru_nodup (P : List Int) : (mru P).Nodup := by
  induction P using snoc_ind with
  | h0 => simp [mru_nil]
  | h1 l x ih =>
    rw [mru_snoc]
    refine List.nodup_cons.2 ⟨by simp, ih.filter _⟩
theorem mru_cons (x : Int) (S : List Int) : mru (x :: S) = if x ∈ mru S then mru S else mru S ++ [x] := by
  induction S using snoc_ind with
  | h0 => rfl
  | h1 l k ih =>
    rw [← List.cons_append, mru_snoc, mru_snoc, ih]
    by_cases hx : x ∈ mru l
    · rw [if_pos hx, if_pos]
      rw [List.mem_cons, List.mem_filter]
      by_cases hk : x = k
      · exact .inl hk
      · exact .inr ⟨hx, by simpa using hk⟩
    · rw [if_neg hx, List.filter_append]
      by_cases hk : x = k
      · subst hk
        rw [if_pos (by simp)]
        simp
      · rw [if_neg (by simp [hk, hx])]
        simp [hk]
theorem mru_prefix (T S : List Int) : ∃ R, mru (T ++ S) = mru S ++ R := by
  induction T with
  | nil => exact ⟨[], by simp⟩
  | cons x T ih =>
    obtain ⟨R, hR⟩ := ih
    rw [List.cons_append, mru_cons]
    split
    · exact ⟨R, hR⟩
    · exact ⟨R ++ [x], by rw [hR, List.append_assoc]⟩
theorem mru_len (P : List Int) : (mru P).length ≤ P.length := by
  induction P using snoc_ind with
  | h0 => simp [mru_nil]
  | h1 l x ih =>
    have := List.length_filter_le (fun y => decide (y ≠ x)) (mru l)
    rw [mru_snoc, List.length_cons, List.length_append, List.length_singleton]
    exact Nat.succ_le_succ (Nat.le_trans this ih)
theorem filter_none {L : List Int} {k : Int} (h : k ∉ L) : L.filter (fun x => decide (x ≠ k)) = L := by
  rw [List.filter_eq_self]
  intro a ha
  simp
  rintro rfl
  exact h ha
/-- A key that is remembered comes in. -/
theorem take_there {L A C : List Int} {k : Int} {s : Nat} (hn : L.Nodup) (h : L.take s = A ++ k :: C) : (k :: L.filter (fun x => decide (x ≠ k))).take s = k :: (A ++ C) := by
  have hL : L = A ++ k :: C ++ L.drop s := by rw [← h, List.take_append_drop]
  have hs : (A ++ k :: C).length ≤ s := by rw [← h]; exact List.length_take_le _ _
  have hs1 : 1 ≤ s := by simp at hs; omega
  rw [hL] at hn
  have h1 := List.nodup_append.1 hn
  have h2 := List.nodup_append.1 h1.1
  have hA : k ∉ A := fun hk => h2.2.2 k hk k (by simp) rfl
  have hC : k ∉ C := (List.nodup_cons.1 h2.2.1).1
  have hD : k ∉ L.drop s := fun hk => h1.2.2 k (by simp) k hk rfl
  obtain ⟨t, rfl⟩ : ∃ t, s = t + 1 := ⟨s - 1, by omega⟩
  have hf : L.filter (fun x => decide (x ≠ k)) = A ++ C ++ L.drop (t + 1) := by
    conv => lhs; rw [hL]
    rw [List.filter_append, List.filter_append, List.filter_cons, filter_none hA, filter_none hC, filter_none hD]
    simp
  rw [hf, List.take_succ_cons]
  congr 1
  rcases Nat.lt_or_ge (A ++ k :: C).length (t + 1) with hlt | hge
  · have hl : (L.take (t + 1)).length < t + 1 := by rw [h]; exact hlt
    have hd : L.drop (t + 1) = [] := List.drop_eq_nil_of_le (by rw [List.length_take] at hl; omega)
    rw [hd, List.append_nil, List.take_of_length_le]
    simp at hlt ⊢
    omega
  · have : (A ++ C).length = t := by simp at hs hge ⊢; omega
    rw [List.take_append_of_le_length (by omega), List.take_of_length_le (by omega)]
/-- A key that isn't remembered comes in. -/
theorem take_none {L : List Int} {k : Int} {s : Nat} (hs : 1 ≤ s) (h : k ∉ L.take s) : (k :: L.filter (fun x => decide (x ≠ k))).take s = k :: (if (L.take s).length = s then (L.take s).dropLast else L.take s) := by
  obtain ⟨t, rfl⟩ : ∃ t, s = t + 1 := ⟨s - 1, by omega⟩
  have hf : L.filter (fun x => decide (x ≠ k)) = L.take (t + 1) ++ (L.drop (t + 1)).filter (fun x => decide (x ≠ k)) := by
    conv => lhs; rw [← List.take_append_drop (t + 1) L]
    rw [List.filter_append, filter_none h]
  rw [hf, List.take_succ_cons]
  congr 1
  by_cases hl : (L.take (t + 1)).length = t + 1
  · rw [if_pos hl, List.take_append_of_le_length (by omega), List.dropLast_eq_take, hl]
    rfl
  · have hd : L.drop (t + 1) = [] := List.drop_eq_nil_of_le (by rw [List.length_take] at hl; omega)
    rw [if_neg hl, hd, List.filter_nil, List.append_nil, List.take_of_length_le]
    have := List.length_take_le (t + 1) L
    omega
end Go.Proofs.Ytofjpbpfjjohdaa
