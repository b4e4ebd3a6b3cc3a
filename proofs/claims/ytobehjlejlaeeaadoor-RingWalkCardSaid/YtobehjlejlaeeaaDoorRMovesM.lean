/- What a node more does: plain facts. -/
import Derived.Test.YtobehjlejlaeeaaDoorRAwake2
namespace Go.Proofs.YtobehjlejlaeeaaDoor.Mt

theorem firstOf_append (at_ : Nat) (f : Nat × Nat) (l m : List (Nat × Nat)) : firstOf at_ f (l ++ m) = firstOf at_ (firstOf at_ f l) m := by
  unfold firstOf
  rw [List.foldl_append]
theorem firstOf_mem (at_ : Nat) (m : List (Nat × Nat)) : ∀ f : Nat × Nat, firstOf at_ f m = f ∨ firstOf at_ f m ∈ m := by
  induction m with
  | nil => exact fun f => .inl rfl
  | cons p m ih =>
    intro f
    have h : firstOf at_ f (p :: m) = firstOf at_ (pick at_ f p) m := rfl
    rw [h]
    rcases ih (pick at_ f p) with e | e
    · rw [e]
      unfold pick
      split
      · exact .inr (by simp)
      · exact .inl rfl
    · exact .inr (by simp [e])
theorem mem_row {n points : Nat} {x : Nat × Nat} (h : x ∈ row n points) : x.2 = n := by
  simp only [row, List.mem_map] at h
  obtain ⟨k, _, rfl⟩ := h
  rfl
theorem own_more (nodes points s : Nat) (h1 : 0 < nodes) (h2 : 0 < points) : own (nodes + 1) points s = own nodes points s ∨ own (nodes + 1) points s = nodes := by
  have hl : (pts nodes points).length = nodes * points := pts_len _ _
  have hp : 0 < nodes * points := Nat.mul_pos h1 h2
  unfold own owner
  rw [pts_succ]
  have hh : (pts nodes points ++ row nodes points).headD (0, 0) = (pts nodes points).headD (0, 0) := by
    cases hc : pts nodes points with
    | nil => rw [hc] at hl; simp at hl; omega
    | cons x l => rfl
  rw [hh, firstOf_append]
  rcases firstOf_mem (hash (slotText s)) (row nodes points) (firstOf (hash (slotText s)) ((pts nodes points).headD (0, 0)) (pts nodes points)) with e | e
  · exact .inl (by rw [e])
  · refine .inr ?_
    exact mem_row e
theorem moved {nodes points s : Nat} (h1 : 0 < nodes) (h2 : 0 < points) (hs : s < 16) (h : other (owns nodes points) (owns (nodes + 1) points) s = true) : (owns (nodes + 1) points).getD s 0 = (nodes : Int) := by
  unfold other at h
  rw [owns_at _ _ _ hs, owns_at _ _ _ hs] at h
  rw [owns_at _ _ _ hs]
  rcases own_more nodes points s h1 h2 with e | e
  · rw [e] at h
    simp at h
  · rw [e]
theorem ups_mem {f : Nat → Bool} {n i : Nat} {s : Nat} (h : (ups f n)[i]? = some s) : s < n ∧ f s = true := by
  have := List.mem_of_getElem? h
  simp only [ups, List.mem_filter, List.mem_range] at this
  exact this
theorem ups_rise {f : Nat → Bool} {n i : Nat} {a b : Nat} (h1 : (ups f n)[i]? = some a) (h2 : (ups f n)[i + 1]? = some b) : a < b := by
  have hs : (ups f n).Pairwise (· < ·) := List.Pairwise.filter _ (List.pairwise_lt_range)
  obtain ⟨ha, e1⟩ := List.getElem?_eq_some_iff.1 h1
  obtain ⟨hb, e2⟩ := List.getElem?_eq_some_iff.1 h2
  rw [← e1, ← e2]
  exact List.pairwise_iff_getElem.1 hs i (i + 1) ha hb (Nat.lt_succ_self i)
def below (o : List Int) (k : Nat) (s : Nat) : Bool := decide (o.getD s 0 < (k : Int))
theorem below_succ (o : List Int) (k : Nat) : (ups (below o (k + 1)) 16).length = (ups (below o k) 16).length + (ups (is o k) 16).length := by
  have key : ∀ l : List Nat, (l.filter (below o (k + 1))).length = (l.filter (below o k)).length + (l.filter (is o k)).length := by
    intro l
    induction l with
    | nil => rfl
    | cons x l ih =>
      rw [List.filter_cons, List.filter_cons, List.filter_cons]
      by_cases hk : o.getD x 0 < (k : Int)
      · rw [if_pos (by unfold below; simp only [decide_eq_true_eq]; omega), if_pos (by unfold below; simpa using hk), if_neg (by unfold is; simp only [beq_iff_eq]; omega), List.length_cons, List.length_cons, ih]
        omega
      · by_cases he : o.getD x 0 = (k : Int)
        · rw [if_pos (by unfold below; simp only [decide_eq_true_eq]; omega), if_neg (by unfold below; simpa using hk), if_pos (by unfold is; simpa using he), List.length_cons, List.length_cons, ih]
          omega
        · rw [if_neg (by unfold below; simp only [decide_eq_true_eq]; omega), if_neg (by unfold below; simpa using hk), if_neg (by unfold is; simpa using he), ih]
  exact key _
theorem below_none (o : List Int) (h : ∀ s, s < 16 → 0 ≤ o.getD s 0) : (ups (below o 0) 16).length = 0 := by
  unfold ups
  rw [List.filter_eq_nil_iff.2]
  · rfl
  · intro s hs
    have := h s (List.mem_range.1 hs)
    unfold below
    simp only [decide_eq_true_eq]
    omega
theorem below_all (o : List Int) (k : Nat) (h : ∀ s, s < 16 → o.getD s 0 < (k : Int)) : (ups (below o k) 16).length = 16 := by
  unfold ups
  rw [List.filter_eq_self.2]
  · rfl
  · intro s hs
    have := h s (List.mem_range.1 hs)
    unfold below
    simpa using this
theorem owns_in {nodes points : Nat} (h1 : 0 < nodes) (h2 : 0 < points) (s : Nat) (hs : s < 16) : 0 ≤ (owns nodes points).getD s 0 ∧ (owns nodes points).getD s 0 < (nodes : Int) := by
  rw [owns_at _ _ _ hs]
  have := own_lt (nodes := nodes) (points := points) (s := s) h1 h2
  omega
theorem owns_mem {nodes points : Nat} (h1 : 0 < nodes) (h2 : 0 < points) (x : Int) (hx : x ∈ owns nodes points) : 0 ≤ x ∧ x < (nodes : Int) := by
  simp only [owns, List.mem_map, List.mem_range] at hx
  obtain ⟨s, _, rfl⟩ := hx
  have := own_lt (nodes := nodes) (points := points) (s := s) h1 h2
  omega
theorem check_good {nodes points : Nat} (h1 : 0 < nodes) (h2 : 0 < points) : check 0 (owns nodes points) (nodes : Int) = 0 := by
  unfold check
  rw [if_neg]
  rintro (h | h)
  · omega
  · obtain ⟨x, hx, hb⟩ := List.any_eq_true.1 h
    have := owns_mem h1 h2 x hx
    unfold bad at hb
    simp only [Bool.or_eq_true, decide_eq_true_eq] at hb
    omega
theorem check_none (nodes points : Nat) : check 0 (owns nodes points) 0 = 1 := by
  unfold check
  rw [if_pos]
  refine .inr (List.any_eq_true.2 ⟨(own nodes points 0 : Int), ?_, ?_⟩)
  · simp only [owns, List.mem_map, List.mem_range]
    exact ⟨0, by omega, rfl⟩
  · unfold bad
    simp only [Bool.or_eq_true, decide_eq_true_eq]
    omega
end Go.Proofs.YtobehjlejlaeeaaDoor.Mt
