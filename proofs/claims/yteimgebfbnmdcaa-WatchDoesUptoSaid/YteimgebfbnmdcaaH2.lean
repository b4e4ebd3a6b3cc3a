/- The stable sort of a list: which list it is. -/
import Derived.Test.YteimgebfbnmdcaaH1
namespace Go.Proofs.Yteimgebfbnmdcaa
open Go.Sort
variable {α : Type} {lt : α → α → Bool}

/-- In order, and of equals the earlier one first. -/
def tagL (lt : α → α → Bool) (a b : α × Nat) : Bool := lt a.1 b.1 || (!lt b.1 a.1 && decide (a.2 < b.2))
theorem tagL_iff (a b : α × Nat) : tagL lt a b = true ↔ lt a.1 b.1 = true ∨ (lt b.1 a.1 = false ∧ a.2 < b.2) := by
  unfold tagL
  simp
theorem tagL_tru (h : SWO lt) : Tru (tagL lt) where
  irr x := by
    cases hx : tagL lt x x with
    | false => rfl
    | true =>
      rcases (tagL_iff _ _).1 hx with h1 | h1
      · rw [h.irrefl] at h1; cases h1
      · omega
  tr x y z h1 h2 := by
    rw [tagL_iff] at *
    rcases h1 with h1 | ⟨h1, i1⟩ <;> rcases h2 with h2 | ⟨h2, i2⟩
    · exact .inl (h.trans _ _ _ h1 h2)
    · refine .inl ?_
      cases h3 : lt x.1 z.1 with
      | true => rfl
      | false => rw [h.ntrans _ _ _ h3 h2] at h1; cases h1
    · refine .inl ?_
      cases h3 : lt x.1 z.1 with
      | true => rfl
      | false => rw [h.ntrans _ _ _ h1 h3] at h2; cases h2
    · exact .inr ⟨h.ntrans _ _ _ h2 h1, by omega⟩
/-- out is src in order, equals as they stood. -/
def Stb (lt : α → α → Bool) (src out : List α) : Prop := ∃ T : List (α × Nat), T.Perm src.zipIdx ∧ T.Pairwise (fun a b => tagL lt a b = true) ∧ out = T.map (·.1)
theorem Stb.perm {src out : List α} (h : Stb lt src out) : out.Perm src := by
  obtain ⟨T, hp, _, rfl⟩ := h
  have := hp.map (·.1)
  rwa [List.zipIdx_map_fst] at this
theorem Stb.length {src out : List α} (h : Stb lt src out) : out.length = src.length := h.perm.length_eq
theorem Stb.sorted (hS : SWO lt) {src out : List α} (h : Stb lt src out) : out.Pairwise fun a b => lt b a = false := by
  obtain ⟨T, _, hw, rfl⟩ := h
  rw [List.pairwise_map]
  refine hw.imp fun {a b} hab => ?_
  rcases (tagL_iff _ _).1 hab with h1 | h1
  · exact hS.asymmA h1
  · exact h1.1
theorem Stb.unique (hS : SWO lt) {src o1 o2 : List α} (h1 : Stb lt src o1) (h2 : Stb lt src o2) : o1 = o2 := by
  obtain ⟨T1, p1, w1, rfl⟩ := h1
  obtain ⟨T2, p2, w2, rfl⟩ := h2
  have T := tagL_tru hS
  have : T1 = T2 := List.Perm.eq_of_pairwise (le := fun a b => tagL lt a b = true) (fun a b _ _ hab hba => by have := T.tr _ _ _ hab hba; rw [T.irr] at this; cases this) w1 w2 (p1.trans p2.symm)
  rw [this]
theorem Stb.nil : Stb lt [] [] := ⟨[], List.Perm.refl _, List.Pairwise.nil, rfl⟩
/-- One more, behind all that don't stand behind it. -/
theorem Stb.put (hS : SWO lt) {src out : List α} (h : Stb lt src out) (c : α) {at' : Nat} (hat : at' ≤ out.length) (h1 : ∀ k (hk : k < out.length), at' ≤ k → lt c out[k] = true) (h2 : ∀ (h0 : 0 < at'), lt c (out[at' - 1]'(by omega)) = false) : Stb lt (src ++ [c]) (out.take at' ++ [c] ++ out.drop at') := by
  obtain ⟨T, hp, hw, rfl⟩ := h
  have hT := tagL_tru hS
  have hlen : T.length = src.length := by have := hp.length_eq; simpa using this
  have hl2 : (T.map (·.1)).length = T.length := by simp
  have htag : ∀ x ∈ T, x.2 < src.length := fun x hx => by
    have := hp.mem_iff.1 hx
    have := List.snd_lt_of_mem_zipIdx this
    simpa using this
  refine ⟨T.take at' ++ [(c, src.length)] ++ T.drop at', ?_, ?_, by simp [List.map_take, List.map_drop]⟩
  · have e : (src ++ [c]).zipIdx = src.zipIdx ++ [(c, src.length)] := by rw [List.zipIdx_append]; simp
    rw [e]
    refine List.Perm.trans ?_ (hp.append_right _)
    rw [List.append_assoc]
    refine ((List.perm_append_comm (l₁ := [(c, src.length)]) (l₂ := T.drop at')).append_left _).trans ?_
    rw [← List.append_assoc, List.take_append_drop]
  · have g1 : ∀ x ∈ T.drop at', tagL lt (c, src.length) x = true := fun x hx => by
      obtain ⟨k, hk, rfl⟩ := List.getElem_of_mem hx
      rw [List.getElem_drop]
      rw [List.length_drop] at hk
      have := h1 (at' + k) (by rw [hl2]; omega) (by omega)
      rw [List.getElem_map] at this
      exact (tagL_iff _ _).2 (.inl this)
    have g2 : ∀ x ∈ T.take at', tagL lt x (c, src.length) = true := fun x hx => by
      obtain ⟨k, hk, rfl⟩ := List.getElem_of_mem hx
      rw [List.length_take] at hk
      rw [List.getElem_take]
      have h0 : 0 < at' := by omega
      have h3 := h2 h0
      rw [List.getElem_map] at h3
      have hin : at' - 1 < T.length := by rw [hl2] at hat; omega
      have h4 : tagL lt T[at' - 1] (c, src.length) = true := (tagL_iff _ _).2 (.inr ⟨h3, htag _ (by simp)⟩)
      by_cases e : k = at' - 1
      · subst e; exact h4
      · exact hT.tr _ _ _ (List.pairwise_iff_getElem.1 hw k (at' - 1) (by omega) hin (by omega)) h4
    rw [List.append_assoc, List.pairwise_append]
    refine ⟨hw.sublist (List.take_sublist _ _), ?_, ?_⟩
    · rw [List.singleton_append, List.pairwise_cons]
      exact ⟨g1, hw.sublist (List.drop_sublist _ _)⟩
    · intro a ha b hb
      rcases List.mem_append.1 hb with hb | hb
      · rw [List.mem_singleton] at hb; rw [hb]; exact g2 a ha
      · have h5 : T.take at' ++ T.drop at' = T := List.take_append_drop _ _
        rw [← h5, List.pairwise_append] at hw
        exact hw.2.2 a ha b hb
/-- What the sort of the tagged row comes to. -/
theorem stb_of_asc [Inhabited α] (src : List α) {d' : Array (α × Nat)} (hp : PermIn 0 src.length src.zipIdx.toArray d') (hs : Asc (tagL lt) 0 src.length d') : Stb lt src (d'.toList.map (·.1)) := by
  have hsz : d'.size = src.length := by have := hp.1; simpa using this
  refine ⟨d'.toList, ?_, ?_, rfl⟩
  · have := hp.2.2
    have e1 : d'.extract 0 src.length = d' := by rw [← hsz]; simp
    have e2 : src.zipIdx.toArray.extract 0 src.length = src.zipIdx.toArray := by
      have : src.length = src.zipIdx.toArray.size := by simp
      rw [this, Array.extract_size]
    rw [e1, e2] at this
    simpa using this
  · rw [List.pairwise_iff_getElem]
    intro i j hi hj hij
    have := hs i j (Nat.zero_le _) hij (by rw [← hsz]; simpa using hj)
    rw [getElem!_pos d' i (by simpa using hi), getElem!_pos d' j (by simpa using hj)] at this
    simpa using this
/-- The program's order, on tagged elements. -/
def fstB (lt : α → α → Bool) (a b : α × Nat) : Bool := lt a.1 b.1
/-- The tagged row, as it stands at first. -/
theorem seg_start [Inhabited α] (src : List α) : Seg (tagL lt) (fstB lt) src.length (fun _ => True) src.zipIdx.toArray := by
  refine ⟨fun c _ i j hi hj hjn => ?_, fun i j hij _ h => absurd ⟨hij, Nat.le_refl j⟩ (h j trivial)⟩
  have g : ∀ k, (hk : k < src.length) → (src.zipIdx.toArray)[k]! = (src[k], k) := fun k hk => by
    rw [getElem!_pos _ k (by simpa using hk)]
    simp
  rw [g i (by omega), g j hjn]
  refine ⟨fun h => (tagL_iff _ _).2 (.inl h), fun h => (tagL_iff _ _).2 (.inr ⟨h, ?_⟩)⟩
  show i < j
  omega
end Go.Proofs.Yteimgebfbnmdcaa
