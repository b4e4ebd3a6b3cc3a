/- OracleRises. -/
import Derived.Test.YtjfllomnphppfaaZRO
import Derived.Deep.DeepCutAuto
import Derived.Deep.CutBlock
namespace Go.Proofs.Ytjfllomnphppfaa
open Go.RowKit

section
variable {w w' : World} {B go gl mb g o r : Nat} {v row : Value} {L : List Iss} {ms : List MsgD}
/-- A transaction's revision. -/
def revOf (L : List Iss) (k : Int) : Option Int := ((idx L k).bind fun i => L[i]?).map (·.rev)
theorem revOf_none {k : Int} (h : idx L k = none) : revOf L k = none := by unfold revOf; rw [h]; rfl
theorem revOf_some {k : Int} {j : Nat} {x : Iss} (h : idx L k = some j) (hx : L[j]? = some x) : revOf L k = some x.rev := by unfold revOf; rw [h]; show (L[j]?).map _ = _; rw [hx]; rfl
theorem revOf_push {k : Int} {x : Iss} (h : idx L x.id = none) : revOf (L ++ [x]) k = if k = x.id then some x.rev else revOf L k := by
  by_cases hk : k = x.id
  · subst hk
    rw [if_pos rfl]
    exact revOf_some (j := L.length) (by rw [idx_push, if_neg (idx_none_iff.1 h), if_pos rfl]) (by simp)
  · rw [if_neg hk]
    cases hi : idx L k with
    | none => rw [revOf_none hi, revOf_none (by rw [idx_push, if_neg (idx_none_iff.1 hi), if_neg (fun e => hk e.symm)])]
    | some i =>
      obtain ⟨i', y, h1, h2, _⟩ := idx_some (L := L) (k := k) (by
        by_cases hn : k ∈ L.map (·.id)
        · exact hn
        · rw [idx_none hn] at hi; cases hi)
      rw [hi] at h1
      injection h1 with h1
      subst h1
      have hl := (List.getElem?_eq_some_iff.1 h2).1
      have hm : k ∈ L.map (·.id) := by
        by_cases hn : k ∈ L.map (·.id)
        · exact hn
        · rw [idx_none hn] at hi; cases hi
      rw [revOf_some hi h2, revOf_some (j := i) (x := y) (by rw [idx_push, if_pos hm, hi]) (by rw [List.getElem?_append_left hl, h2])]
theorem revOf_mark {k : Int} (i : Nat) : revOf (mark L i) k = revOf L k := by
  unfold revOf
  rw [idx_mark]
  cases hi : idx L k with
  | none => rfl
  | some j =>
    show ((mark L i)[j]?).map _ = (L[j]?).map _
    rw [mark_at]
    split
    · cases L[j]? <;> rfl
    · rfl
theorem closed_push {x : Iss} (hd : x.done = false) (h : lastR L < x.rev) : closedR L ≤ closedR (L ++ [x]) := by
  have hl := leadN_le L
  rcases Nat.lt_or_ge (leadN L) L.length with h1 | h1
  · obtain ⟨y, hy⟩ : ∃ y, L[leadN L]? = some y := ⟨_, List.getElem?_eq_getElem h1⟩
    rw [closedR_at hy, closedR_at (L := L ++ [x]) (x := y) (by rw [leadN_push L x hd, List.getElem?_append_left h1, hy])]
    exact Int.le_refl _
  · have he : leadN L = L.length := by omega
    rw [closedR_end he, closedR_at (L := L ++ [x]) (x := x) (by rw [leadN_push L x hd, he]; simp)]
    omega
theorem Rise.mono_at (h : Rise L) {i j : Nat} {x y : Iss} (hx : L[i]? = some x) (hy : L[j]? = some y) (hij : i ≤ j) : x.rev ≤ y.rev := by
  obtain ⟨hi, rfl⟩ := List.getElem?_eq_some_iff.1 hx
  obtain ⟨hj, rfl⟩ := List.getElem?_eq_some_iff.1 hy
  rcases Nat.lt_or_ge i j with h1 | h1
  · have := List.pairwise_iff_getElem.1 h.asc i j (by simpa using hi) (by simpa using hj) h1
    simp at this
    omega
  · have : i = j := by omega
    subst this
    exact Int.le_refl _
theorem Rise.closed_le (h : Rise L) : closedR L ≤ lastR L := by
  have hl := leadN_le L
  rcases Nat.lt_or_ge (leadN L) L.length with h1 | h1
  · obtain ⟨y, hy⟩ : ∃ y, L[leadN L]? = some y := ⟨_, List.getElem?_eq_getElem h1⟩
    rw [closedR_at hy]
    have := h.le_last (List.mem_of_getElem? hy)
    omega
  · rw [closedR_end (by omega)]
    exact Int.le_refl _
theorem Rise.closed_nonneg (h : Rise L) : 0 ≤ closedR L := by
  have hl := leadN_le L
  rcases Nat.lt_or_ge (leadN L) L.length with h1 | h1
  · obtain ⟨y, hy⟩ : ∃ y, L[leadN L]? = some y := ⟨_, List.getElem?_eq_getElem h1⟩
    rw [closedR_at hy]
    have := h.pos y (List.mem_of_getElem? hy)
    omega
  · rw [closedR_end (by omega)]
    exact h.last_rng.1
theorem Rise.closed_mark (h : Rise L) (i : Nat) : closedR L ≤ closedR (Go.Proofs.Ytjfllomnphppfaa.mark L i) := by
  have hl := leadN_le L
  have hm := mark_lead L i
  have hl2 := leadN_le (Go.Proofs.Ytjfllomnphppfaa.mark L i)
  rw [mark_len] at hl2
  rcases Nat.lt_or_ge (leadN (Go.Proofs.Ytjfllomnphppfaa.mark L i)) L.length with h1 | h1
  · obtain ⟨y, hy⟩ : ∃ y, (Go.Proofs.Ytjfllomnphppfaa.mark L i)[leadN (Go.Proofs.Ytjfllomnphppfaa.mark L i)]? = some y := ⟨_, List.getElem?_eq_getElem (by rw [mark_len]; exact h1)⟩
    obtain ⟨z, hz, hzr, _, _⟩ := mark_get hy
    obtain ⟨u, hu⟩ : ∃ u, L[leadN L]? = some u := ⟨_, List.getElem?_eq_getElem (by omega)⟩
    rw [closedR_at hy, closedR_at hu, hzr]
    have := h.mono_at hu hz hm
    omega
  · rw [closedR_end (L := Go.Proofs.Ytjfllomnphppfaa.mark L i) (by rw [mark_len]; omega), lastR_mark]
    exact h.closed_le
/-- What is pending is above what is closed. -/
theorem Rise.pend_at (h : Rise L) {j : Nat} {m : MsgD} (hm : (pend L)[j]? = some m) : closedR L < m.rev ∧ revOf L m.id = some m.rev ∧ InI m.id := by
  rw [← pend_lead] at hm
  obtain ⟨x, hx, rfl⟩ := List.mem_map.1 (List.mem_of_getElem? hm)
  have hx1 := (List.mem_filter.1 hx).1
  obtain ⟨i, hi⟩ := List.getElem?_of_mem hx1
  rw [List.getElem?_drop] at hi
  have hl := (List.getElem?_eq_some_iff.1 hi).1
  obtain ⟨u, hu⟩ : ∃ u, L[leadN L]? = some u := ⟨_, List.getElem?_eq_getElem (by omega)⟩
  refine ⟨?_, ?_, (h.rng x (List.mem_of_getElem? hi)).1⟩
  · rw [closedR_at hu]
    have := h.mono_at hu hi (by omega)
    show u.rev - 1 < x.rev
    omega
  · show revOf L x.id = some x.rev
    obtain ⟨i', y, h1, h2, h3⟩ := idx_some (L := L) (k := x.id) (List.mem_map.2 ⟨x, List.mem_of_getElem? hi, rfl⟩)
    rw [revOf_some h1 h2]
    have hnd := h.nd
    have : i' = leadN L + i := by
      have e1 : (L.map (·.id))[i']? = some x.id := by rw [List.getElem?_map, h2]; simp [h3]
      have e2 : (L.map (·.id))[leadN L + i]? = some x.id := by rw [List.getElem?_map, hi]; rfl
      exact (List.getElem?_inj (List.getElem?_eq_some_iff.1 e1).1 hnd).1 (e1.trans e2.symm)
    subst this
    rw [hi] at h2
    injection h2 with h2
    rw [h2]
end
end Go.Proofs.Ytjfllomnphppfaa
