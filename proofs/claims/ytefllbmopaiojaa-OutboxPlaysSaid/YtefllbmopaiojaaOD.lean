/- A row of which one is taken out. -/
import Derived.Test.YtefllbmopaiojaaO0
import Derived.Deep.Upon
namespace Go.Proofs.Ytefllbmopaiojaa
open Go.RowKit

theorem Whole.stores {g : Nat} {t : TypeId} : ∀ (vs : List Value) (o : Nat) (w : World) (cs : Array Value), Whole w g t cs → o + vs.length ≤ cs.size →
    ∃ cs', Whole (w.setCells g o vs) g t cs' ∧ cs'.size = cs.size ∧ ∀ j, cs'[j]? = if o ≤ j ∧ j < o + vs.length then vs[j - o]? else cs[j]?
  | [], o, w, cs, h, _ => ⟨cs, h, rfl, fun j => by rw [if_neg]; simp⟩
  | v :: vs, o, w, cs, h, hs => by
    obtain ⟨cs', h1, h2, h3⟩ := Whole.stores vs (o + 1) (w.setCell ⟨g, o, none⟩ v) _ (h.store o v) (by simp at hs ⊢; omega)
    refine ⟨cs', h1, by rw [h2]; simp, fun j => ?_⟩
    rw [h3 j]
    simp only [List.length_cons] at hs ⊢
    by_cases hj : j = o
    · subst hj
      rw [if_neg (by omega), if_pos (by omega), Array.getElem?_setIfInBounds_self_of_lt (by omega)]
      simp
    · by_cases hj2 : o + 1 ≤ j ∧ j < o + 1 + vs.length
      · rw [if_pos hj2, if_pos (by omega), show j - o = (j - (o + 1)) + 1 by omega, List.getElem?_cons_succ]
      · rw [if_neg hj2, if_neg (by omega), Array.getElem?_setIfInBounds_ne (fun e => hj e.symm)]
theorem erase_take {l : List Value} {n i : Nat} {cur cs cur' : Array Value} (hl : cur.toList.take n = l) (hn : l.length = n) (hi : i < n)
    (h3 : ∀ j, cs[j]? = if i ≤ j ∧ j < i + (l.drop (i + 1)).length then (l.drop (i + 1))[j - i]? else cur[j]?) (h4 : cur'.toList.take (n - 1) = cs.toList.take (n - 1)) :
    cur'.toList.take (n - 1) = l.eraseIdx i := by
  rw [h4]
  apply List.ext_getElem?
  intro j
  rw [List.getElem?_take, List.getElem?_eraseIdx]
  have hc : ∀ j, j < n → cur[j]? = l[j]? := fun j hj => by
    rw [← hl, List.getElem?_take, if_pos hj]
    simp
  split
  · rename_i hj
    rw [Array.getElem?_toList, h3 j, List.length_drop, List.getElem?_drop]
    split
    · rename_i h5
      rw [if_neg (by omega), show i + 1 + (j - i) = j + 1 by omega]
    · rename_i h5
      rw [if_pos (by omega), hc j (by omega)]
  · rename_i hj
    split
    · omega
    · rw [List.getElem?_eq_none (by omega)]
theorem setCells_facts (g : Nat) : ∀ (vs : List Value) (o : Nat) (w : World), (w.setCells g o vs).tape = w.tape ∧ (w.setCells g o vs).heap.size = w.heap.size
  | [], _, _ => ⟨rfl, rfl⟩
  | v :: vs, o, w => by
    have h := setCells_facts g vs (o + 1) (w.setCell ⟨g, o, none⟩ v)
    exact ⟨h.1, h.2.trans (by simp [World.setCell])⟩
theorem eraseIdx_map {α β : Type} (f : α → β) : ∀ (l : List α) (i : Nat), (l.eraseIdx i).map f = (l.map f).eraseIdx i
  | [], _ => rfl
  | x :: l, 0 => rfl
  | x :: l, i + 1 => by simp [eraseIdx_map f l i]
end Go.Proofs.Ytefllbmopaiojaa
