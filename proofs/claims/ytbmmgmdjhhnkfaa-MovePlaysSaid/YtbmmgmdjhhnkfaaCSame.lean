/- The document's Same: two messages are the same. -/
import Derived.Test.YtbmmgmdjhhnkfaaCOpen
namespace Go.Proofs.Ytbmmgmdjhhnkfaa
open Go.RowKit

theorem take_next {α : Type} {l m : List α} {j : Nat} {x : α} (h : l.take j = m.take j) (hl : l[j]? = some x) (hm : m[j]? = some x) : l.take (j + 1) = m.take (j + 1) := by rw [take_snoc hl, take_snoc hm, h]
theorem take_whole {α : Type} {l m : List α} {n : Nat} (hl : l.length = n) (hm : m.length = n) (h : l.take n = m.take n) : l = m := by
  rwa [List.take_of_length_le (by omega), List.take_of_length_le (by omega)] at h
theorem get_some {α : Type} {l : List α} {n j : Nat} (hl : l.length = n) (h : j < n) : ∃ x, l[j]? = some x := ⟨_, List.getElem?_eq_getElem (show j < l.length by omega)⟩
theorem str_case (a b : ByteArray) : ((a.toList == b.toList) = true ∧ a = b) ∨ ((a.toList == b.toList) = false ∧ a ≠ b) := by
  by_cases h : a = b
  · exact .inl ⟨by rw [h]; simp, h⟩
  · exact .inr ⟨str_ne h, h⟩
/-- Same's answer. -/
def SameR (w : World) (m m' : MsgD) (e : Ending) (w' : World) : Prop := ∃ r : Bool, e = .returned (.bool r) ∧ (r = true ↔ m = m') ∧ Below w.heap.size w w'
theorem sameR_no {w w' : World} {m m' : MsgD} (h : m ≠ m') (hb : Below w.heap.size w w') : SameR w m m' (.returned (.bool false)) w' := ⟨false, rfl, by simp [h], hb⟩

end Go.Proofs.Ytbmmgmdjhhnkfaa
