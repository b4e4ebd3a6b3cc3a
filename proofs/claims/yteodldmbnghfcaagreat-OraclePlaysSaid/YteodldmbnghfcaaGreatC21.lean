/- The bench: a message is written and read. -/
import Derived.Test.YteodldmbnghfcaaGreatC20
namespace Go.Proofs.YteodldmbnghfcaaGreat
open Go.RowKit
theorem owned_lies {w : World} {base n : Nat} {v : Value} {xs : List Int} (h : w.ownsRow base 5 1 v n (xs.map (Value.int .u8))) (hb : ∀ x ∈ xs, 0 ≤ x ∧ x < 256) : LiesAt w w.heap.size v xs := by
  have hl : xs.length = n := by have := h.1; simpa using this
  rcases h.2 with ⟨rfl, h0⟩ | ⟨g, cap, cur, rfl, h1, h2, h3, h4, h5, h6⟩
  · exact .inl ⟨rfl, List.eq_nil_of_length_eq_zero (by omega)⟩
  · refine .inr ⟨g, 0, cap, by rw [hl], by omega, h4, (h.lt g rfl).2, fun i x hx => ⟨?_, hb x (List.mem_of_getElem? hx)⟩⟩
    have := h.cells (g := g) rfl i (.int .u8 x) (by simp [hx])
    rw [add_plain, Nat.zero_add] at this
    rw [Nat.zero_add]
    exact this
end Go.Proofs.YteodldmbnghfcaaGreat
