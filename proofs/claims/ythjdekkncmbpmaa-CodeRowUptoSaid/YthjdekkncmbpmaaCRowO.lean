/- A list of numbers that came in, opened. -/
import Derived.Test.YthjdekkncmbpmaaCRow
namespace Go.Proofs.Ythjdekkncmbpmaa
open Go.RowKit Go.ChangeShapes Go.WideShapes

theorem nums_opened {H : Type} {enc : TypeId × Value → H} {W : World} {fuel : Nat} {v : Value} {x : DataW H × List MemPlace}
    (h : DataW.trod enc Try.prog W 0 (fun _ => true) true fuel 49 [v] = some x) :
    ∃ a n c zs, v = .slice a n c ∧ IntsAt W W.heap.size a n zs ∧ n ≤ c ∧ (v = .slice none 0 0 ∨ ∃ ws : List Int, ws.length = c ∧ x.1 = .slice (lits .i64 (ws.take n)) (lits .i64 (ws.drop n))) := by
  rcases open_ints Try.underlying49 Try.underlying2 (by kernel_rfl) h with ⟨hcs, _⟩ | ⟨ad, l, c, zs, hcs, _, hl, hm, hz, hx, hcell, hwz⟩
  · simp at hcs
    subst hcs
    exact ⟨none, 0, 0, [], rfl, ⟨rfl, .inl rfl⟩, by omega, .inl rfl⟩
  · simp at hcs
    subst hcs
    simp only [if_true] at hz
    refine ⟨some ad, l, c, zs.take l, rfl, ⟨by simp; omega, ?_⟩, hl, .inr ⟨zs, by simpa using hz, congrArg Prod.fst hx⟩⟩
    rcases Nat.eq_zero_or_pos l with h0 | h0
    · exact .inl h0
    · obtain ⟨b, off, spot⟩ := ad
      have hs : spot = none := by simpa [Addr.add] using World.cell?_spot (hcell 0 (by omega))
      subst hs
      have hb := World.block_lt_of_cell? W _ (hcell 0 (by omega))
      rw [add_plain] at hb
      refine .inr ⟨b, off, rfl, hb, fun i z hi => ?_⟩
      have hil : i < l := by have := (List.getElem?_eq_some_iff.1 hi).1; simp at this; omega
      rw [List.getElem?_take, if_pos hil] at hi
      have := hcell i (by omega)
      rw [add_plain] at this
      have e : zs.getD i 0 = z := by rw [List.getD_eq_getElem?_getD, hi]; rfl
      rw [e] at this
      exact ⟨this, wf_i64 (hwz z (List.mem_of_getElem? hi))⟩
end Go.Proofs.Ythjdekkncmbpmaa
