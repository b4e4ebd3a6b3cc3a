/- Rows of numbers that came in, opened. -/
import Derived.Test.YtcbpgkkkfkkkmaaGreatWa
import Derived.Deep.Strs
import Derived.Deep.Slices
import Derived.ChangeSlices
import Derived.ChangeArms
import Derived.SizedLaws
namespace Go.Proofs.YtcbpgkkkfkkkmaaGreat
open Go.RowKit Go.ChangeShapes Go.WideShapes

theorem ints_opened {H : Type} {enc : TypeId × Value → H} {W : World} {fuel : Nat} {a : Option Addr} {len cap : Nat} {x : DataW H × List MemPlace}
    (h : DataW.trod enc Tryz.prog W 0 (fun _ => true) true fuel 35 (Value.slice a len cap).cells.toList = some x) (hw : ∀ k ∈ x.1.weights Tryz.prog 35, k ≤ 140737488351232) :
    (∃ l, IntsAt W W.heap.size a len l) ∧ len ≤ 140737488351232 := by
  have h' : DataW.trod enc Tryz.prog W 0 (fun _ => true) true fuel 35 [Value.slice a len cap] = some x := by simpa [Value.cells] using h
  rcases open_ints Tryz.underlying35 Tryz.underlying3 (by kernel_rfl) h' with ⟨hcs, _⟩ | ⟨ad, l, c, zs, hcs, _, hl, hm, hz, hx, hcell, hwz⟩
  · simp at hcs
    obtain ⟨rfl, rfl, rfl⟩ := hcs
    exact ⟨⟨[], rfl, .inl rfl⟩, by omega⟩
  · simp at hcs
    obtain ⟨rfl, rfl, rfl⟩ := hcs
    simp only [if_true] at hz
    have hlen : zs.length * 8 ≤ 140737488351232 := by
      have := hw (zs.length * 8) (by
        rw [hx]
        simp only [DataW.weights, Tryz.underlying35, List.mem_cons]
        left
        rw [show Tryz.prog.bytesOf 3 = 8 by kernel_rfl]
        simp [lits]
        omega)
      exact this
    refine ⟨⟨zs.take len, by simp; omega, ?_⟩, by omega⟩
    rcases Nat.eq_zero_or_pos len with h0 | h0
    · exact .inl h0
    · obtain ⟨b, off, spot⟩ := ad
      have hs : spot = none := by simpa [Addr.add] using World.cell?_spot (hcell 0 (by omega))
      subst hs
      have hb := World.block_lt_of_cell? W _ (hcell 0 (by omega))
      rw [add_plain] at hb
      refine .inr ⟨b, off, rfl, hb, fun i z hi => ?_⟩
      have hil : i < len := by have := (List.getElem?_eq_some_iff.1 hi).1; simp at this; omega
      have hmz : z ∈ zs := List.mem_of_mem_take (List.mem_of_getElem? hi)
      rw [List.getElem?_take, if_pos hil] at hi
      have := hcell i (by omega)
      rw [add_plain] at this
      have e : zs.getD i 0 = z := by rw [List.getD_eq_getElem?_getD, hi]; rfl
      rw [e] at this
      exact ⟨this, wf_i64 (hwz z hmz)⟩
end Go.Proofs.YtcbpgkkkfkkkmaaGreat
