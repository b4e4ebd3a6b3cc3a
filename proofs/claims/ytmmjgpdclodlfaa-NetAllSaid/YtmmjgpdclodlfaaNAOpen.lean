/- Texts and numbers that came in, opened. -/
import Derived.Test.YtmmjgpdclodlfaaNA1
import Derived.Deep.Strs
import Derived.Deep.Slices
import Derived.ChangeSlices
import Derived.ChangeArms
import Derived.SizedLaws
namespace Go.Proofs.Ytmmjgpdclodlfaa
open Go.RowKit Go.ChangeShapes Go.WideShapes

theorem texts_opened {H : Type} {enc : TypeId × Value → H} {W : World} {fuel : Nat} {a : Option Addr} {len cap : Nat} {x : DataW H × List MemPlace}
    (h : DataW.trod enc Try.prog W 0 (fun _ => true) true fuel 53 (Value.slice a len cap).cells.toList = some x) (hw : ∀ k ∈ x.1.weights Try.prog 53, k ≤ 140737488351232) : TextsIn W a len := by
  have h' : DataW.trod enc Try.prog W 0 (fun _ => true) true fuel 53 [Value.slice a len cap] = some x := by simpa [Value.cells] using h
  rcases Go.Deep.open_strs Try.underlying53 Try.underlying9 (by kernel_rfl) h' with ⟨hcs, hx⟩ | ⟨ad, l, c, m, Sx, hcs, _, hl, hm, hmm, hx, hall⟩
  · simp at hcs
    obtain ⟨rfl, rfl, rfl⟩ := hcs
    exact .inl rfl
  · simp at hcs
    obtain ⟨rfl, rfl, rfl⟩ := hcs
    simp only [if_true] at hmm
    rcases Nat.eq_zero_or_pos len with h0 | h0
    · exact .inl h0
    · obtain ⟨b, off, spot⟩ := ad
      have hs : spot = none := by simpa [Addr.add] using World.cell?_spot (hall 0 (by omega)).1
      subst hs
      have hbl : b < W.heap.size := by
        have := World.block_lt_of_cell? W _ (hall 0 (by omega)).1
        simpa [Addr.add] using this
      refine .inr ⟨b, off, rfl, hbl, fun i hi => ⟨Sx i, ?_, ?_⟩⟩
      · have := (hall i (by omega)).1
        rwa [add_plain] at this
      · have hd := congrArg Prod.fst hx
        simp only at hd
        refine hw (Sx i).size ?_
        rw [hd]
        refine weights_slice Try.underlying53 (.inl (List.mem_map.2 ⟨i, List.mem_range.2 hi, rfl⟩)) ?_
        simp [DataW.weights]
theorem nums_opened {H : Type} {enc : TypeId × Value → H} {W : World} {fuel : Nat} {a : Option Addr} {len cap : Nat} {x : DataW H × List MemPlace}
    (h : DataW.trod enc Try.prog W 0 (fun _ => true) true fuel 54 (Value.slice a len cap).cells.toList = some x) : NumsIn W a len ∧ len ≤ 9223372036854775807 := by
  have h' : DataW.trod enc Try.prog W 0 (fun _ => true) true fuel 54 [Value.slice a len cap] = some x := by simpa [Value.cells] using h
  rcases open_ints Try.underlying54 Try.underlying3 (by kernel_rfl) h' with ⟨hcs, _⟩ | ⟨ad, l, c, zs, hcs, _, hl, hm, hz, hx, hcell, hwz⟩
  · simp at hcs
    obtain ⟨rfl, rfl, rfl⟩ := hcs
    exact ⟨.inl rfl, by omega⟩
  · simp at hcs
    obtain ⟨rfl, rfl, rfl⟩ := hcs
    simp only [if_true] at hz
    unfold maxLen at hm
    refine ⟨?_, by omega⟩
    rcases Nat.eq_zero_or_pos len with h0 | h0
    · exact .inl h0
    · obtain ⟨b, off, spot⟩ := ad
      have hs : spot = none := by simpa [Addr.add] using World.cell?_spot (hcell 0 (by omega))
      subst hs
      have hbl : b < W.heap.size := by
        have := World.block_lt_of_cell? W _ (hcell 0 (by omega))
        simpa [Addr.add] using this
      refine .inr ⟨b, off, rfl, hbl, fun i hi => ⟨zs.getD i 0, ?_⟩⟩
      have := hcell i (by omega)
      rwa [add_plain] at this
theorem nall_walk (a a2 : Option Addr) (n c n2 c2 : Nat) (bit : Int) (w : World) (ht : TextsIn w a n) (hp : NumsIn w a2 n2) (hn2 : n2 ≤ 9223372036854775807) (hbm : bit ≤ 9223372036854775807) :
    Calls Try.prog 4 #[.slice a n c, .slice a2 n2 c2, .int .i64 bit] w fun e w' => e = .returned (.bool true) ∧ Below w.heap.size w w' := by
  by_cases h : 4096 < n
  · exact nall_many a a2 n c n2 c2 bit w h
  · exact nall_few a a2 n c n2 c2 bit w ht hp hbm (by omega) hn2
end Go.Proofs.Ytmmjgpdclodlfaa
