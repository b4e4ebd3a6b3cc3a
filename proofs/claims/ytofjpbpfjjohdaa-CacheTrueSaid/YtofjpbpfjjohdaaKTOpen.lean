/- Numbers that came in, opened; CacheTrue's walk. -/
import Derived.Test.YtofjpbpfjjohdaaKT1
import Derived.Deep.Strs
import Derived.Deep.Slices
import Derived.ChangeSlices
import Derived.ChangeArms
import Derived.SizedLaws
namespace Go.Proofs.Ytofjpbpfjjohdaa
open Go.RowKit Go.ChangeShapes Go.WideShapes

theorem ints_opened {H : Type} {enc : TypeId × Value → H} {W : World} {fuel : Nat} {a : Option Addr} {len cap : Nat} {x : DataW H × List MemPlace}
    (h : DataW.trod enc Try.prog W 0 (fun _ => true) true fuel 22 (Value.slice a len cap).cells.toList = some x) (hw : ∀ k ∈ x.1.weights Try.prog 22, k ≤ 140737488351232) :
    (∃ l, Ints W a len l) ∧ len ≤ 140737488351232 := by
  have h' : DataW.trod enc Try.prog W 0 (fun _ => true) true fuel 22 [Value.slice a len cap] = some x := by simpa [Value.cells] using h
  rcases open_ints Try.underlying22 Try.underlying3 (by kernel_rfl) h' with ⟨hcs, _⟩ | ⟨ad, l, c, zs, hcs, _, hl, hm, hz, hx, hcell, hwz⟩
  · simp at hcs
    obtain ⟨rfl, rfl, rfl⟩ := hcs
    exact ⟨⟨[], rfl, .inl rfl, by simp⟩, by omega⟩
  · simp at hcs
    obtain ⟨rfl, rfl, rfl⟩ := hcs
    simp only [if_true] at hz
    have hlen : zs.length * 8 ≤ 140737488351232 := by
      have := hw (zs.length * 8) (by
        rw [hx]
        simp only [DataW.weights, Try.underlying22, List.mem_cons]
        left
        rw [show Try.prog.bytesOf 3 = 8 by kernel_rfl]
        simp [lits]
        omega)
      exact this
    refine ⟨⟨zs.take len, by simp; omega, ?_, fun x hx => by have := hwz x (List.mem_of_mem_take hx); simp [Lit.wf, IntKind.min, IntKind.max, IntKind.signed, IntKind.bits] at this; omega⟩, by omega⟩
    rcases Nat.eq_zero_or_pos len with h0 | h0
    · exact .inl h0
    · obtain ⟨b, off, spot⟩ := ad
      have hs : spot = none := by simpa [Addr.add] using World.cell?_spot (hcell 0 (by omega))
      subst hs
      have hb := World.block_lt_of_cell? W _ (hcell 0 (by omega))
      rw [add_plain] at hb
      refine .inr ⟨b, off, rfl, hb, fun i z hi => ?_⟩
      have hil : i < len := by have := (List.getElem?_eq_some_iff.1 hi).1; simp at this; omega
      rw [List.getElem?_take, if_pos hil] at hi
      have := hcell i (by omega)
      rw [add_plain] at this
      have e : zs.getD i 0 = z := by rw [List.getD_eq_getElem?_getD, hi]; rfl
      rwa [e] at this
theorem ctrue_walk (s : Int) (a : Option Addr) (n k : Nat) (l : List Int) (w : World) (hl : Ints w a n l) (hn : n ≤ 140737488351232) :
    Calls Try.prog 3 #[.int .i64 s, .slice a n k] w fun e w' => e = .returned (.bool true) ∧ Below w.heap.size w w' := by
  by_cases h : s < 1 ∨ 4096 < s
  · exact ctrue_bad s a n k w h
  · obtain ⟨m, rfl⟩ : ∃ m : Nat, s = (m : Int) := ⟨s.toNat, by omega⟩
    exact ctrue_good m a n k l w (by omega) (by omega) hl hn
end Go.Proofs.Ytofjpbpfjjohdaa
