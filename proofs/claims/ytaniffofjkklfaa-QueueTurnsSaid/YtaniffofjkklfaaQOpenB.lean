/- Truths that came in, opened. -/
import Derived.Test.YtaniffofjkklfaaQ8
import Derived.Deep.Strs
import Derived.Deep.Slices
import Derived.Deep.Grids
import Derived.ChangeSlices
import Derived.ChangeArms
import Derived.SizedLaws
namespace Go.Proofs.Ytaniffofjkklfaa
open Go.RowKit Go.ChangeShapes Go.WideShapes

theorem bools_opened {H : Type} {enc : TypeId × Value → H} {W : World} {fuel : Nat} {a : Option Addr} {len cap : Nat} {x : DataW H × List MemPlace}
    (h : DataW.trod enc Try.prog W 0 (fun _ => true) true fuel 59 (Value.slice a len cap).cells.toList = some x) (hw : ∀ k ∈ x.1.weights Try.prog 59, k ≤ 140737488351232) :
    (∃ l, Bools W a len l) ∧ len ≤ 140737488351232 := by
  have h' : DataW.trod enc Try.prog W 0 (fun _ => true) true fuel 59 [Value.slice a len cap] = some x := by simpa [Value.cells] using h
  rcases Go.Deep.open_slice1 Try.underlying59 (by kernel_rfl) h' with ⟨hcs, _⟩ | ⟨ad, l, c, m, n, V, D, Pl, hcs, _, hl, hm, hmm, hx, hall⟩
  · simp at hcs
    obtain ⟨rfl, rfl, rfl⟩ := hcs
    exact ⟨⟨[], rfl, .inl rfl⟩, by omega⟩
  · simp at hcs
    obtain ⟨rfl, rfl, rfl⟩ := hcs
    simp only [if_true] at hmm
    have hlen : (len + (m - len)) * 1 ≤ 140737488351232 := by
      refine hw _ ?_
      rw [hx]
      simp only [DataW.weights, Try.underlying59, List.mem_cons]
      left
      rw [show Try.prog.bytesOf 4 = 1 by kernel_rfl]
      simp
    refine ⟨?_, by omega⟩
    have key : ∀ i, i < len → ∃ t : Bool, W.cell? (ad.add i) = some (.bool t) := by
      intro i hi
      obtain ⟨hc, ht⟩ := hall i (by omega)
      obtain ⟨t, q0, _⟩ := DataW.trod_bool Try.underlying4 ht
      simp at q0
      exact ⟨t, by rw [hc, q0]⟩
    refine ⟨(List.range len).map fun i => if h : i < len then (key i h).choose else false, by simp, ?_⟩
    rcases Nat.eq_zero_or_pos len with h0 | h0
    · exact .inl h0
    · obtain ⟨b, off, spot⟩ := ad
      obtain ⟨t0, hc0⟩ := key 0 h0
      have hs : spot = none := by simpa [Addr.add] using World.cell?_spot hc0
      subst hs
      have hb := World.block_lt_of_cell? W _ hc0
      rw [add_plain] at hb
      refine .inr ⟨b, off, rfl, hb, fun i t ht => ?_⟩
      have hi : i < len := by
        have := (List.getElem?_eq_some_iff.1 ht).1
        simpa using this
      rw [List.getElem?_map, List.getElem?_range hi] at ht
      simp only [Option.map_some, Option.some.injEq, dif_pos hi] at ht
      subst ht
      have h1 := (key i hi).choose_spec
      generalize (key i hi).choose = tt at h1 ⊢
      rwa [add_plain] at h1
theorem turns_walk (s : Int) (a : Option Addr) (n k : Nat) (l : List Bool) (w : World) (hl : Bools w a n l) (hn : n ≤ 140737488351232) :
    Calls Try.prog 5 #[.int .i64 s, .slice a n k] w fun e w' => e = .returned (.bool true) ∧ Below w.heap.size w w' := by
  by_cases h : s < 1 ∨ 4096 < s
  · exact turns_bad s a n k w h
  · obtain ⟨m, rfl⟩ : ∃ m : Nat, s = (m : Int) := ⟨s.toNat, by omega⟩
    exact turns_good m a n k l w (by omega) (by omega) hl hn
end Go.Proofs.Ytaniffofjkklfaa
