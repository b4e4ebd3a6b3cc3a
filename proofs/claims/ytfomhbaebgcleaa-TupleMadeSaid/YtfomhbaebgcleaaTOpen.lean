/- Layer 5: tuples and rows of tuples that came in, opened. -/
import Derived.Test.YtfomhbaebgcleaaT9
import Derived.Deep.Strs
import Derived.Deep.Slices
import Derived.ChangeSlices
import Derived.ChangeArms
import Derived.SizedLaws
import Derived.Lib.SmallJoins
namespace Go.Proofs.Ytfomhbaebgcleaa
open Go.RowKit Go.ChangeShapes Go.WideShapes

theorem tup_opened {H : Type} {enc : TypeId × Value → H} {W : World} {r : Reach} {b0 base : Nat} {spare : Nat → Bool} {held : Bool} {v : Value} {d : DataW H} {p : List MemPlace}
    (hv : Value.okWide Try.prog W r b0 23 v) (h : DataW.Trod enc Try.prog W base spare held 23 v d p) (hw : ∀ k ∈ d.weights Try.prog 23, k ≤ 140737488351232) :
    ∃ x y z, v = .agg #[.string x, .string y, .string z] ∧ Tp.small (x, y, z) := by
  obtain ⟨c0, c1, c2, y0, y1, y2, m, rfl, rfl, rfl, h0, h1, h2⟩ := Go.Joins.open_agg3 Try.underlying23 (by kernel_rfl) (by kernel_rfl) hv h
  obtain ⟨x, e0, rfl, w0⟩ := DataW.trod_string Try.underlying9 h0
  obtain ⟨y, e1, rfl, w1⟩ := DataW.trod_string Try.underlying9 h1
  obtain ⟨z, e2, rfl, w2⟩ := DataW.trod_string Try.underlying9 h2
  simp at e0 e1 e2
  subst e0 e1 e2
  simp only [DataW.weights, Try.underlying23, List.map_cons, List.map_nil, DataW.weightsEach, List.mem_append, List.mem_cons, List.not_mem_nil, or_false] at hw
  have k0 := hw _ (.inl rfl)
  have k1 := hw _ (.inr (.inl rfl))
  have k2 := hw _ (.inr (.inr rfl))
  rw [← Lib.size_eq] at k0 k1 k2
  exact ⟨x, y, z, rfl, by simp only [Tp.small]; omega⟩
theorem str_opened {H : Type} {l : List UInt8} {t : TypeId} (hw : ∀ k ∈ (DataW.lit (H := H) (.string l)).weights Try.prog t, k ≤ 140737488351232) : l.length ≤ 140737488351232 := hw _ (by simp [DataW.weights])

theorem tups_opened {H : Type} {enc : TypeId × Value → H} {W : World} {fuel : Nat} {a : Option Addr} {len cap : Nat} {x : DataW H × List MemPlace}
    (h : DataW.trod enc Try.prog W 0 (fun _ => true) true fuel 38 (Value.slice a len cap).cells.toList = some x) (hw : ∀ k ∈ x.1.weights Try.prog 38, k ≤ 140737488351232) :
    (∃ ts, TupsAt W a len ts) ∧ len ≤ 9223372036854775806 := by
  have h' : DataW.trod enc Try.prog W 0 (fun _ => true) true fuel 38 [Value.slice a len cap] = some x := by simpa [Value.cells] using h
  rcases Go.Deep.open_slice Try.underlying38 h' with ⟨hcs, hx⟩ | ⟨ad, l, c, m, n, Dd, Pl, hcs, _, hl, hm, hmm, hx, hall⟩
  · simp at hcs
    obtain ⟨rfl, rfl, rfl⟩ := hcs
    exact ⟨⟨[], rfl, by simp, .inl rfl⟩, by omega⟩
  · simp at hcs
    obtain ⟨rfl, rfl, rfl⟩ := hcs
    have hcell : Try.prog.cellsOf 23 = 3 := by kernel_rfl
    have hbytes : Try.prog.bytesOf 23 = 48 := by kernel_rfl
    rw [hcell] at hall
    have hlen : len * 48 ≤ 140737488351232 := by
      have := hw ((((List.range len).map Dd).length + _) * 48) (by
        rw [hx]
        simp only [DataW.weights, Try.underlying38, List.mem_cons]
        left
        rw [hbytes])
      simp at this
      omega
    refine ⟨?_, by omega⟩
    rcases Nat.eq_zero_or_pos len with h0 | h0
    · exact ⟨[], by simp [h0], by simp, .inl h0⟩
    · simp only [if_true] at hmm
      obtain ⟨b, off, spot⟩ := ad
      have hs : spot = none := by
        obtain ⟨cs', hc, _⟩ := hall 0 (by omega)
        obtain ⟨_, hcl, hat⟩ := World.cells?_some hc
        have h1 := hat 0 (by omega)
        rw [List.getElem?_eq_getElem (by omega)] at h1
        simpa [Addr.add] using World.cell?_spot h1
      subst hs
      have key : ∀ i, i < len → ∃ t : Tp, t.small ∧ W.cell? ⟨b, off + i * 3, none⟩ = some (.string t.1) ∧ W.cell? ⟨b, off + i * 3 + 1, none⟩ = some (.string t.2.1) ∧ W.cell? ⟨b, off + i * 3 + 2, none⟩ = some (.string t.2.2) := by
        intro i hi
        obtain ⟨cs', hc, ht⟩ := hall i (by omega)
        obtain ⟨_, hcl, hat⟩ := World.cells?_some hc
        match cs', hcl with
        | [v0, v1, v2], _ =>
          have e0 := hat 0 (by omega)
          have e1 := hat 1 (by omega)
          have e2 := hat 2 (by omega)
          simp only [add_plain, Nat.add_zero, List.getElem?_cons_zero, List.getElem?_cons_succ] at e0 e1 e2
          obtain ⟨y0, y1, y2, n', hd, _, t0, t1, t2⟩ := Go.Deep.trod_struct3 Try.underlying23 ht
          have k1 : Try.prog.cellsOf 9 = 1 := by kernel_rfl
          simp [k1] at t0 t1 t2
          obtain ⟨x, q0, rfl, w0⟩ := DataW.trod_string Try.underlying9 t0
          obtain ⟨y, q1, rfl, w1⟩ := DataW.trod_string Try.underlying9 t1
          obtain ⟨z, q2, rfl, w2⟩ := DataW.trod_string Try.underlying9 t2
          simp at q0 q1 q2
          subst q0 q1 q2
          have hwd : ∀ k ∈ (Dd i).weights Try.prog 23, k ≤ 140737488351232 := by
            intro k hk
            refine hw k ?_
            rw [hx]
            have hmem : Dd i ∈ (List.range len).map Dd := List.mem_map.2 ⟨i, List.mem_range.2 hi, rfl⟩
            exact weights_slice Try.underlying38 (.inl hmem) hk
          rw [show Dd i = _ from congrArg Prod.fst hd] at hwd
          simp only [DataW.weights, Try.underlying23, List.map_cons, List.map_nil, DataW.weightsEach, List.mem_append, List.mem_cons, List.not_mem_nil, or_false] at hwd
          have k0 := hwd _ (.inl rfl)
          have k1 := hwd _ (.inr (.inl rfl))
          have k2 := hwd _ (.inr (.inr rfl))
          rw [← Lib.size_eq] at k0 k1 k2
          exact ⟨(x, y, z), by simp only [Tp.small]; omega, e0, by rw [Nat.add_assoc]; exact e1, by rw [Nat.add_assoc]; exact e2⟩
      have hblt : b < W.heap.size := by
        obtain ⟨t, _, c0, _⟩ := key 0 h0
        exact World.block_lt_of_cell? W ⟨b, off + 0 * 3, none⟩ c0
      refine ⟨(List.range len).map fun i => if h : i < len then (key i h).choose else (ByteArray.empty, ByteArray.empty, ByteArray.empty), by simp, ?_, .inr ⟨b, off, rfl, hblt, ?_⟩⟩
      · intro t ht
        obtain ⟨i, hi, rfl⟩ := List.mem_map.1 ht
        have hi' : i < len := List.mem_range.1 hi
        simp only [dif_pos hi']
        exact (key i hi').choose_spec.1.fits
      · intro i t ht
        have hi : i < len := by
          have := (List.getElem?_eq_some_iff.1 ht).1
          simpa using this
        rw [List.getElem?_map, List.getElem?_range hi] at ht
        simp only [Option.map_some, Option.some.injEq, dif_pos hi] at ht
        subst ht
        exact (key i hi).choose_spec.2
end Go.Proofs.Ytfomhbaebgcleaa
