/- A tuple, and bools, that came in. -/
import Derived.Test.YtlhilndgiabicaaE36
import Derived.Test.YtlhilndgiabicaaBulk
import Derived.Deep.Strs
import Derived.Deep.Slices
import Derived.ChangeSlices
import Derived.ChangeArms
import Derived.Lib.SmallJoins
namespace Go.Proofs.Ytlhilndgiabicaa
open Go.RowKit Go.ChangeShapes Go.WideShapes

theorem str_bulk {H : Type} {l : List UInt8} (h : Rows.uptoBulk (DataW.lit (H := H) (.string l)) ≤ 1048576) : l.length ≤ 1048576 := by
  simp only [Rows.uptoBulk] at h
  omega
set_option maxRecDepth 100000 in
theorem tupU_opened {H : Type} {enc : TypeId × Value → H} {W : World} {r : Reach} {b0 base : Nat} {spare : Nat → Bool} {held : Bool} {v : Value} {d : DataW H} {p : List MemPlace}
    (hv : Value.okWide Try.prog W r b0 24 v) (h : DataW.Trod enc Try.prog W base spare held 24 v d p) (hw : Rows.uptoBulk d ≤ 1048576) :
    ∃ x y z, v = .agg #[.string x, .string y, .string z] ∧ (⟨x, y, z⟩ : Tp).fits := by
  obtain ⟨c0, c1, c2, y0, y1, y2, m, rfl, rfl, rfl, h0, h1, h2⟩ := Go.Joins.open_agg3 Try.underlying24 (by kernel_rfl) (by kernel_rfl) hv h
  obtain ⟨x, e0, rfl, w0⟩ := DataW.trod_string Try.underlying9 h0
  obtain ⟨y, e1, rfl, w1⟩ := DataW.trod_string Try.underlying9 h1
  obtain ⟨z, e2, rfl, w2⟩ := DataW.trod_string Try.underlying9 h2
  simp at e0 e1 e2
  subst e0 e1 e2
  simp only [Rows.uptoBulk, Rows.uptoBulkAll] at hw
  refine ⟨x, y, z, rfl, ?_, ?_, ?_⟩ <;> (simp only [Lib.size_eq]; omega)
theorem boolsU_opened {H : Type} {enc : TypeId × Value → H} {W : World} {fuel : Nat} {a : Option Addr} {len cap : Nat} {x : DataW H × List MemPlace}
    (h : DataW.trod enc Try.prog W 0 (fun _ => true) true fuel 49 (Value.slice a len cap).cells.toList = some x) (hw : Rows.uptoBulk x.1 ≤ 1048576) : BoolsAt W a len ∧ len ≤ 1048576 := by
  have h' : DataW.trod enc Try.prog W 0 (fun _ => true) true fuel 49 [Value.slice a len cap] = some x := by simpa [Value.cells] using h
  rcases Go.Deep.open_slice Try.underlying49 h' with ⟨hcs, hx⟩ | ⟨ad, l, c, m, n, Dd, Pl, hcs, _, hl, hm, hmm, hx, hall⟩
  · simp at hcs
    obtain ⟨rfl, rfl, rfl⟩ := hcs
    exact ⟨.inl rfl, by omega⟩
  · simp at hcs
    obtain ⟨rfl, rfl, rfl⟩ := hcs
    have hcell : Try.prog.cellsOf 4 = 1 := by kernel_rfl
    rw [hcell] at hall
    have hlen : len ≤ 1048576 := by
      rw [hx] at hw
      have h1 := Nat.le_trans (bulks.slice_le ((List.range len).map Dd) _) hw
      simp at h1
      omega
    refine ⟨?_, hlen⟩
    rcases Nat.eq_zero_or_pos len with h0 | h0
    · exact .inl h0
    · simp only [if_true] at hmm
      obtain ⟨b, off, spot⟩ := ad
      have hs : spot = none := by
        obtain ⟨cs', hc, _⟩ := hall 0 (by omega)
        obtain ⟨_, hcl, hat⟩ := World.cells?_some hc
        have h1 := hat 0 (by omega)
        rw [List.getElem?_eq_getElem (by omega)] at h1
        simpa [Addr.add] using World.cell?_spot h1
      subst hs
      have key : ∀ i, i < len → ∃ d, W.cell? ⟨b, off + i, none⟩ = some (.bool d) := by
        intro i hi
        obtain ⟨cs', hc, ht⟩ := hall i (by omega)
        obtain ⟨_, hcl, hat⟩ := World.cells?_some hc
        match cs', hcl with
        | [v0], _ =>
          have e0 := hat 0 (by omega)
          simp only [add_plain, Nat.add_zero, List.getElem?_cons_zero, Nat.mul_one] at e0
          obtain ⟨y, q0, _⟩ := DataW.trod_bool Try.underlying4 ht
          simp at q0
          exact ⟨y, by rw [← q0]; exact e0⟩
      obtain ⟨t, c0⟩ := key 0 h0
      exact .inr ⟨b, off, rfl, World.block_lt_of_cell? W ⟨b, off + 0, none⟩ c0, key⟩
end Go.Proofs.Ytlhilndgiabicaa
