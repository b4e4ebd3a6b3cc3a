/- Layer 5: five names that came in, opened. -/
import Derived.Test.YtfomhbaebgcleaaTMade
namespace Go.Proofs.Ytfomhbaebgcleaa
open Go.RowKit Go.ChangeShapes Go.WideShapes

theorem arr_opened {H : Type} {enc : TypeId × Value → H} {W : World} {r : Reach} {b0 base : Nat} {spare : Nat → Bool} {held : Bool} {v : Value} {d : DataW H} {p : List MemPlace}
    (hv : Value.okWide Try.prog W r b0 43 v) (h : DataW.Trod enc Try.prog W base spare held 43 v d p) (hw : ∀ k ∈ d.weights Try.prog 43, k ≤ 140737488351232) :
    ∃ x0 x1 x2 x3 x4, v = .agg #[.string x0, .string x1, .string x2, .string x3, .string x4] ∧ x0.size ≤ 140737488351232 ∧ x1.size ≤ 140737488351232 ∧ x2.size ≤ 140737488351232 ∧ x3.size ≤ 140737488351232 ∧ x4.size ≤ 140737488351232 := by
  have hu := Try.underlying43
  simp only [Value.okWide, hu] at hv
  obtain ⟨cs, rfl, hsz, _⟩ := hv
  obtain ⟨fuel, hf⟩ := h
  obtain ⟨xs, m, rfl, hd, hl, hxl, hx⟩ := DataW.trod_array hu hf
  have k5 : Try.prog.cellsOf 43 = 5 := by kernel_rfl
  have k1 : Try.prog.cellsOf 9 = 1 := by kernel_rfl
  rw [k5] at hsz
  obtain ⟨l⟩ := cs
  match l, hsz with
  | [c0, c1, c2, c3, c4], _ =>
    match xs, hxl with
    | [y0, y1, y2, y3, y4], _ =>
      have h0 := hx 0 (by omega)
      have h1 := hx 1 (by omega)
      have h2 := hx 2 (by omega)
      have h3 := hx 3 (by omega)
      have h4 := hx 4 (by omega)
      simp [k1, Value.cells] at h0 h1 h2 h3 h4
      obtain ⟨x0, e0, rfl, w0⟩ := DataW.trod_string Try.underlying9 h0
      obtain ⟨x1, e1, rfl, w1⟩ := DataW.trod_string Try.underlying9 h1
      obtain ⟨x2, e2, rfl, w2⟩ := DataW.trod_string Try.underlying9 h2
      obtain ⟨x3, e3, rfl, w3⟩ := DataW.trod_string Try.underlying9 h3
      obtain ⟨x4, e4, rfl, w4⟩ := DataW.trod_string Try.underlying9 h4
      simp at e0 e1 e2 e3 e4
      subst e0 e1 e2 e3 e4
      have hd' := congrArg Prod.fst hd
      simp only at hd'
      subst hd'
      simp only [DataW.weights, hu, List.map_cons, List.map_nil, DataW.weightsAll, List.mem_append, List.mem_cons, List.not_mem_nil, or_false] at hw
      have q0 := hw _ (.inl rfl)
      have q1 := hw _ (.inr (.inl rfl))
      have q2 := hw _ (.inr (.inr (.inl rfl)))
      have q3 := hw _ (.inr (.inr (.inr (.inl rfl))))
      have q4 := hw _ (.inr (.inr (.inr (.inr rfl))))
      rw [← Lib.size_eq] at q0 q1 q2 q3 q4
      exact ⟨x0, x1, x2, x3, x4, rfl, q0, q1, q2, q3, q4⟩
end Go.Proofs.Ytfomhbaebgcleaa
