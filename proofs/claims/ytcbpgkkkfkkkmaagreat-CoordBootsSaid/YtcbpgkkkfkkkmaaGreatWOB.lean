/- A row of truths, and a pair, that came in, opened. -/
import Derived.Test.YtcbpgkkkfkkkmaaGreatW22
import Derived.Deep.Strs
import Derived.Deep.Slices
import Derived.ChangeSlices
import Derived.ChangeArms
import Derived.SizedLaws
namespace Go.Proofs.YtcbpgkkkfkkkmaaGreat
open Go.RowKit Go.ChangeShapes Go.WideShapes

theorem bools_opened {H : Type} {enc : TypeId × Value → H} {W : World} {fuel : Nat} {a : Option Addr} {len cap : Nat} {x : DataW H × List MemPlace}
    (h : DataW.trod enc Tryz.prog W 0 (fun _ => true) true fuel 60 (Value.slice a len cap).cells.toList = some x) (hw : ∀ k ∈ x.1.weights Tryz.prog 60, k ≤ 140737488351232) :
    (∃ l, Bools W a len l) ∧ len ≤ 140737488351232 := by
  have h' : DataW.trod enc Tryz.prog W 0 (fun _ => true) true fuel 60 [Value.slice a len cap] = some x := by simpa [Value.cells] using h
  rcases Go.Deep.open_slice1 Tryz.underlying60 (by kernel_rfl) h' with ⟨hcs, _⟩ | ⟨ad, l, c, m, n, V, D, Pl, hcs, _, hl, hm, hmm, hx, hall⟩
  · simp at hcs
    obtain ⟨rfl, rfl, rfl⟩ := hcs
    exact ⟨⟨[], rfl, .inl rfl⟩, by omega⟩
  · simp at hcs
    obtain ⟨rfl, rfl, rfl⟩ := hcs
    simp only [if_true] at hmm
    have hlen : (len + (m - len)) * 1 ≤ 140737488351232 := by
      refine hw _ ?_
      rw [hx]
      simp only [DataW.weights, Tryz.underlying60, List.mem_cons]
      left
      rw [show Tryz.prog.bytesOf 4 = 1 by kernel_rfl]
      simp
    refine ⟨?_, by omega⟩
    have key : ∀ i, i < len → ∃ t : Bool, W.cell? (ad.add i) = some (.bool t) := by
      intro i hi
      obtain ⟨hc, ht⟩ := hall i (by omega)
      obtain ⟨t, q0, _⟩ := DataW.trod_bool Tryz.underlying4 ht
      simp at q0
      exact ⟨t, by rw [hc, q0]⟩
    refine ⟨(List.range len).map fun i => if h : i < len then (key i h).choose else false, by simp, ?_⟩
    rcases Nat.eq_zero_or_pos len with h0 | h0
    · exact .inl h0
    · obtain ⟨b, off, spot⟩ := ad
      obtain ⟨t0, hc0⟩ := key 0 h0
      have hs : spot = none := by simpa [Addr.add] using World.cell?_spot hc0
      subst hs
      have hb := World.block_lt_of_cell? W _ hc0
      rw [add_plain] at hb
      refine .inr ⟨b, off, rfl, hb, fun i t ht => ?_⟩
      have hi : i < len := by
        have := (List.getElem?_eq_some_iff.1 ht).1
        simpa using this
      rw [List.getElem?_map, List.getElem?_range hi] at ht
      simp only [Option.map_some, Option.some.injEq, dif_pos hi] at ht
      subst ht
      have h1 := (key i hi).choose_spec
      generalize (key i hi).choose = tt at h1 ⊢
      rwa [add_plain] at h1
set_option maxRecDepth 100000 in
theorem pair2_opened {H : Type} {enc : TypeId × Value → H} {W : World} {r : Reach} {b0 base : Nat} {spare : Nat → Bool} {held : Bool} {v : Value} {d : DataW H} {p : List MemPlace}
    (hv : Value.okWide Tryz.prog W r b0 59 v) (h : DataW.Trod enc Tryz.prog W base spare held 59 v d p) :
    ∃ x y : Int, v = .agg #[.int .i64 x, .int .i64 y] := by
  have hu := Tryz.underlying59
  simp only [Value.okWide, hu] at hv
  obtain ⟨cs, rfl, hsz, _⟩ := hv
  obtain ⟨fuel, hf⟩ := h
  obtain ⟨xs, m, rfl, hd, hl, hxl, hx⟩ := DataW.trod_array hu hf
  have k2 : Tryz.prog.cellsOf 59 = 2 := by kernel_rfl
  have k1 : Tryz.prog.cellsOf 3 = 1 := by kernel_rfl
  rw [k2] at hsz
  obtain ⟨l⟩ := cs
  match l, hsz with
  | [c0, c1], _ =>
    match xs, hxl with
    | [y0, y1], _ =>
      have h0 := hx 0 (by omega)
      have h1 := hx 1 (by omega)
      simp [k1, Value.cells] at h0 h1
      obtain ⟨x0, e0, _⟩ := DataW.trod_int Tryz.underlying3 h0
      obtain ⟨x1, e1, _⟩ := DataW.trod_int Tryz.underlying3 h1
      simp at e0 e1
      subst e0 e1
      exact ⟨_, _, rfl⟩
end Go.Proofs.YtcbpgkkkfkkkmaaGreat
