/- Numbers, and two sizes, that came in, opened. -/
import Derived.Test.YtaniffofjkklfaaQ6
import Derived.Deep.Strs
import Derived.Deep.Slices
import Derived.ChangeSlices
import Derived.ChangeArms
import Derived.SizedLaws
namespace Go.Proofs.Ytaniffofjkklfaa
open Go.RowKit Go.ChangeShapes Go.WideShapes

theorem ints_opened {H : Type} {enc : TypeId × Value → H} {W : World} {fuel : Nat} {a : Option Addr} {len cap : Nat} {x : DataW H × List MemPlace}
    (h : DataW.trod enc Try.prog W 0 (fun _ => true) true fuel 51 (Value.slice a len cap).cells.toList = some x) (hw : ∀ k ∈ x.1.weights Try.prog 51, k ≤ 140737488351232) :
    (∃ l, Ints W a len l) ∧ len ≤ 9223372036854775806 := by
  have h' : DataW.trod enc Try.prog W 0 (fun _ => true) true fuel 51 [Value.slice a len cap] = some x := by simpa [Value.cells] using h
  rcases open_ints Try.underlying51 Try.underlying3 (by kernel_rfl) h' with ⟨hcs, _⟩ | ⟨ad, l, c, zs, hcs, _, hl, hm, hz, hx, hcell, hwz⟩
  · simp at hcs
    obtain ⟨rfl, rfl, rfl⟩ := hcs
    exact ⟨⟨[], rfl, .inl rfl⟩, by omega⟩
  · simp at hcs
    obtain ⟨rfl, rfl, rfl⟩ := hcs
    simp only [if_true] at hz
    have hlen : zs.length * 8 ≤ 140737488351232 := by
      have := hw (zs.length * 8) (by
        rw [hx]
        simp only [DataW.weights, Try.underlying51, List.mem_cons]
        left
        rw [show Try.prog.bytesOf 3 = 8 by kernel_rfl]
        simp [lits]
        omega)
      exact this
    refine ⟨⟨zs.take len, by simp; omega, ?_⟩, by omega⟩
    rcases Nat.eq_zero_or_pos len with h0 | h0
    · exact .inl h0
    · obtain ⟨b, off, spot⟩ := ad
      have hs : spot = none := by simpa [Addr.add] using World.cell?_spot (hcell 0 (by omega))
      subst hs
      have hb := World.block_lt_of_cell? W _ (hcell 0 (by omega))
      rw [add_plain] at hb
      refine .inr ⟨b, off, rfl, hb, fun i z hi => ?_⟩
      have hil : i < len := by have := (List.getElem?_eq_some_iff.1 hi).1; simp at this; omega
      rw [List.getElem?_take, if_pos hil] at hi
      have := hcell i (by omega)
      rw [add_plain] at this
      have e : zs.getD i 0 = z := by rw [List.getD_eq_getElem?_getD, hi]; rfl
      rwa [e] at this
theorem pair_opened {H : Type} {enc : TypeId × Value → H} {W : World} {r : Reach} {b0 base : Nat} {spare : Nat → Bool} {held : Bool} {v : Value} {d : DataW H} {p : List MemPlace}
    (hv : Value.okWide Try.prog W r b0 22 v) (h : DataW.Trod enc Try.prog W base spare held 22 v d p) :
    ∃ x y : Int, v = .agg #[.int .i64 x, .int .i64 y] := by
  have hu := Try.underlying22
  simp only [Value.okWide, hu] at hv
  obtain ⟨cs, rfl, hsz, _⟩ := hv
  obtain ⟨fuel, hf⟩ := h
  obtain ⟨xs, m, rfl, hd, hl, hxl, hx⟩ := DataW.trod_array hu hf
  have k2 : Try.prog.cellsOf 22 = 2 := by kernel_rfl
  have k1 : Try.prog.cellsOf 3 = 1 := by kernel_rfl
  rw [k2] at hsz
  obtain ⟨l⟩ := cs
  match l, hsz with
  | [c0, c1], _ =>
    match xs, hxl with
    | [y0, y1], _ =>
      have h0 := hx 0 (by omega)
      have h1 := hx 1 (by omega)
      simp [k1, Value.cells] at h0 h1
      obtain ⟨x0, e0, _⟩ := DataW.trod_int Try.underlying3 h0
      obtain ⟨x1, e1, _⟩ := DataW.trod_int Try.underlying3 h1
      simp at e0 e1
      subst e0 e1
      exact ⟨_, _, rfl⟩
theorem pours_walk (a : Option Addr) (n k : Nat) (l : List Int) (s0 s1 : Int) (w : World) (hl : Ints w a n l) (hn : n ≤ 9223372036854775806) :
    Calls Try.prog 4 #[.slice a n k, .agg #[.int .i64 s0, .int .i64 s1]] w fun e w' => e = .returned (.bool true) ∧ Below w.heap.size w w' := by
  by_cases h : (s0 < 1 ∨ 4096 < s0) ∨ (s1 < 1 ∨ 4096 < s1)
  · exact pours_bad a n k s0 s1 w h
  · obtain ⟨m0, rfl⟩ : ∃ m : Nat, s0 = (m : Int) := ⟨s0.toNat, by omega⟩
    obtain ⟨m1, rfl⟩ : ∃ m : Nat, s1 = (m : Int) := ⟨s1.toNat, by omega⟩
    exact pours_good a n k l m0 m1 w hl hn (by omega) (by omega) (by omega) (by omega)
end Go.Proofs.Ytaniffofjkklfaa
