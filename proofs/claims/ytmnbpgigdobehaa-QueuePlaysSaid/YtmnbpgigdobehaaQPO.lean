/- A script of two queues that came in, opened. -/
import Derived.Test.YtmnbpgigdobehaaQPL
import Derived.Deep.Strs
import Derived.Deep.Slices
import Derived.ChangeSlices
import Derived.ChangeArms
import Derived.SizedLaws
namespace Go.Proofs.Ytmnbpgigdobehaa
open Go.RowKit Go.ChangeShapes Go.WideShapes

theorem qstrs_opened {H : Type} {enc : TypeId × Value → H} {W : World} {fuel : Nat} {v : Value} {x : DataW H × List MemPlace}
    (h : DataW.trod enc Try.prog W 0 (fun _ => true) true fuel 27 [v] = some x) (hw : ∀ k ∈ x.1.weights Try.prog 27, k ≤ 140737488351232) :
    ∃ la ln lc ls, v = .slice la ln lc ∧ Strs W W.heap.size la ln ls ∧ ln ≤ 140737488351232 := by
  rcases Go.Deep.open_strs Try.underlying27 Try.underlying9 (by kernel_rfl) h with ⟨hcs, _⟩ | ⟨ad, len, cap, m, Sx, hcs, _, hl, hm, hmm, hx, hcell⟩
  · simp at hcs
    subst hcs
    exact ⟨none, 0, 0, [], rfl, Strs.nil _ _ _, by omega⟩
  · simp at hcs
    subst hcs
    simp only [if_true] at hmm
    have hlen : m * 16 ≤ 140737488351232 := by
      refine hw (m * 16) ?_
      rw [hx]
      simp only [DataW.weights, Try.underlying27, List.mem_cons]
      left
      rw [show Try.prog.bytesOf 9 = 16 by kernel_rfl]
      simp
      omega
    refine ⟨some ad, len, cap, (List.range len).map Sx, rfl, ⟨by simp, ?_⟩, by omega⟩
    rcases Nat.eq_zero_or_pos len with h0 | h0
    · exact .inl h0
    · obtain ⟨b, off, spot⟩ := ad
      have hs : spot = none := by simpa [Addr.add] using World.cell?_spot (hcell 0 (by omega)).1
      subst hs
      have hb := World.block_lt_of_cell? W _ (hcell 0 (by omega)).1
      rw [add_plain] at hb
      refine .inr ⟨b, off, rfl, hb, .inl hb, fun i z hi => ?_⟩
      have hil : i < len := by have := (List.getElem?_eq_some_iff.1 hi).1; simpa using this
      rw [List.getElem?_map, List.getElem?_range hil] at hi
      simp only [Option.map_some, Option.some.injEq] at hi
      subst hi
      have := (hcell i (by omega)).1
      rwa [add_plain] at this
theorem qops_opened {H : Type} {enc : TypeId × Value → H} {W : World} {fuel : Nat} {a : Option Addr} {len cap : Nat} {x : DataW H × List MemPlace}
    (h : DataW.trod enc Try.prog W 0 (fun _ => true) true fuel 23 (Value.slice a len cap).cells.toList = some x) (hw : ∀ k ∈ x.1.weights Try.prog 23, k ≤ 140737488351232) : OpsIn W a len ∧ len ≤ 9223372036854775806 := by
  have h' : DataW.trod enc Try.prog W 0 (fun _ => true) true fuel 23 [Value.slice a len cap] = some x := by simpa [Value.cells] using h
  rcases Go.Deep.open_slice Try.underlying23 h' with ⟨hcs, hx⟩ | ⟨ad, l, c, m, n, Dd, Pl, hcs, _, hl, hm, hmm, hx, hall⟩
  · simp at hcs
    obtain ⟨rfl, rfl, rfl⟩ := hcs
    exact ⟨.inl rfl, by omega⟩
  · simp at hcs
    obtain ⟨rfl, rfl, rfl⟩ := hcs
    have hcell : Try.prog.cellsOf 36 = 3 := by kernel_rfl
    rw [hcell] at hall
    simp only [if_true] at hmm
    have hlen : m * 40 ≤ 140737488351232 := by
      refine hw (m * 40) ?_
      rw [hx]
      simp only [DataW.weights, Try.underlying23, List.mem_cons]
      left
      rw [show Try.prog.bytesOf 36 = 40 by kernel_rfl]
      simp
      omega
    refine ⟨?_, by omega⟩
    rcases Nat.eq_zero_or_pos len with h0 | h0
    · exact .inl h0
    · obtain ⟨b, off, spot⟩ := ad
      have hs : spot = none := by
        obtain ⟨cs', hc, _⟩ := hall 0 (by omega)
        obtain ⟨_, hcl, hat⟩ := World.cells?_some hc
        have h1 := hat 0 (by omega)
        rw [List.getElem?_eq_getElem (by omega)] at h1
        simpa [Addr.add] using World.cell?_spot h1
      subst hs
      have hbl : b < W.heap.size := by
        obtain ⟨cs', hc, _⟩ := hall 0 (by omega)
        obtain ⟨_, hcl, hat⟩ := World.cells?_some hc
        have h1 := hat 0 (by omega)
        rw [List.getElem?_eq_getElem (by omega)] at h1
        have := World.block_lt_of_cell? W _ h1
        simpa [Addr.add] using this
      refine .inr ⟨b, off, rfl, hbl, fun i hi => ?_⟩
      obtain ⟨cs', hc, ht⟩ := hall i (by omega)
      obtain ⟨_, hcl, hat⟩ := World.cells?_some hc
      match cs', hcl with
      | [v0, v1, v2], _ =>
        have e0 := hat 0 (by omega)
        have e1 := hat 1 (by omega)
        have e2 := hat 2 (by omega)
        simp only [add_plain, Nat.add_zero, List.getElem?_cons_zero, List.getElem?_cons_succ] at e0 e1 e2
        obtain ⟨xs, n', _, hd, _, hlen, hf⟩ := DataW.trod_struct Try.underlying36 ht
        match xs, hlen with
        | [y0, y1, y2], _ =>
          have t0 := hf 0 _ rfl
          have t1 := hf 1 _ rfl
          have t2 := hf 2 _ rfl
          have k1 : Try.prog.cellsOf 3 = 1 := by kernel_rfl
          have k2 : Try.prog.cellsOf 4 = 1 := by kernel_rfl
          have k3 : Try.prog.cellsOf 27 = 1 := by kernel_rfl
          simp [k1, k2, k3] at t0 t1 t2
          obtain ⟨q0, h0, _, w0⟩ := DataW.trod_int Try.underlying3 t0
          obtain ⟨q1, h1, _⟩ := DataW.trod_bool Try.underlying4 t1
          simp at h0 h1
          subst h0 h1
          obtain ⟨la, ln, lc, ls, rfl, hp, hz⟩ := qstrs_opened t2 (fun k hk => hw k (by
            rw [hx]
            have hy : Dd i ∈ List.map Dd (List.range len) := List.mem_map.2 ⟨i, List.mem_range.2 hi, rfl⟩
            refine weights_slice Try.underlying23 (.inl hy) ?_
            rw [show Dd i = _ from congrArg Prod.fst hd]
            simp only [DataW.weights, Try.underlying36]
            exact DataW.weights_mem_each (j := 2) rfl rfl k hk))
          exact ⟨q0, q1, la, ln, lc, ls, e0, e1, e2, hp, hz⟩
theorem pair2_opened {H : Type} {enc : TypeId × Value → H} {W : World} {r : Reach} {b0 base : Nat} {spare : Nat → Bool} {held : Bool} {v : Value} {d : DataW H} {p : List MemPlace}
    (hv : Value.okWide Try.prog W r b0 22 v) (h : DataW.Trod enc Try.prog W base spare held 22 v d p) :
    ∃ x y : Int, v = .agg #[.int .i64 x, .int .i64 y] := by
  have hu := Try.underlying22
  simp only [Value.okWide, hu] at hv
  obtain ⟨cs, rfl, hsz, _⟩ := hv
  obtain ⟨fuel, hf⟩ := h
  obtain ⟨xs, m, rfl, hd, hl, hxl, hx⟩ := DataW.trod_array hu hf
  have k2 : Try.prog.cellsOf 22 = 2 := by kernel_rfl
  have k1 : Try.prog.cellsOf 3 = 1 := by kernel_rfl
  rw [k2] at hsz
  obtain ⟨l⟩ := cs
  match l, hsz with
  | [c0, c1], _ =>
    match xs, hxl with
    | [y0, y1], _ =>
      have h0 := hx 0 (by omega)
      have h1 := hx 1 (by omega)
      simp [k1, Value.cells] at h0 h1
      obtain ⟨x0, e0, _⟩ := DataW.trod_int Try.underlying3 h0
      obtain ⟨x1, e1, _⟩ := DataW.trod_int Try.underlying3 h1
      simp at e0 e1
      subst e0 e1
      exact ⟨_, _, rfl⟩
end Go.Proofs.Ytmnbpgigdobehaa
