/- A script of a network that came in, opened. -/
import Derived.Test.YtmmjgpdclodlfaaNP1
import Derived.Deep.Strs
import Derived.Deep.Slices
import Derived.ChangeSlices
import Derived.ChangeArms
import Derived.SizedLaws
namespace Go.Proofs.Ytmmjgpdclodlfaa
open Go.RowKit Go.ChangeShapes Go.WideShapes

theorem bytes_opened {H : Type} {enc : TypeId × Value → H} {W : World} {fuel : Nat} {v : Value} {x : DataW H × List MemPlace}
    (h : DataW.trod enc Try.prog W 0 (fun _ => true) true fuel 30 [v] = some x) (hw : ∀ k ∈ x.1.weights Try.prog 30, k ≤ 140737488351232) :
    ∃ ba bc xs, v = .slice ba xs.length bc ∧ PkIn W ba bc xs ∧ xs.length ≤ 140737488351232 := by
  rcases open_ints Try.underlying30 Try.underlying5 (by kernel_rfl) h with ⟨hcs, _⟩ | ⟨ad, l, c, zs, hcs, _, hl, hm, hz, hx, hcell, hwz⟩
  · simp at hcs
    subst hcs
    exact ⟨none, 0, [], rfl, ⟨IsB.empty _ _, fun _ => ⟨rfl, rfl⟩, Nat.le_refl _, by simp [maxLen], by simp⟩, by simp⟩
  · simp at hcs
    subst hcs
    simp only [if_true] at hz
    have hd := congrArg Prod.fst hx
    simp only at hd
    have h1 := hw (zs.length * 1) (by
      rw [hd]
      simp only [DataW.weights, Try.underlying30, List.mem_cons]
      left
      rw [show Try.prog.bytesOf 5 = 1 by kernel_rfl]
      simp [lits]
      omega)
    have hr : IsRow .u8 W (some ad) l c zs := .inr ⟨_, rfl, hl, hm, by simpa using hz, hcell, hwz⟩
    obtain ⟨hb, _⟩ := hr.isB
    have hll : (zs.take l).length = l := by rw [List.length_take]; omega
    refine ⟨some ad, c, zs.take l, by rw [hll], ⟨by rw [hll]; exact hb, (by rintro ⟨⟩), by omega, hm, by omega⟩, by omega⟩
theorem opsIn_opened {H : Type} {enc : TypeId × Value → H} {W : World} {fuel : Nat} {a : Option Addr} {len cap : Nat} {x : DataW H × List MemPlace}
    (h : DataW.trod enc Try.prog W 0 (fun _ => true) true fuel 22 (Value.slice a len cap).cells.toList = some x) (hw : ∀ k ∈ x.1.weights Try.prog 22, k ≤ 140737488351232) : OpsIn W a len ∧ len ≤ 140737488355328 := by
  have h' : DataW.trod enc Try.prog W 0 (fun _ => true) true fuel 22 [Value.slice a len cap] = some x := by simpa [Value.cells] using h
  rcases Go.Deep.open_slice Try.underlying22 h' with ⟨hcs, hx⟩ | ⟨ad, l, c, m, n, Dd, Pl, hcs, _, hl, hm, hmm, hx, hall⟩
  · simp at hcs
    obtain ⟨rfl, rfl, rfl⟩ := hcs
    exact ⟨.inl rfl, by omega⟩
  · simp at hcs
    obtain ⟨rfl, rfl, rfl⟩ := hcs
    have hcell : Try.prog.cellsOf 34 = 6 := by kernel_rfl
    rw [hcell] at hall
    simp only [if_true] at hmm
    have hlen : m * 64 ≤ 140737488351232 := by
      refine hw (m * 64) ?_
      rw [hx]
      simp only [DataW.weights, Try.underlying22, List.mem_cons]
      left
      rw [show Try.prog.bytesOf 34 = 64 by kernel_rfl]
      simp
      omega
    refine ⟨?_, by omega⟩
    rcases Nat.eq_zero_or_pos len with h0 | h0
    · exact .inl h0
    · obtain ⟨b, off, spot⟩ := ad
      have hs : spot = none := by
        obtain ⟨cs', hc, _⟩ := hall 0 (by omega)
        obtain ⟨_, hcl, hat⟩ := World.cells?_some hc
        have h1 := hat 0 (by omega)
        rw [List.getElem?_eq_getElem (by omega)] at h1
        simpa [Addr.add] using World.cell?_spot h1
      subst hs
      have hbl : b < W.heap.size := by
        obtain ⟨cs', hc, _⟩ := hall 0 (by omega)
        obtain ⟨_, hcl, hat⟩ := World.cells?_some hc
        have h1 := hat 0 (by omega)
        rw [List.getElem?_eq_getElem (by omega)] at h1
        have := World.block_lt_of_cell? W _ h1
        simpa [Addr.add] using this
      refine .inr ⟨b, off, rfl, hbl, fun i hi => ?_⟩
      obtain ⟨cs', hc, ht⟩ := hall i (by omega)
      obtain ⟨_, hcl, hat⟩ := World.cells?_some hc
      match cs', hcl with
      | [v0, v1, v2, v3, v4, v5], _ =>
        have e0 := hat 0 (by omega)
        have e1 := hat 1 (by omega)
        have e2 := hat 2 (by omega)
        have e3 := hat 3 (by omega)
        have e4 := hat 4 (by omega)
        have e5 := hat 5 (by omega)
        simp only [add_plain, Nat.add_zero, List.getElem?_cons_zero, List.getElem?_cons_succ] at e0 e1 e2 e3 e4 e5
        obtain ⟨xs, n', _, hd, _, hlen, hf⟩ := DataW.trod_struct Try.underlying34 ht
        match xs, hlen with
        | [y0, y1, y2, y3], _ =>
          have t0 := hf 0 _ rfl
          have t1 := hf 1 _ rfl
          have t2 := hf 2 _ rfl
          have t3 := hf 3 _ rfl
          have k1 : Try.prog.cellsOf 3 = 1 := by kernel_rfl
          have k3 : Try.prog.cellsOf 32 = 3 := by kernel_rfl
          simp [k1, k3] at t0 t1 t2 t3
          obtain ⟨q0, h0, _, w0⟩ := DataW.trod_int Try.underlying3 t0
          obtain ⟨q1, h1, _, w1⟩ := DataW.trod_int Try.underlying3 t1
          obtain ⟨q2, h2, _, w2⟩ := DataW.trod_int Try.underlying3 t2
          obtain ⟨z0, z1, z2, n2, hd2, _, s0, s1, s2⟩ := Go.Deep.trod_struct3 Try.underlying32 t3
          have k4 : Try.prog.cellsOf 30 = 1 := by kernel_rfl
          simp [k1, k4] at s0 s1 s2
          obtain ⟨q3, h3, _, w3⟩ := DataW.trod_int Try.underlying3 s0
          obtain ⟨q4, h4, _, w4⟩ := DataW.trod_int Try.underlying3 s1
          simp at h0 h1 h2 h3 h4
          subst h0 h1 h2 h3 h4
          obtain ⟨ba, bc, zs, rfl, hp, hz⟩ := bytes_opened s2 (fun k hk => hw k (by
            rw [hx]
            have hy : Dd i ∈ List.map Dd (List.range len) := List.mem_map.2 ⟨i, List.mem_range.2 hi, rfl⟩
            refine weights_slice Try.underlying22 (.inl hy) ?_
            rw [show Dd i = _ from congrArg Prod.fst hd]
            simp only [DataW.weights, Try.underlying34]
            refine DataW.weights_mem_each (j := 3) rfl rfl k ?_
            show k ∈ DataW.weights Try.prog 32 y3.1
            rw [show y3.1 = _ from congrArg Prod.fst hd2]
            simp only [DataW.weights, Try.underlying32]
            exact DataW.weights_mem_each (j := 2) rfl rfl k hk))
          exact ⟨q0, q1, q2, q3, q4, ba, bc, zs, ⟨e0, e1, e2, e3, e4, e5, hp, hz, (wf_i64 w2).2⟩⟩
theorem nplays_walk (r : Int) (a : Option Addr) (n c : Nat) (w : World) (ho : OpsIn w a n) (hn : n ≤ 140737488355328) :
    Calls Try.prog 3 #[.int .i64 r, .slice a n c] w fun e w' => e = .returned (.bool true) ∧ Below w.heap.size w w' := by
  by_cases h : r < 1 ∨ 8 < r
  · exact nplays_bad r a n c w h
  · exact nplays_good r a n c w (by omega) (by omega) ho hn
end Go.Proofs.Ytmmjgpdclodlfaa
