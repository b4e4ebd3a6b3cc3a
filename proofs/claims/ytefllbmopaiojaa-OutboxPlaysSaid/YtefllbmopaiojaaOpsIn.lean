/- A script that came in, opened. -/
import Derived.Test.YtefllbmopaiojaaOA
import Derived.Deep.Strs
import Derived.Deep.Slices
import Derived.ChangeSlices
import Derived.ChangeArms
import Derived.SizedLaws
namespace Go.Proofs.Ytefllbmopaiojaa
open Go.RowKit Go.ChangeShapes Go.WideShapes

/-- Calls that came in. -/
def OpsIn (w : World) (a : Option Addr) (n : Nat) : Prop :=
  n = 0 ∨ ∃ b off, a = some ⟨b, off, none⟩ ∧ b < w.heap.size ∧ ∀ i, i < n → ∃ (K V : Int) (S : ByteArray), w.cell? ⟨b, off + i * 3, none⟩ = some (.int .i64 K) ∧ w.cell? ⟨b, off + i * 3 + 1, none⟩ = some (.int .i64 V) ∧ w.cell? ⟨b, off + i * 3 + 2, none⟩ = some (.string S) ∧ S.size ≤ 9223372036854775807
theorem opsIn_opened {H : Type} {enc : TypeId × Value → H} {W : World} {fuel : Nat} {a : Option Addr} {len cap : Nat} {x : DataW H × List MemPlace}
    (h : DataW.trod enc Try.prog W 0 (fun _ => true) true fuel 22 (Value.slice a len cap).cells.toList = some x) (hw : ∀ k ∈ x.1.weights Try.prog 22, k ≤ 140737488351232) : OpsIn W a len ∧ len ≤ 140737488355328 := by
  have h' : DataW.trod enc Try.prog W 0 (fun _ => true) true fuel 22 [Value.slice a len cap] = some x := by simpa [Value.cells] using h
  rcases Go.Deep.open_slice Try.underlying22 h' with ⟨hcs, hx⟩ | ⟨ad, l, c, m, n, Dd, Pl, hcs, _, hl, hm, hmm, hx, hall⟩
  · simp at hcs
    obtain ⟨rfl, rfl, rfl⟩ := hcs
    exact ⟨.inl rfl, by omega⟩
  · simp at hcs
    obtain ⟨rfl, rfl, rfl⟩ := hcs
    have hcell : Try.prog.cellsOf 33 = 3 := by kernel_rfl
    rw [hcell] at hall
    simp only [if_true] at hmm
    have hlen : m * 32 ≤ 140737488351232 := by
      refine hw (m * 32) ?_
      rw [hx]
      simp only [DataW.weights, Try.underlying22, List.mem_cons]
      left
      rw [show Try.prog.bytesOf 33 = 32 by kernel_rfl]
      simp
      omega
    refine ⟨?_, by omega⟩
    rcases Nat.eq_zero_or_pos len with h0 | h0
    · exact .inl h0
    · obtain ⟨b, off, spot⟩ := ad
      have hs : spot = none := by
        obtain ⟨cs', hc, _⟩ := hall 0 (by omega)
        obtain ⟨_, hcl, hat⟩ := World.cells?_some hc
        have h1 := hat 0 (by omega)
        rw [List.getElem?_eq_getElem (by omega)] at h1
        simpa [Addr.add] using World.cell?_spot h1
      subst hs
      have hbl : b < W.heap.size := by
        obtain ⟨cs', hc, _⟩ := hall 0 (by omega)
        obtain ⟨_, hcl, hat⟩ := World.cells?_some hc
        have h1 := hat 0 (by omega)
        rw [List.getElem?_eq_getElem (by omega)] at h1
        have := World.block_lt_of_cell? W _ h1
        simpa [Addr.add] using this
      refine .inr ⟨b, off, rfl, hbl, fun i hi => ?_⟩
      obtain ⟨cs', hc, ht⟩ := hall i (by omega)
      obtain ⟨_, hcl, hat⟩ := World.cells?_some hc
      match cs', hcl with
      | [v0, v1, v2], _ =>
        have e0 := hat 0 (by omega)
        have e1 := hat 1 (by omega)
        have e2 := hat 2 (by omega)
        simp only [add_plain, Nat.add_zero, List.getElem?_cons_zero, List.getElem?_cons_succ] at e0 e1 e2
        obtain ⟨y0, y1, y2, n', hd, _, t0, t1, t2⟩ := Go.Deep.trod_struct3 Try.underlying33 ht
        have k1 : Try.prog.cellsOf 3 = 1 := by kernel_rfl
        have k2 : Try.prog.cellsOf 9 = 1 := by kernel_rfl
        simp [k1, k2] at t0 t1 t2
        obtain ⟨q, hq, _, wq⟩ := DataW.trod_int Try.underlying3 t0
        obtain ⟨kk, hk, _, wk⟩ := DataW.trod_int Try.underlying3 t1
        obtain ⟨ss, hs, _, ws⟩ := DataW.trod_string Try.underlying9 t2
        simp at hq hk hs
        subst hq hk hs
        exact ⟨q, kk, ss, e0, e1, e2, by unfold maxLen at ws; omega⟩
end Go.Proofs.Ytefllbmopaiojaa
