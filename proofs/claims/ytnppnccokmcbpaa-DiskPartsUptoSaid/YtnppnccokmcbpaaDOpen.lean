/- A script that came in, opened. -/
import Derived.Test.YtnppnccokmcbpaaDRef
import Derived.Deep.Strs
import Derived.Deep.Slices
import Derived.ChangeSlices
import Derived.ChangeArms
import Derived.SizedLaws
namespace Go.Proofs.Ytnppnccokmcbpaa
open Go.RowKit Go.ChangeShapes Go.WideShapes

theorem weights_in {H : Type} {P : Program} {e : TypeId} {d : DataW H} {l : List (DataW H)} (h : d ∈ l) {k : Nat} (hk : k ∈ d.weights P e) : k ∈ DataW.weightsAll P e l := by
  induction l with
  | nil => cases h
  | cons x r ih =>
    simp only [DataW.weightsAll, List.mem_append]
    rcases List.mem_cons.1 h with rfl | h
    · exact .inl hk
    · exact .inr (ih h)
theorem weights_slice {H : Type} {P : Program} {t e : TypeId} {l s : List (DataW H)} (ht : P.underlying t = some (.slice e)) {d : DataW H} (h : d ∈ l ∨ d ∈ s) {k : Nat} (hk : k ∈ d.weights P e) : k ∈ (DataW.slice l s).weights P t := by
  simp only [DataW.weights, ht, List.mem_cons, List.mem_append]
  rcases h with h | h
  · exact .inr (.inl (weights_in h hk))
  · exact .inr (.inr (weights_in h hk))
theorem add_plain (b off i : Nat) : ((⟨b, off, none⟩ : Addr).add i) = ⟨b, off + i, none⟩ := by
  unfold Addr.add
  split <;> simp_all

/-- The script's calls: the kind, the bytes, the number of each. -/
def OpsIn (w : World) (a : Option Addr) (n : Nat) : Prop :=
  n = 0 ∨ ∃ b off, a = some ⟨b, off, none⟩ ∧ ∀ i, i < n → ∃ (q k : Int) (ua : Option Addr) (m uc : Nat) (ys : List Int),
    w.cell? ⟨b, off + i * 3, none⟩ = some (.int .i64 q) ∧ w.cell? ⟨b, off + i * 3 + 1, none⟩ = some (.slice ua m uc) ∧ w.cell? ⟨b, off + i * 3 + 2, none⟩ = some (.int .i64 k) ∧
    (-9223372036854775808 ≤ q ∧ q ≤ 9223372036854775807) ∧ (-9223372036854775808 ≤ k ∧ k ≤ 9223372036854775807) ∧ IsB w ua m ys ∧ (ua = none → m = 0 ∧ uc = 0) ∧ m ≤ 140737488351232

theorem opsIn_opened {H : Type} {enc : TypeId × Value → H} {W : World} {fuel : Nat} {a : Option Addr} {len cap : Nat} {x : DataW H × List MemPlace}
    (h : DataW.trod enc Try.prog W 0 (fun _ => true) true fuel 22 (Value.slice a len cap).cells.toList = some x) (hw : ∀ k ∈ x.1.weights Try.prog 22, k ≤ 140737488351232) : OpsIn W a len ∧ len ≤ maxLen := by
  have h' : DataW.trod enc Try.prog W 0 (fun _ => true) true fuel 22 [Value.slice a len cap] = some x := by simpa [Value.cells] using h
  rcases Go.Deep.open_slice Try.underlying22 h' with ⟨hcs, hx⟩ | ⟨ad, l, c, m, n, Dd, Pl, hcs, _, hl, hm, hmm, hx, hall⟩
  · simp at hcs
    obtain ⟨rfl, rfl, rfl⟩ := hcs
    exact ⟨.inl rfl, by simp [maxLen]⟩
  · simp at hcs
    obtain ⟨rfl, rfl, rfl⟩ := hcs
    have hcell : Try.prog.cellsOf 33 = 3 := by kernel_rfl
    rw [hcell] at hall
    refine ⟨?_, by omega⟩
    rcases Nat.eq_zero_or_pos len with h0 | h0
    · exact .inl h0
    · simp only [if_true] at hmm
      obtain ⟨b, off, spot⟩ := ad
      have hs : spot = none := by
        obtain ⟨cs', hc, _⟩ := hall 0 (by omega)
        obtain ⟨_, hcl, hat⟩ := World.cells?_some hc
        have h1 := hat 0 (by omega)
        rw [List.getElem?_eq_getElem (by omega)] at h1
        simpa [Addr.add] using World.cell?_spot h1
      subst hs
      refine .inr ⟨b, off, rfl, fun i hi => ?_⟩
      obtain ⟨cs', hc, ht⟩ := hall i (by omega)
      obtain ⟨_, hcl, hat⟩ := World.cells?_some hc
      match cs', hcl with
      | [v0, v1, v2], _ =>
        have e0 := hat 0 (by omega)
        have e1 := hat 1 (by omega)
        have e2 := hat 2 (by omega)
        simp only [add_plain, Nat.add_zero, List.getElem?_cons_zero, List.getElem?_cons_succ] at e0 e1 e2
        obtain ⟨y0, y1, y2, n', hd, _, t0, t1, t2⟩ := Go.Deep.trod_struct3 Try.underlying33 ht
        have k1 : Try.prog.cellsOf 3 = 1 := by kernel_rfl
        have k2 : Try.prog.cellsOf 31 = 1 := by kernel_rfl
        simp [k1, k2] at t0 t1 t2
        obtain ⟨q, hq, _, wq⟩ := DataW.trod_int Try.underlying3 t0
        obtain ⟨kk, hk, _, wk⟩ := DataW.trod_int Try.underlying3 t2
        simp at hq hk
        subst hq hk
        have hwd : ∀ k ∈ y1.1.weights Try.prog 31, k ≤ 140737488351232 := by
          intro k hk
          refine hw k ?_
          rw [hx]
          have hmem : Dd i ∈ (List.range len).map Dd := List.mem_map.2 ⟨i, List.mem_range.2 hi, rfl⟩
          refine weights_slice Try.underlying22 (.inl hmem) ?_
          rw [show Dd i = .agg [y0.1, y1.1, y2.1] from congrArg Prod.fst hd]
          simp only [DataW.weights, Try.underlying33]
          simp only [List.map_cons, DataW.weightsEach, List.mem_append]
          exact .inr (.inl hk)
        have hrow : ∃ ua m uc zs, v1 = .slice ua m uc ∧ IsRow .u8 W ua m uc zs ∧ uc ≤ 140737488351232 := by
          rcases open_ints Try.underlying31 Try.underlying5 (by kernel_rfl) t1 with ⟨hcs, _⟩ | ⟨x, l, c, zs, hcs, _, hl, hm, hz, hx, hcell, hwz⟩
          · simp at hcs
            subst hcs
            exact ⟨none, 0, 0, [], rfl, .inl ⟨rfl, rfl, rfl, rfl⟩, by omega⟩
          · simp at hcs
            subst hcs
            have hd' := congrArg Prod.fst hx
            simp only at hd'
            simp only [if_true] at hz
            have hwt := hwd (zs.length * 1) (by
              rw [hd']
              simp only [DataW.weights, Try.underlying31, List.mem_cons]
              left
              rw [show Try.prog.bytesOf 5 = 1 by kernel_rfl]
              simp [lits]
              omega)
            exact ⟨some x, l, c, zs, rfl, .inr ⟨_, rfl, hl, hm, by simpa using hz, hcell, hwz⟩, by omega⟩
        obtain ⟨ua, m, uc, zs, rfl, hr, hcap⟩ := hrow
        obtain ⟨r1, r2, r3, r4⟩ := hr.isB
        exact ⟨q, kk, ua, m, uc, _, e0, by rw [Nat.add_assoc]; exact e1, by rw [Nat.add_assoc]; exact e2, wf_i64 wq, wf_i64 wk, r1, r2, by omega⟩
end Go.Proofs.Ytnppnccokmcbpaa
