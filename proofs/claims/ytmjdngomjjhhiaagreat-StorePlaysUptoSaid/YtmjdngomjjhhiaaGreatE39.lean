/- Mutations that came in. -/
import Derived.Test.YtmjdngomjjhhiaaGreatE38
import Derived.Test.YtmjdngomjjhhiaaGreatE37
namespace Go.Proofs.YtmjdngomjjhhiaaGreat
open Go.RowKit Go.ChangeShapes Go.WideShapes

theorem tupB_opened {H : Type} {enc : TypeId × Value → H} {W : World} {fuel : Nat} {v0 v1 v2 : Value} {x : DataW H × List MemPlace}
    (h : DataW.trod enc Tryz.prog W 0 (fun _ => true) true fuel 32 [v0, v1, v2] = some x) (hw : Rows.uptoBulk x.1 ≤ 1048576) :
    ∃ t : Tp, v0 = .string t.o ∧ v1 = .string t.r ∧ v2 = .string t.u ∧ t.fits := by
  obtain ⟨y0, y1, y2, n', hd, _, t0, t1, t2⟩ := Go.Deep.trod_struct3 Tryz.underlying32 h
  have k1 : Tryz.prog.cellsOf 9 = 1 := by kernel_rfl
  simp [k1] at t0 t1 t2
  obtain ⟨a, q0, rfl, w0⟩ := DataW.trod_string Tryz.underlying9 t0
  obtain ⟨b, q1, rfl, w1⟩ := DataW.trod_string Tryz.underlying9 t1
  obtain ⟨c, q2, rfl, w2⟩ := DataW.trod_string Tryz.underlying9 t2
  simp at q0 q1 q2
  rw [hd] at hw
  simp only [Rows.uptoBulk, Rows.uptoBulkAll] at hw
  refine ⟨⟨a, b, c⟩, q0, q1, q2, ?_, ?_, ?_⟩ <;> (simp only [Lib.size_eq]; omega)
theorem mutsB_opened {H : Type} {enc : TypeId × Value → H} {W : World} {fuel : Nat} {v : Value} {x : DataW H × List MemPlace}
    (h : DataW.trod enc Tryz.prog W 0 (fun _ => true) true fuel 29 [v] = some x) (hw : Rows.uptoBulk x.1 ≤ 1048576) :
    ∃ a n c, v = .slice a n c ∧ (∃ l, MutsAt W a n l) ∧ n ≤ c ∧ c ≤ maxLen ∧ n ≤ Rows.uptoBulk x.1 ∧ (a = none → n = 0 ∧ c = 0) := by
  rcases Go.Deep.open_slice Tryz.underlying29 h with ⟨hcs, hx⟩ | ⟨ad, l, c, m, n, Dd, Pl, hcs, _, hl, hm, hmm, hx, hall⟩
  · simp at hcs
    subst hcs
    exact ⟨none, 0, 0, rfl, ⟨[], rfl, by simp, .inl rfl⟩, by omega, by simp [maxLen], by omega, fun _ => ⟨rfl, rfl⟩⟩
  · simp at hcs
    subst hcs
    have hcell : Tryz.prog.cellsOf 55 = 4 := by kernel_rfl
    rw [hcell] at hall
    simp only [if_true] at hmm
    have hlen : l ≤ Rows.uptoBulk x.1 := by
      rw [hx]
      have h1 := bulks.slice_le ((List.range l).map Dd) ((List.range (m - l)).map fun j => Dd (l + j))
      simp at h1 ⊢
      omega
    rcases Nat.eq_zero_or_pos l with h0 | h0
    · subst h0
      exact ⟨some ad, 0, c, rfl, ⟨[], rfl, by simp, .inl rfl⟩, hl, hm, by omega, fun e => by cases e⟩
    · obtain ⟨b, off, spot⟩ := ad
      have hs : spot = none := by
        obtain ⟨cs', hc, _⟩ := hall 0 (by omega)
        obtain ⟨_, hcl, hat⟩ := World.cells?_some hc
        have h1 := hat 0 (by omega)
        rw [List.getElem?_eq_getElem (by omega)] at h1
        simpa [Addr.add] using World.cell?_spot h1
      subst hs
      have key : ∀ i, i < l → ∃ m : Mu, (W.cell? ⟨b, off + i * 4, none⟩ = some (.bool m.d) ∧ W.cell? ⟨b, off + i * 4 + 1, none⟩ = some (.string m.t.o) ∧ W.cell? ⟨b, off + i * 4 + 2, none⟩ = some (.string m.t.r) ∧ W.cell? ⟨b, off + i * 4 + 3, none⟩ = some (.string m.t.u)) ∧ m.t.fits := by
        intro i hi
        obtain ⟨cs', hc, ht⟩ := hall i (by omega)
        obtain ⟨_, hcl, hat⟩ := World.cells?_some hc
        have hbi : Rows.uptoBulk (Dd i) ≤ 1048576 := by
          have h1 : Dd i ∈ (List.range l).map Dd := List.mem_map.2 ⟨i, List.mem_range.2 hi, rfl⟩
          have h2 := bulks.part_le h1
          rw [hx] at hw
          simp only [Rows.uptoBulk] at hw
          omega
        match cs', hcl with
        | [v0, v1, v2, v3], _ =>
          have e0 := hat 0 (by omega)
          have e1 := hat 1 (by omega)
          have e2 := hat 2 (by omega)
          have e3 := hat 3 (by omega)
          simp only [add_plain, Nat.add_zero, List.getElem?_cons_zero, List.getElem?_cons_succ] at e0 e1 e2 e3
          obtain ⟨xs, n', _, hd, _, hlen, hf⟩ := DataW.trod_struct Tryz.underlying55 ht
          match xs, hlen with
          | [y0, y1], _ =>
            have t0 := hf 0 _ rfl
            have t1 := hf 1 _ rfl
            have kb : Tryz.prog.cellsOf 4 = 1 := by kernel_rfl
            have kt : Tryz.prog.cellsOf 32 = 3 := by kernel_rfl
            simp [kb, kt] at t0 t1
            obtain ⟨d, hd0, _⟩ := DataW.trod_bool Tryz.underlying4 t0
            have hdi : Dd i = .agg [y0.1, y1.1] := by have := congrArg Prod.fst hd; simpa using this
            have hb1 : Rows.uptoBulk y1.1 ≤ 1048576 := by
              rw [hdi] at hbi
              simp only [Rows.uptoBulk, Rows.uptoBulkAll] at hbi
              omega
            obtain ⟨t, rfl, rfl, rfl, hft⟩ := tupB_opened t1 hb1
            simp at hd0
            subst hd0
            exact ⟨⟨d, t⟩, ⟨e0, by rw [Nat.add_assoc]; exact e1, by rw [Nat.add_assoc]; exact e2, by rw [Nat.add_assoc]; exact e3⟩, hft⟩
      have hb : b < W.heap.size := by
        obtain ⟨m, ⟨c0, _⟩, _⟩ := key 0 h0
        exact World.block_lt_of_cell? W ⟨b, off + 0 * 4, none⟩ c0
      refine ⟨_, l, c, rfl, ⟨(List.range l).map fun i => if h : i < l then (key i h).choose else ⟨false, ⟨ByteArray.empty, ByteArray.empty, ByteArray.empty⟩⟩, ⟨by simp, ?_, .inr ⟨b, off, rfl, hb, ?_⟩⟩⟩, hl, hm, hlen, fun e => by cases e⟩
      · intro m hm2
        obtain ⟨i, hi, rfl⟩ := List.mem_map.1 hm2
        have hi' : i < l := List.mem_range.1 hi
        simp only [dif_pos hi']
        exact (key i hi').choose_spec.2
      · intro i m hi
        have hil : i < l := by
          have := (List.getElem?_eq_some_iff.1 hi).1
          simpa using this
        rw [List.getElem?_map, List.getElem?_range hil] at hi
        simp only [Option.map_some, Option.some.injEq, dif_pos hil] at hi
        subst hi
        exact (key i hil).choose_spec.1
theorem mutsU_opened {H : Type} {enc : TypeId × Value → H} {W : World} {fuel : Nat} {a : Option Addr} {len cap : Nat} {x : DataW H × List MemPlace}
    (h : DataW.trod enc Tryz.prog W 0 (fun _ => true) true fuel 29 (Value.slice a len cap).cells.toList = some x) (hw : Rows.uptoBulk x.1 ≤ 1048576) : (∃ l, MutsAt W a len l) ∧ len ≤ 1048576 := by
  have h' : DataW.trod enc Tryz.prog W 0 (fun _ => true) true fuel 29 [Value.slice a len cap] = some x := by simpa [Value.cells] using h
  obtain ⟨a', n', c', he, hl, _, _, hn, _⟩ := mutsB_opened h' hw
  injection he with e1 e2 e3
  subst e1 e2 e3
  exact ⟨hl, Nat.le_trans hn hw⟩
theorem mutsC_opened {H : Type} {enc : TypeId × Value → H} {W : World} {fuel : Nat} {a : Option Addr} {len cap : Nat} {x : DataW H × List MemPlace}
    (h : DataW.trod enc Tryz.prog W 0 (fun _ => true) true fuel 29 (Value.slice a len cap).cells.toList = some x) (hw : Rows.uptoBulk x.1 ≤ 1048576) : ((∃ l, MutsAt W a len l) ∧ (a = none → len = 0 ∧ cap = 0)) ∧ len ≤ 1048576 := by
  have h' : DataW.trod enc Tryz.prog W 0 (fun _ => true) true fuel 29 [Value.slice a len cap] = some x := by simpa [Value.cells] using h
  obtain ⟨a', n', c', he, hl, _, _, hn, hz⟩ := mutsB_opened h' hw
  injection he with e1 e2 e3
  subst e1 e2 e3
  exact ⟨⟨hl, hz⟩, Nat.le_trans hn hw⟩
end Go.Proofs.YtmjdngomjjhhiaaGreat
