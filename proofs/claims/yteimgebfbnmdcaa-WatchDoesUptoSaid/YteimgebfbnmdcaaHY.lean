/- What comes in: rows, tuples, changes. -/
import Derived.Test.YteimgebfbnmdcaaHX
import Derived.Test.YteimgebfbnmdcaaBulk
import Derived.Deep.Strs
import Derived.Deep.Slices
import Derived.ChangeSlices
import Derived.ChangeArms
import Derived.Lib.SmallJoins
namespace Go.Proofs.Yteimgebfbnmdcaa
open Go.RowKit Go.Shelf Go.ChangeShapes Go.WideShapes

theorem tupB_opened {H : Type} {enc : TypeId × Value → H} {W : World} {fuel : Nat} {v0 v1 v2 : Value} {x : DataW H × List MemPlace}
    (h : DataW.trod enc Try.prog W 0 (fun _ => true) true fuel 47 [v0, v1, v2] = some x) (hw : Rows.uptoBulk x.1 ≤ 1048576) :
    ∃ t : Tp, [v0, v1, v2] = tc t ∧ t.fits := by
  obtain ⟨y0, y1, y2, n', hd, _, t0, t1, t2⟩ := Go.Deep.trod_struct3 Try.underlying47 h
  have k1 : Try.prog.cellsOf 9 = 1 := by kernel_rfl
  simp [k1] at t0 t1 t2
  obtain ⟨a, q0, rfl, w0⟩ := DataW.trod_string Try.underlying9 t0
  obtain ⟨b, q1, rfl, w1⟩ := DataW.trod_string Try.underlying9 t1
  obtain ⟨c, q2, rfl, w2⟩ := DataW.trod_string Try.underlying9 t2
  simp at q0 q1 q2
  subst q0
  subst q1
  subst q2
  rw [hd] at hw
  simp only [Rows.uptoBulk, Rows.uptoBulkAll] at hw
  refine ⟨⟨a, b, c⟩, rfl, ?_, ?_, ?_⟩ <;> (simp only [Lib.size_eq]; omega)
theorem lies_opened {α : Type} {ec : α → List Value} {k : Nat} (hk : ∀ x, (ec x).length = k) (hk0 : 0 < k) (x0 : α) (fit : α → Prop) {H : Type} {enc : TypeId × Value → H} {W : World} {tS tE : TypeId} (hu : Try.prog.underlying tS = some (.slice tE)) (hc : Try.prog.cellsOf tE = k)
    (elem : ∀ {n : Nat} {cs : List Value} {y : DataW H × List MemPlace}, cs.length = k → DataW.trod enc Try.prog W 0 (fun _ => true) true n tE cs = some y → Rows.uptoBulk y.1 ≤ 1048576 → ∃ x : α, cs = ec x ∧ fit x)
    {fuel : Nat} {v : Value} {x : DataW H × List MemPlace} (h : DataW.trod enc Try.prog W 0 (fun _ => true) true fuel tS [v] = some x) (hw : Rows.uptoBulk x.1 ≤ 1048576) :
    ∃ a n c, v = .slice a n c ∧ (∃ l : List α, Lies W tE k 0 a n c (l.flatMap ec) ∧ l.length = n ∧ ∀ r ∈ l, fit r) ∧ n ≤ 1048576 := by
  rcases Go.Deep.open_slice hu h with ⟨hcs, hx⟩ | ⟨ad, l, c, m, n, Dd, Pl, hcs, _, hl, hm, hmm, hx, hall⟩
  · simp at hcs
    subst hcs
    exact ⟨none, 0, 0, rfl, ⟨[], Lies.none _ _ _ _, rfl, by simp⟩, by omega⟩
  · simp at hcs
    subst hcs
    rw [hc] at hall
    simp only [if_true] at hmm
    have hlen : l ≤ Rows.uptoBulk x.1 := by
      rw [hx]
      have h1 := bulks.slice_le ((List.range l).map Dd) ((List.range (m - l)).map fun j => Dd (l + j))
      simp at h1 ⊢
      omega
    have key : ∀ i, i < l → ∃ y : α, (∀ j u, (ec y)[j]? = some u → W.cell? ((ad.add (i * k)).add j) = some u) ∧ fit y := by
      intro i hi
      obtain ⟨cs', hcc, ht⟩ := hall i (by omega)
      obtain ⟨_, hcl, hat⟩ := World.cells?_some hcc
      have hbi : Rows.uptoBulk (Dd i) ≤ 1048576 := by
        have h1 : Dd i ∈ (List.range l).map Dd := List.mem_map.2 ⟨i, List.mem_range.2 hi, rfl⟩
        have h2 := bulks.part_le h1
        rw [hx] at hw
        simp only [Rows.uptoBulk] at hw
        omega
      obtain ⟨y, rfl, hf⟩ := elem hcl ht hbi
      refine ⟨y, fun j u hj => ?_, hf⟩
      have hjk : j < k := by rw [← hk y]; exact (List.getElem?_eq_some_iff.1 hj).1
      rw [hat j hjk]
      exact hj
    refine ⟨some ad, l, c, rfl, ⟨(List.range l).map fun i => if h : i < l then (key i h).choose else x0, ?_, by simp, ?_⟩, by omega⟩
    · refine ⟨by rw [fm_len hk]; simp, (by intro e; cases e), hl, hm, fun hn ad' ha => ?_⟩
      injection ha with ha
      subst ha
      obtain ⟨y0, hy0, _⟩ := key 0 hn
      obtain ⟨u0, hu0⟩ : ∃ u, (ec y0)[0]? = some u := ⟨_, List.getElem?_eq_getElem (by rw [hk]; exact hk0)⟩
      have h0 := hy0 0 u0 hu0
      obtain ⟨b, off, spot⟩ := ad
      have hs : spot = none := by simpa [Addr.add] using World.cell?_spot h0
      subst hs
      refine ⟨rfl, ?_, Nat.zero_le _, fun j u hj => ?_⟩
      · rw [add_plain, add_plain] at h0
        exact World.block_lt_of_cell? W ⟨b, off + 0 * k + 0, none⟩ h0
      · have hjl : j < ((List.range l).map fun i => if h : i < l then (key i h).choose else x0).length * k := by
          rw [← fm_len hk]; exact (List.getElem?_eq_some_iff.1 hj).1
        rw [List.length_map, List.length_range] at hjl
        have hil : j / k < l := Nat.div_lt_of_lt_mul (by rw [Nat.mul_comm]; exact hjl)
        have hjk : j % k < k := Nat.mod_lt _ hk0
        have hd : j / k * k + j % k = j := Nat.div_add_mod' j k
        have hi : ((List.range l).map fun i => if h : i < l then (key i h).choose else x0)[j / k]? = some (key (j / k) hil).choose := by
          rw [List.getElem?_map, List.getElem?_range hil]
          simp [hil]
        have h2 := fm_at hk hi hjk
        rw [hd, hj] at h2
        have h3 := (key (j / k) hil).choose_spec.1 (j % k) u h2.symm
        rw [add_plain, add_plain, Nat.add_assoc, hd] at h3
        rw [add_plain]
        exact h3
    · intro r hr
      obtain ⟨i, hi, rfl⟩ := List.mem_map.1 hr
      have hi' : i < l := List.mem_range.1 hi
      simp only [dif_pos hi']
      exact (key i hi').choose_spec.2
theorem tup_elem {H : Type} {enc : TypeId × Value → H} {W : World} {n : Nat} {cs : List Value} {y : DataW H × List MemPlace} (hl : cs.length = 3) (h : DataW.trod enc Try.prog W 0 (fun _ => true) true n 47 cs = some y) (hw : Rows.uptoBulk y.1 ≤ 1048576) : ∃ x : Tp, cs = tc x ∧ x.fits :=
  match cs, hl with
  | [_, _, _], _ => tupB_opened h hw
theorem row_elem {H : Type} {enc : TypeId × Value → H} {W : World} {n : Nat} {cs : List Value} {y : DataW H × List MemPlace} (hl : cs.length = 5) (h : DataW.trod enc Try.prog W 0 (fun _ => true) true n 49 cs = some y) (hw : Rows.uptoBulk y.1 ≤ 1048576) : ∃ x : Rw, cs = rw1 x ∧ x.t.fits := by
  match cs, hl with
  | [v0, v1, v2, v3, v4], _ =>
    obtain ⟨xs, n', _, hd, _, hlen, hf⟩ := DataW.trod_struct Try.underlying49 h
    match xs, hlen with
    | [y0, y1, y2], _ =>
      have t0 := hf 0 _ rfl
      have t1 := hf 1 _ rfl
      have t2 := hf 2 _ rfl
      have kb : Try.prog.cellsOf 2 = 1 := by kernel_rfl
      have kt : Try.prog.cellsOf 47 = 3 := by kernel_rfl
      simp [kb, kt] at t0 t1 t2
      obtain ⟨q1, h1, _, _⟩ := DataW.trod_int Try.underlying2 t1
      obtain ⟨q2, h2, _, _⟩ := DataW.trod_int Try.underlying2 t2
      have hb1 : Rows.uptoBulk y0.1 ≤ 1048576 := by
        rw [hd] at hw
        simp only [Rows.uptoBulk, Rows.uptoBulkAll, List.map_cons] at hw
        omega
      obtain ⟨t, ht, hft⟩ := tupB_opened t0 hb1
      unfold tc at ht
      simp at h1 h2 ht
      obtain ⟨rfl, rfl, rfl⟩ := ht
      subst h1 h2
      exact ⟨⟨t, q1, q2⟩, rfl, hft⟩
theorem mut_elem {H : Type} {enc : TypeId × Value → H} {W : World} {n : Nat} {cs : List Value} {y : DataW H × List MemPlace} (hl : cs.length = 4) (h : DataW.trod enc Try.prog W 0 (fun _ => true) true n 51 cs = some y) (hw : Rows.uptoBulk y.1 ≤ 1048576) : ∃ x : Mu, cs = muc x ∧ x.t.fits := by
  match cs, hl with
  | [v0, v1, v2, v3], _ =>
    obtain ⟨xs, n', _, hd, _, hlen, hf⟩ := DataW.trod_struct Try.underlying51 h
    match xs, hlen with
    | [y0, y1], _ =>
      have t0 := hf 0 _ rfl
      have t1 := hf 1 _ rfl
      have kb : Try.prog.cellsOf 4 = 1 := by kernel_rfl
      have kt : Try.prog.cellsOf 47 = 3 := by kernel_rfl
      simp [kb, kt] at t0 t1
      obtain ⟨d, hd0, _⟩ := DataW.trod_bool Try.underlying4 t0
      have hb1 : Rows.uptoBulk y1.1 ≤ 1048576 := by
        rw [hd] at hw
        simp only [Rows.uptoBulk, Rows.uptoBulkAll, List.map_cons] at hw
        omega
      obtain ⟨t, ht, hft⟩ := tupB_opened t1 hb1
      unfold tc at ht
      simp at hd0 ht
      obtain ⟨rfl, rfl, rfl⟩ := ht
      subst hd0
      exact ⟨⟨d, t⟩, rfl, hft⟩
theorem ch_elem {H : Type} {enc : TypeId × Value → H} {W : World} {n : Nat} {cs : List Value} {y : DataW H × List MemPlace} (hl : cs.length = 5) (h : DataW.trod enc Try.prog W 0 (fun _ => true) true n 53 cs = some y) (hw : Rows.uptoBulk y.1 ≤ 1048576) : ∃ x : Ch, cs = chc x ∧ x.t.fits := by
  match cs, hl with
  | [v0, v1, v2, v3, v4], _ =>
    obtain ⟨xs, n', _, hd, _, hlen, hf⟩ := DataW.trod_struct Try.underlying53 h
    match xs, hlen with
    | [y0, y1], _ =>
      have t0 := hf 0 _ rfl
      have t1 := hf 1 _ rfl
      have kb : Try.prog.cellsOf 2 = 1 := by kernel_rfl
      have kt : Try.prog.cellsOf 51 = 4 := by kernel_rfl
      simp [kb, kt] at t0 t1
      obtain ⟨q, hq, _, _⟩ := DataW.trod_int Try.underlying2 t0
      have hb1 : Rows.uptoBulk y1.1 ≤ 1048576 := by
        rw [hd] at hw
        simp only [Rows.uptoBulk, Rows.uptoBulkAll, List.map_cons] at hw
        omega
      obtain ⟨m, hm, hft⟩ := mut_elem rfl t1 hb1
      unfold muc at hm
      simp at hq hm
      obtain ⟨rfl, rfl, rfl, rfl⟩ := hm
      subst hq
      exact ⟨⟨q, m.d, m.t⟩, rfl, hft⟩
theorem inl_of {α : Type} {T : TypeId} {k : Nat} {ec : α → List Value} {tp : α → Tp} {W : World} {a : Option Addr} {len cap : Nat} (h : ∃ a' n' c', Value.slice a len cap = .slice a' n' c' ∧ (∃ l : List α, Lies W T k 0 a' n' c' (l.flatMap ec) ∧ l.length = n' ∧ ∀ r ∈ l, (tp r).fits) ∧ n' ≤ 1048576) : (∃ l, InL T k ec tp W a len cap l) ∧ len ≤ 1048576 := by
  obtain ⟨a', n', c', he, ⟨l, h1, h2, h3⟩, h4⟩ := h
  injection he with e1 e2 e3
  subst e1 e2 e3
  exact ⟨⟨l, h1, h2, h3⟩, h4⟩
theorem rowsI_opened {H : Type} {enc : TypeId × Value → H} {W : World} {fuel : Nat} {a : Option Addr} {len cap : Nat} {x : DataW H × List MemPlace}
    (h : DataW.trod enc Try.prog W 0 (fun _ => true) true fuel 22 (Value.slice a len cap).cells.toList = some x) (hw : Rows.uptoBulk x.1 ≤ 1048576) : (∃ l, InL 49 5 rw1 Rw.t W a len cap l) ∧ len ≤ 1048576 :=
  inl_of (lies_opened rw1_len (by decide) ⟨tV, 0, 0⟩ (fun r => r.t.fits) Try.underlying22 (by kernel_rfl) row_elem (by simpa [Value.cells] using h) hw)
theorem tupsI_opened {H : Type} {enc : TypeId × Value → H} {W : World} {fuel : Nat} {a : Option Addr} {len cap : Nat} {x : DataW H × List MemPlace}
    (h : DataW.trod enc Try.prog W 0 (fun _ => true) true fuel 30 (Value.slice a len cap).cells.toList = some x) (hw : Rows.uptoBulk x.1 ≤ 1048576) : (∃ l, InL 47 3 tc (fun t => t) W a len cap l) ∧ len ≤ 1048576 :=
  inl_of (lies_opened tc_len (by decide) tV (fun r => r.fits) Try.underlying30 (by kernel_rfl) tup_elem (by simpa [Value.cells] using h) hw)
theorem chsI_opened {H : Type} {enc : TypeId × Value → H} {W : World} {fuel : Nat} {a : Option Addr} {len cap : Nat} {x : DataW H × List MemPlace}
    (h : DataW.trod enc Try.prog W 0 (fun _ => true) true fuel 25 (Value.slice a len cap).cells.toList = some x) (hw : Rows.uptoBulk x.1 ≤ 1048576) : (∃ l, InL 53 5 chc Ch.t W a len cap l) ∧ len ≤ 1048576 :=
  inl_of (lies_opened chc_len (by decide) ⟨0, false, tV⟩ (fun r => r.t.fits) Try.underlying25 (by kernel_rfl) ch_elem (by simpa [Value.cells] using h) hw)
end Go.Proofs.Yteimgebfbnmdcaa
