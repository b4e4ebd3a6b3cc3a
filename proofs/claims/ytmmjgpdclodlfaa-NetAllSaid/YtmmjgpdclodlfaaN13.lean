/- The network: Flip. -/
import Derived.Test.YtmmjgpdclodlfaaN12
import Derived.RegionTactic
namespace Go.Proofs.Ytmmjgpdclodlfaa
open Go.RowKit

/-- A byte with one of its bits turned. -/
def fb (x : Int) (m : Nat) : Int := bits BinOp.xor IntKind.u8 x (2 ^ m % 256)
theorem fb_all : ∀ (x : Fin 256) (m : Fin 8), 0 ≤ fb (x.val : Int) m.val ∧ fb (x.val : Int) m.val < 256 ∧ fb (x.val : Int) m.val ≠ (x.val : Int) ∧ fb (fb (x.val : Int) m.val) m.val = (x.val : Int) := by decide +kernel
theorem fb_facts {x : Int} {m : Nat} (h0 : 0 ≤ x) (h1 : x < 256) (hm : m < 8) : 0 ≤ fb x m ∧ fb x m < 256 ∧ fb x m ≠ x ∧ fb (fb x m) m = x := by
  have h := fb_all ⟨x.toNat, by omega⟩ ⟨m, hm⟩
  have e : ((x.toNat : Nat) : Int) = x := by omega
  simp only [e] at h
  exact h
theorem set_map_same {α : Type} {f : Pk → α} {ps : List Pk} {i : Nat} {p p' : Pk} (hi : ps[i]? = some p) (hf : f p' = f p) : (ps.set i p').map f = ps.map f := by
  apply List.ext_getElem?
  intro j
  rw [List.getElem?_map, List.getElem?_map, List.getElem?_set]
  by_cases h : i = j
  · subst h
    rw [if_pos rfl, hi]
    have : i < ps.length := by
      rcases Nat.lt_or_ge i ps.length with hl | hl
      · exact hl
      · rw [List.getElem?_eq_none hl] at hi; cases hi
    rw [if_pos this]
    simp [hf]
  · rw [if_neg h]
theorem pcs_eq (l : List Pk) : pcs l = (l.map pc).flatten := by unfold pcs; rw [List.flatMap_def]
theorem blocks_eq (l : List Pk) : l.filterMap (fun p => p.v.ownBlock) = (l.map (·.v)).filterMap Value.ownBlock := by rw [List.filterMap_map]; rfl
/-- No other packet's bytes lie in that block. -/
theorem NAt.other {w : World} {B g : Nat} {nodes : Int} {v : Value} {ps : List Pk} (h : NAt w B g nodes v ps) {i j q : Nat} {p p2 : Pk} (hi : ps[i]? = some p) (hj : ps[j]? = some p2) (hij : j ≠ i) (hq : p.v.ownBlock = some q) : p2.v.ownBlock ≠ some q := by
  have ha := h.apart
  unfold List.Nodup at ha
  rw [List.pairwise_filterMap, List.pairwise_iff_getElem] at ha
  obtain ⟨hil, hie⟩ := List.getElem?_eq_some_iff.1 hi
  obtain ⟨hjl, hje⟩ := List.getElem?_eq_some_iff.1 hj
  intro hq2
  rcases Nat.lt_or_gt_of_ne hij with hl | hl
  · exact ha j i hjl hil hl q (by rw [hje]; exact hq2) q (by rw [hie]; exact hq) rfl
  · exact ha i j hil hjl hl q (by rw [hie]; exact hq) q (by rw [hje]; exact hq2) rfl
theorem NAt.flipped {w : World} {B g : Nat} {nodes : Int} {v : Value} {ps : List Pk} (h : NAt w B g nodes v ps) {i q d : Nat} {p : Pk} {y : Int} (hi : ps[i]? = some p) (hq : p.v.ownBlock = some q) (hd : d < p.xs.length) (hy : 0 ≤ y ∧ y < 256) :
    NAt (w.setCell ⟨q, d, none⟩ (.int .u8 y)) B g nodes v (ps.set i ⟨p.fr, p.dst, p.v, p.xs.set d y⟩) ∧ Chg w (w.setCell ⟨q, d, none⟩ (.int .u8 y)) (fun k => p.v.ownBlock = some k) := by
  have hPk := h.pks p (List.mem_of_getElem? hi)
  obtain ⟨_, cur, hW⟩ := hPk.block hq
  refine ⟨⟨h.net.kept (Below.heap_setCell _ _ _ _ (whole_ne h.net hW (by decide))), h.geg, ?_, fun p2 hp2 => ?_, ?_⟩, (Chg.refl w _).set hq d _⟩
  · rw [List.length_set, pcs_eq, set_map_same (f := pc) (p' := ⟨p.fr, p.dst, p.v, p.xs.set d y⟩) hi rfl, ← pcs_eq]
    exact h.row.keep fun k hk => Below.heap_setCell _ _ _ _ (by
      rintro rfl
      obtain ⟨_, cur2, hW2⟩ := h.row.block hk
      exact whole_ne hW hW2 (by decide) rfl)
  · obtain ⟨j, hj⟩ := List.mem_iff_getElem?.1 hp2
    rw [List.getElem?_set] at hj
    by_cases hij : i = j
    · subst hij
      obtain ⟨hil, _⟩ := List.getElem?_eq_some_iff.1 hi
      rw [if_pos rfl, if_pos hil] at hj
      injection hj with hj
      subst hj
      obtain ⟨q', cap, hv, hcap, hcm⟩ := owns_shape hPk.own (by omega)
      have e : q' = q := by rw [hv] at hq; simpa [Value.ownBlock] using hq
      subst e
      have ho := hPk.own
      rw [hv] at ho
      refine ⟨?_, ?_, by rw [List.length_set]; exact hPk.small⟩
      · show World.ownsRow _ B 5 1 p.v (p.xs.set d y).length _
        rw [hv, List.length_set, List.map_set]
        exact (ho.stored d (.int .u8 y)).1
      · intro x hx
        rcases List.mem_or_eq_of_mem_set hx with hx | rfl
        · exact hPk.byte x hx
        · exact hy
    · rw [if_neg hij] at hj
      refine (h.pks p2 (List.mem_of_getElem? hj)).keep fun k hk => Below.heap_setCell _ _ _ _ ?_
      rintro rfl
      exact h.other hi hj (fun e => hij e.symm) hq hk
  · rw [blocks_eq, set_map_same (f := (·.v)) (p' := ⟨p.fr, p.dst, p.v, p.xs.set d y⟩) hi rfl, ← blocks_eq]
    exact h.apart
/-- What a Flip that finds its bit leaves. -/
def FlipOk (w : World) (B g : Nat) (nodes : Int) (v : Value) (ps : List Pk) (i k : Nat) (p : Pk) (x : Int) (e : Ending) (w' : World) : Prop :=
  e = .returned (.int .i64 0) ∧ NAt w' B g nodes v (ps.set i ⟨p.fr, p.dst, p.v, p.xs.set (k / 8) (fb x (k % 8))⟩) ∧ Chg w w' (fun k => p.v.ownBlock = some k)
section
variable {B g : Nat} {nodes : Int} {v : Value} {ps : List Pk}
set_option maxRecDepth 100000 in
set_option maxHeartbeats 2000000 in
theorem flip_none (x bit : Int) (w : World) (h : NAt w B g nodes v ps) (hi : x < 0 ∨ (ps.length : Int) ≤ x) :
    Calls Try.prog 14 #[.pointer (some ⟨g, 0, none⟩), .int .i64 x, .int .i64 bit] w fun e w' => e = .returned (.int .i64 4) ∧ w' = w := by
  have HF := Lib.hid (h.noflies hi)
  clear h hi
  go_enter Try.func14, Try.ntmps14
  go_wp2_with fail
  refine HF.out.mono ?_
  rintro e w' ⟨rfl, rfl⟩
  go_wp2
  go_ret
  exact ⟨rfl, rfl⟩
set_option maxRecDepth 100000 in
set_option maxHeartbeats 4000000 in
theorem flip_range {i : Nat} {p : Pk} (bit : Int) (w : World) (h : NAt w B g nodes v ps) (hi : ps[i]? = some p) (hb : bit < 0 ∨ (p.xs.length : Int) ≤ bit.tdiv 8) (hbm : bit ≤ 9223372036854775807) :
    Calls Try.prog 14 #[.pointer (some ⟨g, 0, none⟩), .int .i64 (i : Int), .int .i64 bit] w fun e w' => e = .returned (.int .i64 1) ∧ w' = w := by
  obtain ⟨b, off, c, rfl, hbl, hlt, hc, e0, e1, e2⟩ := h.at_ hi
  obtain ⟨_, c1, _, f1⟩ := h.cells
  obtain ⟨a, k, hv, hp⟩ := (h.pks p (List.mem_of_getElem? hi)).in_
  have HF := Lib.hid (h.flies hlt)
  rw [hv] at e2
  clear h hi hp hv
  by_cases h0 : bit < 0
  · clear hb
    go_enter Try.func14, Try.ntmps14
    go_wp2_with fail
    refine HF.out.mono ?_
    rintro e w' ⟨rfl, hq⟩
    obtain rfl : w = w' := hq.symm
    go_wp2
    go_ret
    exact ⟨rfl, rfl⟩
  · have hd := hb.resolve_left h0
    have hb0 : decide (bit < 0) = false := by simpa using h0
    have hw : IntKind.i64.wrap (bit.tdiv 8) = bit.tdiv 8 := IntWalk.i64_in _ (by rw [Int.tdiv_eq_ediv_of_nonneg (by omega)]; omega)
    have hdd : decide ((p.xs.length : Int) ≤ bit.tdiv 8) = true := by rw [decide_eq_true_eq]; exact hd
    clear hb h0 hbm
    generalize hq : bit.tdiv 8 = y at *
    go_enter Try.func14, Try.ntmps14
    go_wp2_with fail
    refine HF.out.mono ?_
    rintro e w' ⟨rfl, hq⟩
    obtain rfl : w = w' := hq.symm
    go_wp2
    go_ret
    exact ⟨rfl, rfl⟩
set_option maxRecDepth 100000 in
set_option maxHeartbeats 4000000 in
theorem flip_ok {i k : Nat} {p : Pk} {x : Int} (w : World) (h : NAt w B g nodes v ps) (hi : ps[i]? = some p) (hx : p.xs[k / 8]? = some x) :
    Calls Try.prog 14 #[.pointer (some ⟨g, 0, none⟩), .int .i64 (i : Int), .int .i64 (k : Int)] w fun e w' => FlipOk w B g nodes v ps i k p x e w' := by
  obtain ⟨hb, _⟩ := List.getElem?_eq_some_iff.1 hx
  obtain ⟨b, off, c, rfl, hbl, hlt, hc, e0, e1, e2⟩ := h.at_ hi
  obtain ⟨_, c1, _, f1⟩ := h.cells
  have hPk := h.pks p (List.mem_of_getElem? hi)
  obtain ⟨q, cap, hv, hcap, hcm⟩ := owns_shape hPk.own (by omega)
  have hbx := hPk.byte x (List.mem_of_getElem? hx)
  have g0 : w.cell? ⟨q, k / 8, none⟩ = some (.int .u8 x) := by
    have := hPk.own.cells (g := q) (by rw [hv]; rfl) (k / 8) (.int .u8 x) (by simp [hx])
    rwa [add_plain, Nat.zero_add] at this
  have g1 : w.frozen? ⟨q, k / 8, none⟩ = false := by
    have ho := hPk.own
    rw [hv] at ho
    exact ho.frozenAt (k / 8)
  have HF := Lib.hid (h.flies hlt)
  rw [hv] at e2
  have hsm := hPk.small
  have hd1 : (k : Int).tdiv 8 = ((k / 8 : Nat) : Int) := by rw [Int.tdiv_eq_ediv_of_nonneg (by omega)]; omega
  have hd2 : (k : Int).tmod 8 = ((k % 8 : Nat) : Int) := by rw [Int.tmod_eq_emod_of_nonneg (by omega)]; omega
  have hk0 : decide ((k : Int) < 0) = false := by rw [decide_eq_false_iff_not]; omega
  have hm8 : k % 8 < 8 := Nat.mod_lt _ (by decide)
  have hfb := fb_facts hbx.1 hbx.2 hm8
  have HQ := Lib.hid (h.flipped (q := q) (d := k / 8) (y := fb x (k % 8)) hi (by rw [hv]; rfl) hb ⟨hfb.1, hfb.2.1⟩)
  unfold FlipOk
  clear h hi hPk hv hx hfb
  generalize k / 8 = d at *
  generalize k % 8 = m at *
  go_enter Try.func14, Try.ntmps14
  go_wp2_with fail
  refine HF.out.mono ?_
  rintro e w' ⟨rfl, hq⟩
  obtain rfl : w = w' := hq.symm
  go_wp2_with fail
  go_region
  go_wp2
  go_ret
  refine ⟨rfl, ?_, ?_⟩
  · exact HQ.out.1.below ⟨rfl, rfl, rfl, Nat.le_refl _, fun _ _ => rfl⟩
  · exact HQ.out.2.drew
end
end Go.Proofs.Ytmmjgpdclodlfaa
