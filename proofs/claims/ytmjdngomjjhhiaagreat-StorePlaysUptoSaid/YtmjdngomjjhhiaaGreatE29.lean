/- Has. -/
import Derived.Test.YtmjdngomjjhhiaaGreatE28
namespace Go.Proofs.YtmjdngomjjhhiaaGreat
open Go.RowKit
open Go.Maps (Keyed)

section
variable {w : World} {wm : Int} {M : SM} {H : Gh} {cb : Nat} {t : Tp}
/-- What a read finds. -/
def hasB (M : SM) (wm rev : Int) (t : Tp) : Bool := if readableB wm rev = 0 then spThere (M.sp t) rev else false
theorem readableB_cases (wm rev : Int) : readableB wm rev = 0 ∨ readableB wm rev ≠ 0 := by omega
set_option maxRecDepth 100000 in
set_option maxHeartbeats 4000000 in
theorem has_any (h : StAt w wm M H cb) (hf : t.fits) (hcb : cb ≤ 1099511627776) (rev : Int) :
    Calls Tryz.prog 13 #[ptr H.g, tpV t, .int .i64 rev] w fun e w' => e = .returned (.tuple #[.bool (hasB M wm rev t), .int .i64 (readableB wm rev)]) ∧ Below w.heap.size w w' := by
  obtain ⟨w0, hw0⟩ : ∃ w0, w0 = w.alloc (.cells #[.string t.o, .string t.r, .string t.u] 32) := ⟨_, rfl⟩
  have hb0 : Below w.heap.size w w0 := by rw [hw0]; exact below_alloc _ _
  have hT0 : Whole w0 w.heap.size 32 #[.string t.o, .string t.r, .string t.u] := by rw [hw0]; exact heap_alloc_new _ _
  have h0 := h.below hb0
  have HRD := Lib.hid (readable_any h0.raw.top rev)
  have hl := h0.raw.lookT hf w0.drew rfl
  obtain ⟨c0, c1, _⟩ := h0.raw.top.cells
  have c1 : w0.drew.cell? ⟨H.g, 1, none⟩ = some (.map (some H.be)) := c1
  have t0 : w0.drew.cell? ⟨w.heap.size, 0, none⟩ = some (.string t.o) := by show w0.cell? _ = _; rw [hT0.cell]; rfl
  have t1 : w0.drew.cell? ⟨w.heap.size, 1, none⟩ = some (.string t.r) := by show w0.cell? _ = _; rw [hT0.cell]; rfl
  have t2 : w0.drew.cell? ⟨w.heap.size, 2, none⟩ = some (.string t.u) := by show w0.cell? _ = _; rw [hT0.cell]; rfl
  have HB0 := Lib.hid hb0
  have hhb : hasB M wm rev t = if readableB wm rev = 0 then spThere (M.sp t) rev else false := rfl
  generalize hasB M wm rev t = hv at *
  generalize readableB wm rev = rc at *
  by_cases hr : rc = 0
  · subst hr
    rw [if_pos rfl] at hhb
    by_cases ht : t ∈ M.K
    · rw [if_pos ht, decide_eq_true ht] at hl
      obtain ⟨a, c, _, hA⟩ := (h0.raw.ents t ht).at_
      have hln := h0.raw.bigS t
      have HTH := Lib.hid (thereAt_any (hA.below (below_drew1 w0)) (h0.ok.ok t ht) (by omega) rev)
      rw [← hhb] at HTH
      clear h hb0 hT0 h0 hhb hA hln c0
      go_enter Tryz.func13, Tryz.ntmps13
      go_upto_region 1 with fail
      rw [← hw0]
      clear hw0
      go_wp2_with fail
      refine HRD.out.mono ?_
      rintro _ w1 ⟨rfl, rfl⟩
      go_upto_region 4 with fail
      go_region
      clear hl c1 t0 t1 t2
      go_wp2_with fail
      refine HTH.out.mono ?_
      rintro _ w2 ⟨rfl, hb2⟩
      have HB2 := Lib.hid (bell_up HB0.out (bell_up (below_drew1 _) hb2))
      clear hb2
      go_wp2
      go_ret2
      exact ⟨rfl, HB2.out⟩
    · rw [if_neg ht, decide_eq_false ht] at hl
      have hz : hv = false := by rw [hhb, h0.ok.no t ht]; rfl
      subst hz
      clear h hb0 hT0 h0 hhb c0
      go_enter Tryz.func13, Tryz.ntmps13
      go_upto_region 1 with fail
      rw [← hw0]
      clear hw0
      go_wp2_with fail
      refine HRD.out.mono ?_
      rintro _ w1 ⟨rfl, rfl⟩
      go_upto_region 4 with fail
      go_region
      clear hl c1 t0 t1 t2
      go_wp2
      go_ret2
      exact ⟨rfl, bell_up HB0.out (below_drew1 _)⟩
  · rw [if_neg hr] at hhb
    subst hhb
    clear h hb0 hT0 h0 hl c0 c1 t0 t1 t2
    go_enter Tryz.func13, Tryz.ntmps13
    go_upto_region 1 with fail
    rw [← hw0]
    clear hw0
    go_wp2_with fail
    refine HRD.out.mono ?_
    rintro _ w1 ⟨rfl, rfl⟩
    go_wp2
    go_ret2
    exact ⟨rfl, HB0.out⟩
end
end Go.Proofs.YtmjdngomjjhhiaaGreat
