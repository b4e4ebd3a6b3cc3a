/- The revision above which a tuple may change. -/
import Derived.Test.YtmjdngomjjhhiaaGreatE24
namespace Go.Proofs.YtmjdngomjjhhiaaGreat
open Go.RowKit
open Go.Maps (Keyed)

section
variable {w : World} {wm : Int} {M : SM} {H : Gh} {cb : Nat} {t : Tp}
set_option maxRecDepth 100000 in
set_option maxHeartbeats 4000000 in
theorem latest_any (h : StAt w wm M H cb) (hf : t.fits) :
    Calls Tryz.prog 45 #[ptr H.g, tpV t] w fun e w' => e = .returned (.int .i64 (max wm (latestB (M.sp t)))) ∧ Below w.heap.size w w' := by
  obtain ⟨w0, hw0⟩ : ∃ w0, w0 = w.alloc (.cells #[.string t.o, .string t.r, .string t.u] 32) := ⟨_, rfl⟩
  have hb0 : Below w.heap.size w w0 := by rw [hw0]; exact below_alloc _ _
  have hT0 : Whole w0 w.heap.size 32 #[.string t.o, .string t.r, .string t.u] := by rw [hw0]; exact heap_alloc_new _ _
  have h0 := h.below hb0
  have hl := h0.raw.lookT hf w0.drew rfl
  obtain ⟨c0, c1, _⟩ := h0.raw.top.cells
  have c1 : w0.drew.cell? ⟨H.g, 1, none⟩ = some (.map (some H.be)) := c1
  have t0 : w0.drew.cell? ⟨w.heap.size, 0, none⟩ = some (.string t.o) := by show w0.cell? _ = _; rw [hT0.cell]; rfl
  have t1 : w0.drew.cell? ⟨w.heap.size, 1, none⟩ = some (.string t.r) := by show w0.cell? _ = _; rw [hT0.cell]; rfl
  have t2 : w0.drew.cell? ⟨w.heap.size, 2, none⟩ = some (.string t.u) := by show w0.cell? _ = _; rw [hT0.cell]; rfl
  have H0 := Lib.hid h0
  have HB0 := Lib.hid hb0
  have d0 : w0.drew.drew.cell? ⟨H.g, 0, none⟩ = some (.int .i64 wm) := c0
  have d1 : w0.drew.cell? ⟨H.g, 0, none⟩ = some (.int .i64 wm) := c0
  have hwm := h.raw.wm0
  by_cases ht : t ∈ M.K
  · rw [if_pos ht, decide_eq_true ht] at hl
    obtain ⟨a, c, _, hA⟩ := (h0.raw.ents t ht).at_
    have hne := (h.ok.ok t ht).ne
    have HL := Lib.hid (fun W (hW : Below w0.heap.size w0 W) => elatest_any (hA.below hW) hne)
    generalize latestB (M.sp t) = lt at *
    clear h hb0 hT0 h0 hA hne
    go_enter Tryz.func45, Tryz.ntmps45
    go_upto_region 1 with fail
    rw [← hw0]
    clear hw0
    go_region
    go_upto_region 4 with fail
    clear hl t0 t1 t2 c1
    go_region_held3 (fun W : World => W.cell? ⟨H.g, 0, none⟩ = some (.int .i64 wm)) (first | assumption | exact (((below_drew1 w0).trans ((below_drew1 _).mono (Nat.le_refl _))).cell (p := ⟨H.g, 0, none⟩) H0.out.raw.top.blk.lt).trans c0) (first
      | (go_at_call 68; refine (HL.out _ (bell_up (below_drew1 w0) (below_drew1 _))).mono ?_; rintro e w1 ⟨rfl, hb1⟩
         have hb2 := bell_up (bell_up (below_drew1 w0) (below_drew1 _)) hb1
         have hc2 := (hb2.cell (p := ⟨H.g, 0, none⟩) H0.out.raw.top.blk.lt).trans c0
         have HB2 := Lib.hid (bell_up HB0.out hb2)
         clear hb1 hb2))
    all_goals
      go_wp2
      go_ret
      exact ⟨rfl, HB2.out⟩
  · rw [if_neg ht, decide_eq_false ht] at hl
    have hz : max wm (latestB (M.sp t)) = wm := by
      rw [h.ok.no t ht]
      show max wm 0 = wm
      omega
    rw [hz]
    clear h hb0 hT0 h0 hz
    go_enter Tryz.func45, Tryz.ntmps45
    go_upto_region 1 with fail
    rw [← hw0]
    clear hw0
    go_region
    clear hl t0 t1 t2 c1
    go_wp2
    go_ret
    exact ⟨rfl, bell_up HB0.out (below_drew1 _)⟩
end
end Go.Proofs.YtmjdngomjjhhiaaGreat
