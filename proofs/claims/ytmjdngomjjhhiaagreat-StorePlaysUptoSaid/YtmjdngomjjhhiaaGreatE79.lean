/- StorePlays: one step. -/
import Derived.Test.YtmjdngomjjhhiaaGreatE78
import Derived.Test.YtmjdngomjjhhiaaGreatE79a
import Derived.StillTailTactics
import Derived.Deep.RegionLaw
namespace Go.Proofs.YtmjdngomjjhhiaaGreat
open Go.RowKit
open Go.Maps (Keyed)

/-- What a step leaves. -/
structure StpE (W0 w : World) (H0 : Gh) (w' : World) (g c : Nat) (M : SM) (H : Gh) (wm : Int) (R : List Rw) (v : Value) : Prop where
  one : OneW W0 w' g M H wm (5 * c)
  dr : DR w' H.own R v
  rep : Rep ltT M R
  len : R.length ≤ c
  k : StC w w' H0 H
theorem Rs.fin {W0 w V : World} {H0 : Gh} {g : Nat} {M : SM} {H : Gh} {wm : Int} {c : Nat} {q1 : Nat} {oc : Array Value} {q2 qx : Nat} {R : List Rw} {v : Value} {wn : Int} {st : Bool} (h : Rs W0 w H0 V g M H wm (5 * c) q1 oc q2 qx R v wn st) (hp : Rep ltT M R) (hl : R.length ≤ c) : StpE W0 w H0 V g c M H wm R v :=
  ⟨h.one, h.dr.keep (Nat.le_refl _) (fun _ _ _ => rfl) (fun _ _ hb => .inl hb), hp, hl, h.k⟩
abbrev opC (dk drev : Int) (dma : Option Addr) (mn dmc : Nat) (dra : Option Addr) (rn drc : Nat) (doa : Option Addr) (on doc : Nat) (dt : Tp) : Array Value := #[.int .i64 dk, .int .i64 drev, .slice dma mn dmc, .slice dra rn drc, .slice doa on doc, .string dt.o, .string dt.r, .string dt.u]
set_option maxHeartbeats 16000000 in
set_option maxRecDepth 100000 in
theorem step_any {W0 w : World} {g : Nat} {M : SM} {H : Gh} {wm : Int} {c : Nat} (h : OneW W0 w g M H wm (5 * c)) {R : List Rw} {v : Value} (hd : DR w H.own R v) (hp : Rep ltT M R) (hl : R.length ≤ c) (d : OpD) (ho : OpOk W0 d) (hc : c + d.cost ≤ 2000000) :
    Calls Tryz.prog 7 #[ptr g, stV v wm, .agg d.vals.toArray] w fun e w' => ∃ M' H' wm' R' v', e = .returned (.tuple #[stV v' wm', .bool true]) ∧ StpE W0 w H w' g (c + d.cost) M' H' wm' R' v' := by
  obtain ⟨dk, drev, dma, dml, dmc, dra, drl, drc, doa, dol, doc, dt⟩ := d
  obtain ⟨hmu, hro, hob, hfit⟩ := ho
  simp only at hmu hro hob hfit
  have hcost : OpD.cost ⟨dk, drev, dma, dml, dmc, dra, drl, drc, doa, dol, doc, dt⟩ = dml.length + drl.length + dol.length := rfl
  rw [hcost] at hc ⊢
  show Calls _ _ #[ptr g, stV v wm, .agg (opC dk drev dma dml.length dmc dra drl.length drc doa dol.length doc dt)] _ _
  obtain ⟨w0, hw0⟩ : ∃ w0, w0 = (((w.alloc (.cells #[v, .int .i64 wm] 28)).alloc (.cells (opC dk drev dma dml.length dmc dra drl.length drc doa dol.length doc dt) 34)).alloc (.cells #[.slice none 0 0, .int .i64 0] 28)) := ⟨_, rfl⟩
  obtain ⟨hb0, hx0, hx1, hx2⟩ := three_boxes w v wm (opC dk drev dma dml.length dmc dra drl.length drc doa dol.length doc dt)
  rw [← hw0] at hb0 hx0 hx1 hx2
  obtain ⟨q0, hq0⟩ : ∃ q0, q0 = w.heap.size := ⟨_, rfl⟩
  have hn0 : ∀ k, w.heap.size ≤ k → ¬ H.own k := fun k hk hown => by have := h.a.raw.own_lt hown; omega
  have hW0 := h.bel.size
  have HLW := Lib.hid (show w.heap.size ≤ q0 + 1 + 1 by omega)
  have HB0 := Lib.hid hb0
  rw [← hq0] at hx0 hx1 hx2 hn0 hW0
  have hx2 : Whole w0 (q0 + 1 + 1) 28 #[.slice none 0 0, .int .i64 0] := hx2
  have hX : ∀ b, (H.own b ∨ b = q0 + 1 + 1) → b < w0.heap.size := fun b hb => by
    rcases hb with h1 | h1
    · have h2 := h.a.raw.own_lt h1
      have h3 := hb0.size
      omega
    · rw [h1]; exact hx2.lt
  have hd0 : DR w0 (fun b => H.own b ∨ b = q0 + 1 + 1) R v := hd.keep hb0.size (fun b hl _ => hb0.block b hl) (fun b hl hb => hb.elim id (fun e => by omega))
  have h0 := h.below hb0
  have c0 : w0.cell? ⟨q0, 0, none⟩ = some v := by rw [hx0.cell]; rfl
  have c1 : w0.cell? ⟨q0, 1, none⟩ = some (.int .i64 wm) := by rw [hx0.cell]; rfl
  have k0 : w0.cell? ⟨q0 + 1, 0, none⟩ = some (.int .i64 dk) := by rw [hx1.cell]; rfl
  have k1 : w0.cell? ⟨q0 + 1, 1, none⟩ = some (.int .i64 drev) := by rw [hx1.cell]; rfl
  have k2 : w0.cell? ⟨q0 + 1, 2, none⟩ = some (.slice dma dml.length dmc) := by rw [hx1.cell]; rfl
  have k3 : w0.cell? ⟨q0 + 1, 3, none⟩ = some (.slice dra drl.length drc) := by rw [hx1.cell]; rfl
  have k4 : w0.cell? ⟨q0 + 1, 4, none⟩ = some (.slice doa dol.length doc) := by rw [hx1.cell]; rfl
  have k5 : w0.cell? ⟨q0 + 1, 5, none⟩ = some (.string dt.o) := by rw [hx1.cell]; rfl
  have k6 : w0.cell? ⟨q0 + 1, 6, none⟩ = some (.string dt.r) := by rw [hx1.cell]; rfl
  have k7 : w0.cell? ⟨q0 + 1, 7, none⟩ = some (.string dt.u) := by rw [hx1.cell]; rfl
  obtain ⟨ra0, rc0, rfl, _⟩ := hd.slice
  have HRS0 := Lib.hid (show Rs W0 w H w0 g M H wm (5 * c) (q0 + 1) (opC dk drev dma dml.length dmc dra drl.length drc doa dol.length doc dt) (q0 + 1 + 1) q0 R (.slice ra0 R.length rc0) wm false from ⟨h0, hd0, hx1, hx2, hx0, hn0 _ (by omega), hn0 _ (by omega), hn0 _ (by omega), by omega, by omega, by omega, StC.ofBelow H hb0, HLW.out⟩)
  have HX := Lib.hid hX
  have HD0 := Lib.hid hd0
  have HO := Lib.hid h0
  have HX1 := Lib.hid hx1
  have HX2 := Lib.hid hx2
  have HN0 := Lib.hid hn0
  have HSZ := Lib.hid hW0
  have HOK := Lib.hid h.a.ok
  have HP := Lib.hid hp
  have HLL := Lib.hid hl
  have HC := Lib.hid hc
  have HMU := Lib.hid hmu
  have HRO := Lib.hid hro
  have HOB := Lib.hid hob
  have HFT := Lib.hid hfit
  clear h hd hp hl hmu hro hob hfit hc hcost hb0 hx0 hx1 hx2 hn0 hW0 hX hd0 h0
  by_cases e0 : dk = 0
  · subst e0
    have HDC := Lib.hid (rapply_any (c := dmc) HX.out HD0.out (by have := HLL.out; have := HC.out; omega) HP.out HOK.out (HMU.out.below HO.out.bel) wm drev)
    go_enter Tryz.func7, Tryz.ntmps7
    go_upto_region 1 with fail
    rw [← hw0, ← hq0]
    clear hw0 hq0
    generalize hce : chkE M wm drev dml = ce at *
    have HCE := Lib.hid hce
    clear hce
    go_wp2_with fail
    refine HDC.out.mono ?_
    rintro _ w1 ⟨v1, rfl, hd1, hb1⟩
    generalize hR1 : (if ce = 0 then applyR ltT R drev dml else R) = R1 at *
    have HR1 := Lib.hid hR1
    obtain ⟨ra1, rc1, rfl, _⟩ := hd1.slice
    obtain ⟨w2, hw2⟩ : ∃ w2, w2 = w1.alloc (.cells #[.slice ra1 R1.length rc1, .int .i64 wm] 28) := ⟨_, rfl⟩
    have hb2 : Below w1.heap.size w1 w2 := by rw [hw2]; exact below_alloc _ _
    have hx8 : Whole w2 w1.heap.size 28 #[.slice ra1 R1.length rc1, .int .i64 wm] := by rw [hw2]; exact heap_alloc_new _ _
    obtain ⟨q8, hq8⟩ : ∃ q8, q8 = w1.heap.size := ⟨_, rfl⟩
    rw [← hq8] at hx8
    have hl2 := HX2.out.lt
    have hs1 := hb1.size
    have HR2 := Lib.hid (show Rs W0 w H w2 g M H wm (5 * c) (q0 + 1) (opC 0 drev dma dml.length dmc dra drl.length drc doa dol.length doc dt) (q0 + 1 + 1) q8 R1 (.slice ra1 R1.length rc1) wm false from ⟨(HO.out.below hb1).below hb2, hd1.below hb2, (HX1.out.kept (hb1.block _ HX1.out.lt)).kept (hb2.block _ (by have := HX1.out.lt; omega)), (HX2.out.kept (hb1.block _ HX2.out.lt)).kept (hb2.block _ (by omega)), hx8, HN0.out _ (by omega), HN0.out _ (by omega), HN0.out _ (by omega), by omega, by omega, by have := HSZ.out; omega, StC.ofBelow H (bell_up (bell_up HB0.out hb1) hb2), HLW.out⟩)
    clear hR1 hb1 hb2 hx8 hd1 hl2 hs1 HO HX1 HX2 HDC HD0 HRS0 c0 c1 k0 k1 k2 k3 k4 k5 k6 k7
    have HCK := Lib.hid (show ∀ V st, Rs W0 w H V g M H wm (5 * c) (q0 + 1) (opC 0 drev dma dml.length dmc dra drl.length drc doa dol.length doc dt) (q0 + 1 + 1) q8 R1 (.slice ra1 R1.length rc1) wm st → Calls Tryz.prog 22 #[ptr g, .int .i64 drev, .slice dma dml.length dmc] V fun e V' => e = .returned (.int .i64 ce) ∧ Rs W0 w H V' g M H wm (5 * c) (q0 + 1) (opC 0 drev dma dml.length dmc dra drl.length drc doa dol.length doc dt) (q0 + 1 + 1) q8 R1 (.slice ra1 R1.length rc1) wm st from fun V st hR => by
      have hp := scheck_any hR.one.a (c := dmc) (HMU.out.below hR.one.bel) (by have := HC.out; omega) drev
      rw [hR.one.ga, HCE.out] at hp
      refine hp.mono ?_
      rintro e V' ⟨he, hb⟩
      exact ⟨he, hR.below hb⟩)
    have HRL := Lib.hid (show R1.length ≤ c + (dml.length + drl.length + dol.length) from by
      rw [← HR1.out]
      have := HLL.out
      split
      · have h2 := applyR_len R drev dml dml.length
        rw [List.take_length] at h2
        omega
      · omega)
    have HAP := Lib.hid (show ∀ V st, Rs W0 w H V g M H wm (5 * c) (q0 + 1) (opC 0 drev dma dml.length dmc dra drl.length drc doa dol.length doc dt) (q0 + 1 + 1) q8 R1 (.slice ra1 R1.length rc1) wm st → Calls Tryz.prog 11 #[ptr g, .int .i64 drev, .slice dma dml.length dmc] V fun e V' => e = .returned (.int .i64 ce) ∧ ∃ M' H', Rs W0 w H V' g M' H' wm (5 * (c + (dml.length + drl.length + dol.length))) (q0 + 1) (opC 0 drev dma dml.length dmc dra drl.length drc doa dol.length doc dt) (q0 + 1 + 1) q8 R1 (.slice ra1 R1.length rc1) wm st ∧ Rep ltT M' R1 from fun V st hR => by
      have hp := apply_any hR.one.a (c := dmc) (HMU.out.below hR.one.bel) (HMU.out.apart hR.one.oa) (by have := HC.out; omega) drev
      rw [hR.one.ga, HCE.out] at hp
      refine hp.mono ?_
      rintro e V' ⟨he, H', hs, hk⟩
      refine ⟨he, _, H', hR.call (hs.mono (by omega)) hk, ?_⟩
      rw [← HR1.out]
      split
      · next h0 =>
        obtain ⟨k1, k2, k3, _⟩ := chkE_zero (HCE.out.trans h0)
        exact HP.out.apply ordT k1 k2 HOK.out k3
      · exact HP.out)
    go_upto_region 4 with fail
    rw [← hw2, ← hq8]
    clear hw2 hq8
    have HRA := Lib.hid HR2.out.drew
    have HRB := Lib.hid HRA.out.put
    obtain ⟨⟨xa1, xb1⟩, fa1, fb1⟩ := HRA.out.cells
    have o11 : w2.drew.cell? ⟨q0 + 1, 1, none⟩ = some (.int .i64 drev) := by rw [HRA.out.x1.cell]; rfl
    have o21 : w2.drew.cell? ⟨q0 + 1, 2, none⟩ = some (.slice dma dml.length dmc) := by rw [HRA.out.x1.cell]; rfl
    obtain ⟨za1, zb1⟩ := HRA.out.old
    obtain ⟨⟨xa2, xb2⟩, fa2, fb2⟩ := HRB.out.cells
    have o12 : ((w2.drew.setCell ⟨q0 + 1 + 1, 0, none⟩ (.slice ra1 R1.length rc1)).setCell ⟨q0 + 1 + 1, 1, none⟩ (.int .i64 wm)).cell? ⟨q0 + 1, 1, none⟩ = some (.int .i64 drev) := by rw [HRB.out.x1.cell]; rfl
    have o22 : ((w2.drew.setCell ⟨q0 + 1 + 1, 0, none⟩ (.slice ra1 R1.length rc1)).setCell ⟨q0 + 1 + 1, 1, none⟩ (.int .i64 wm)).cell? ⟨q0 + 1, 2, none⟩ = some (.slice dma dml.length dmc) := by rw [HRB.out.x1.cell]; rfl
    obtain ⟨za2, zb2⟩ := HRB.out.new
    have HKS := Lib.hid (show ∀ V st, Rs W0 w H V g M H wm (5 * c) (q0 + 1) (opC 0 drev dma dml.length dmc dra drl.length drc doa dol.length doc dt) (q0 + 1 + 1) q8 R1 (.slice ra1 R1.length rc1) wm st → (V.cell? ⟨q8, 0, none⟩ = some (.slice ra1 R1.length rc1) ∧ V.cell? ⟨q8, 1, none⟩ = some (.int .i64 wm)) ∧ (V.cell? ⟨q0 + 1, 1, none⟩ = some (.int .i64 drev) ∧ V.cell? ⟨q0 + 1, 2, none⟩ = some (.slice dma dml.length dmc)) from fun V st hR => ⟨hR.cells.1, by rw [hR.x1.cell]; rfl, by rw [hR.x1.cell]; rfl⟩)
    have HKT := Lib.hid (show ∀ V st M' H' c', Rs W0 w H V g M' H' wm c' (q0 + 1) (opC 0 drev dma dml.length dmc dra drl.length drc doa dol.length doc dt) (q0 + 1 + 1) q8 R1 (.slice ra1 R1.length rc1) wm st → (V.cell? ⟨q8, 0, none⟩ = some (.slice ra1 R1.length rc1) ∧ V.cell? ⟨q8, 1, none⟩ = some (.int .i64 wm)) ∧ (V.cell? ⟨q0 + 1, 1, none⟩ = some (.int .i64 drev) ∧ V.cell? ⟨q0 + 1, 2, none⟩ = some (.slice dma dml.length dmc)) from fun V st M' H' c' hR => ⟨hR.cells.1, by rw [hR.x1.cell]; rfl, by rw [hR.x1.cell]; rfl⟩)
    have hs1 := HKS.out _ _ HRA.out
    have hs2 := HKS.out _ _ HRB.out
    have HRA1 := Lib.hid (HR2.out.below (below_drewN w2 1))
    go_region_held3 (fun W : World => (W.cell? ⟨q8, 0, none⟩ = some (.slice ra1 R1.length rc1) ∧ W.cell? ⟨q8, 1, none⟩ = some (.int .i64 wm)) ∧ (W.cell? ⟨q0 + 1, 1, none⟩ = some (.int .i64 drev) ∧ W.cell? ⟨q0 + 1, 2, none⟩ = some (.slice dma dml.length dmc))) (first | assumption | with_reducible exact HKS.out _ _ HRA1.out) (first
      | (go_at_call 22; (with_reducible refine (HCK.out _ false HRA.out).mono ?_); rintro e w3 ⟨rfl, hr3⟩
         have HR3 := Lib.hid hr3
         have hs3 := HKS.out _ _ hr3
         clear hr3
         obtain ⟨⟨xa3, xb3⟩, fa3, fb3⟩ := HR3.out.cells
         obtain ⟨za3, zb3⟩ := HR3.out.old
         have HR3P := Lib.hid HR3.out.put
         have hs4 := HKS.out _ _ HR3P.out)
      | (go_at_call 22; (with_reducible refine (HCK.out _ true HRB.out).mono ?_); rintro e w3 ⟨rfl, hr3⟩
         have HR3 := Lib.hid hr3
         have hs3 := HKS.out _ _ hr3
         clear hr3
         obtain ⟨⟨xa3, xb3⟩, fa3, fb3⟩ := HR3.out.cells
         obtain ⟨za3, zb3⟩ := HR3.out.new)
      | (go_at_call 11; (with_reducible refine (HAP.out _ false HR3.out).mono ?_); rintro e w4 ⟨rfl, M4, H4, hr4, hp4⟩
         have HRZ := Lib.hid hr4
         have HRP := Lib.hid hp4
         have hs5 := HKT.out _ _ _ _ _ hr4
         have hs6 := HKT.out _ _ _ _ _ hr4.put
         clear hr4 hp4
         obtain ⟨⟨xa5, xb5⟩, fa5, fb5⟩ := HRZ.out.cells
         obtain ⟨za5, zb5⟩ := HRZ.out.old)
      | (go_at_call 11; (with_reducible refine (HAP.out _ true HR3.out).mono ?_); rintro e w4 ⟨rfl, M4, H4, hr4, hp4⟩
         have HRZ := Lib.hid hr4
         have HRP := Lib.hid hp4
         have hs5 := HKT.out _ _ _ _ _ hr4
         clear hr4 hp4
         obtain ⟨⟨xa5, xb5⟩, fa5, fb5⟩ := HRZ.out.cells
         obtain ⟨za5, zb5⟩ := HRZ.out.new)
      | (go_at_call 11; (with_reducible refine (HAP.out _ true HR3P.out).mono ?_); rintro e w4 ⟨rfl, M4, H4, hr4, hp4⟩
         have HRZ := Lib.hid hr4
         have HRP := Lib.hid hp4
         have hs5 := HKT.out _ _ _ _ _ hr4
         clear hr4 hp4
         obtain ⟨⟨xa5, xb5⟩, fa5, fb5⟩ := HRZ.out.cells
         obtain ⟨za5, zb5⟩ := HRZ.out.new))
    all_goals
      first
        | (have HE := Lib.hid HRZ.out.put; have HEN := HE.out.new)
        | (have HE := Lib.hid HRZ.out; have HEN := HE.out.new)
      obtain ⟨n0, n1⟩ := HEN
      go_wp2
      refine bodyPost_ret (v := .tuple #[stV (.slice ra1 R1.length rc1) wm, .bool true]) (by simp [results, Tryz.results7, go_sem, n0, n1]) rfl ⟨_, _, _, _, _, rfl, HE.out.fin HRP.out HRL.out⟩
  · by_cases e1 : dk = 1
    · subst e1
      have HDC := Lib.hid (rload_any (c := drc) HX.out HD0.out (by have := HLL.out; have := HC.out; omega) HP.out HOK.out (HRO.out.below HO.out.bel) wm)
      go_enter Tryz.func7, Tryz.ntmps7
      go_upto_region 1 with fail
      rw [← hw0, ← hq0]
      clear hw0 hq0
      generalize hce : ldE M drl = ce at *
      have HCE := Lib.hid hce
      clear hce
      go_wp2_with fail
      refine HDC.out.mono ?_
      rintro _ w1 ⟨v1, rfl, hd1, hb1⟩
      generalize hR1 : (if ce = 0 then loadR ltT R drl else R) = R1 at *
      have HR1 := Lib.hid hR1
      obtain ⟨ra1, rc1, rfl, _⟩ := hd1.slice
      obtain ⟨w2, hw2⟩ : ∃ w2, w2 = w1.alloc (.cells #[.slice ra1 R1.length rc1, .int .i64 wm] 28) := ⟨_, rfl⟩
      have hb2 : Below w1.heap.size w1 w2 := by rw [hw2]; exact below_alloc _ _
      have hx8 : Whole w2 w1.heap.size 28 #[.slice ra1 R1.length rc1, .int .i64 wm] := by rw [hw2]; exact heap_alloc_new _ _
      obtain ⟨q8, hq8⟩ : ∃ q8, q8 = w1.heap.size := ⟨_, rfl⟩
      rw [← hq8] at hx8
      have hl2 := HX2.out.lt
      have hs1 := hb1.size
      have HR2 := Lib.hid (show Rs W0 w H w2 g M H wm (5 * c) (q0 + 1) (opC 1 drev dma dml.length dmc dra drl.length drc doa dol.length doc dt) (q0 + 1 + 1) q8 R1 (.slice ra1 R1.length rc1) wm false from ⟨(HO.out.below hb1).below hb2, hd1.below hb2, (HX1.out.kept (hb1.block _ HX1.out.lt)).kept (hb2.block _ (by have := HX1.out.lt; omega)), (HX2.out.kept (hb1.block _ HX2.out.lt)).kept (hb2.block _ (by omega)), hx8, HN0.out _ (by omega), HN0.out _ (by omega), HN0.out _ (by omega), by omega, by omega, by have := HSZ.out; omega, StC.ofBelow H (bell_up (bell_up HB0.out hb1) hb2), HLW.out⟩)
      clear hR1 hb1 hb2 hx8 hd1 hl2 hs1 HO HX1 HX2 HDC HD0 HRS0 c0 c1 k0 k1 k2 k3 k4 k5 k6 k7
      have HRL := Lib.hid (show R1.length ≤ c + (dml.length + drl.length + dol.length) from by
        rw [← HR1.out]
        have := HLL.out
        split
        · have h2 := loadR_len R drl drl.length
          rw [List.take_length] at h2
          omega
        · omega)
      have HAP := Lib.hid (show ∀ V st, Rs W0 w H V g M H wm (5 * c) (q0 + 1) (opC 1 drev dma dml.length dmc dra drl.length drc doa dol.length doc dt) (q0 + 1 + 1) q8 R1 (.slice ra1 R1.length rc1) wm st → Calls Tryz.prog 24 #[ptr g, .slice dra drl.length drc] V fun e V' => e = .returned (.int .i64 ce) ∧ ∃ M' H', Rs W0 w H V' g M' H' wm (5 * (c + (dml.length + drl.length + dol.length))) (q0 + 1) (opC 1 drev dma dml.length dmc dra drl.length drc doa dol.length doc dt) (q0 + 1 + 1) q8 R1 (.slice ra1 R1.length rc1) wm st ∧ Rep ltT M' R1 from fun V st hR => by
        have hp := load_any hR.one.a (c := drc) (HRO.out.below hR.one.bel) (HRO.out.apart hR.one.oa) (by have := HC.out; omega) (by have := HC.out; omega)
        rw [hR.one.ga, HCE.out] at hp
        refine hp.mono ?_
        rintro e V' ⟨he, H', hs, hk⟩
        refine ⟨he, _, H', hR.call (hs.mono (by omega)) hk, ?_⟩
        rw [← HR1.out]
        split
        · next h0 => exact HP.out.load ordT HOK.out (ldE_ok HOK.out (HCE.out.trans h0))
        · exact HP.out)
      go_upto_region 7 with fail
      rw [← hw2, ← hq8]
      clear hw2 hq8
      have HRA := Lib.hid HR2.out.drew
      have HRB := Lib.hid HRA.out.put
      obtain ⟨⟨xa1, xb1⟩, fa1, fb1⟩ := HRA.out.cells
      have o31 : w2.drew.cell? ⟨q0 + 1, 3, none⟩ = some (.slice dra drl.length drc) := by rw [HRA.out.x1.cell]; rfl
      obtain ⟨za1, zb1⟩ := HRA.out.old
      obtain ⟨⟨xa2, xb2⟩, fa2, fb2⟩ := HRB.out.cells
      have o32 : ((w2.drew.setCell ⟨q0 + 1 + 1, 0, none⟩ (.slice ra1 R1.length rc1)).setCell ⟨q0 + 1 + 1, 1, none⟩ (.int .i64 wm)).cell? ⟨q0 + 1, 3, none⟩ = some (.slice dra drl.length drc) := by rw [HRB.out.x1.cell]; rfl
      obtain ⟨za2, zb2⟩ := HRB.out.new
      go_region_law (first
        | (go_simp; go_at_call 24; with_reducible refine (HAP.out _ false HRA.out).mono ?_
           rintro _ w4 ⟨rfl, M4, H4, hr4, hp4⟩
           have HRZ := Lib.hid hr4
           have HRP := Lib.hid hp4
           clear hr4 hp4
           obtain ⟨⟨xa5, xb5⟩, fa5, fb5⟩ := HRZ.out.cells
           obtain ⟨za5, zb5⟩ := HRZ.out.old)
        | (go_simp; go_at_call 24; with_reducible refine (HAP.out _ true HRB.out).mono ?_
           rintro _ w4 ⟨rfl, M4, H4, hr4, hp4⟩
           have HRZ := Lib.hid hr4
           have HRP := Lib.hid hp4
           clear hr4 hp4
           obtain ⟨⟨xa5, xb5⟩, fa5, fb5⟩ := HRZ.out.cells
           obtain ⟨za5, zb5⟩ := HRZ.out.new))
      all_goals
        first
          | (have HE := Lib.hid HRZ.out.put; have HEN := HE.out.new)
          | (have HE := Lib.hid HRZ.out; have HEN := HE.out.new)
        obtain ⟨n0, n1⟩ := HEN
        go_wp2
        refine bodyPost_ret (v := .tuple #[stV (.slice ra1 R1.length rc1) wm, .bool true]) (by simp [results, Tryz.results7, go_sem, n0, n1]) rfl ⟨_, _, _, _, _, rfl, HE.out.fin HRP.out HRL.out⟩
    · by_cases e2 : dk = 2
      · subst e2
        have HDC := Lib.hid (rcollect_all HX.out HD0.out (by have := HLL.out; have := HC.out; omega) wm drev)
        go_enter Tryz.func7, Tryz.ntmps7
        go_upto_region 1 with fail
        rw [← hw0, ← hq0]
        clear hw0 hq0
        generalize hce : colE wm drev = ce at *
        have HCE := Lib.hid hce
        clear hce
        go_wp2_with fail
        refine HDC.out.mono ?_
        rintro _ w1 ⟨v1, rfl, hd1, hb1⟩
        generalize hR1 : (if ce = 0 then collectR R drev else R) = R1 at *
        generalize hwn : (if ce = 0 then drev else wm) = wn at *
        have HR1 := Lib.hid hR1
        have HWN := Lib.hid hwn
        obtain ⟨ra1, rc1, rfl, _⟩ := hd1.slice
        obtain ⟨w2, hw2⟩ : ∃ w2, w2 = w1.alloc (.cells #[.slice ra1 R1.length rc1, .int .i64 wn] 28) := ⟨_, rfl⟩
        have hb2 : Below w1.heap.size w1 w2 := by rw [hw2]; exact below_alloc _ _
        have hx8 : Whole w2 w1.heap.size 28 #[.slice ra1 R1.length rc1, .int .i64 wn] := by rw [hw2]; exact heap_alloc_new _ _
        obtain ⟨q8, hq8⟩ : ∃ q8, q8 = w1.heap.size := ⟨_, rfl⟩
        rw [← hq8] at hx8
        have hl2 := HX2.out.lt
        have hs1 := hb1.size
        have HR2 := Lib.hid (show Rs W0 w H w2 g M H wm (5 * c) (q0 + 1) (opC 2 drev dma dml.length dmc dra drl.length drc doa dol.length doc dt) (q0 + 1 + 1) q8 R1 (.slice ra1 R1.length rc1) wn false from ⟨(HO.out.below hb1).below hb2, hd1.below hb2, (HX1.out.kept (hb1.block _ HX1.out.lt)).kept (hb2.block _ (by have := HX1.out.lt; omega)), (HX2.out.kept (hb1.block _ HX2.out.lt)).kept (hb2.block _ (by omega)), hx8, HN0.out _ (by omega), HN0.out _ (by omega), HN0.out _ (by omega), by omega, by omega, by have := HSZ.out; omega, StC.ofBelow H (bell_up (bell_up HB0.out hb1) hb2), HLW.out⟩)
        clear hR1 hwn hb1 hb2 hx8 hd1 hl2 hs1 HO HX1 HX2 HDC HD0 HRS0 c0 c1 k0 k1 k2 k3 k4 k5 k6 k7
        have HRL := Lib.hid (show R1.length ≤ c + (dml.length + drl.length + dol.length) from by
          rw [← HR1.out]
          have := HLL.out
          split
          · have h2 := List.length_filter_le (fun x : Rw => decide (x.u = 0) || decide (drev < x.u)) R
            show (R.filter _).length ≤ _
            omega
          · omega)
        have HAP := Lib.hid (show ∀ V st, Rs W0 w H V g M H wm (5 * c) (q0 + 1) (opC 2 drev dma dml.length dmc dra drl.length drc doa dol.length doc dt) (q0 + 1 + 1) q8 R1 (.slice ra1 R1.length rc1) wn st → Calls Tryz.prog 26 #[ptr g, .int .i64 drev] V fun e V' => e = .returned (.int .i64 ce) ∧ ∃ M' H', Rs W0 w H V' g M' H' wn (5 * (c + (dml.length + drl.length + dol.length))) (q0 + 1) (opC 2 drev dma dml.length dmc dra drl.length drc doa dol.length doc dt) (q0 + 1 + 1) q8 R1 (.slice ra1 R1.length rc1) wn st ∧ Rep ltT M' R1 from fun V st hR => by
          have hp := collect_any hR.one.a (by have := HC.out; omega) drev
          rw [hR.one.ga, HCE.out, HWN.out] at hp
          refine hp.mono ?_
          rintro e V' ⟨he, H', hs, hk⟩
          refine ⟨he, _, H', hR.call (hs.mono (by omega)) hk, ?_⟩
          rw [← HR1.out]
          split
          · exact HP.out.collect drev
          · exact HP.out)
        go_upto_region 10 with fail
        rw [← hw2, ← hq8]
        clear hw2 hq8
        have HRA := Lib.hid HR2.out.drew
        have HRB := Lib.hid HRA.out.put
        obtain ⟨⟨xa1, xb1⟩, fa1, fb1⟩ := HRA.out.cells
        have o11 : w2.drew.cell? ⟨q0 + 1, 1, none⟩ = some (.int .i64 drev) := by rw [HRA.out.x1.cell]; rfl
        obtain ⟨za1, zb1⟩ := HRA.out.old
        obtain ⟨⟨xa2, xb2⟩, fa2, fb2⟩ := HRB.out.cells
        have o12 : ((w2.drew.setCell ⟨q0 + 1 + 1, 0, none⟩ (.slice ra1 R1.length rc1)).setCell ⟨q0 + 1 + 1, 1, none⟩ (.int .i64 wn)).cell? ⟨q0 + 1, 1, none⟩ = some (.int .i64 drev) := by rw [HRB.out.x1.cell]; rfl
        obtain ⟨za2, zb2⟩ := HRB.out.new
        go_region_law (first
          | (go_simp; go_at_call 26; with_reducible refine (HAP.out _ false HRA.out).mono ?_
             rintro _ w4 ⟨rfl, M4, H4, hr4, hp4⟩
             have HRZ := Lib.hid hr4
             have HRP := Lib.hid hp4
             clear hr4 hp4
             obtain ⟨⟨xa5, xb5⟩, fa5, fb5⟩ := HRZ.out.cells
             obtain ⟨za5, zb5⟩ := HRZ.out.old)
          | (go_simp; go_at_call 26; with_reducible refine (HAP.out _ true HRB.out).mono ?_
             rintro _ w4 ⟨rfl, M4, H4, hr4, hp4⟩
             have HRZ := Lib.hid hr4
             have HRP := Lib.hid hp4
             clear hr4 hp4
             obtain ⟨⟨xa5, xb5⟩, fa5, fb5⟩ := HRZ.out.cells
             obtain ⟨za5, zb5⟩ := HRZ.out.new))
        all_goals
          first
            | (have HE := Lib.hid HRZ.out.put; have HEN := HE.out.new)
            | (have HE := Lib.hid HRZ.out; have HEN := HE.out.new)
          obtain ⟨n0, n1⟩ := HEN
          go_wp2
          refine bodyPost_ret (v := .tuple #[stV (.slice ra1 R1.length rc1) wn, .bool true]) (by simp [results, Tryz.results7, go_sem, n0, n1]) rfl ⟨_, _, _, _, _, rfl, HE.out.fin HRP.out HRL.out⟩
      · by_cases e3 : dk = 3
        · subst e3
          have HDR := Lib.hid (drop_any HO.out.a (by have := HC.out; omega) (c := doc) (HOB.out.below HO.out.bel) (by have := HC.out; omega) (HOB.out.apart HO.out.oa))
          go_enter Tryz.func7, Tryz.ntmps7
          go_upto_region 1 with fail
          rw [← hw0, ← hq0]
          clear hw0 hq0
          have hdr := HDR.out
          rw [HO.out.ga] at hdr
          have HDR := Lib.hid hdr
          clear hdr
          go_wp2_with fail
          refine HDR.out.mono ?_
          rintro _ w1 ⟨rfl, H1, hs1, hk1⟩
          have HR1 := Lib.hid (HRS0.out.call (hs1.mono (show 5 * c ≤ 5 * (c + (dml.length + drl.length + dol.length)) by omega)) hk1)
          clear hs1 hk1 HDR HRS0 c0 c1 k0 k1 k2 k3 k4 k5 k6 k7
          obtain ⟨_, _, e, hra⟩ := HR1.out.dr.slice
          injection e with e1 e2 e3
          subst e1 e3
          clear e2
          have HDD := Lib.hid (rdrop_any (rc := rc0) (c := doc) hra (by have := HLL.out; have := HC.out; omega) (HOB.out.below HR1.out.one.bel) (by have := HC.out; omega) wm)
          clear hra
          obtain ⟨⟨xa1, xb1⟩, fa1, fb1⟩ := HR1.out.cells
          have o41 : w1.cell? ⟨q0 + 1, 4, none⟩ = some (.slice doa dol.length doc) := by rw [HR1.out.x1.cell]; rfl
          obtain ⟨za1, zb1⟩ := HR1.out.old
          go_wp2_with fail
          refine HDD.out.mono ?_
          rintro _ w2 ⟨v2, rfl, hrow, hb2⟩
          have hX2 : ∀ b, (H1.own b ∨ b = q0 + 1 + 1) → b < w1.heap.size := fun b hb => hb.elim (fun h => HR1.out.one.a.raw.own_lt h) (fun h => by rw [h]; exact HR1.out.x2.lt)
          have hdr2 : DR w2 (fun b => H1.own b ∨ b = q0 + 1 + 1) (dropR R dol) v2 := DR.made hrow hX2 (fun r hr => HD0.out.fits r (List.mem_filter.1 hr).1)
          have HB2 := Lib.hid (HR1.out.below hb2)
          obtain ⟨ra2, rc2, rfl, _⟩ := hdr2.slice
          have HDR2 := Lib.hid hdr2
          clear hrow hb2 hX2 hdr2 HDD
          obtain ⟨⟨xa2, xb2⟩, fa2, fb2⟩ := HB2.out.cells
          obtain ⟨za2, zb2⟩ := HB2.out.old
          have hc3 : Chg w2 ((w2.setCell ⟨q0 + 1 + 1, 0, none⟩ (.slice ra2 (dropR R dol).length rc2)).setCell ⟨q0 + 1 + 1, 1, none⟩ (.int .i64 wm)) (fun b => b = q0 + 1 + 1) := ((Chg.refl w2 (fun b => b = q0 + 1 + 1)).set rfl 0 _).set rfl 1 _
          have HE := Lib.hid (show StpE W0 w H ((w2.setCell ⟨q0 + 1 + 1, 0, none⟩ (.slice ra2 (dropR R dol).length rc2)).setCell ⟨q0 + 1 + 1, 1, none⟩ (.int .i64 wm)) g (c + (dml.length + drl.length + dol.length)) (M.dropL dol) H1 wm (dropR R dol) (.slice ra2 (dropR R dol).length rc2) from by
            refine ⟨⟨HB2.out.one.a.chg hc3 (fun b ho e => HB2.out.n2 (e ▸ ho)), HB2.out.one.ga, HB2.out.one.oa, (HB2.out.one.bel.setCell (p := ⟨q0 + 1 + 1, 0, none⟩) HB2.out.lo _).setCell (p := ⟨q0 + 1 + 1, 1, none⟩) HB2.out.lo _⟩, HDR2.out.chg hc3 (fun b hb => .inr hb) (fun b _ hb => .inl hb), HP.out.dropL dol, ?_, ⟨HB2.out.k.chg.trans hc3 (fun i hi e => by have := HLW.out; omega), HB2.out.k.g, HB2.out.k.new⟩⟩
            have h2 := List.length_filter_le (fun x : Rw => !decide (x.t.o ∈ dol)) R
            have := HLL.out
            show (R.filter _).length ≤ _
            omega)
          have hx2 := (HB2.out.x2.store 0 (.slice ra2 (dropR R dol).length rc2)).store 1 (.int .i64 wm)
          have n0 : ((w2.setCell ⟨q0 + 1 + 1, 0, none⟩ (.slice ra2 (dropR R dol).length rc2)).setCell ⟨q0 + 1 + 1, 1, none⟩ (.int .i64 wm)).cell? ⟨q0 + 1 + 1, 0, none⟩ = some (.slice ra2 (dropR R dol).length rc2) := by rw [hx2.cell]; rfl
          have n1 : ((w2.setCell ⟨q0 + 1 + 1, 0, none⟩ (.slice ra2 (dropR R dol).length rc2)).setCell ⟨q0 + 1 + 1, 1, none⟩ (.int .i64 wm)).cell? ⟨q0 + 1 + 1, 1, none⟩ = some (.int .i64 wm) := by rw [hx2.cell]; rfl
          clear hx2 hc3
          go_wp2
          refine bodyPost_ret (v := .tuple #[stV (.slice ra2 (dropR R dol).length rc2) wm, .bool true]) (by simp [results, Tryz.results7, go_sem, n0, n1]) rfl ⟨_, _, _, _, _, rfl, HE.out⟩
        · have g0 : (dk == 0) = false := by simpa using e0
          have g1 : (dk == 1) = false := by simpa using e1
          have g2 : (dk == 2) = false := by simpa using e2
          have g3 : (dk == 3) = false := by simpa using e3
          go_enter Tryz.func7, Tryz.ntmps7
          go_upto_region 1 with fail
          rw [← hw0, ← hq0]
          clear hw0 hq0
          have HRL := Lib.hid (show R.length ≤ c + (dml.length + drl.length + dol.length) from by have := HLL.out; omega)
          have HAP := Lib.hid (show ∀ V st, Rs W0 w H V g M H wm (5 * (c + (dml.length + drl.length + dol.length))) (q0 + 1) (opC dk drev dma dml.length dmc dra drl.length drc doa dol.length doc dt) (q0 + 1 + 1) q0 R (.slice ra0 R.length rc0) wm st → Calls Tryz.prog 29 #[ptr g, stV (.slice ra0 R.length rc0) wm, .agg #[.string dt.o, .string dt.r, .string dt.u], .int .i64 drev] V fun e V' => e = .returned (.bool true) ∧ Rs W0 w H V' g M H wm (5 * (c + (dml.length + drl.length + dol.length))) (q0 + 1) (opC dk drev dma dml.length dmc dra drl.length drc doa dol.length doc dt) (q0 + 1 + 1) q0 R (.slice ra0 R.length rc0) wm st from fun V st hR => by
            refine (reads_any hR.one (by have := HC.out; omega) hR.dr (by have := HLL.out; have := HC.out; omega) HP.out HFT.out drev).mono ?_
            rintro e V' ⟨he, hb⟩
            exact ⟨he, hR.below hb⟩)
          have hone := HRS0.out.one.mono (show 5 * c ≤ 5 * (c + (dml.length + drl.length + dol.length)) by omega)
          have HRS := Lib.hid (show Rs W0 w H w0 g M H wm (5 * (c + (dml.length + drl.length + dol.length))) (q0 + 1) (opC dk drev dma dml.length dmc dra drl.length drc doa dol.length doc dt) (q0 + 1 + 1) q0 R (.slice ra0 R.length rc0) wm false from ⟨hone, HRS0.out.dr, HRS0.out.x1, HRS0.out.x2, HRS0.out.xx, HRS0.out.n1, HRS0.out.n2, HRS0.out.nx, HRS0.out.d1, HRS0.out.dx, HRS0.out.lo, HRS0.out.k, HRS0.out.lw⟩)
          clear hone HRS0
          have HRP := Lib.hid HP.out
          go_upto_region 14 with fail
          have HRA := Lib.hid HRS.out.drew
          have HRB := Lib.hid HRA.out.put
          obtain ⟨⟨xa1, xb1⟩, fa1, fb1⟩ := HRA.out.cells
          have o11 : w0.drew.cell? ⟨q0 + 1, 1, none⟩ = some (.int .i64 drev) := by rw [HRA.out.x1.cell]; rfl
          have o51 : w0.drew.cell? ⟨q0 + 1, 5, none⟩ = some (.string dt.o) := by rw [HRA.out.x1.cell]; rfl
          have o61 : w0.drew.cell? ⟨q0 + 1, 6, none⟩ = some (.string dt.r) := by rw [HRA.out.x1.cell]; rfl
          have o71 : w0.drew.cell? ⟨q0 + 1, 7, none⟩ = some (.string dt.u) := by rw [HRA.out.x1.cell]; rfl
          obtain ⟨za1, zb1⟩ := HRA.out.old
          obtain ⟨⟨xa2, xb2⟩, fa2, fb2⟩ := HRB.out.cells
          have o12 : ((w0.drew.setCell ⟨q0 + 1 + 1, 0, none⟩ (.slice ra0 R.length rc0)).setCell ⟨q0 + 1 + 1, 1, none⟩ (.int .i64 wm)).cell? ⟨q0 + 1, 1, none⟩ = some (.int .i64 drev) := by rw [HRB.out.x1.cell]; rfl
          have o52 : ((w0.drew.setCell ⟨q0 + 1 + 1, 0, none⟩ (.slice ra0 R.length rc0)).setCell ⟨q0 + 1 + 1, 1, none⟩ (.int .i64 wm)).cell? ⟨q0 + 1, 5, none⟩ = some (.string dt.o) := by rw [HRB.out.x1.cell]; rfl
          have o62 : ((w0.drew.setCell ⟨q0 + 1 + 1, 0, none⟩ (.slice ra0 R.length rc0)).setCell ⟨q0 + 1 + 1, 1, none⟩ (.int .i64 wm)).cell? ⟨q0 + 1, 6, none⟩ = some (.string dt.r) := by rw [HRB.out.x1.cell]; rfl
          have o72 : ((w0.drew.setCell ⟨q0 + 1 + 1, 0, none⟩ (.slice ra0 R.length rc0)).setCell ⟨q0 + 1 + 1, 1, none⟩ (.int .i64 wm)).cell? ⟨q0 + 1, 7, none⟩ = some (.string dt.u) := by rw [HRB.out.x1.cell]; rfl
          obtain ⟨za2, zb2⟩ := HRB.out.new
          go_region_law (first
            | (go_simp; go_at_call 29; with_reducible refine (HAP.out _ false HRA.out).mono ?_
               rintro _ w4 ⟨rfl, hr4⟩
               have HRZ := Lib.hid hr4
               clear hr4
               obtain ⟨⟨xa5, xb5⟩, fa5, fb5⟩ := HRZ.out.cells
               obtain ⟨za5, zb5⟩ := HRZ.out.old)
            | (go_simp; go_at_call 29; with_reducible refine (HAP.out _ true HRB.out).mono ?_
               rintro _ w4 ⟨rfl, hr4⟩
               have HRZ := Lib.hid hr4
               clear hr4
               obtain ⟨⟨xa5, xb5⟩, fa5, fb5⟩ := HRZ.out.cells
               obtain ⟨za5, zb5⟩ := HRZ.out.new))
          all_goals
            first
              | (have HE := Lib.hid HRZ.out.put; have HEN := HE.out.new)
              | (have HE := Lib.hid HRZ.out; have HEN := HE.out.new)
            obtain ⟨n0, n1⟩ := HEN
            go_wp2
            refine bodyPost_ret (v := .tuple #[stV (.slice ra0 R.length rc0) wm, .bool true]) (by simp [results, Tryz.results7, go_sem, n0, n1]) rfl ⟨_, _, _, _, _, rfl, HE.out.fin HRP.out HRL.out⟩
end Go.Proofs.YtmjdngomjjhhiaaGreat
