/- The document's Load. -/
import Derived.Test.YtmjdngomjjhhiaaGreatE72
import Derived.Test.YtmjdngomjjhhiaaGreatE69
import Derived.StillTailTactics
import Derived.Deep.RegionLaw
namespace Go.Proofs.YtmjdngomjjhhiaaGreat
open Go.RowKit
open Go.Maps (Keyed)

/-- The last spans of the rows ahead. -/
def lfOf (l : List Rw) : Tp → Option Sp := l.foldl (fun lf x => updK lf x.t (some ⟨x.s, x.u⟩)) (fun _ => none)
theorem lfOf_take {l : List Rw} {i : Nat} {x : Rw} (h : l[i]? = some x) : lfOf (l.take (i + 1)) = updK (lfOf (l.take i)) x.t (some ⟨x.s, x.u⟩) := by
  unfold lfOf
  rw [List.take_add_one, h, List.foldl_append]; rfl
theorem okB_cases (s u : Int) : (s < 1 ∧ (⟨s, u⟩ : Sp).okB = false) ∨ (¬ s < 1 ∧ 1125899906842624 < s ∧ (⟨s, u⟩ : Sp).okB = false) ∨ (¬ s < 1 ∧ ¬ 1125899906842624 < s ∧ 1125899906842624 < u ∧ (⟨s, u⟩ : Sp).okB = false) ∨
    (¬ s < 1 ∧ ¬ 1125899906842624 < s ∧ ¬ 1125899906842624 < u ∧ u ≠ 0 ∧ (u != 0) = true ∧ u ≤ s ∧ (⟨s, u⟩ : Sp).okB = false) ∨ (¬ s < 1 ∧ ¬ 1125899906842624 < s ∧ ¬ 1125899906842624 < u ∧ u = 0 ∧ (⟨s, u⟩ : Sp).okB = true) ∨ (¬ s < 1 ∧ ¬ 1125899906842624 < s ∧ ¬ 1125899906842624 < u ∧ u ≠ 0 ∧ (u != 0) = true ∧ ¬ u ≤ s ∧ (⟨s, u⟩ : Sp).okB = true) := by
  unfold Sp.okB maxRev
  by_cases h1 : s < 1
  · refine .inl ⟨h1, ?_⟩
    have : ¬ 1 ≤ s := by omega
    simp [this]
  · refine .inr ?_
    have g1 : 1 ≤ s := by omega
    by_cases h2 : 1125899906842624 < s
    · refine .inl ⟨h1, h2, ?_⟩
      have : ¬ s ≤ 1125899906842624 := by omega
      simp [this]
    · refine .inr ?_
      have g2 : s ≤ 1125899906842624 := by omega
      by_cases h3 : 1125899906842624 < u
      · refine .inl ⟨h1, h2, h3, ?_⟩
        have e1 : ¬ u = 0 := by omega
        have e2 : ¬ u ≤ 1125899906842624 := by omega
        simp [e1, e2]
      · refine .inr ?_
        have g3 : u ≤ 1125899906842624 := by omega
        by_cases h4 : u = 0
        · refine .inr (.inl ⟨h1, h2, h3, h4, ?_⟩)
          simp [g1, g2, h4]
        · by_cases h5 : u ≤ s
          · refine .inl ⟨h1, h2, h3, h4, by simpa using h4, h5, ?_⟩
            have : ¬ s < u := by omega
            simp [h4, this]
          · refine .inr (.inr ⟨h1, h2, h3, h4, by simpa using h4, h5, ?_⟩)
            have : s < u := by omega
            simp [g1, g2, g3, this]
set_option maxHeartbeats 16000000 in
set_option maxRecDepth 100000 in
theorem rload_any {X : Nat → Prop} {R : List Rw} {v : Value} {a : Option Addr} {n c : Nat} {l : List Rw} {M : SM} {w : World} (hX : ∀ b, X b → b < w.heap.size) (hR : DR w X R v) (hrn : R.length + n ≤ 1099511627000) (hp : Rep ltT M R) (hM : SMOk M) (hl : RowsAt w a n l) (wm : Int) :
    Calls Tryz.prog 23 #[stV v wm, .slice a n c] w fun e w' => ∃ v', e = .returned (.tuple #[stV v' wm, .int .i64 (ldE M l)]) ∧ DR w' X (if ldE M l = 0 then loadR ltT R l else R) v' ∧ Below w.heap.size w w' := by
  have HX := Lib.hid hX
  have HLN := Lib.hid hl.len
  have HFM := Lib.hid hl.fits
  have HFR := Lib.hid hR.fits
  obtain ⟨w0, hw0⟩ : ∃ w0, w0 = ((w.alloc (.cells #[v, .int .i64 wm] 28)).alloc (.cells #[.slice none 0 0, .int .i64 0] 28)) := ⟨_, rfl⟩
  have hS : ApS w w0 X wm v R := by rw [hw0]; exact ApS.start hR wm
  obtain ⟨ra, rc, rfl, hra⟩ := hS.dr.slice
  have HL := Lib.hid hl
  have HS := Lib.hid hS
  have HLA := Lib.hid (fun t => hp.last hM t)
  have HPO := Lib.hid (fun t => hM.latest_pos t)
  obtain ⟨q0, hq0⟩ : ∃ q0, q0 = w.heap.size := ⟨_, rfl⟩
  have HQ := Lib.hid hq0
  have HQ1 := Lib.hid (show q0 + 1 = w.heap.size + 1 by rw [hq0])
  have HRN := Lib.hid hrn
  generalize hte : ldE M l = te
  have HTE := Lib.hid (show ldGo M (lfOf (l.take 0)) (l.drop 0) = te from hte)
  clear hX hR hl hS hra hrn hp hM hte
  go_enter Tryz.func23, Tryz.ntmps23
  go_upto_region 1 with fail
  rw [← hw0, ← hq0]
  clear hw0 hq0
  go_wp2_with fail
  go_loopw [6] (fun iv wr => ∃ i : Nat, i ≤ n ∧ iv = .int .i64 i ∧ ldGo M (lfOf (l.take i)) (l.drop i) = te ∧ ApS w wr X wm (.slice ra R.length rc) R) (fun iv _ => n - (intOf iv).toNat)
  case atStart => exact ⟨0, by omega, rfl, HTE.out, HS.out⟩
  case round =>
    clear HTE HS
    obtain ⟨i, hin, rfl, hgo, hS⟩ := hrel
    by_cases hil : i < n
    · obtain ⟨x, hxi⟩ : ∃ x, l[i]? = some x := ⟨_, List.getElem?_eq_getElem (by rw [HLN.out]; exact hil)⟩
      rw [drop_get hxi, ldGo] at hgo
      obtain ⟨b2, off2, rfl, hbB, k0, k1, k2, k3, k4⟩ := HL.out.cells hxi
      have HLF := Lib.hid (lfOf_take hxi)
      have y0 := (hS.bel.cell (p := ⟨b2, off2 + i * 5, none⟩) hbB).trans k0
      have y1 := (hS.bel.cell (p := ⟨b2, off2 + i * 5 + 1, none⟩) hbB).trans k1
      have y2 := (hS.bel.cell (p := ⟨b2, off2 + i * 5 + 2, none⟩) hbB).trans k2
      have y3 := (hS.bel.cell (p := ⟨b2, off2 + i * 5 + 3, none⟩) hbB).trans k3
      have y4 := (hS.bel.cell (p := ⟨b2, off2 + i * 5 + 4, none⟩) hbB).trans k4
      have hmf := HFM.out x (List.mem_of_getElem? hxi)
      obtain ⟨⟨xo, xr, xu⟩, xs, xt⟩ := x
      have hm1 : xo.size ≤ 1000000000000000000 := hmf.1
      have hm3 : xu.size ≤ 1000000000000000000 := hmf.2.2
      simp only at hgo y0 y1 y2 y3 y4
      obtain ⟨w1, hw1⟩ : ∃ w1, w1 = wr.alloc (.cells #[.string xo, .string xr, .string xu, .int .i64 xs, .int .i64 xt] 46) := ⟨_, rfl⟩
      have hb1 : Below wr.heap.size wr w1 := by rw [hw1]; exact below_alloc _ _
      have h3 : Whole w1 wr.heap.size 46 #[.string xo, .string xr, .string xu, .int .i64 xs, .int .i64 xt] := by rw [hw1]; exact heap_alloc_new _ _
      obtain ⟨q1, hq1⟩ : ∃ q1, q1 = wr.heap.size := ⟨_, rfl⟩
      rw [← hq1] at h3
      have z0 : w1.cell? ⟨q1, 0, none⟩ = some (.string xo) := by rw [h3.cell]; rfl
      have z1 : w1.cell? ⟨q1, 1, none⟩ = some (.string xr) := by rw [h3.cell]; rfl
      have z2 : w1.cell? ⟨q1, 2, none⟩ = some (.string xu) := by rw [h3.cell]; rfl
      have HCK := Lib.hid (checkR_any xo xr xu w1 (by omega) (by omega))
      have HX1 := Lib.hid h3
      have HS1 := Lib.hid (hS.up hb1)
      have HGO := Lib.hid hgo
      have hil2 : (i : Int) < (n : Int) := by omega
      have hi4 : i ≤ 1099511627776 := by have := HRN.out; omega
      clear hb1 h3 hgo hxi hbB k0 k1 k2 k3 k4 hmf hm1 hm3 hS
      go_upto_region 5 with fail
      rw [← hw1, ← hq1]
      clear hw1 hq1 y0 y1 y2 y3 y4
      go_wp2_with fail
      refine HCK.out.mono ?_
      rintro _ w2 ⟨rfl, hb2⟩
      have HS2 := Lib.hid (HS1.out.up hb2)
      have HX2 := Lib.hid (HX1.out.kept (hb2.block _ HX1.out.lt))
      have hte : tupE xo xr xu = (⟨xo, xr, xu⟩ : Tp).e := rfl
      rw [hte]
      clear hb2 HCK hte z0 z1 z2 HS1 HX1
      generalize hme : (⟨xo, xr, xu⟩ : Tp).e = me at *
      by_cases h0 : me = 0
      · subst h0
        have HGB := Lib.hid (show (if (⟨xo, xr, xu⟩ : Tp) ∈ M.K then 5 else if (⟨xs, xt⟩ : Sp).okB = false then 1 else if (match lfOf (l.take i) ⟨xo, xr, xu⟩ with
            | some y => !(decide (y.u ≠ 0) && decide (y.u < xs))
            | none => false) = true then 70 else ldGo M (lfOf (l.take (i + 1))) (l.drop (i + 1))) = te from by
          rw [HLF.out]
          have := HGO.out
          rw [if_neg (by simp)] at this
          exact this)
        clear HGO hme
        have x0 : w2.cell? ⟨q0, 0, none⟩ = some (.slice ra R.length rc) := by rw [HQ.out, HS2.out.x0.cell]; rfl
        have x1 : w2.cell? ⟨q0, 1, none⟩ = some (.int .i64 wm) := by rw [HQ.out, HS2.out.x0.cell]; rfl
        have z0 : w2.cell? ⟨q1, 0, none⟩ = some (.string xo) := by rw [HX2.out.cell]; rfl
        have z1 : w2.cell? ⟨q1, 1, none⟩ = some (.string xr) := by rw [HX2.out.cell]; rfl
        have z2 : w2.cell? ⟨q1, 2, none⟩ = some (.string xu) := by rw [HX2.out.cell]; rfl
        obtain ⟨_, _, e, hra⟩ := HS2.out.dr.slice
        injection e with e1 e2 e3
        subst e1 e3
        clear e2
        have hla := rlast_any (c := rc) hra (by have := HRN.out; omega) wm ⟨xo, xr, xu⟩
        rw [HLA.out] at hla
        have HLS := Lib.hid hla
        have HPX := Lib.hid (HPO.out ⟨xo, xr, xu⟩)
        generalize latestB (M.sp ⟨xo, xr, xu⟩) = la at *
        clear hla hra
        go_wp2_with fail
        refine HLS.out.mono ?_
        rintro _ w4 ⟨rfl, hb4⟩
        have HS4 := Lib.hid (HS2.out.up hb4)
        have HX4 := Lib.hid (HX2.out.kept (hb4.block _ HX2.out.lt))
        clear hb4 HLS HS2 HX2 x0 x1 z0 z1 z2
        by_cases hk : (⟨xo, xr, xu⟩ : Tp) ∈ M.K
        · have hgo := HGB.out
          rw [if_pos hk] at hgo
          subst hgo
          have hl0 : (la == 0) = false := by simpa using HPX.out.1 hk
          have hl1 : la ≠ 0 := HPX.out.1 hk
          clear HGB hk HPX
          have x0 : w4.cell? ⟨q0, 0, none⟩ = some (.slice ra R.length rc) := by rw [HQ.out, HS4.out.x0.cell]; rfl
          have x1 : w4.cell? ⟨q0, 1, none⟩ = some (.int .i64 wm) := by rw [HQ.out, HS4.out.x0.cell]; rfl
          have y0 : w4.cell? ⟨q0 + 1, 0, none⟩ = some (.slice none 0 0) := by rw [HQ1.out, HS4.out.x1.cell]; rfl
          have y1 : w4.cell? ⟨q0 + 1, 1, none⟩ = some (.int .i64 0) := by rw [HQ1.out, HS4.out.x1.cell]; rfl
          have f0 : w4.frozen? ⟨q0 + 1, 0, none⟩ = false := by rw [HQ1.out]; exact HS4.out.x1.free 0
          have f1 : w4.frozen? ⟨q0 + 1, 1, none⟩ = false := by rw [HQ1.out]; exact HS4.out.x1.free 1
          obtain ⟨d1, d2, d3, d4⟩ := HS4.out.fin
          rw [← HQ1.out] at d1 d2 d3 d4
          have HD1 := Lib.hid d1
          have HD2 := Lib.hid d2
          clear d1 d2
          go_wp2
          refine bodyPost_ret (v := .tuple #[stV (.slice ra R.length rc) wm, .int .i64 5]) (by simp [results, Tryz.results23, go_sem, d3, d4]) rfl ⟨_, rfl, by first | exact HD1.out | (rw [if_neg (by decide)]; exact HD1.out) | (rw [if_pos rfl]; exact HD1.out) | (rw [if_neg HH0.out]; exact HD1.out), HD2.out⟩
        · have hl0 : la = 0 := by
            have h1 := HPX.out
            exact Decidable.byContradiction fun h2 => hk (h1.2 h2)
          subst hl0
          have HGC := Lib.hid (show (if (⟨xs, xt⟩ : Sp).okB = false then 1 else if (match lfOf (l.take i) ⟨xo, xr, xu⟩ with
              | some y => !(decide (y.u ≠ 0) && decide (y.u < xs))
              | none => false) = true then 70 else ldGo M (lfOf (l.take (i + 1))) (l.drop (i + 1))) = te from by
            have := HGB.out
            rw [if_neg hk] at this
            exact this)
          clear HGB hk HPX
          have u3 : w4.cell? ⟨q1, 3, none⟩ = some (.int .i64 xs) := by rw [HX4.out.cell]; rfl
          have u4 : w4.cell? ⟨q1, 4, none⟩ = some (.int .i64 xt) := by rw [HX4.out.cell]; rfl
          have hok := okB_cases xs xt
          rcases hok with ⟨o1, hok⟩ | ⟨o1, o2, hok⟩ | ⟨o1, o2, o3, hok⟩ | ⟨o1, o2, o3, o4, o6, o5, hok⟩ | ⟨o1, o2, o3, rfl, hok⟩ | ⟨o1, o2, o3, o4, o6, o5, hok⟩
          case inl | inr.inl | inr.inr.inl | inr.inr.inr.inl =>
            have hgo := HGC.out
            rw [if_pos hok] at hgo
            subst hgo
            clear HGC hok
            have x0 : w4.cell? ⟨q0, 0, none⟩ = some (.slice ra R.length rc) := by rw [HQ.out, HS4.out.x0.cell]; rfl
            have x1 : w4.cell? ⟨q0, 1, none⟩ = some (.int .i64 wm) := by rw [HQ.out, HS4.out.x0.cell]; rfl
            have y0 : w4.cell? ⟨q0 + 1, 0, none⟩ = some (.slice none 0 0) := by rw [HQ1.out, HS4.out.x1.cell]; rfl
            have y1 : w4.cell? ⟨q0 + 1, 1, none⟩ = some (.int .i64 0) := by rw [HQ1.out, HS4.out.x1.cell]; rfl
            have f0 : w4.frozen? ⟨q0 + 1, 0, none⟩ = false := by rw [HQ1.out]; exact HS4.out.x1.free 0
            have f1 : w4.frozen? ⟨q0 + 1, 1, none⟩ = false := by rw [HQ1.out]; exact HS4.out.x1.free 1
            obtain ⟨d1, d2, d3, d4⟩ := HS4.out.fin
            rw [← HQ1.out] at d1 d2 d3 d4
            have HD1 := Lib.hid d1
            have HD2 := Lib.hid d2
            clear d1 d2
            go_wp2
            refine bodyPost_ret (v := .tuple #[stV (.slice ra R.length rc) wm, .int .i64 1]) (by simp [results, Tryz.results23, go_sem, d3, d4]) rfl ⟨_, rfl, by first | exact HD1.out | (rw [if_neg (by decide)]; exact HD1.out) | (rw [if_pos rfl]; exact HD1.out) | (rw [if_neg HH0.out]; exact HD1.out), HD2.out⟩
          all_goals
            have HGD := Lib.hid (show (if (match lfOf (l.take i) ⟨xo, xr, xu⟩ with
                | some y => !(decide (y.u ≠ 0) && decide (y.u < xs))
                | none => false) = true then 70 else ldGo M (lfOf (l.take (i + 1))) (l.drop (i + 1))) = te from by
              have := HGC.out
              rw [if_neg (by rw [hok]; decide)] at this
              exact this)
            clear HGC hok
            go_wp2_with fail
            go_loopw [9] (fun kv wr => ∃ k : Nat, k ≤ i ∧ kv = .int .i64 ((k : Int) - 1) ∧ lfOf (l.take i) ⟨xo, xr, xu⟩ = lfOf (l.take k) ⟨xo, xr, xu⟩ ∧ Below w4.heap.size w4 wr) (fun kv _ => (intOf kv + 1).toNat)
            case atStart => exact ⟨i, by omega, by go_num, rfl, Below.refl _ _⟩
            case round =>
              clear u3 u4
              obtain ⟨k, hk, rfl, hlf, hbk⟩ := hrel
              have HSK := Lib.hid (HS4.out.up hbk)
              have hxk := HX4.out.kept (hbk.block _ HX4.out.lt)
              have z0 : wr.cell? ⟨q1, 0, none⟩ = some (.string xo) := by rw [hxk.cell]; rfl
              have z1 : wr.cell? ⟨q1, 1, none⟩ = some (.string xr) := by rw [hxk.cell]; rfl
              have z2 : wr.cell? ⟨q1, 2, none⟩ = some (.string xu) := by rw [hxk.cell]; rfl
              have HXK := Lib.hid hxk
              have HBK := Lib.hid hbk
              have HLK := Lib.hid hlf
              clear hxk hbk hlf
              by_cases hk0 : k = 0
              · subst hk0
                have hgo : ldGo M (lfOf (l.take (i + 1))) (l.drop (i + 1)) = te := by
                  have := HGD.out
                  rw [HLK.out, show lfOf (l.take 0) ⟨xo, xr, xu⟩ = none by rw [List.take_zero]; rfl] at this
                  exact this
                have HGE := Lib.hid hgo
                clear hgo HGD
                go_wp2
                go_roundw
                case rel => exact ⟨i + 1, by omega, by go_num, HGE.out, HSK.out⟩
                case measure => simp [intOf]; omega
              · obtain ⟨j, rfl⟩ : ∃ j, k = j + 1 := ⟨k - 1, by omega⟩
                have hj1 : (((j + 1 : Nat) : Int) - 1) = (j : Int) := by omega
                rw [hj1]
                obtain ⟨y, hyj⟩ : ∃ y, l[j]? = some y := ⟨_, List.getElem?_eq_getElem (by rw [HLN.out]; omega)⟩
                obtain ⟨b3, off3, e, h9, k0, k1, k2, _, k4⟩ := (HL.out.below HSK.out.bel).cells hyj
                injection e with e
                injection e with e1 e2 e3
                subst e1 e2
                clear e3 hj1
                have HLF2 := Lib.hid (lfOf_take hyj)
                obtain ⟨⟨yo, yr, yu⟩, ys, yt⟩ := y
                simp only at k0 k1 k2 k4
                have HTC := Lib.hid (tp_cases ⟨yo, yr, yu⟩ ⟨xo, xr, xu⟩)
                have hjn : (j : Int) < (n : Int) := by omega
                have hj0 : (0 : Int) ≤ (j : Int) := by omega
                have hj4 : j ≤ 1099511627776 := by omega
                clear hyj
                rcases HTC.out with ⟨he, h1, h2, h3⟩ | ⟨he, h1⟩ | ⟨he, h1, h2⟩ | ⟨he, h1, h2, h3⟩
                · have hls : lfOf (l.take i) ⟨xo, xr, xu⟩ = some ⟨ys, yt⟩ := by rw [HLK.out, HLF2.out, ← he, updK_same]
                  have HGF := Lib.hid (show (if (!(decide (yt ≠ 0) && decide (yt < xs))) = true then 70 else ldGo M (lfOf (l.take (i + 1))) (l.drop (i + 1))) = te from by
                    have := HGD.out
                    rw [hls] at this
                    exact this)
                  simp only at h1 h2 h3
                  clear HGD HLK HLF2 hls he HTC
                  go_upto_region 15 with fail
                  go_quiet (fail)
                  obtain ⟨W, hW⟩ : ∃ W, W = wr.drewN nq := ⟨_, rfl⟩
                  have hbW : Below wr.heap.size wr W := by rw [hW]; exact below_drewN wr nq
                  rw [← hW]
                  have HSN := Lib.hid (HSK.out.up hbW)
                  have hxn := HXK.out.kept (hbW.block _ HXK.out.lt)
                  have n4 : W.cell? ⟨b2, off2 + j * 5 + 4, none⟩ = some (.int .i64 yt) := (hbW.cell (p := ⟨b2, off2 + j * 5 + 4, none⟩) h9).trans k4
                  have n3 : W.cell? ⟨q1, 3, none⟩ = some (.int .i64 xs) := by rw [hxn.cell]; rfl
                  clear hW hbW hxn h1 h2 h3 z0 z1 z2 k0 k1 k2 k4
                  by_cases hy0 : yt = 0
                  · subst hy0
                    have hgo := HGF.out
                    rw [if_pos (by simp)] at hgo
                    subst hgo
                    clear HGF
                    go_upto_region 16 with fail
                    go_quiet (fail)
                    have HSM := Lib.hid (HSN.out.up (below_drewN W nq))
                    have x0 : (W.drewN nq).cell? ⟨q0, 0, none⟩ = some (.slice ra R.length rc) := by rw [HQ.out, HSM.out.x0.cell]; rfl
                    have x1 : (W.drewN nq).cell? ⟨q0, 1, none⟩ = some (.int .i64 wm) := by rw [HQ.out, HSM.out.x0.cell]; rfl
                    have y0 : (W.drewN nq).cell? ⟨q0 + 1, 0, none⟩ = some (.slice none 0 0) := by rw [HQ1.out, HSM.out.x1.cell]; rfl
                    have y1 : (W.drewN nq).cell? ⟨q0 + 1, 1, none⟩ = some (.int .i64 0) := by rw [HQ1.out, HSM.out.x1.cell]; rfl
                    have f0 : (W.drewN nq).frozen? ⟨q0 + 1, 0, none⟩ = false := by rw [HQ1.out]; exact HSM.out.x1.free 0
                    have f1 : (W.drewN nq).frozen? ⟨q0 + 1, 1, none⟩ = false := by rw [HQ1.out]; exact HSM.out.x1.free 1
                    obtain ⟨d1, d2, d3, d4⟩ := HSM.out.fin
                    rw [← HQ1.out] at d1 d2 d3 d4
                    have HD1 := Lib.hid d1
                    have HD2 := Lib.hid d2
                    clear d1 d2
                    go_wp2
                    refine bodyPost_ret (v := .tuple #[stV (.slice ra R.length rc) wm, .int .i64 70]) (by simp [results, Tryz.results23, go_sem, d3, d4]) rfl ⟨_, rfl, by first | exact HD1.out | (rw [if_neg (by decide)]; exact HD1.out) | (rw [if_pos rfl]; exact HD1.out) | (rw [if_neg HH0.out]; exact HD1.out), HD2.out⟩
                  · have hy1 : (yt == 0) = false := by simpa using hy0
                    by_cases hy2 : xs ≤ yt
                    · have hgo := HGF.out
                      rw [if_pos (by have : ¬ yt < xs := by omega
                                     simp [this])] at hgo
                      subst hgo
                      clear HGF
                      go_upto_region 16 with fail
                      go_quiet (fail)
                      have HSM := Lib.hid (HSN.out.up (below_drewN W nq))
                      have x0 : (W.drewN nq).cell? ⟨q0, 0, none⟩ = some (.slice ra R.length rc) := by rw [HQ.out, HSM.out.x0.cell]; rfl
                      have x1 : (W.drewN nq).cell? ⟨q0, 1, none⟩ = some (.int .i64 wm) := by rw [HQ.out, HSM.out.x0.cell]; rfl
                      have y0 : (W.drewN nq).cell? ⟨q0 + 1, 0, none⟩ = some (.slice none 0 0) := by rw [HQ1.out, HSM.out.x1.cell]; rfl
                      have y1 : (W.drewN nq).cell? ⟨q0 + 1, 1, none⟩ = some (.int .i64 0) := by rw [HQ1.out, HSM.out.x1.cell]; rfl
                      have f0 : (W.drewN nq).frozen? ⟨q0 + 1, 0, none⟩ = false := by rw [HQ1.out]; exact HSM.out.x1.free 0
                      have f1 : (W.drewN nq).frozen? ⟨q0 + 1, 1, none⟩ = false := by rw [HQ1.out]; exact HSM.out.x1.free 1
                      obtain ⟨d1, d2, d3, d4⟩ := HSM.out.fin
                      rw [← HQ1.out] at d1 d2 d3 d4
                      have HD1 := Lib.hid d1
                      have HD2 := Lib.hid d2
                      clear d1 d2
                      go_wp2
                      refine bodyPost_ret (v := .tuple #[stV (.slice ra R.length rc) wm, .int .i64 70]) (by simp [results, Tryz.results23, go_sem, d3, d4]) rfl ⟨_, rfl, by first | exact HD1.out | (rw [if_neg (by decide)]; exact HD1.out) | (rw [if_pos rfl]; exact HD1.out) | (rw [if_neg HH0.out]; exact HD1.out), HD2.out⟩
                    · have hgo := HGF.out
                      rw [if_neg (by have : yt < xs := by omega
                                     simp [this, hy0])] at hgo
                      have HGE := Lib.hid hgo
                      clear HGF hgo
                      go_upto_region 16 with fail
                      go_quiet (fail)
                      have HSM := Lib.hid (HSN.out.up (below_drewN W nq))
                      go_wp2
                      go_roundw
                      case rel => exact ⟨i + 1, by omega, by go_num, HGE.out, HSM.out⟩
                      case measure => simp [intOf]; omega
                all_goals
                  have hls : lfOf (l.take i) ⟨xo, xr, xu⟩ = lfOf (l.take j) ⟨xo, xr, xu⟩ := by rw [HLK.out, HLF2.out, updK_other _ _ (fun e => he e.symm)]
                  have HLS := Lib.hid hls
                  simp only at h1
                  clear HLK HLF2 hls he HTC
                  go_upto_region 15 with fail
                  go_quiet (fail)
                  have HBN := Lib.hid (bell_up HBK.out (below_drewN wr nq))
                  go_wp2
                  go_roundw
                  case rel => exact ⟨j, by omega, by go_num, HLS.out, HBN.out⟩
                  case measure => simp [intOf] <;> omega
      · have hgo := HGO.out
        rw [if_pos h0] at hgo
        subst hgo
        have HH0 := Lib.hid h0
        clear HGO hme
        have x0 : w2.cell? ⟨q0, 0, none⟩ = some (.slice ra R.length rc) := by rw [HQ.out, HS2.out.x0.cell]; rfl
        have x1 : w2.cell? ⟨q0, 1, none⟩ = some (.int .i64 wm) := by rw [HQ.out, HS2.out.x0.cell]; rfl
        have y0 : w2.cell? ⟨q0 + 1, 0, none⟩ = some (.slice none 0 0) := by rw [HQ1.out, HS2.out.x1.cell]; rfl
        have y1 : w2.cell? ⟨q0 + 1, 1, none⟩ = some (.int .i64 0) := by rw [HQ1.out, HS2.out.x1.cell]; rfl
        have f0 : w2.frozen? ⟨q0 + 1, 0, none⟩ = false := by rw [HQ1.out]; exact HS2.out.x1.free 0
        have f1 : w2.frozen? ⟨q0 + 1, 1, none⟩ = false := by rw [HQ1.out]; exact HS2.out.x1.free 1
        obtain ⟨d1, d2, d3, d4⟩ := HS2.out.fin
        rw [← HQ1.out] at d1 d2 d3 d4
        have HD1 := Lib.hid d1
        have HD2 := Lib.hid d2
        clear d1 d2
        go_wp2
        refine bodyPost_ret (v := .tuple #[stV (.slice ra R.length rc) wm, .int .i64 me]) (by simp [results, Tryz.results23, go_sem, d3, d4]) rfl ⟨_, rfl, by first | exact HD1.out | (rw [if_neg (by decide)]; exact HD1.out) | (rw [if_pos rfl]; exact HD1.out) | (rw [if_neg HH0.out]; exact HD1.out), HD2.out⟩
    · obtain rfl : i = n := by omega
      have hgo2 : te = 0 := by
        rw [← hgo, List.drop_eq_nil_of_le (by rw [HLN.out]; exact Nat.le_refl _)]; rfl
      subst hgo2
      have HN := Lib.hid (show ∃ v, ApS w wr X wm v (loadR ltT R (l.take 0)) from ⟨_, hS⟩)
      clear hS hgo
      go_wp2_with fail
      go_loopw [10] (fun iv wr => ∃ j : Nat, j ≤ i ∧ iv = .int .i64 j ∧ ∃ v, ApS w wr X wm v (loadR ltT R (l.take j))) (fun iv _ => i - (intOf iv).toNat)
      case atStart => exact ⟨0, by omega, rfl, HN.out⟩
      case round =>
        clear HN
        obtain ⟨j, hjn, rfl, v, hS⟩ := hrel
        have hlen := loadR_len R l j
        by_cases hji : j < i
        · obtain ⟨x, hxj⟩ : ∃ x, l[j]? = some x := ⟨_, List.getElem?_eq_getElem (by rw [HLN.out]; exact hji)⟩
          have HTK := Lib.hid (loadR_take R hxj)
          have HMF := Lib.hid (HFM.out x (List.mem_of_getElem? hxj))
          have HLF := Lib.hid (show ∀ x ∈ loadR ltT R (l.take j), x.t.fits from loadR_fits HFR.out (fun m hm => HFM.out m (List.mem_of_mem_take hm)))
          obtain ⟨b2, off2, rfl, hbB, k0, k1, k2, k3, k4⟩ := HL.out.cells hxj
          have hll : (loadR ltT R (l.take j)).length ≤ 1099511627000 := by have := HRN.out; omega
          generalize loadR ltT R (l.take j) = L at *
          have HS := Lib.hid hS
          obtain ⟨va, vc, rfl, hLa⟩ := hS.dr.slice
          have HRQ := Lib.hid hLa
          obtain ⟨xt, xs, xu⟩ := x
          simp only at k0 k1 k2 k3 k4
          have HW := Lib.hid (show ∀ V, Below wr.heap.size wr V → Calls Tryz.prog 43 #[.slice va L.length vc, .agg #[.string xt.o, .string xt.r, .string xt.u, .int .i64 xs, .int .i64 xu]] V fun e w' => ∃ v, e = .returned v ∧ OutR V w' v (withR ltT ⟨xt, xs, xu⟩ L) from fun V hV => rwith_any (c := vc) (HRQ.out.below hV) (by omega) (⟨xt, xs, xu⟩ : Rw))
          have HCC := Lib.hid (show ∀ V, Below wr.heap.size wr V → V.cell? ⟨q0, 0, none⟩ = some (.slice va L.length vc) ∧ V.frozen? ⟨q0, 0, none⟩ = false from fun V hV => by
            have hx := HS.out.x0.kept (hV.block _ HS.out.x0.lt)
            exact ⟨by rw [HQ.out, hx.cell]; rfl, by rw [HQ.out]; exact hx.free 0⟩)
          have hbD : Below w.heap.size w wr.drew := bell_up HS.out.bel (below_drew1 wr)
          have e0 := (hbD.cell (p := ⟨b2, off2 + j * 5, none⟩) hbB).trans k0
          have e1 := (hbD.cell (p := ⟨b2, off2 + j * 5 + 1, none⟩) hbB).trans k1
          have e2 := (hbD.cell (p := ⟨b2, off2 + j * 5 + 2, none⟩) hbB).trans k2
          have e3 := (hbD.cell (p := ⟨b2, off2 + j * 5 + 3, none⟩) hbB).trans k3
          have e4 := (hbD.cell (p := ⟨b2, off2 + j * 5 + 4, none⟩) hbB).trans k4
          obtain ⟨d0, d1⟩ := HCC.out wr.drew (below_drew1 wr)
          have hji2 : (j : Int) < (i : Int) := by omega
          have hj4 : j ≤ 1099511627776 := by have := HRN.out; omega
          clear hxj hS hLa k0 k1 k2 k3 k4 hbB hlen hll hbD
          go_upto_region 21 with fail
          go_region_law (first
            | (go_simp; go_at_call 43; with_reducible refine (HW.out _ (below_drew1 wr)).mono ?_
               rintro e5 w5 ⟨v5, rfl, ho5⟩
               obtain ⟨va5, vc5, rfl, _, _⟩ := owned_anyE ho5.row
               have hb5 := bell_up (below_drew1 wr) ho5.below
               obtain ⟨p0, p1⟩ := HCC.out w5 hb5
               have HPUT := Lib.hid (HS.out.put (R' := withR ltT ⟨xt, xs, xu⟩ L) HX.out hb5 (own_lower ho5.row (Nat.le_refl _)) (withR_all (p := fun x => x.t.fits) HLF.out HMF.out))
               clear ho5 hb5))
          all_goals
            go_wp2
            go_roundw
            case rel => exact ⟨j + 1, by omega, by go_num, _, by rw [HTK.out, HQ.out]; exact HPUT.out⟩
            case measure => simp [intOf]; omega
        · obtain rfl : j = i := by omega
          have htn : l.take j = l := by rw [← HLN.out, List.take_length]
          rw [htn] at hS
          obtain ⟨va, vc, rfl, _⟩ := hS.dr.slice
          have HSE := Lib.hid hS
          clear htn hS hlen
          have x0 : wr.cell? ⟨q0, 0, none⟩ = some (.slice va (loadR ltT R l).length vc) := by rw [HQ.out, HSE.out.x0.cell]; rfl
          have x1 : wr.cell? ⟨q0, 1, none⟩ = some (.int .i64 wm) := by rw [HQ.out, HSE.out.x0.cell]; rfl
          have y0 : wr.cell? ⟨q0 + 1, 0, none⟩ = some (.slice none 0 0) := by rw [HQ1.out, HSE.out.x1.cell]; rfl
          have y1 : wr.cell? ⟨q0 + 1, 1, none⟩ = some (.int .i64 0) := by rw [HQ1.out, HSE.out.x1.cell]; rfl
          have f0 : wr.frozen? ⟨q0 + 1, 0, none⟩ = false := by rw [HQ1.out]; exact HSE.out.x1.free 0
          have f1 : wr.frozen? ⟨q0 + 1, 1, none⟩ = false := by rw [HQ1.out]; exact HSE.out.x1.free 1
          obtain ⟨d1, d2, d3, d4⟩ := HSE.out.fin
          rw [← HQ1.out] at d1 d2 d3 d4
          have HD1 := Lib.hid d1
          have HD2 := Lib.hid d2
          clear d1 d2
          go_wp2
          refine bodyPost_ret (v := .tuple #[stV (.slice va (loadR ltT R l).length vc) wm, .int .i64 0]) (by simp [results, Tryz.results23, go_sem, d3, d4]) rfl ⟨_, rfl, by first | exact HD1.out | (rw [if_neg (by decide)]; exact HD1.out) | (rw [if_pos rfl]; exact HD1.out) | (rw [if_neg HH0.out]; exact HD1.out), HD2.out⟩
end Go.Proofs.YtmjdngomjjhhiaaGreat
