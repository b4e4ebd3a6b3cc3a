/- StorePlays: what a reading tells. -/
import Derived.Test.YtmjdngomjjhhiaaGreatE75
import Derived.Test.YtmjdngomjjhhiaaGreatE72
namespace Go.Proofs.YtmjdngomjjhhiaaGreat
open Go.RowKit
open Go.Maps (Keyed)

section
variable {W0 w : World} {g : Nat} {M : SM} {H : Gh} {wm : Int} {c : Nat}
theorem OneW.has (h : OneW W0 w g M H wm c) (hc : c ≤ 1099511627000) {t : Tp} (hf : t.fits) (rev : Int) :
    Calls Tryz.prog 13 #[ptr g, tpV t, .int .i64 rev] w fun e w' => e = .returned (.tuple #[.bool (hasB M wm rev t), .int .i64 (readableB wm rev)]) ∧ Below w.heap.size w w' := by
  have hp := has_any h.a hf (by omega) rev
  rw [h.ga] at hp
  exact hp
theorem OneW.users (h : OneW W0 w g M H wm c) (hc : c ≤ 1099511627000) {R : List Rw} (hp : Rep ltT M R) {o r : ByteArray} (ho : o.size ≤ 1000000000000000000) (hr : r.size ≤ 1000000000000000000) (rev : Int) :
    Calls Tryz.prog 12 #[ptr g, .string o, .string r, .int .i64 rev] w fun e w' => ∃ v F, e = .returned (.tuple #[v, .int .i64 (readableB wm rev)]) ∧ (readableB wm rev = 0 → F = (atR ltT R rev).filter (ofOR o r)) ∧ (readableB wm rev ≠ 0 → F = []) ∧ w'.ownsRow w.heap.size 9 1 v F.length ((F.map Tp.u).map .string) ∧ Below w.heap.size w w' := by
  have hq := users_any h.a (by omega) ho hr rev
  rw [h.ga] at hq
  refine hq.mono ?_
  rintro e w' ⟨v, ts, he, h0, h1, hrow, hb⟩
  by_cases hz : readableB wm rev = 0
  · have hu := usL_picks h.a.ok hp (h0 hz)
    rw [usL_enc, hu] at hrow
    have hl : ts.length = ((atR ltT R rev).filter (ofOR o r)).length := by rw [← usL_len ts, hu, List.length_map]
    rw [hl] at hrow
    exact ⟨v, _, he, fun _ => rfl, fun h => absurd hz h, hrow, hb⟩
  · have := h1 hz
    subst this
    refine ⟨v, [], he, fun h => absurd h hz, fun _ => rfl, ?_, hb⟩
    have he0 : sortS (uOf []) = [] := by unfold sortS uOf; simp
    rw [he0] at hrow
    exact hrow
theorem OneW.of (h : OneW W0 w g M H wm c) (hc : c ≤ 1099511627000) {R : List Rw} (hp : Rep ltT M R) {u : ByteArray} (hu : u.size ≤ 1000000000000000000) (rev : Int) :
    Calls Tryz.prog 14 #[ptr g, .string u, .int .i64 rev] w fun e w' => ∃ v F, e = .returned (.tuple #[v, .int .i64 (readableB wm rev)]) ∧ (readableB wm rev = 0 → F = (atR ltT R rev).filter (ofU u)) ∧ (readableB wm rev ≠ 0 → F = []) ∧ w'.ownsRow w.heap.size 32 3 v F.length (F.flatMap tc) ∧ Below w.heap.size w w' := by
  have hq := of_any h.a (by omega) hu rev
  rw [h.ga] at hq
  refine hq.mono ?_
  rintro e w' ⟨v, ts, he, h0, h1, hrow, hb⟩
  exact ⟨v, ts, he, fun hz => of_picks h.a.ok hp (h0 hz).1 (h0 hz).2, h1, hrow, hb⟩
end
theorem two_boxes (w : World) (v : Value) (wm : Int) (t : Tp) : Below w.heap.size w ((w.alloc (.cells #[v, .int .i64 wm] 28)).alloc (.cells #[.string t.o, .string t.r, .string t.u] 32)) ∧
    Whole ((w.alloc (.cells #[v, .int .i64 wm] 28)).alloc (.cells #[.string t.o, .string t.r, .string t.u] 32)) w.heap.size 28 #[v, .int .i64 wm] ∧
    Whole ((w.alloc (.cells #[v, .int .i64 wm] 28)).alloc (.cells #[.string t.o, .string t.r, .string t.u] 32)) (w.heap.size + 1) 32 #[.string t.o, .string t.r, .string t.u] := by
  have a1 := below_alloc w (.cells #[v, .int .i64 wm] 28)
  have s1 : (w.alloc (.cells #[v, .int .i64 wm] 28)).heap.size = w.heap.size + 1 := by simp
  have x1 : Whole (w.alloc (.cells #[v, .int .i64 wm] 28)) w.heap.size 28 #[v, .int .i64 wm] := heap_alloc_new _ _
  generalize w.alloc (.cells #[v, .int .i64 wm] 28) = W1 at *
  have a2 := below_alloc W1 (.cells #[.string t.o, .string t.r, .string t.u] 32)
  have x2 : Whole (W1.alloc (.cells #[.string t.o, .string t.r, .string t.u] 32)) W1.heap.size 32 #[.string t.o, .string t.r, .string t.u] := heap_alloc_new _ _
  generalize W1.alloc (.cells #[.string t.o, .string t.r, .string t.u] 32) = W2 at *
  rw [s1] at x2
  exact ⟨bell_up a1 a2, x1.kept (a2.block _ x1.lt), x2⟩
set_option maxHeartbeats 16000000 in
set_option maxRecDepth 100000 in
theorem reads_any {W0 w : World} {g : Nat} {M : SM} {H : Gh} {wm : Int} {c : Nat} (h : OneW W0 w g M H wm c) (hc : c ≤ 1099511627000) {X : Nat → Prop} {R : List Rw} {v : Value} (hd : DR w X R v) (hR : R.length ≤ 1099511627000) (hp : Rep ltT M R) {t : Tp} (hf : t.fits) (rev : Int) :
    Calls Tryz.prog 29 #[ptr g, stV v wm, tpV t, .int .i64 rev] w fun e w' => e = .returned (.bool true) ∧ Below w.heap.size w w' := by
  obtain ⟨w0, hw0⟩ : ∃ w0, w0 = ((w.alloc (.cells #[v, .int .i64 wm] 28)).alloc (.cells #[.string t.o, .string t.r, .string t.u] 32)) := ⟨_, rfl⟩
  obtain ⟨hb0, hx0, hx1⟩ := two_boxes w v wm t
  rw [← hw0] at hb0 hx0 hx1
  obtain ⟨q0, hq0⟩ : ∃ q0, q0 = w.heap.size := ⟨_, rfl⟩
  rw [← hq0] at hx0 hx1
  obtain ⟨ra, rc, rfl, hra⟩ := hd.slice
  have HB0 := Lib.hid hb0
  have HX0 := Lib.hid hx0
  have HX1 := Lib.hid hx1
  have HRA := Lib.hid (hra.below hb0)
  have HH := Lib.hid (h.below hb0)
  have HP := Lib.hid hp
  have HF := Lib.hid hf
  have HRN := Lib.hid hR
  have HC := Lib.hid hc
  have HOK := Lib.hid h.a.ok
  have HAT := Lib.hid (hp.at_ ordT rev t)
  obtain ⟨zo, zr, zu⟩ := t
  have hm1 : zo.size ≤ 1000000000000000000 := hf.1
  have hm2 : zr.size ≤ 1000000000000000000 := hf.2.1
  have hm3 : zu.size ≤ 1000000000000000000 := hf.2.2
  have HM1 := Lib.hid hm1
  have HM2 := Lib.hid hm2
  have HM3 := Lib.hid hm3
  have HHS := Lib.hid (HH.out.has hc (t := ⟨zo, zr, zu⟩) hf rev)
  have z0 : w0.cell? ⟨q0 + 1, 0, none⟩ = some (.string zo) := by rw [hx1.cell]; rfl
  have z1 : w0.cell? ⟨q0 + 1, 1, none⟩ = some (.string zr) := by rw [hx1.cell]; rfl
  have z2 : w0.cell? ⟨q0 + 1, 2, none⟩ = some (.string zu) := by rw [hx1.cell]; rfl
  clear hb0 hx0 hx1 hd hra h hp hf hR hc hm1 hm2 hm3
  go_enter Tryz.func29, Tryz.ntmps29
  go_upto_region 1 with fail
  rw [← hw0, ← hq0]
  clear hw0 hq0
  go_wp2_with fail
  refine HHS.out.mono ?_
  rintro _ w1 ⟨rfl, hb1⟩
  have HB1 := Lib.hid (bell_up HB0.out hb1)
  have HH1 := Lib.hid (HH.out.below hb1)
  have HX01 := Lib.hid (HX0.out.kept (hb1.block _ HX0.out.lt))
  have HX11 := Lib.hid (HX1.out.kept (hb1.block _ HX1.out.lt))
  have HRA1 := Lib.hid (HRA.out.below hb1)
  have HUS := Lib.hid (HH1.out.users HC.out HP.out HM1.out HM2.out rev)
  have z0 : w1.cell? ⟨q0 + 1, 0, none⟩ = some (.string zo) := by rw [HX11.out.cell]; rfl
  have z1 : w1.cell? ⟨q0 + 1, 1, none⟩ = some (.string zr) := by rw [HX11.out.cell]; rfl
  clear hb1 HHS HB0 HH HX0 HX1 HRA z2
  generalize hhb : hasB M wm rev ⟨zo, zr, zu⟩ = hb at *
  have HHB := Lib.hid hhb
  clear hhb
  go_wp2_with fail
  refine HUS.out.mono ?_
  rintro _ w2 ⟨uv, F, rfl, hF0, hF1, hur, hb2⟩
  have HB2 := Lib.hid (bell_up HB1.out hb2)
  have HH2 := Lib.hid (HH1.out.below hb2)
  have HX02 := Lib.hid (HX01.out.kept (hb2.block _ HX01.out.lt))
  have HX12 := Lib.hid (HX11.out.kept (hb2.block _ HX11.out.lt))
  have HRA2 := Lib.hid (HRA1.out.below hb2)
  have HOF := Lib.hid (HH2.out.of HC.out HP.out HM3.out rev)
  have HUR := Lib.hid hur
  have HF0 := Lib.hid hF0
  have HF1 := Lib.hid hF1
  obtain ⟨ua, uc, rfl, _, _⟩ := owned_anyE hur
  have z2 : w2.cell? ⟨q0 + 1, 2, none⟩ = some (.string zu) := by rw [HX12.out.cell]; rfl
  clear hb2 HUS HB1 HH1 HX01 HX11 HRA1 z0 z1 hur hF0 hF1
  go_wp2_with fail
  refine HOF.out.mono ?_
  rintro _ w3 ⟨gv, G, rfl, hG0, hG1, hgr, hb3⟩
  have HB3 := Lib.hid (bell_up HB2.out hb3)
  have HX03 := Lib.hid (HX02.out.kept (hb3.block _ HX02.out.lt))
  have HX13 := Lib.hid (HX12.out.kept (hb3.block _ HX12.out.lt))
  have HRA3 := Lib.hid (HRA2.out.below hb3)
  have HUR3 := Lib.hid (owns_keptN HUR.out (fun k hk => hb3.block k (HUR.out.lt k hk).2))
  have HGR := Lib.hid hgr
  have HG0 := Lib.hid hG0
  have HG1 := Lib.hid hG1
  obtain ⟨ga, gc, rfl, _, _⟩ := owned_anyE hgr
  have HRD := Lib.hid (rreadable_any (.slice ra R.length rc) wm rev w3)
  have y0 : w3.cell? ⟨q0, 0, none⟩ = some (.slice ra R.length rc) := by rw [HX03.out.cell]; rfl
  have y1 : w3.cell? ⟨q0, 1, none⟩ = some (.int .i64 wm) := by rw [HX03.out.cell]; rfl
  clear hb3 HOF HB2 HH2 HX02 HX12 HRA2 HUR z2 hgr hG0 hG1
  generalize hcd : readableB wm rev = cd at *
  have HCD := Lib.hid hcd
  clear hcd
  go_wp2_with fail
  refine HRD.out.mono ?_
  rintro _ w4 ⟨rfl, hb4⟩
  have HB4 := Lib.hid (bell_up HB3.out hb4)
  have HX04 := Lib.hid (HX03.out.kept (hb4.block _ HX03.out.lt))
  have HX14 := Lib.hid (HX13.out.kept (hb4.block _ HX13.out.lt))
  have HRA4 := Lib.hid (HRA3.out.below hb4)
  have HUR4 := Lib.hid (owns_keptN HUR3.out (fun k hk => hb4.block k (HUR3.out.lt k hk).2))
  have HGR4 := Lib.hid (owns_keptN HGR.out (fun k hk => hb4.block k (HGR.out.lt k hk).2))
  have y0 : w4.cell? ⟨q0, 0, none⟩ = some (.slice ra R.length rc) := by rw [HX04.out.cell]; rfl
  have y1 : w4.cell? ⟨q0, 1, none⟩ = some (.int .i64 wm) := by rw [HX04.out.cell]; rfl
  clear hb4 HRD HB3 HX03 HX13 HRA3 HUR3 HGR
  by_cases hz : cd = 0
  case neg =>
    obtain rfl : F = [] := HF1.out hz
    obtain rfl : G = [] := HG1.out hz
    have hhf : hb = false := by rw [← HHB.out]; unfold hasB; rw [HCD.out, if_neg hz]
    subst hhf
    have hz1 : (cd != 0) = true := by simpa using hz
    have hz2 : (cd == 0) = false := by simpa using hz
    clear HF0 HF1 HG0 HG1
    simp only [List.length_nil]
    go_wp2
    go_ret
    exact ⟨rfl, HB4.out⟩
  case pos =>
    subst hz
    obtain rfl := HF0.out rfl
    obtain rfl := HG0.out rfl
    have HHB2 := Lib.hid (show hb = decide ((⟨zo, zr, zu⟩ : Tp) ∈ atR ltT R rev) from by
      rw [← HHB.out]
      unfold hasB
      rw [HCD.out, if_pos rfl, Bool.eq_iff_iff, decide_eq_true_eq, HAT.out])
    have HAC := Lib.hid (rat_any (rc := rc) HRA4.out (by have := HRN.out; omega) wm rev)
    have HAL := Lib.hid (show (atR ltT R rev).length ≤ 1099511627000 from by
      have h1 := atR_len rev R R.length
      rw [List.take_length] at h1
      have := HRN.out
      omega)
    generalize atR ltT R rev = A at *
    obtain ⟨FL, hFL⟩ : ∃ FL, FL = (A.filter (ofOR zo zr)).length := ⟨_, rfl⟩
    obtain ⟨GL, hGL⟩ : ∃ GL, GL = (A.filter (ofU zu)).length := ⟨_, rfl⟩
    rw [← hFL, ← hGL]
    have HUR4 := Lib.hid (show w4.ownsRow w1.heap.size 9 1 (.slice ua FL uc) FL (((A.filter (ofOR zo zr)).map Tp.u).map .string) by rw [hFL]; exact HUR4.out)
    have HGR4 := Lib.hid (show w4.ownsRow w2.heap.size 32 3 (.slice ga GL gc) GL ((A.filter (ofU zu)).flatMap tc) by rw [hGL]; exact HGR4.out)
    have HFL := Lib.hid hFL
    have HGL := Lib.hid hGL
    clear hFL hGL
    clear HF0 HF1 HG0 HG1 HHB HCD HAT HRA4 HX04
    go_wp2_with fail
    refine HAC.out.mono ?_
    rintro _ w5 ⟨av, rfl, har, hb5⟩
    obtain ⟨aa, ac, rfl, _, _⟩ := owned_anyE har
    have HB5 := Lib.hid (bell_up HB4.out hb5)
    have HX15 := Lib.hid (HX14.out.kept (hb5.block _ HX14.out.lt))
    have HUR5 := Lib.hid (owns_keptN HUR4.out (fun k hk => hb5.block k (HUR4.out.lt k hk).2))
    have HGR5 := Lib.hid (owns_keptN HGR4.out (fun k hk => hb5.block k (HGR4.out.lt k hk).2))
    have HAR := Lib.hid har
    have hal : A.length ≤ 1099511627000 := HAL.out
    clear hb5 har HAC HB4 HX14 HUR4 HGR4 y0 y1
    go_wp2_with fail
    go_loopw [16, 17, 18, 80] (fun fv nv mv iv wr => ∃ i : Nat, i ≤ A.length ∧ iv = .int .i64 i ∧ fv = .bool (decide ((⟨zo, zr, zu⟩ : Tp) ∈ A.take i)) ∧ nv = .int .i64 (pk (ofOR zo zr) A i) ∧ mv = .int .i64 (pk (ofU zu) A i) ∧ Below w5.heap.size w5 wr) (fun _ _ _ iv _ => A.length - (intOf iv).toNat)
    case atStart => exact ⟨0, by omega, rfl, by simp, rfl, rfl, Below.refl _ _⟩
    case round =>
      obtain ⟨i, hin, rfl, rfl, rfl, rfl, hbr⟩ := hrel
      have HBR := Lib.hid hbr
      by_cases hil : i < A.length
      · obtain ⟨x, hx⟩ : ∃ x, A[i]? = some x := ⟨_, List.getElem?_eq_getElem hil⟩
        obtain ⟨b, rfl, hbB, hcA⟩ := tcs_at (owns_keptN HAR.out (fun k hk => hbr.block k (HAR.out.lt k hk).2)) (by omega)
        obtain ⟨c0, c1, c2⟩ := hcA i x hx
        rw [Nat.zero_add] at c0 c1 c2
        have HPN := Lib.hid (pk_next (p := ofOR zo zr) hx)
        have HQN := Lib.hid (pk_next (p := ofU zu) hx)
        have HPA := Lib.hid (fun h => pk_at (p := ofOR zo zr) hx h)
        have HQA := Lib.hid (fun h => pk_at (p := ofU zu) hx h)
        have hnl := pk_le (ofOR zo zr) A i
        have hml := pk_le (ofU zu) A i
        have htk : A.take (i + 1) = A.take i ++ [x] := by rw [List.take_add_one, hx]; rfl
        have HMN := Lib.hid (show decide ((⟨zo, zr, zu⟩ : Tp) ∈ A.take (i + 1)) = (decide ((⟨zo, zr, zu⟩ : Tp) ∈ A.take i) || decide (x = ⟨zo, zr, zu⟩)) from by
          rw [htk, Bool.eq_iff_iff]
          simp only [List.mem_append, List.mem_singleton, Bool.or_eq_true, decide_eq_true_eq]
          exact or_congr Iff.rfl eq_comm)
        generalize pk (ofOR zo zr) A i = N at *
        generalize pk (ofU zu) A i = K at *
        generalize decide ((⟨zo, zr, zu⟩ : Tp) ∈ A.take i) = fd at *
        obtain ⟨xo, xr, xu⟩ := x
        simp only at c0 c1 c2
        obtain ⟨w6, hw6⟩ : ∃ w6, w6 = wr.alloc (.cells #[.string xo, .string xr, .string xu] 32) := ⟨_, rfl⟩
        have hb6 : Below wr.heap.size wr w6 := by rw [hw6]; exact below_alloc _ _
        have h6 : Whole w6 wr.heap.size 32 #[.string xo, .string xr, .string xu] := by rw [hw6]; exact heap_alloc_new _ _
        obtain ⟨q3, hq3⟩ : ∃ q3, q3 = wr.heap.size := ⟨_, rfl⟩
        rw [← hq3] at h6
        have HX6 := Lib.hid h6
        have HB6 := Lib.hid (bell_up hbr hb6)
        have HCC := Lib.hid (show ∀ W, Below w6.heap.size w6 W → (W.cell? ⟨q3, 0, none⟩ = some (.string xo) ∧ W.cell? ⟨q3, 1, none⟩ = some (.string xr) ∧ W.cell? ⟨q3, 2, none⟩ = some (.string xu)) ∧ (W.cell? ⟨q0 + 1, 0, none⟩ = some (.string zo) ∧ W.cell? ⟨q0 + 1, 1, none⟩ = some (.string zr) ∧ W.cell? ⟨q0 + 1, 2, none⟩ = some (.string zu)) from fun W hW => by
          have h1 := HX6.out.kept (hW.block _ HX6.out.lt)
          have h2 := HX15.out.kept ((bell_up HB6.out hW).block _ HX15.out.lt)
          exact ⟨⟨by rw [h1.cell]; rfl, by rw [h1.cell]; rfl, by rw [h1.cell]; rfl⟩, by rw [h2.cell]; rfl, by rw [h2.cell]; rfl, by rw [h2.cell]; rfl⟩)
        have HTC := Lib.hid (tp_cases ⟨xo, xr, xu⟩ ⟨zo, zr, zu⟩)
        have hil2 : (i : Int) < (A.length : Int) := by omega
        have hi4 : i ≤ 1099511627000 := by omega
        have hn4 : N ≤ 1099511627000 := by omega
        have hk4 : K ≤ 1099511627000 := by omega
        clear hbr hx hcA htk hnl hml hb6 h6 hbB hin
        go_upto_region 14 with fail
        rw [← hw6, ← hq3]
        clear hw6 hq3 c0 c1 c2
        obtain ⟨⟨e0, e1, e2⟩, d0, d1, d2⟩ := HCC.out w6 (Below.refl _ _)
        by_cases hzo : xo = zo
        · by_cases hzr : xr = zr
          case pos =>
            by_cases hzu : xu = zu
            · cases fd
              case true =>
                have s_zo : (xo.toList == zo.toList) = true := by rw [hzo]; simp
                have s_zr : (xr.toList == zr.toList) = true := by rw [hzr]; simp
                have s_zu : (xu.toList == zu.toList) = true := by rw [hzu]; simp
                have HMM := Lib.hid (HMN.out.trans (show (true || decide ((⟨xo, xr, xu⟩ : Tp) = ⟨zo, zr, zu⟩)) = true by rw [hzo, hzr, hzu]; simp))
                have hpp : ofOR zo zr ⟨xo, xr, xu⟩ = true := by unfold ofOR; simp [hzo, hzr]
                have hqq : ofU zu ⟨xo, xr, xu⟩ = true := by unfold ofU; simp [hzu]
                have HPM := Lib.hid (show pk (ofOR zo zr) A (i + 1) = N + 1 from by rw [HPN.out, hpp]; rfl)
                have HQM := Lib.hid (show pk (ofU zu) A (i + 1) = K + 1 from by rw [HQN.out, hqq]; rfl)
                have hFx := HPA.out hpp
                have HFX := Lib.hid (show ((A.filter (ofOR zo zr)).map Tp.u)[N]? = some xu from by rw [List.getElem?_map, hFx]; rfl)
                have hNl := (List.getElem?_eq_some_iff.1 hFx).1
                rw [← HFL.out] at hNl
                have hNz : (N : Int) < (FL : Int) := by omega
                have hNd : decide (FL ≤ N) = false := decide_eq_false (by omega)
                have HNL := Lib.hid hNl
                clear hFx
                have hGx := HQA.out hqq
                have HGX := Lib.hid hGx
                have hKl := (List.getElem?_eq_some_iff.1 hGx).1
                rw [← HGL.out] at hKl
                have hKz : (K : Int) < (GL : Int) := by omega
                have hKd : decide (GL ≤ K) = false := decide_eq_false (by omega)
                have HKL := Lib.hid hKl
                clear hGx
                clear hpp hqq HMN HPN HQN HPA HQA HTC
                skip
                obtain ⟨bu, rfl, hbu, hcu⟩ := usL_at (l := (A.filter (ofOR zo zr)).map Tp.u) (by have := owns_keptN HUR5.out (fun k hk => HB6.out.block k (HUR5.out.lt k hk).2); exact this) (by have := HNL.out; omega)
                have cu := hcu N xu HFX.out
                clear hcu
                go_upto_region 16 with fail
                go_quiet (fail)
                obtain ⟨W, hW⟩ : ∃ W, W = w6.drewN nq := ⟨_, rfl⟩
                have hbW : Below w6.heap.size w6 W := by rw [hW]; exact below_drewN w6 nq
                rw [← hW]
                have HBW := Lib.hid hbW
                clear hW cu hbu e0 e1 e2 d0 d1 d2
                obtain ⟨⟨e0, e1, e2⟩, d0, d1, d2⟩ := HCC.out W hbW
                clear hbW
                obtain ⟨bg, rfl, hbg, hcg⟩ := tcs_at (owns_keptN HGR5.out (fun k hk => (bell_up HB6.out (HBW.out)).block k (HGR5.out.lt k hk).2)) (by have := HKL.out; omega)
                obtain ⟨g0, g1, g2⟩ := hcg K _ HGX.out
                rw [Nat.zero_add] at g0 g1 g2
                simp only at g0 g1 g2
                clear hcg hbg
                go_upto_region 20 with fail
                go_quiet (fail)
                have HBN := Lib.hid (bell_up HB6.out (bell_up (HBW.out) (below_drewN W nq)))
                clear g0 g1 g2
                go_wp2
                go_roundw
                case rel => exact ⟨i + 1, by omega, by go_num, by rw [HMM.out], by rw [HPM.out]; go_num, by rw [HQM.out]; go_num, HBN.out⟩
                case measure => simp [intOf]; omega
              case false =>
                have s_zo : (xo.toList == zo.toList) = true := by rw [hzo]; simp
                have s_zr : (xr.toList == zr.toList) = true := by rw [hzr]; simp
                have s_zu : (xu.toList == zu.toList) = true := by rw [hzu]; simp
                have HMM := Lib.hid (HMN.out.trans (show (false || decide ((⟨xo, xr, xu⟩ : Tp) = ⟨zo, zr, zu⟩)) = true by rw [hzo, hzr, hzu]; simp))
                have hpp : ofOR zo zr ⟨xo, xr, xu⟩ = true := by unfold ofOR; simp [hzo, hzr]
                have hqq : ofU zu ⟨xo, xr, xu⟩ = true := by unfold ofU; simp [hzu]
                have HPM := Lib.hid (show pk (ofOR zo zr) A (i + 1) = N + 1 from by rw [HPN.out, hpp]; rfl)
                have HQM := Lib.hid (show pk (ofU zu) A (i + 1) = K + 1 from by rw [HQN.out, hqq]; rfl)
                have hFx := HPA.out hpp
                have HFX := Lib.hid (show ((A.filter (ofOR zo zr)).map Tp.u)[N]? = some xu from by rw [List.getElem?_map, hFx]; rfl)
                have hNl := (List.getElem?_eq_some_iff.1 hFx).1
                rw [← HFL.out] at hNl
                have hNz : (N : Int) < (FL : Int) := by omega
                have hNd : decide (FL ≤ N) = false := decide_eq_false (by omega)
                have HNL := Lib.hid hNl
                clear hFx
                have hGx := HQA.out hqq
                have HGX := Lib.hid hGx
                have hKl := (List.getElem?_eq_some_iff.1 hGx).1
                rw [← HGL.out] at hKl
                have hKz : (K : Int) < (GL : Int) := by omega
                have hKd : decide (GL ≤ K) = false := decide_eq_false (by omega)
                have HKL := Lib.hid hKl
                clear hGx
                clear hpp hqq HMN HPN HQN HPA HQA HTC
                skip
                obtain ⟨bu, rfl, hbu, hcu⟩ := usL_at (l := (A.filter (ofOR zo zr)).map Tp.u) (by have := owns_keptN HUR5.out (fun k hk => HB6.out.block k (HUR5.out.lt k hk).2); exact this) (by have := HNL.out; omega)
                have cu := hcu N xu HFX.out
                clear hcu
                go_upto_region 16 with fail
                go_quiet (fail)
                obtain ⟨W, hW⟩ : ∃ W, W = w6.drewN nq := ⟨_, rfl⟩
                have hbW : Below w6.heap.size w6 W := by rw [hW]; exact below_drewN w6 nq
                rw [← hW]
                have HBW := Lib.hid hbW
                clear hW cu hbu e0 e1 e2 d0 d1 d2
                obtain ⟨⟨e0, e1, e2⟩, d0, d1, d2⟩ := HCC.out W hbW
                clear hbW
                obtain ⟨bg, rfl, hbg, hcg⟩ := tcs_at (owns_keptN HGR5.out (fun k hk => (bell_up HB6.out (HBW.out)).block k (HGR5.out.lt k hk).2)) (by have := HKL.out; omega)
                obtain ⟨g0, g1, g2⟩ := hcg K _ HGX.out
                rw [Nat.zero_add] at g0 g1 g2
                simp only at g0 g1 g2
                clear hcg hbg
                go_upto_region 20 with fail
                go_quiet (fail)
                have HBN := Lib.hid (bell_up HB6.out (bell_up (HBW.out) (below_drewN W nq)))
                clear g0 g1 g2
                go_wp2
                go_roundw
                case rel => exact ⟨i + 1, by omega, by go_num, by rw [HMM.out], by rw [HPM.out]; go_num, by rw [HQM.out]; go_num, HBN.out⟩
                case measure => simp [intOf]; omega
            · cases fd
              case true =>
                have s_zo : (xo.toList == zo.toList) = true := by rw [hzo]; simp
                have s_zr : (xr.toList == zr.toList) = true := by rw [hzr]; simp
                have s_zu : (xu.toList == zu.toList) = false := str_ne hzu
                have HMM := Lib.hid (HMN.out.trans (show (true || decide ((⟨xo, xr, xu⟩ : Tp) = ⟨zo, zr, zu⟩)) = true by rw [decide_eq_false (fun e => hzu (by injection e)), Bool.or_false]))
                have hpp : ofOR zo zr ⟨xo, xr, xu⟩ = true := by unfold ofOR; simp [hzo, hzr]
                have hqq : ofU zu ⟨xo, xr, xu⟩ = false := by unfold ofU; simp [hzu]
                have HPM := Lib.hid (show pk (ofOR zo zr) A (i + 1) = N + 1 from by rw [HPN.out, hpp]; rfl)
                have HQM := Lib.hid (show pk (ofU zu) A (i + 1) = K + 0 from by rw [HQN.out, hqq]; rfl)
                have hFx := HPA.out hpp
                have HFX := Lib.hid (show ((A.filter (ofOR zo zr)).map Tp.u)[N]? = some xu from by rw [List.getElem?_map, hFx]; rfl)
                have hNl := (List.getElem?_eq_some_iff.1 hFx).1
                rw [← HFL.out] at hNl
                have hNz : (N : Int) < (FL : Int) := by omega
                have hNd : decide (FL ≤ N) = false := decide_eq_false (by omega)
                have HNL := Lib.hid hNl
                clear hFx
                clear hpp hqq HMN HPN HQN HPA HQA HTC
                skip
                obtain ⟨bu, rfl, hbu, hcu⟩ := usL_at (l := (A.filter (ofOR zo zr)).map Tp.u) (by have := owns_keptN HUR5.out (fun k hk => HB6.out.block k (HUR5.out.lt k hk).2); exact this) (by have := HNL.out; omega)
                have cu := hcu N xu HFX.out
                clear hcu
                go_upto_region 16 with fail
                go_quiet (fail)
                obtain ⟨W, hW⟩ : ∃ W, W = w6.drewN nq := ⟨_, rfl⟩
                have hbW : Below w6.heap.size w6 W := by rw [hW]; exact below_drewN w6 nq
                rw [← hW]
                have HBW := Lib.hid hbW
                clear hW cu hbu e0 e1 e2 d0 d1 d2
                obtain ⟨⟨e0, e1, e2⟩, d0, d1, d2⟩ := HCC.out W hbW
                clear hbW
                have HBN := Lib.hid (bell_up HB6.out (HBW.out))
                go_wp2
                go_roundw
                case rel => exact ⟨i + 1, by omega, by go_num, by rw [HMM.out], by rw [HPM.out]; go_num, by rw [HQM.out]; go_num, HBN.out⟩
                case measure => simp [intOf]; omega
              case false =>
                have s_zo : (xo.toList == zo.toList) = true := by rw [hzo]; simp
                have s_zr : (xr.toList == zr.toList) = true := by rw [hzr]; simp
                have s_zu : (xu.toList == zu.toList) = false := str_ne hzu
                have HMM := Lib.hid (HMN.out.trans (show (false || decide ((⟨xo, xr, xu⟩ : Tp) = ⟨zo, zr, zu⟩)) = false by rw [decide_eq_false (fun e => hzu (by injection e)), Bool.or_false]))
                have hpp : ofOR zo zr ⟨xo, xr, xu⟩ = true := by unfold ofOR; simp [hzo, hzr]
                have hqq : ofU zu ⟨xo, xr, xu⟩ = false := by unfold ofU; simp [hzu]
                have HPM := Lib.hid (show pk (ofOR zo zr) A (i + 1) = N + 1 from by rw [HPN.out, hpp]; rfl)
                have HQM := Lib.hid (show pk (ofU zu) A (i + 1) = K + 0 from by rw [HQN.out, hqq]; rfl)
                have hFx := HPA.out hpp
                have HFX := Lib.hid (show ((A.filter (ofOR zo zr)).map Tp.u)[N]? = some xu from by rw [List.getElem?_map, hFx]; rfl)
                have hNl := (List.getElem?_eq_some_iff.1 hFx).1
                rw [← HFL.out] at hNl
                have hNz : (N : Int) < (FL : Int) := by omega
                have hNd : decide (FL ≤ N) = false := decide_eq_false (by omega)
                have HNL := Lib.hid hNl
                clear hFx
                clear hpp hqq HMN HPN HQN HPA HQA HTC
                skip
                obtain ⟨bu, rfl, hbu, hcu⟩ := usL_at (l := (A.filter (ofOR zo zr)).map Tp.u) (by have := owns_keptN HUR5.out (fun k hk => HB6.out.block k (HUR5.out.lt k hk).2); exact this) (by have := HNL.out; omega)
                have cu := hcu N xu HFX.out
                clear hcu
                go_upto_region 16 with fail
                go_quiet (fail)
                obtain ⟨W, hW⟩ : ∃ W, W = w6.drewN nq := ⟨_, rfl⟩
                have hbW : Below w6.heap.size w6 W := by rw [hW]; exact below_drewN w6 nq
                rw [← hW]
                have HBW := Lib.hid hbW
                clear hW cu hbu e0 e1 e2 d0 d1 d2
                obtain ⟨⟨e0, e1, e2⟩, d0, d1, d2⟩ := HCC.out W hbW
                clear hbW
                have HBN := Lib.hid (bell_up HB6.out (HBW.out))
                go_wp2
                go_roundw
                case rel => exact ⟨i + 1, by omega, by go_num, by rw [HMM.out], by rw [HPM.out]; go_num, by rw [HQM.out]; go_num, HBN.out⟩
                case measure => simp [intOf]; omega
          case neg =>
            by_cases hzu : xu = zu
            · cases fd
              case true =>
                have s_zo : (xo.toList == zo.toList) = true := by rw [hzo]; simp
                have s_zr : (xr.toList == zr.toList) = false := str_ne hzr
                have s_zu : (xu.toList == zu.toList) = true := by rw [hzu]; simp
                have HMM := Lib.hid (HMN.out.trans (show (true || decide ((⟨xo, xr, xu⟩ : Tp) = ⟨zo, zr, zu⟩)) = true by rw [decide_eq_false (fun e => hzr (by injection e)), Bool.or_false]))
                have hpp : ofOR zo zr ⟨xo, xr, xu⟩ = false := by unfold ofOR; simp [hzr]
                have hqq : ofU zu ⟨xo, xr, xu⟩ = true := by unfold ofU; simp [hzu]
                have HPM := Lib.hid (show pk (ofOR zo zr) A (i + 1) = N + 0 from by rw [HPN.out, hpp]; rfl)
                have HQM := Lib.hid (show pk (ofU zu) A (i + 1) = K + 1 from by rw [HQN.out, hqq]; rfl)
                have hGx := HQA.out hqq
                have HGX := Lib.hid hGx
                have hKl := (List.getElem?_eq_some_iff.1 hGx).1
                rw [← HGL.out] at hKl
                have hKz : (K : Int) < (GL : Int) := by omega
                have hKd : decide (GL ≤ K) = false := decide_eq_false (by omega)
                have HKL := Lib.hid hKl
                clear hGx
                clear hpp hqq HMN HPN HQN HPA HQA HTC
                skip
                obtain ⟨bg, rfl, hbg, hcg⟩ := tcs_at (owns_keptN HGR5.out (fun k hk => (bell_up HB6.out (Below.refl _ _)).block k (HGR5.out.lt k hk).2)) (by have := HKL.out; omega)
                obtain ⟨g0, g1, g2⟩ := hcg K _ HGX.out
                rw [Nat.zero_add] at g0 g1 g2
                simp only at g0 g1 g2
                clear hcg hbg
                go_upto_region 20 with fail
                go_quiet (fail)
                have HBN := Lib.hid (bell_up HB6.out (bell_up (Below.refl _ _) (below_drewN w6 nq)))
                clear g0 g1 g2
                go_wp2
                go_roundw
                case rel => exact ⟨i + 1, by omega, by go_num, by rw [HMM.out], by rw [HPM.out]; go_num, by rw [HQM.out]; go_num, HBN.out⟩
                case measure => simp [intOf]; omega
              case false =>
                have s_zo : (xo.toList == zo.toList) = true := by rw [hzo]; simp
                have s_zr : (xr.toList == zr.toList) = false := str_ne hzr
                have s_zu : (xu.toList == zu.toList) = true := by rw [hzu]; simp
                have HMM := Lib.hid (HMN.out.trans (show (false || decide ((⟨xo, xr, xu⟩ : Tp) = ⟨zo, zr, zu⟩)) = false by rw [decide_eq_false (fun e => hzr (by injection e)), Bool.or_false]))
                have hpp : ofOR zo zr ⟨xo, xr, xu⟩ = false := by unfold ofOR; simp [hzr]
                have hqq : ofU zu ⟨xo, xr, xu⟩ = true := by unfold ofU; simp [hzu]
                have HPM := Lib.hid (show pk (ofOR zo zr) A (i + 1) = N + 0 from by rw [HPN.out, hpp]; rfl)
                have HQM := Lib.hid (show pk (ofU zu) A (i + 1) = K + 1 from by rw [HQN.out, hqq]; rfl)
                have hGx := HQA.out hqq
                have HGX := Lib.hid hGx
                have hKl := (List.getElem?_eq_some_iff.1 hGx).1
                rw [← HGL.out] at hKl
                have hKz : (K : Int) < (GL : Int) := by omega
                have hKd : decide (GL ≤ K) = false := decide_eq_false (by omega)
                have HKL := Lib.hid hKl
                clear hGx
                clear hpp hqq HMN HPN HQN HPA HQA HTC
                skip
                obtain ⟨bg, rfl, hbg, hcg⟩ := tcs_at (owns_keptN HGR5.out (fun k hk => (bell_up HB6.out (Below.refl _ _)).block k (HGR5.out.lt k hk).2)) (by have := HKL.out; omega)
                obtain ⟨g0, g1, g2⟩ := hcg K _ HGX.out
                rw [Nat.zero_add] at g0 g1 g2
                simp only at g0 g1 g2
                clear hcg hbg
                go_upto_region 20 with fail
                go_quiet (fail)
                have HBN := Lib.hid (bell_up HB6.out (bell_up (Below.refl _ _) (below_drewN w6 nq)))
                clear g0 g1 g2
                go_wp2
                go_roundw
                case rel => exact ⟨i + 1, by omega, by go_num, by rw [HMM.out], by rw [HPM.out]; go_num, by rw [HQM.out]; go_num, HBN.out⟩
                case measure => simp [intOf]; omega
            · cases fd
              case true =>
                have s_zo : (xo.toList == zo.toList) = true := by rw [hzo]; simp
                have s_zr : (xr.toList == zr.toList) = false := str_ne hzr
                have s_zu : (xu.toList == zu.toList) = false := str_ne hzu
                have HMM := Lib.hid (HMN.out.trans (show (true || decide ((⟨xo, xr, xu⟩ : Tp) = ⟨zo, zr, zu⟩)) = true by rw [decide_eq_false (fun e => hzr (by injection e)), Bool.or_false]))
                have hpp : ofOR zo zr ⟨xo, xr, xu⟩ = false := by unfold ofOR; simp [hzr]
                have hqq : ofU zu ⟨xo, xr, xu⟩ = false := by unfold ofU; simp [hzu]
                have HPM := Lib.hid (show pk (ofOR zo zr) A (i + 1) = N + 0 from by rw [HPN.out, hpp]; rfl)
                have HQM := Lib.hid (show pk (ofU zu) A (i + 1) = K + 0 from by rw [HQN.out, hqq]; rfl)
                clear hpp hqq HMN HPN HQN HPA HQA HTC
                skip
                have HBN := Lib.hid (bell_up HB6.out (Below.refl _ _))
                go_wp2
                go_roundw
                case rel => exact ⟨i + 1, by omega, by go_num, by rw [HMM.out], by rw [HPM.out]; go_num, by rw [HQM.out]; go_num, HBN.out⟩
                case measure => simp [intOf]; omega
              case false =>
                have s_zo : (xo.toList == zo.toList) = true := by rw [hzo]; simp
                have s_zr : (xr.toList == zr.toList) = false := str_ne hzr
                have s_zu : (xu.toList == zu.toList) = false := str_ne hzu
                have HMM := Lib.hid (HMN.out.trans (show (false || decide ((⟨xo, xr, xu⟩ : Tp) = ⟨zo, zr, zu⟩)) = false by rw [decide_eq_false (fun e => hzr (by injection e)), Bool.or_false]))
                have hpp : ofOR zo zr ⟨xo, xr, xu⟩ = false := by unfold ofOR; simp [hzr]
                have hqq : ofU zu ⟨xo, xr, xu⟩ = false := by unfold ofU; simp [hzu]
                have HPM := Lib.hid (show pk (ofOR zo zr) A (i + 1) = N + 0 from by rw [HPN.out, hpp]; rfl)
                have HQM := Lib.hid (show pk (ofU zu) A (i + 1) = K + 0 from by rw [HQN.out, hqq]; rfl)
                clear hpp hqq HMN HPN HQN HPA HQA HTC
                skip
                have HBN := Lib.hid (bell_up HB6.out (Below.refl _ _))
                go_wp2
                go_roundw
                case rel => exact ⟨i + 1, by omega, by go_num, by rw [HMM.out], by rw [HPM.out]; go_num, by rw [HQM.out]; go_num, HBN.out⟩
                case measure => simp [intOf]; omega
        · skip
          by_cases hzu : xu = zu
          · cases fd
            case true =>
              have s_zo : (xo.toList == zo.toList) = false := str_ne hzo
              have s_zu : (xu.toList == zu.toList) = true := by rw [hzu]; simp
              have HMM := Lib.hid (HMN.out.trans (show (true || decide ((⟨xo, xr, xu⟩ : Tp) = ⟨zo, zr, zu⟩)) = true by rw [decide_eq_false (fun e => hzo (by injection e)), Bool.or_false]))
              have hpp : ofOR zo zr ⟨xo, xr, xu⟩ = false := by unfold ofOR; simp [hzo]
              have hqq : ofU zu ⟨xo, xr, xu⟩ = true := by unfold ofU; simp [hzu]
              have HPM := Lib.hid (show pk (ofOR zo zr) A (i + 1) = N + 0 from by rw [HPN.out, hpp]; rfl)
              have HQM := Lib.hid (show pk (ofU zu) A (i + 1) = K + 1 from by rw [HQN.out, hqq]; rfl)
              have hGx := HQA.out hqq
              have HGX := Lib.hid hGx
              have hKl := (List.getElem?_eq_some_iff.1 hGx).1
              rw [← HGL.out] at hKl
              have hKz : (K : Int) < (GL : Int) := by omega
              have hKd : decide (GL ≤ K) = false := decide_eq_false (by omega)
              have HKL := Lib.hid hKl
              clear hGx
              clear hpp hqq HMN HPN HQN HPA HQA HTC
              skip
              obtain ⟨bg, rfl, hbg, hcg⟩ := tcs_at (owns_keptN HGR5.out (fun k hk => (bell_up HB6.out (Below.refl _ _)).block k (HGR5.out.lt k hk).2)) (by have := HKL.out; omega)
              obtain ⟨g0, g1, g2⟩ := hcg K _ HGX.out
              rw [Nat.zero_add] at g0 g1 g2
              simp only at g0 g1 g2
              clear hcg hbg
              go_upto_region 20 with fail
              go_quiet (fail)
              have HBN := Lib.hid (bell_up HB6.out (bell_up (Below.refl _ _) (below_drewN w6 nq)))
              clear g0 g1 g2
              go_wp2
              go_roundw
              case rel => exact ⟨i + 1, by omega, by go_num, by rw [HMM.out], by rw [HPM.out]; go_num, by rw [HQM.out]; go_num, HBN.out⟩
              case measure => simp [intOf]; omega
            case false =>
              have s_zo : (xo.toList == zo.toList) = false := str_ne hzo
              have s_zu : (xu.toList == zu.toList) = true := by rw [hzu]; simp
              have HMM := Lib.hid (HMN.out.trans (show (false || decide ((⟨xo, xr, xu⟩ : Tp) = ⟨zo, zr, zu⟩)) = false by rw [decide_eq_false (fun e => hzo (by injection e)), Bool.or_false]))
              have hpp : ofOR zo zr ⟨xo, xr, xu⟩ = false := by unfold ofOR; simp [hzo]
              have hqq : ofU zu ⟨xo, xr, xu⟩ = true := by unfold ofU; simp [hzu]
              have HPM := Lib.hid (show pk (ofOR zo zr) A (i + 1) = N + 0 from by rw [HPN.out, hpp]; rfl)
              have HQM := Lib.hid (show pk (ofU zu) A (i + 1) = K + 1 from by rw [HQN.out, hqq]; rfl)
              have hGx := HQA.out hqq
              have HGX := Lib.hid hGx
              have hKl := (List.getElem?_eq_some_iff.1 hGx).1
              rw [← HGL.out] at hKl
              have hKz : (K : Int) < (GL : Int) := by omega
              have hKd : decide (GL ≤ K) = false := decide_eq_false (by omega)
              have HKL := Lib.hid hKl
              clear hGx
              clear hpp hqq HMN HPN HQN HPA HQA HTC
              skip
              obtain ⟨bg, rfl, hbg, hcg⟩ := tcs_at (owns_keptN HGR5.out (fun k hk => (bell_up HB6.out (Below.refl _ _)).block k (HGR5.out.lt k hk).2)) (by have := HKL.out; omega)
              obtain ⟨g0, g1, g2⟩ := hcg K _ HGX.out
              rw [Nat.zero_add] at g0 g1 g2
              simp only at g0 g1 g2
              clear hcg hbg
              go_upto_region 20 with fail
              go_quiet (fail)
              have HBN := Lib.hid (bell_up HB6.out (bell_up (Below.refl _ _) (below_drewN w6 nq)))
              clear g0 g1 g2
              go_wp2
              go_roundw
              case rel => exact ⟨i + 1, by omega, by go_num, by rw [HMM.out], by rw [HPM.out]; go_num, by rw [HQM.out]; go_num, HBN.out⟩
              case measure => simp [intOf]; omega
          · cases fd
            case true =>
              have s_zo : (xo.toList == zo.toList) = false := str_ne hzo
              have s_zu : (xu.toList == zu.toList) = false := str_ne hzu
              have HMM := Lib.hid (HMN.out.trans (show (true || decide ((⟨xo, xr, xu⟩ : Tp) = ⟨zo, zr, zu⟩)) = true by rw [decide_eq_false (fun e => hzo (by injection e)), Bool.or_false]))
              have hpp : ofOR zo zr ⟨xo, xr, xu⟩ = false := by unfold ofOR; simp [hzo]
              have hqq : ofU zu ⟨xo, xr, xu⟩ = false := by unfold ofU; simp [hzu]
              have HPM := Lib.hid (show pk (ofOR zo zr) A (i + 1) = N + 0 from by rw [HPN.out, hpp]; rfl)
              have HQM := Lib.hid (show pk (ofU zu) A (i + 1) = K + 0 from by rw [HQN.out, hqq]; rfl)
              clear hpp hqq HMN HPN HQN HPA HQA HTC
              skip
              have HBN := Lib.hid (bell_up HB6.out (Below.refl _ _))
              go_wp2
              go_roundw
              case rel => exact ⟨i + 1, by omega, by go_num, by rw [HMM.out], by rw [HPM.out]; go_num, by rw [HQM.out]; go_num, HBN.out⟩
              case measure => simp [intOf]; omega
            case false =>
              have s_zo : (xo.toList == zo.toList) = false := str_ne hzo
              have s_zu : (xu.toList == zu.toList) = false := str_ne hzu
              have HMM := Lib.hid (HMN.out.trans (show (false || decide ((⟨xo, xr, xu⟩ : Tp) = ⟨zo, zr, zu⟩)) = false by rw [decide_eq_false (fun e => hzo (by injection e)), Bool.or_false]))
              have hpp : ofOR zo zr ⟨xo, xr, xu⟩ = false := by unfold ofOR; simp [hzo]
              have hqq : ofU zu ⟨xo, xr, xu⟩ = false := by unfold ofU; simp [hzu]
              have HPM := Lib.hid (show pk (ofOR zo zr) A (i + 1) = N + 0 from by rw [HPN.out, hpp]; rfl)
              have HQM := Lib.hid (show pk (ofU zu) A (i + 1) = K + 0 from by rw [HQN.out, hqq]; rfl)
              clear hpp hqq HMN HPN HQN HPA HQA HTC
              skip
              have HBN := Lib.hid (bell_up HB6.out (Below.refl _ _))
              go_wp2
              go_roundw
              case rel => exact ⟨i + 1, by omega, by go_num, by rw [HMM.out], by rw [HPM.out]; go_num, by rw [HQM.out]; go_num, HBN.out⟩
              case measure => simp [intOf]; omega
      · obtain rfl : i = A.length := by omega
        have hnE := pk_end (ofOR zo zr) A
        have hmE := pk_end (ofU zu) A
        have hhe := HHB2.out
        rw [List.take_length, hnE, hmE, ← hhe, ← HFL.out, ← HGL.out]
        have HBE := Lib.hid (bell_up HB5.out hbr)
        clear hbr hhe hnE hmE
        go_wp2
        go_ret
        exact ⟨rfl, HBE.out⟩
end Go.Proofs.YtmjdngomjjhhiaaGreat
