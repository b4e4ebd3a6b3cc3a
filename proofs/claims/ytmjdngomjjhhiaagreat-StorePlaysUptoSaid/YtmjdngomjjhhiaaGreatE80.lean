/- StorePlays: the walk. -/
import Derived.Test.YtmjdngomjjhhiaaGreatE79
namespace Go.Proofs.YtmjdngomjjhhiaaGreat
open Go.RowKit
open Go.Maps (Keyed)

set_option maxRecDepth 100000 in
set_option maxHeartbeats 4000000 in
theorem rsameR_any {w : World} {aa ba : Option Addr} {ac bc : Nat} {R : List Rw} (ha : RowsAt w aa R.length R) (hb : RowsAt w ba R.length R) (hn : R.length ≤ 1099511627776) :
    Calls Tryz.prog 9 #[.slice aa R.length ac, .slice ba R.length bc] w fun e w' => e = .returned (.bool true) ∧ Below w.heap.size w w' := by
  have HA := Lib.hid ha
  have HB := Lib.hid hb
  clear ha hb
  go_enter Tryz.func9, Tryz.ntmps9
  go_wp2_with fail
  go_loopw [5] (fun iv wr => ∃ i : Nat, i ≤ R.length ∧ iv = .int .i64 i ∧ Below w.heap.size w wr) (fun iv _ => R.length - (intOf iv).toNat)
  case atStart => exact ⟨0, by omega, rfl, Below.refl _ _⟩
  case round =>
    obtain ⟨i, hin, rfl, hbl⟩ := hrel
    by_cases hil : i < R.length
    · obtain ⟨r, hr⟩ : ∃ r, R[i]? = some r := ⟨_, List.getElem?_eq_getElem hil⟩
      obtain ⟨b1, o1, rfl, _, x0, x1, x2, x3, x4⟩ := (HA.out.below (bell_up hbl (below_drew1 wr))).cells hr
      obtain ⟨b2, o2, rfl, _, y0, y1, y2, y3, y4⟩ := (HB.out.below (bell_up hbl (below_drew1 wr))).cells hr
      have hil2 : (i : Int) < (R.length : Int) := by omega
      have HBL := Lib.hid (bell_up hbl (below_drew1 wr))
      clear hr hbl
      go_upto_region 6 with fail
      go_region
      go_wp2
      go_roundw
      case rel => exact ⟨i + 1, by omega, by go_num, HBL.out⟩
      case measure => simp [intOf]; omega
    · obtain rfl : i = R.length := by omega
      have HBL := Lib.hid hbl
      clear hbl
      go_wp2
      go_ret
      exact ⟨rfl, HBL.out⟩
/-- Between the steps. -/
structure PlB (W0 wr : World) (g qw c : Nat) (M : SM) (H : Gh) (wm : Int) (R : List Rw) (v : Value) : Prop where
  one : OneW W0 wr g M H wm (5 * c)
  dr : DR wr (fun b => H.own b ∨ b = qw) R v
  rep : Rep ltT M R
  len : R.length ≤ c
  box : Whole wr qw 28 #[v, .int .i64 wm]
  nq : ¬ H.own qw
  lo : W0.heap.size ≤ qw
theorem PlB.below {W0 wr w' : World} {g qw c : Nat} {M : SM} {H : Gh} {wm : Int} {R : List Rw} {v : Value} (h : PlB W0 wr g qw c M H wm R v) (hb : Below wr.heap.size wr w') : PlB W0 w' g qw c M H wm R v :=
  ⟨h.one.below hb, h.dr.below hb, h.rep, h.len, h.box.kept (hb.block _ h.box.lt), h.nq, h.lo⟩
theorem PlB.drew {W0 wr : World} {g qw c : Nat} {M : SM} {H : Gh} {wm : Int} {R : List Rw} {v : Value} (h : PlB W0 wr g qw c M H wm R v) : PlB W0 wr.drew g qw c M H wm R v := h.below (below_drew1 wr)
theorem DR.not_box {w : World} {X : Nat → Prop} {R : List Rw} {v a b : Value} {q : Nat} {T : TypeId} (h : DR w X R v) (hx : Whole w q T #[a, b]) : DR w (fun k => X k ∨ k = q) R v := by
  obtain ⟨ra, rc, e, h1, h2⟩ := h
  refine ⟨ra, rc, e, h1, fun hR ad ha ho => ho.elim (h2 hR ad ha) (fun hq => ?_)⟩
  obtain ⟨r, hr⟩ : ∃ r, R[0]? = some r := ⟨_, List.getElem?_eq_getElem hR⟩
  obtain ⟨b2, off, e2, _, _, _, _, _, k4⟩ := h1.cells hr
  rw [ha] at e2
  injection e2 with e2
  subst e2
  simp only at hq
  subst hq
  rw [hx.cell] at k4
  simp at k4
theorem PlB.put {W0 w4 w5 : World} {g qw c : Nat} {M' : SM} {H H' : Gh} {wm wm' : Int} {R' : List Rw} {v v' : Value} (s : StpE W0 w4 H w5 g c M' H' wm' R' v') (hx : Whole w5 qw 28 #[v, .int .i64 wm]) (hn : ¬ H'.own qw) (hlo : W0.heap.size ≤ qw) :
    PlB W0 ((w5.setCell ⟨qw, 0, none⟩ v').setCell ⟨qw, 1, none⟩ (.int .i64 wm')) g qw c M' H' wm' R' v' := by
  have hc : Chg w5 ((w5.setCell ⟨qw, 0, none⟩ v').setCell ⟨qw, 1, none⟩ (.int .i64 wm')) (fun b => b = qw) := ((Chg.refl w5 (fun b => b = qw)).set rfl 0 v').set rfl 1 _
  exact ⟨⟨s.one.a.chg hc (fun b ho e => hn (e ▸ ho)), s.one.ga, s.one.oa, (s.one.bel.setCell (p := ⟨qw, 0, none⟩) hlo _).setCell (p := ⟨qw, 1, none⟩) hlo _⟩, (s.dr.not_box hx).chg hc (fun b hb => .inr hb) (fun b _ hb => hb), s.rep, s.len, (hx.store 0 v').store 1 (.int .i64 wm'), hn, hlo⟩
theorem PlB.rows {W0 wr : World} {g qw c : Nat} {M : SM} {H : Gh} {wm : Int} {R : List Rw} {v : Value} (h : PlB W0 wr g qw c M H wm R v) (hc : c ≤ 2000000) :
    Calls Tryz.prog 10 #[ptr g] wr fun e w' => ∃ a9 c9, e = .returned (.slice a9 R.length c9) ∧ RowsAt w' a9 R.length R ∧ PlB W0 w' g qw c M H wm R v := by
  have ht := h.rep.tot h.one.a.ok
  have hp := rows_any h.one.a (by omega) (by have := h.len; omega)
  rw [h.one.ga] at hp
  refine hp.mono ?_
  rintro e w' ⟨v9, R9, he, hrep, _, hrow, hb⟩
  obtain rfl := hrep.unique ordT h.rep
  obtain ⟨ra, rc, e2, h1, _⟩ := DR.made (X := fun _ => False) hrow (fun b hb => hb.elim) h.dr.fits
  subst e2
  exact ⟨ra, rc, he, h1, h.below hb⟩
theorem PlB.mark {W0 wr : World} {g qw c : Nat} {M : SM} {H : Gh} {wm : Int} {R : List Rw} {v : Value} (h : PlB W0 wr g qw c M H wm R v) :
    Calls Tryz.prog 8 #[ptr g] wr fun e w' => e = .returned (.int .i64 wm) ∧ PlB W0 w' g qw c M H wm R v := by
  have hp := watermark_any h.one.a.raw.top
  rw [h.one.ga] at hp
  refine hp.mono ?_
  rintro e w' ⟨he, rfl⟩
  exact ⟨he, h⟩
set_option maxRecDepth 100000 in
set_option maxHeartbeats 16000000 in
theorem plays_walk (a : Option Addr) (n c : Nat) (w : World) (hB : ∃ D, OpsIn w a n D) (hn : n ≤ 1048576) :
    Calls Tryz.prog 3 #[.slice a n c] w fun e w' => e = .returned (.bool true) ∧ Below w.heap.size w w' := by
  obtain ⟨D, hD⟩ := hB
  have HD := Lib.hid (show ∀ d ∈ D, OpOk w d from hD.ok)
  have HDC := Lib.hid (show ∀ i, costs D i ≤ 1048576 from fun i => Nat.le_trans (costs_le D i) hD.cost)
  have HDL := Lib.hid hD.len
  have HDA := Lib.hid hD.at_
  clear hD
  go_enter Tryz.func3, Tryz.ntmps3
  go_upto_region 1 with fail
  go_wp2_with fail
  refine (awake_any w).mono ?_
  rintro _ w1 ⟨rfl, hb1⟩
  have HB1 := Lib.hid hb1
  clear hb1
  go_wp2_with fail
  refine (new_st w1).mono ?_
  rintro _ w3 ⟨rfl, hs3, hb3⟩
  have HO3 := Lib.hid (fun b (hb : (Gh.new w1.heap.size).own b) => (Gh.new_own hb).1)
  obtain ⟨H1, hH1⟩ : ∃ H1, H1 = Gh.new w1.heap.size := ⟨_, rfl⟩
  rw [← hH1] at hs3 HO3 ⊢
  clear hH1
  obtain ⟨g1, hg1⟩ : ∃ g1, g1 = H1.g := ⟨_, rfl⟩
  rw [← hg1]
  obtain ⟨w4, hw4⟩ : ∃ w4, w4 = w3.alloc (.cells #[.slice none 0 0, .int .i64 0] 28) := ⟨_, rfl⟩
  have hb4 : Below w3.heap.size w3 w4 := by rw [hw4]; exact below_alloc _ _
  have hx4 : Whole w4 w3.heap.size 28 #[.slice none 0 0, .int .i64 0] := by rw [hw4]; exact heap_alloc_new _ _
  obtain ⟨qw, hqw⟩ : ∃ qw, qw = w3.heap.size := ⟨_, rfl⟩
  rw [← hqw] at hx4
  have hone : OneW w w3 g1 SM.empty H1 0 (5 * costs D 0) := ⟨hs3.mono (by omega), hg1.symm, fun b hb => Nat.le_trans HB1.out.size (HO3.out b hb), bell_up HB1.out hb3⟩
  have HT3 := Lib.hid (show ∃ M H wm R v, PlB w w4 g1 qw (costs D 0) M H wm R v from
    ⟨SM.empty, H1, 0, [], _, hone.below hb4, ⟨none, 0, rfl, ⟨rfl, by simp, .inl rfl⟩, fun h => by simp at h⟩, Rep.empty ltT, Nat.zero_le _, hx4, fun ho => by have := hone.a.raw.own_lt ho; omega, by have := hone.bel.size; omega⟩)
  clear hs3 hb3 hg1 HB1 HO3 hb4 hx4 hone
  go_upto_region 5 with fail
  rw [← hw4, ← hqw]
  clear hw4 hqw
  go_wp2_with fail
  go_loopw [13] (fun iv wr => ∃ (i : Nat), i ≤ n ∧ iv = .int .i64 i ∧ ∃ M H wm R v, PlB w wr g1 qw (costs D i) M H wm R v) (fun iv _ => n - (intOf iv).toNat)
  case atStart => exact ⟨0, by omega, rfl, HT3.out⟩
  case round =>
    clear HT3
    obtain ⟨i, hin, rfl, M, H, wm, R, v, hP⟩ := hrel
    by_cases hil : i < n
    · obtain ⟨b, off, rfl, hbB, hcc⟩ := HDA.out.resolve_left (by omega)
      obtain ⟨d, hdi⟩ : ∃ d, D[i]? = some d := ⟨_, List.getElem?_eq_getElem (by rw [HDL.out]; exact hil)⟩
      have hcell : ∀ (j : Nat) (u : Value), d.vals[j]? = some u → wr.cell? ⟨b, off + i * 8 + j, none⟩ = some u := fun j u hu => (hP.one.bel.cell (p := ⟨b, off + i * 8 + j, none⟩) hbB).trans (hcc i d hdi j u hu)
      have hok := HD.out d (List.mem_of_getElem? hdi)
      have HNX := Lib.hid (costs_next hdi)
      have hc1 := HDC.out (i + 1)
      have HOK := Lib.hid hok
      generalize hCi : costs D i = ci at *
      have HC2 := Lib.hid (show ci + d.cost ≤ 2000000 by have := HNX.out; omega)
      obtain ⟨dk, drev, dma, dml, dmc, dra, drl, drc, doa, dol, doc, dt⟩ := d
      have y0 : wr.cell? ⟨b, off + i * 8, none⟩ = some (.int .i64 dk) := hcell 0 _ rfl
      have y1 : wr.cell? ⟨b, off + i * 8 + 1, none⟩ = some (.int .i64 drev) := hcell 1 _ rfl
      have y2 : wr.cell? ⟨b, off + i * 8 + 2, none⟩ = some (.slice dma dml.length dmc) := hcell 2 _ rfl
      have y3 : wr.cell? ⟨b, off + i * 8 + 3, none⟩ = some (.slice dra drl.length drc) := hcell 3 _ rfl
      have y4 : wr.cell? ⟨b, off + i * 8 + 4, none⟩ = some (.slice doa dol.length doc) := hcell 4 _ rfl
      have y5 : wr.cell? ⟨b, off + i * 8 + 5, none⟩ = some (.string dt.o) := hcell 5 _ rfl
      have y6 : wr.cell? ⟨b, off + i * 8 + 6, none⟩ = some (.string dt.r) := hcell 6 _ rfl
      have y7 : wr.cell? ⟨b, off + i * 8 + 7, none⟩ = some (.string dt.u) := hcell 7 _ rfl
      obtain ⟨w4, hw4⟩ : ∃ w4, w4 = wr.alloc (.cells #[.int .i64 dk, .int .i64 drev, .slice dma dml.length dmc, .slice dra drl.length drc, .slice doa dol.length doc, .string dt.o, .string dt.r, .string dt.u] 34) := ⟨_, rfl⟩
      have h4 : Whole w4 wr.heap.size 34 #[.int .i64 dk, .int .i64 drev, .slice dma dml.length dmc, .slice dra drl.length drc, .slice doa dol.length doc, .string dt.o, .string dt.r, .string dt.u] := by rw [hw4]; exact heap_alloc_new _ _
      have hb4 : Below wr.heap.size wr w4 := by rw [hw4]; exact below_alloc _ _
      obtain ⟨q7, hq7⟩ : ∃ q7, q7 = wr.heap.size := ⟨_, rfl⟩
      rw [← hq7] at h4
      have HP4 := Lib.hid (hP.below hb4)
      have d0 : w4.cell? ⟨q7, 0, none⟩ = some (.int .i64 dk) := by rw [h4.cell]; rfl
      have d1 : w4.cell? ⟨q7, 1, none⟩ = some (.int .i64 drev) := by rw [h4.cell]; rfl
      have d2 : w4.cell? ⟨q7, 2, none⟩ = some (.slice dma dml.length dmc) := by rw [h4.cell]; rfl
      have d3 : w4.cell? ⟨q7, 3, none⟩ = some (.slice dra drl.length drc) := by rw [h4.cell]; rfl
      have d4 : w4.cell? ⟨q7, 4, none⟩ = some (.slice doa dol.length doc) := by rw [h4.cell]; rfl
      have d5 : w4.cell? ⟨q7, 5, none⟩ = some (.string dt.o) := by rw [h4.cell]; rfl
      have d6 : w4.cell? ⟨q7, 6, none⟩ = some (.string dt.r) := by rw [h4.cell]; rfl
      have d7 : w4.cell? ⟨q7, 7, none⟩ = some (.string dt.u) := by rw [h4.cell]; rfl
      have x0 : w4.cell? ⟨qw, 0, none⟩ = some v := by rw [HP4.out.box.cell]; rfl
      have x1 : w4.cell? ⟨qw, 1, none⟩ = some (.int .i64 wm) := by rw [HP4.out.box.cell]; rfl
      obtain ⟨ra0, rc0, rfl, _⟩ := hP.dr.slice
      have HSTP := Lib.hid (step_any HP4.out.one (HP4.out.dr.keep (X' := H.own) (Nat.le_refl _) (fun _ _ _ => rfl) (fun _ _ hb => .inl hb)) HP4.out.rep HP4.out.len _ HOK.out HC2.out)
      have hil2 : (i : Int) < (n : Int) := by omega
      have hi4 : i ≤ 1048576 := by omega
      clear hP hbB hcc hdi hcell hok h4 hb4 hc1
      go_upto_region 9 with fail
      rw [← hw4, ← hq7]
      clear hw4 hq7 y0 y1 y2 y3 y4 y5 y6 y7
      go_wp2_with fail
      refine HSTP.out.mono ?_
      rintro _ w5 ⟨M', H', wm', R', v', rfl, hs5⟩
      obtain ⟨ra1, rc1, rfl, _⟩ := hs5.dr.slice
      have hq5 : w5.heap[qw]? = w4.heap[qw]? := hs5.k.chg.block _ HP4.out.box.lt HP4.out.nq
      have hx5 := HP4.out.box.kept hq5
      have hn5 : ¬ H'.own qw := fun ho => HP4.out.nq (hs5.k.new _ HP4.out.box.lt ho)
      have f0 : w5.frozen? ⟨qw, 0, none⟩ = false := hx5.free 0
      have f1 : w5.frozen? ⟨qw, 1, none⟩ = false := hx5.free 1
      have z0 : w5.cell? ⟨qw, 0, none⟩ = some (.slice ra0 R.length rc0) := by rw [hx5.cell]; rfl
      have z1 : w5.cell? ⟨qw, 1, none⟩ = some (.int .i64 wm) := by rw [hx5.cell]; rfl
      have hP6 := PlB.put hs5 hx5 hn5 HP4.out.lo
      rw [← HNX.out] at hP6
      have HCN := Lib.hid (HDC.out (i + 1))
      obtain ⟨cn, hcn⟩ : ∃ cn, cn = costs D (i + 1) := ⟨_, rfl⟩
      rw [← hcn] at hP6 HCN
      have HCE := Lib.hid hcn
      clear hcn
      obtain ⟨w6, hw6⟩ : ∃ w6, w6 = ((w5.setCell ⟨qw, 0, none⟩ (.slice ra1 R'.length rc1)).setCell ⟨qw, 1, none⟩ (.int .i64 wm')) := ⟨_, rfl⟩
      rw [← hw6] at hP6
      have HP6 := Lib.hid hP6
      have HRL := Lib.hid (show R'.length ≤ 1099511627776 by have := hP6.len; have := HCN.out; omega)
      have HPA := Lib.hid hP6.drew
      have HWM := Lib.hid (fun V (hV : PlB w V g1 qw cn M' H' wm' R' (.slice ra1 R'.length rc1)) => hV.mark)
      have HRW := Lib.hid (fun V (hV : PlB w V g1 qw cn M' H' wm' R' (.slice ra1 R'.length rc1)) => hV.rows (by have := HCN.out; omega))
      have HKS := Lib.hid (show ∀ V, PlB w V g1 qw cn M' H' wm' R' (.slice ra1 R'.length rc1) → V.cell? ⟨qw, 0, none⟩ = some (.slice ra1 R'.length rc1) ∧ V.cell? ⟨qw, 1, none⟩ = some (.int .i64 wm') from fun V hV => ⟨by rw [hV.box.cell]; rfl, by rw [hV.box.cell]; rfl⟩)
      clear hs5 hq5 hx5 hn5 hP6 HSTP HP4 x0 x1 d0 d1 d2 d3 d4 d5 d6 d7
      go_upto_region 10 with fail
      rw [← hw6]
      clear hw6 f0 f1 z0 z1
      have hs0 := HKS.out _ HP6.out
      have hs1 := HKS.out _ HPA.out
      have HPA1 := Lib.hid (HP6.out.below (below_drewN w6 1))
      go_region_held3 (fun W : World => W.cell? ⟨qw, 0, none⟩ = some (.slice ra1 R'.length rc1) ∧ W.cell? ⟨qw, 1, none⟩ = some (.int .i64 wm')) (first | assumption | with_reducible exact HKS.out _ HPA1.out) (first
        | (go_at_call 8; (with_reducible refine (HWM.out _ HPA.out).mono ?_); rintro e w7 ⟨rfl, hp7⟩
           have HP7 := Lib.hid hp7
           have hs7 := HKS.out _ hp7
           clear hp7)
        | (go_at_call 10; (with_reducible refine (HRW.out _ HP7.out).mono ?_); rintro e w8 ⟨a9, c9, rfl, hr8, hp8⟩
           have HP8 := Lib.hid hp8
           have hs8 := HKS.out _ hp8
           have HSM := Lib.hid (show Calls Tryz.prog 9 #[.slice a9 R'.length c9, .slice ra1 R'.length rc1] w8 fun e w' => e = .returned (.bool true) ∧ Below w8.heap.size w8 w' from by
             obtain ⟨_, _, e2, h2, _⟩ := hp8.dr
             injection e2 with e3 e4 e5
             subst e3
             exact rsameR_any hr8 h2 HRL.out)
           clear hp8 hr8)
        | (go_at_call 9; (with_reducible refine HSM.out.mono ?_); rintro e w9 ⟨rfl, hb9⟩
           have HP9 := Lib.hid (HP8.out.below hb9)
           have hs9 := HKS.out _ HP9.out
           clear hb9))
      all_goals
        go_wp2
        go_roundw
        case rel => exact ⟨i + 1, by omega, by go_num, _, _, _, _, _, by rw [← HCE.out]; exact HP9.out⟩
        case measure => simp [intOf]; omega
    · obtain rfl : i = n := by omega
      have HBE := Lib.hid hP.one.bel
      clear hP
      go_wp2
      go_ret
      exact ⟨rfl, HBE.out⟩
end Go.Proofs.YtmjdngomjjhhiaaGreat
