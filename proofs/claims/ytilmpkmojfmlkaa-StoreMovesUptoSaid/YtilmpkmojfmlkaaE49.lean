/- StoreMoves: the walk. -/
import Derived.Test.YtilmpkmojfmlkaaEw
import Derived.Deep.DeepCutAuto
import Derived.Deep.CutBlock
import Derived.BigQuiet
import Derived.Deep.RegionHeld3
namespace Go.Proofs.Ytilmpkmojfmlkaa
open Go.RowKit
open Go.Maps (Keyed)

set_option maxRecDepth 100000 in
set_option maxHeartbeats 16000000 in
theorem moves_walk (a : Option Addr) (n c : Nat) (o : OpD) (w : World) (hB : ∃ D, OpsIn w a n D) (hO : OpOk w o) (hn : n ≤ 1048576) (ho : o.cost ≤ 1048576) :
    Calls Try.prog 4 #[.slice a n c, .agg o.vals.toArray] w fun e w' => e = .returned (.bool true) ∧ Below w.heap.size w w' := by
  obtain ⟨D, hD⟩ := hB
  obtain ⟨k, rev, ma, ml, mc, ra, rl, rc, oa, ol, oc, t⟩ := o
  show Calls Try.prog 4 #[.slice a n c, .agg #[.int .i64 k, .int .i64 rev, .slice ma ml.length mc, .slice ra rl.length rc, .slice oa ol.length oc, .string t.o, .string t.r, .string t.u]] w _
  obtain ⟨W0, hW0⟩ : ∃ W0, W0 = w.alloc (.cells #[.int .i64 k, .int .i64 rev, .slice ma ml.length mc, .slice ra rl.length rc, .slice oa ol.length oc, .string t.o, .string t.r, .string t.u] 34) := ⟨_, rfl⟩
  have hbx : Whole W0 w.heap.size 34 #[.int .i64 k, .int .i64 rev, .slice ma ml.length mc, .slice ra rl.length rc, .slice oa ol.length oc, .string t.o, .string t.r, .string t.u] := by rw [hW0]; exact heap_alloc_new _ _
  have hb0 : Below w.heap.size w W0 := by rw [hW0]; exact below_alloc _ _
  have HBX := Lib.hid hbx
  have HB0 := Lib.hid hb0
  have HMU := Lib.hid (show MutsAt W0 ma ml.length ml from hO.mu.below hb0)
  have HFT := Lib.hid hO.fit
  have HML := Lib.hid (show ml.length ≤ 1048576 from by unfold OpD.cost at ho; simp only at ho; omega)
  have HD := Lib.hid (show ∀ d ∈ D, MutsAt W0 d.ma d.ml.length d.ml from fun d hd => (hD.ok d hd).mu.below hb0)
  have HDC := Lib.hid (show ∀ i, costs D i ≤ 1048576 from fun i => Nat.le_trans (costs_le D i) hD.cost)
  have HDL := Lib.hid hD.len
  have HDA := Lib.hid (show n = 0 ∨ ∃ b off, a = some ⟨b, off, none⟩ ∧ b < W0.heap.size ∧ ∀ (i : Nat) (d : OpD), D[i]? = some d → ∀ (j : Nat) (u : Value), d.vals[j]? = some u → W0.cell? ⟨b, off + i * 8 + j, none⟩ = some u from by
    rcases hD.at_ with h0 | ⟨b, off, he, hb, hc⟩
    · exact .inl h0
    · exact .inr ⟨b, off, he, Nat.lt_of_lt_of_le hb hb0.size, fun i d hd j u hu => (hb0.cell (p := ⟨b, off + i * 8 + j, none⟩) hb).trans (hc i d hd j u hu)⟩)
  clear hO ho hD hb0 hbx
  go_enter Try.func4, Try.ntmps4
  go_upto_region 1 with fail
  rw [← hW0]
  clear hW0
  go_wp2_with fail
  refine (awake_any W0).mono ?_
  rintro _ w1 ⟨rfl, hb1⟩
  have HB1 := Lib.hid hb1
  clear hb1
  go_wp2_with fail
  refine (new_st w1).mono ?_
  rintro _ w2 ⟨rfl, hs2, hb2⟩
  have HO2 := Lib.hid (fun b (hb : (Gh.new w1.heap.size).own b) => (Gh.new_own hb).1)
  obtain ⟨H1, hH1⟩ : ∃ H1, H1 = Gh.new w1.heap.size := ⟨_, rfl⟩
  rw [← hH1] at hs2 HO2 ⊢
  clear hH1
  have HS2 := Lib.hid hs2
  have HB2 := Lib.hid (bell_up HB1.out hb2)
  clear hs2 hb2
  go_wp2_with fail
  refine (new_st w2).mono ?_
  rintro _ w3 ⟨rfl, hs3, hb3⟩
  have HO3 := Lib.hid (fun b (hb : (Gh.new w2.heap.size).own b) => (Gh.new_own hb).1)
  obtain ⟨H2, hH2⟩ : ∃ H2, H2 = Gh.new w2.heap.size := ⟨_, rfl⟩
  rw [← hH2] at hs3 HO3 ⊢
  clear hH2
  obtain ⟨g1, hg1⟩ : ∃ g1, g1 = H1.g := ⟨_, rfl⟩
  obtain ⟨g2, hg2⟩ : ∃ g2, g2 = H2.g := ⟨_, rfl⟩
  have HT3 := Lib.hid (show ∃ Ma Ha, Two W0 w3 g1 g2 Ma SM.empty Ha H2 (5 * costs D 0) 0 ∧ Good Ma ∧ Ma.tot ≤ costs D 0 from
    ⟨SM.empty, H1, ⟨(HS2.out.below hb3).mono (by omega), hs3, hg1.symm, hg2.symm, fun b h1 h2 => by have := HS2.out.raw.own_lt h1; have := HO3.out b h2; omega,
      fun b hb => Nat.le_trans HB1.out.size (HO2.out b hb), fun b hb => Nat.le_trans HB2.out.size (HO3.out b hb), bell_up HB2.out hb3⟩, Good.empty, by rw [SM.empty_tot]; omega⟩)
  rw [← hg1, ← hg2]
  clear hs3 hb3 hg1 hg2 HS2 HB2 HB1 HO2 HO3
  go_wp2_with fail
  go_loopw [26] (fun iv wr => ∃ (i : Nat), i ≤ n ∧ iv = .int .i64 i ∧ ∃ Ma Ha, Two W0 wr g1 g2 Ma SM.empty Ha H2 (5 * costs D i) 0 ∧ Good Ma ∧ Ma.tot ≤ costs D i) (fun iv _ => n - (intOf iv).toNat)
  case atStart => exact ⟨0, by omega, rfl, HT3.out⟩
  case round =>
    clear HT3
    obtain ⟨i, hin, rfl, Ma, Ha, htw, hgd, htt⟩ := hrel
    by_cases hil : i < n
    · obtain ⟨b, off, rfl, hbB, hcc⟩ := HDA.out.resolve_left (by omega)
      obtain ⟨d, hdi⟩ : ∃ d, D[i]? = some d := ⟨_, List.getElem?_eq_getElem (by rw [HDL.out]; exact hil)⟩
      have hcell : ∀ (j : Nat) (u : Value), d.vals[j]? = some u → wr.cell? ⟨b, off + i * 8 + j, none⟩ = some u := fun j u hu => (htw.bel.cell (p := ⟨b, off + i * 8 + j, none⟩) hbB).trans (hcc i d hdi j u hu)
      have hmu := HD.out d (List.mem_of_getElem? hdi)
      have hnx := costs_next hdi
      have hc1 := HDC.out (i + 1)
      obtain ⟨dk, drev, dma, dml, dmc, dra, drl, drc, doa, dol, doc, dt⟩ := d
      have hcd : dml.length ≤ OpD.cost ⟨dk, drev, dma, dml, dmc, dra, drl, drc, doa, dol, doc, dt⟩ := by unfold OpD.cost; simp only; omega
      have y0 : wr.cell? ⟨b, off + i * 8, none⟩ = some (.int .i64 dk) := hcell 0 _ rfl
      have y1 : wr.cell? ⟨b, off + i * 8 + 1, none⟩ = some (.int .i64 drev) := hcell 1 _ rfl
      have y2 : wr.cell? ⟨b, off + i * 8 + 2, none⟩ = some (.slice dma dml.length dmc) := hcell 2 _ rfl
      have y3 : wr.cell? ⟨b, off + i * 8 + 3, none⟩ = some (.slice dra drl.length drc) := hcell 3 _ rfl
      have y4 : wr.cell? ⟨b, off + i * 8 + 4, none⟩ = some (.slice doa dol.length doc) := hcell 4 _ rfl
      have y5 : wr.cell? ⟨b, off + i * 8 + 5, none⟩ = some (.string dt.o) := hcell 5 _ rfl
      have y6 : wr.cell? ⟨b, off + i * 8 + 6, none⟩ = some (.string dt.r) := hcell 6 _ rfl
      have y7 : wr.cell? ⟨b, off + i * 8 + 7, none⟩ = some (.string dt.u) := hcell 7 _ rfl
      obtain ⟨w4, hw4⟩ : ∃ w4, w4 = wr.alloc (.cells #[.int .i64 dk, .int .i64 drev, .slice dma dml.length dmc, .slice dra drl.length drc, .slice doa dol.length doc, .string dt.o, .string dt.r, .string dt.u] 34) := ⟨_, rfl⟩
      have h4 : Whole w4 wr.heap.size 34 #[.int .i64 dk, .int .i64 drev, .slice dma dml.length dmc, .slice dra drl.length drc, .slice doa dol.length doc, .string dt.o, .string dt.r, .string dt.u] := by rw [hw4]; exact heap_alloc_new _ _
      have hb4 : Below wr.heap.size wr w4 := by rw [hw4]; exact below_alloc _ _
      have ht4 := htw.below hb4
      have d2 : w4.cell? ⟨wr.heap.size, 2, none⟩ = some (.slice dma dml.length dmc) := by rw [h4.cell]; rfl
      have hap := apply_any ht4.a (hmu.below ht4.bel) (c := dmc) (hmu.apart ht4.oa) (by simp only; omega) ((i : Int) + 1)
      rw [ht4.ga] at hap
      have HAP := Lib.hid hap
      have HT4 := Lib.hid ht4
      have HGD := Lib.hid hgd
      have HTT := Lib.hid htt
      have HNX := Lib.hid (show costs D i + dml.length ≤ costs D (i + 1) by omega)
      have hil2 : (i : Int) < (n : Int) := by omega
      have hi4 : i ≤ 1048576 := by omega
      clear hcc hdi hcell hmu hnx hc1 hcd h4 hb4 ht4 hap htw hgd htt hbB
      go_upto_region 7 with fail
      rw [← hw4]
      clear hw4 y0 y1 y2 y3 y4 y5 y6 y7
      go_wp2_with fail
      refine HAP.out.mono ?_
      rintro _ w5 ⟨rfl, H5, hs5, hc5⟩
      have HN := Lib.hid (show ∃ Ma Ha, Two W0 w5 g1 g2 Ma SM.empty Ha H2 (5 * costs D (i + 1)) 0 ∧ Good Ma ∧ Ma.tot ≤ costs D (i + 1) from
        ⟨Ma.tried 0 ((i : Int) + 1) dml, H5, HT4.out.stepA (StAt.mono hs5 (by have := HNX.out; omega)) hc5, HGD.out.tried _ _ _, Nat.le_trans (SM.tried_tot HT4.out.a.ok _ _ _) (by have := HTT.out; have := HNX.out; omega)⟩)
      clear hs5 hc5 d2 HAP
      go_wp2
      go_roundw
      case rel => exact ⟨i + 1, by omega, by go_num, HN.out⟩
      case measure => simp [intOf]; omega
    · obtain rfl : i = n := by omega
      have hcn := HDC.out i
      have hr := rows_any htw.a (by omega) (by omega)
      rw [htw.ga] at hr
      have HR := Lib.hid hr
      have HTW := Lib.hid htw
      have HGD := Lib.hid hgd
      have HTT := Lib.hid (show Ma.tot ≤ 1048576 by omega)
      have HCN := Lib.hid hcn
      have HGK := Lib.hid htw.a.ok
      clear hr htw hgd htt hcn
      go_wp2_with fail
      refine HR.out.mono ?_
      rintro _ w4 ⟨v, R, rfl, hpr, hRl, hrr, hb4⟩
      obtain ⟨xa, xc, rfl, _, _⟩ := owned_anyE hrr
      have ht4 := HTW.out.below hb4
      have hh4 : Held w4 Ha H2 wr.heap.size (.slice xa R.length xc) R := Held.made HTW.out hrr
      have HPR := Lib.hid hpr
      have hRn : R.length ≤ 1048576 := by rw [hRl]; exact HTT.out
      have HFR := Lib.hid (fits_of ht4.a hpr)
      have hE0 := ldE_back ht4.a.ok HGD.out hpr
      have HLB := Lib.hid (ht4.a.ok.load_back hpr)
      have HH4 := Lib.hid hh4
      have HT4 := Lib.hid ht4
      obtain ⟨hra4, hno4⟩ := hh4.rows rfl HFR.out
      have hld := load_any ht4.b hra4 (c := xc) (fun hp ad ha => (hno4 hp ad ha).2) (by omega) (by omega)
      rw [hE0, ht4.gb, if_pos rfl] at hld
      have HLD := Lib.hid hld
      clear hpr hRl hrr hb4 ht4 hh4 hE0 hra4 hno4 hld HR HTW
      go_upto_region 10 with fail
      go_cut [61] (fun v61 wx => v61 = .bool false ∧ ∃ Hb, Two W0 wx g1 g2 Ma (SM.empty.load R) Ha Hb (5 * costs D i) (10 * R.length) ∧ Held wx Ha Hb wr.heap.size (.slice xa R.length xc) R)
      case first J KK hJR hMK =>
        as_aux_lemma =>
          go_wp2_with fail
          refine HLD.out.mono ?_
          rintro _ w5 ⟨rfl, H5, hs5, hc5⟩
          have ht5 := HT4.out.stepB hs5 hc5
          have hh5 := HH4.out.chgB hc5
          have hst : (SM.empty.load R).tot = R.length := by rw [SM.load_tot SMOk.empty (HPR.out.loadOk HT4.out.a.ok), SM.empty_tot, Nat.zero_add]
          have hr5 := rows_any ht5.b (by omega) (by omega)
          rw [ht5.gb] at hr5
          have HR5 := Lib.hid hr5
          have HT5 := Lib.hid ht5
          have HH5 := Lib.hid hh5
          clear hs5 hc5 ht5 hh5 hr5 HLD HT4 HH4
          go_wp2_with fail
          refine HR5.out.mono ?_
          rintro _ w6 ⟨v6, R6, rfl, hp6, _, hr6, hb6⟩
          have hR : R6 = R := Rep.unique ordT (HLB.out.2.rep hp6) HPR.out
          rw [hR] at hr6
          have ht6 := HT5.out.below hb6
          have hh6 := HH5.out.below hb6
          have HSM := Lib.hid (rsame_any hr6 hh6.row (by omega))
          have HT6 := Lib.hid ht6
          have HH6 := Lib.hid hh6
          clear hp6 hr6 hb6 hR ht6 hh6 HR5 HT5 HH5
          go_wp2_with fail
          refine HSM.out.mono ?_
          rintro _ w7 ⟨rfl, hb7⟩
          have ht7 := HT6.out.below hb7
          have hh7 := HH6.out.below hb7
          have HT7 := Lib.hid ht7
          have HH7 := Lib.hid hh7
          by_cases h0 : R.length = 0
          · have hd : ¬ 0 < R.length := by omega
            clear h0 hb7 ht7 hh7 HSM HT6 HH6
            go_wp2_with fail
            go_meet
            exact ⟨rfl, _, HT7.out.monoB (by omega), HH7.out⟩
          · have hd : 0 < R.length := by omega
            have hE5 := ldE_twice HT7.out.a.ok HGD.out HPR.out HLB.out.1 HLB.out.2 (by omega)
            obtain ⟨hra7, hno7⟩ := hh7.rows rfl HFR.out
            have hld := load_any ht7.b hra7 (c := xc) (fun hp ad ha => (hno7 hp ad ha).2) (by omega) (by omega)
            rw [hE5, ht7.gb, if_neg (by decide)] at hld
            have HLD := Lib.hid hld
            clear h0 hb7 ht7 hh7 HSM HT6 HH6 hE5 hra7 hno7 hld
            go_wp2_with fail
            refine HLD.out.mono ?_
            rintro _ w8 ⟨rfl, H8, hs8, hc8⟩
            have ht8 := HT7.out.stepB hs8 hc8
            have hh8 := HH7.out.chgB hc8
            have HT8 := Lib.hid ht8
            have HH8 := Lib.hid hh8
            clear hs8 hc8 ht8 hh8 HLD HT7 HH7
            go_wp2_with fail
            go_meet
            exact ⟨rfl, _, HT8.out.monoB (by omega), HH8.out⟩
      case rest =>
        obtain ⟨rfl, Hb, htw, hhe⟩ := hcut
        have HRN := Lib.hid hRn
        have HSB := Lib.hid (fun (V : World) (hV : Below W0.heap.size W0 V) => (show V.cell? ⟨w.heap.size, 1, none⟩ = some (.int .i64 rev) ∧ V.cell? ⟨w.heap.size, 2, none⟩ = some (.slice ma ml.length mc) from by
          have hx := HBX.out.kept (hV.block _ HBX.out.lt)
          exact ⟨by rw [hx.cell]; rfl, by rw [hx.cell]; rfl⟩))
        have HLT := Lib.hid (show (SM.empty.load R).tot ≤ 1048576 from by rw [SM.load_tot SMOk.empty (HPR.out.loadOk htw.a.ok), SM.empty_tot]; omega)
        go_upto_region 12 with fail
        go_cut [82] (fun v82 wz => v82 = .bool false ∧ ∃ Ha' Hb', Two W0 wz g1 g2 (Ma.tried 0 rev ml) ((SM.empty.load R).tried 0 rev ml) Ha' Hb' (5 * costs D i + 5 * ml.length) (10 * R.length + 5 * ml.length) ∧ Held wz Ha' Hb' wr.heap.size (.slice xa R.length xc) R)
        case first J2 KK2 hJR2 hMK2 =>
          as_aux_lemma =>
            rename_i wx
            have htd := htw.below (below_drew1 _)
            have HHE := Lib.hid (hhe.below (below_drew1 _))
            have hk0 := HSB.out _ htd.bel
            have HAA := Lib.hid (htd.applyA HMU.out mc rev (by have := HML.out; have := HCN.out; omega))
            clear htw hhe htd
            go_region_held3 (fun V : World => V.cell? ⟨w.heap.size, 1, none⟩ = some (.int .i64 rev) ∧ V.cell? ⟨w.heap.size, 2, none⟩ = some (.slice ma ml.length mc)) (first | assumption) (first
              | (go_at_call 12; (with_reducible refine HAA.out.mono ?_); rintro e w5 ⟨rfl, H5, c5, t5⟩
                 have hk5 := HSB.out w5 t5.bel
                 have hab := t5.applyB HMU.out mc rev (by have := HML.out; have := HRN.out; omega)
                 rw [HLB.out.2.chk 0 rev ml] at hab
                 have HAB := Lib.hid hab
                 have HH5 := Lib.hid (HHE.out.chgA c5)
                 clear hab c5 t5)
              | (go_at_call 12; (with_reducible refine HAB.out.mono ?_); rintro e w6 ⟨rfl, H6, c6, t6⟩
                 have hk6 := HSB.out w6 t6.bel
                 have HRA := Lib.hid (t6.rowsA (by have := HML.out; have := HCN.out; omega) (Nat.le_trans (SM.tried_tot HGK.out _ _ _) (by have := HML.out; have := HTT.out; omega)))
                 have HT6 := Lib.hid t6
                 have HH6 := Lib.hid (HH5.out.chgB c6)
                 clear c6 t6)
              | (go_at_call 15; (with_reducible refine HRA.out.mono ?_); rintro e w7 ⟨v7, R7, rfl, hp7, hl7, hr7, hb7⟩
                 have t7 := HT6.out.below hb7
                 have hk7 := HSB.out w7 t7.bel
                 have HRB := Lib.hid (t7.rowsB (by have := HML.out; have := HRN.out; omega) (Nat.le_trans (SM.tried_tot HLB.out.1 _ _ _) (by have := HML.out; have := HLT.out; omega)))
                 have HT7 := Lib.hid t7
                 have HH7 := Lib.hid (HH6.out.below hb7)
                 have HP7 := Lib.hid hp7
                 have HL7 := Lib.hid (show R7.length ≤ 1099511627776 from by rw [hl7]; exact Nat.le_trans (SM.tried_tot HGK.out _ _ _) (by have := HML.out; have := HTT.out; omega))
                 have HR7 := Lib.hid hr7
                 clear hp7 hl7 hr7 hb7 t7)
              | (go_at_call 15; (with_reducible refine HRB.out.mono ?_); rintro e w8 ⟨v8, R8, rfl, hp8, _, hr8, hb8⟩
                 have t8 := HT7.out.below hb8
                 have hk8 := HSB.out w8 t8.bel
                 have HT8 := Lib.hid t8
                 have HH8 := Lib.hid (HH7.out.below hb8)
                 have hR8 := Rep.unique ordT ((HLB.out.2.tried 0 rev ml).rep hp8) HP7.out
                 rw [hR8] at hr8
                 have HSM := Lib.hid (rsame_any (owns_keptN HR7.out (fun k hk => hb8.block k (HR7.out.lt k hk).2)) hr8 HL7.out)
                 clear hp8 hr8 hb8 t8 hR8)
              | (go_at_call 17; (with_reducible refine HSM.out.mono ?_); rintro e w9 ⟨rfl, hb9⟩
                 have t9 := HT8.out.below hb9
                 have hk9 := HSB.out w9 t9.bel
                 have HT9 := Lib.hid t9
                 have HH9 := Lib.hid (HH8.out.below hb9)
                 clear hb9 t9))
            go_wp2_with fail
            go_meet
            exact ⟨rfl, _, _, HT9.out, HH9.out⟩
        case rest =>
          obtain ⟨rfl, Ha2, Hb2, htw2, hhe2⟩ := hcut
          have hM1 : Alike ((SM.empty.load R).tried 0 rev ml) (Ma.tried 0 rev ml) := HLB.out.2.tried 0 rev ml
          have hMt : (Ma.tried 0 rev ml).tot ≤ 2097152 := Nat.le_trans (SM.tried_tot HGK.out _ _ _) (by have := HML.out; have := HTT.out; omega)
          obtain ⟨C1, hC1⟩ : ∃ C1, C1 = 5 * costs D i + 5 * ml.length := ⟨_, rfl⟩
          obtain ⟨C2, hC2⟩ : ∃ C2, C2 = 10 * R.length + 5 * ml.length := ⟨_, rfl⟩
          have hC1b : C1 ≤ 1099511627000 := by have := HML.out; have := HCN.out; omega
          have hC2b : C2 ≤ 1099511627000 := by have := HML.out; have := HRN.out; omega
          rw [← hC1, ← hC2] at htw2
          generalize Ma.tried 0 rev ml = M1 at *
          generalize (SM.empty.load R).tried 0 rev ml = M2 at *
          have HTW2 := Lib.hid htw2
          obtain ⟨bB, hhe2⟩ : ∃ bB, Held _ Ha2 Hb2 bB (.slice xa R.length xc) R := ⟨_, hhe2⟩
          have HHE2 := Lib.hid hhe2
          have HMM := Lib.hid hM1
          have HMT := Lib.hid hMt
          have HXB := Lib.hid (fun (V : World) (hV : Below W0.heap.size W0 V) => (show V.cell? ⟨w.heap.size, 5, none⟩ = some (.string t.o) ∧ V.cell? ⟨w.heap.size, 6, none⟩ = some (.string t.r) from by
            have hx := HBX.out.kept (hV.block _ HBX.out.lt)
            exact ⟨by rw [hx.cell]; rfl, by rw [hx.cell]; rfl⟩))
          clear hC1 hC2 htw2 hhe2 hM1 hMt htw hhe HSB
          go_wp2_with fail
          go_loopw [85] (fun iv wq => ∃ (j : Nat), j ≤ i ∧ iv = .int .i64 j ∧ Two W0 wq g1 g2 M1 M2 Ha2 Hb2 C1 C2 ∧ Held wq Ha2 Hb2 bB (.slice xa R.length xc) R) (fun iv _ => i - (intOf iv).toNat)
          case atStart => exact ⟨0, by omega, rfl, HTW2.out, HHE2.out⟩
          case round =>
            clear HTW2 HHE2
            obtain ⟨j, hjn, rfl, htw, hhe⟩ := hrel
            by_cases hjl : j < i
            · have hjl2 : (j : Int) < (i : Int) := by omega
              have hj4 : j ≤ 1048576 := by omega
              obtain ⟨x5, x6⟩ := HXB.out wr htw.bel
              have HUA := Lib.hid (htw.usersA (by omega) HFT.out.1 HFT.out.2.1 j)
              have HTW := Lib.hid htw
              have HHE := Lib.hid hhe
              clear htw hhe
              go_wp2_with fail
              refine HUA.out.mono ?_
              rintro _ w5 ⟨ua, un, uc, rfl, hts, hb5⟩
              have t5 := HTW.out.below hb5
              obtain ⟨z5, z6⟩ := HXB.out w5 t5.bel
              have HUB := Lib.hid (t5.usersB (by omega) HFT.out.1 HFT.out.2.1 j)
              have HT5 := Lib.hid t5
              have HH5 := Lib.hid (HHE.out.below hb5)
              have HTS := Lib.hid hts
              clear t5 hb5 hts x5 x6 HUA HTW HHE
              go_wp2_with fail
              refine HUB.out.mono ?_
              rintro _ w6 ⟨va, vn, vc, rfl, hts, hb6⟩
              have huv : vn = un := by
                obtain ⟨l1, e1, k1⟩ := HTS.out
                obtain ⟨l2, e2, k2⟩ := hts
                rw [← e1, ← e2]
                exact HMM.out.users HT5.out.b.ok HT5.out.a.ok k2 k1
              subst huv
              have HT6 := Lib.hid (HT5.out.below hb6)
              have HH6 := Lib.hid (HH5.out.below hb6)
              clear hb6 hts z5 z6 HUB HT5 HH5 HTS
              go_wp2
              go_roundw
              case rel => exact ⟨j + 1, by omega, by go_num, HT6.out, HH6.out⟩
              case measure => simp [intOf]; omega
            · obtain rfl : j = i := by omega
              have HTW := Lib.hid htw
              have HHE := Lib.hid hhe
              have HO3 := Lib.hid (show ObjS wr wr nilS ((R.take 0).map fun r => r.t.o) from ⟨Below.refl _ _, by simpa using World.ownsRow_nil wr wr.heap.size 9 1⟩)
              obtain ⟨wS, hwS⟩ : ∃ wS, wS = wr := ⟨_, rfl⟩
              rw [← hwS] at HTW HHE
              have HO3 := Lib.hid (show ObjS wS wr nilS ((R.take 0).map fun r => r.t.o) from by rw [hwS]; exact HO3.out)
              obtain ⟨i0, hi0, hz0, hz1, hz2⟩ := info_parts infoT
              clear htw hhe hwS
              go_wp2_with fail
              go_loopw [15, 125] (fun v iv wq => ∃ (q : Nat), q ≤ R.length ∧ iv = .int .i64 q ∧ ObjS wS wq v ((R.take q).map fun r => r.t.o)) (fun _ iv _ => R.length - (intOf iv).toNat)
              case atStart => exact ⟨0, by omega, rfl, HO3.out⟩
              case round =>
                clear HO3
                obtain ⟨q, hqn, rfl, hob⟩ := hrel
                obtain ⟨va, vc, rfl, _, _⟩ := owned_anyE hob.row
                by_cases hql : q < R.length
                · obtain ⟨r, hri⟩ : ∃ r, R[q]? = some r := ⟨_, List.getElem?_eq_getElem hql⟩
                  obtain ⟨pb, pc, he, hpB, hpc⟩ := own_cells (HHE.out.below hob.below).row (by omega)
                  injection he with he f2 f3
                  clear f2 f3
                  subst he
                  obtain ⟨k0, k1, k2, k3, k4⟩ := rwc_at hri
                  have y0 : wr.cell? ⟨pb, q * 5, none⟩ = some (.string r.t.o) := hpc _ _ k0
                  have y1 : wr.cell? ⟨pb, q * 5 + 1, none⟩ = some (.string r.t.r) := hpc _ _ k1
                  have y2 : wr.cell? ⟨pb, q * 5 + 2, none⟩ = some (.string r.t.u) := hpc _ _ k2
                  have y3 : wr.cell? ⟨pb, q * 5 + 3, none⟩ = some (.int .i64 r.s) := hpc _ _ k3
                  have y4 : wr.cell? ⟨pb, q * 5 + 4, none⟩ = some (.int .i64 r.u) := hpc _ _ k4
                  obtain ⟨os, hos⟩ : ∃ os, os = (R.take q).map fun r => r.t.o := ⟨_, rfl⟩
                  have hnx : (R.take (q + 1)).map (fun r => r.t.o) = os ++ [r.t.o] := by rw [hos, List.take_add_one, hri]; simp
                  have hol : os.length ≤ 1048576 := by rw [hos, List.length_map, List.length_take]; omega
                  rw [← hos] at hob ⊢
                  clear hos
                  obtain ⟨w5, hw5⟩ : ∃ w5, w5 = wr.alloc (.cells #[.string r.t.o, .string r.t.r, .string r.t.u, .int .i64 r.s, .int .i64 r.u] 46) := ⟨_, rfl⟩
                  have h5 : Whole w5 wr.heap.size 46 #[.string r.t.o, .string r.t.r, .string r.t.u, .int .i64 r.s, .int .i64 r.u] := by rw [hw5]; exact heap_alloc_new _ _
                  have ho5 := hob.up (show Below wr.heap.size wr w5 by rw [hw5]; exact below_alloc _ _)
                  have d0 : w5.cell? ⟨wr.heap.size, 0, none⟩ = some (.string r.t.o) := by rw [h5.cell]; rfl
                  have HO5 := Lib.hid ho5
                  have HNX := Lib.hid hnx
                  have HBS := Lib.hid (show wS.heap.size ≤ w5.heap.size from ho5.below.size)
                  have hn1 : os.length + 1 ≤ maxLen := by unfold maxLen; omega
                  have hn2 : (os.length + 1) * 16 ≤ 140737488355328 := by omega
                  have hql2 : (q : Int) < (R.length : Int) := by omega
                  have hq4 : q ≤ 1048576 := by omega
                  clear hri hpB hpc k0 k1 k2 k3 k4 hnx hol h5 ho5 hob
                  go_upto_region 26 with fail
                  rw [← hw5]
                  clear hw5 y0 y1 y2 y3 y4
                  go_wp2_with (at_builtin; refine wpList_append_own_at _ rfl (.tmp 129) (.tmp 133) 32 rfl wS.heap.size 9 i0 (.string ⟨#[]⟩) 1 16 Try.underlying32 hi0 hz0 hz1 hz2 rfl (by decide) (.slice va os.length vc) os.length (os.map Value.string) rfl (HO5.out.row.alloc _) ⟨w5.heap.size, 0, none⟩ 1 1 [.string r.t.o] rfl rfl (cell_one_new w5 (.string r.t.o) 9) (by simp [Value.oneCell']) hn1 hn2 (by have := HBS.out; simp; omega) ?_; intro v' w6 hown6 hgr6 _ _
                               have HN := Lib.hid (show ObjS wS w6 v' ((R.take (q + 1)).map fun r => r.t.o) from by
                                 rw [HNX.out]
                                 refine ⟨(bell_alloc HO5.out.below (.cells #[.string r.t.o] 9)).grown hgr6 (by have := HBS.out; simp; omega) (fun k e => (HO5.out.row.lt k e).1), ?_⟩
                                 rw [List.length_append, List.map_append]
                                 exact hown6)
                               clear hown6 hgr6)
                  go_roundw
                  case rel => exact ⟨q + 1, by omega, by go_num, HN.out⟩
                  case measure => simp [intOf]; omega
                · obtain rfl : q = R.length := by omega
                  have HOB := Lib.hid hob
                  have HRA := Lib.hid ((HTW.out.below hob.below).rowsA (by omega) (by have := HMT.out; omega))
                  clear hob
                  go_wp2_with fail
                  refine HRA.out.mono ?_
                  rintro _ w5 ⟨vb, R2, rfl, hp2, hl2, hr2, hb5⟩
                  obtain ⟨xb, xd, rfl, _, _⟩ := owned_anyE hr2
                  have hRm : R2.length ≤ 2097152 := by rw [hl2]; exact HMT.out
                  have hrf : R.length ≤ 1048576 := HRN.out
                  have HP2 := Lib.hid hp2
                  obtain ⟨os3, hos3⟩ : ∃ os3, os3 = (R.take R.length).map fun r => r.t.o := ⟨_, rfl⟩
                  have hol3 : os3.length ≤ 1048576 := by rw [hos3, List.length_map, List.length_take]; omega
                  have HOF := Lib.hid (show ∀ o ∈ os3, o.size ≤ 1000000000000000000 from fun o ho => by
                    rw [hos3] at ho
                    obtain ⟨r, hr, rfl⟩ := List.mem_map.1 ho
                    exact (HFR.out r (List.mem_of_mem_take hr)).1)
                  have HF2 := Lib.hid (show ∀ r ∈ R2, r.t.o.size ≤ 1000000000000000000 from fun r hr => (fits_of HTW.out.a hp2 r hr).1)
                  rw [← hos3] at HOB
                  obtain ⟨bR, hbR⟩ : ∃ bR, bR = wr.heap.size := ⟨_, rfl⟩
                  rw [← hbR] at hr2
                  have HI := Lib.hid (show ObjS wS w5 (.slice va os3.length vc) (os3 ++ (R2.take 0).map fun r => r.t.o) ∧ w5.ownsRow bR 46 5 (.slice xb R2.length xd) R2.length (rwc R2) ∧ ∀ k, (Value.slice va os3.length vc).ownBlock = some k → (Value.slice xb R2.length xd).ownBlock ≠ some k from
                    ⟨by simpa using HOB.out.up hb5, hr2, fun k h1 h2 => by have := (HOB.out.row.lt k h1).2; have := (hr2.lt k h2).1; omega⟩)
                  have hvl : ((R.take R.length).map fun r => r.t.o).length = os3.length := by rw [hos3]
                  rw [hvl]
                  clear hp2 hl2 hr2 hb5 hos3 hbR HOB HRA hvl
                  go_wp2_with fail
                  go_loopw [15, 139] (fun v iv wq => ∃ (q : Nat), q ≤ R2.length ∧ iv = .int .i64 q ∧ ObjS wS wq v (os3 ++ (R2.take q).map fun r => r.t.o) ∧ wq.ownsRow bR 46 5 (.slice xb R2.length xd) R2.length (rwc R2) ∧ ∀ k, v.ownBlock = some k → (Value.slice xb R2.length xd).ownBlock ≠ some k) (fun _ iv _ => R2.length - (intOf iv).toNat)
                  case atStart => exact ⟨0, by omega, rfl, HI.out⟩
                  case round =>
                    clear HI
                    obtain ⟨q, hqn, rfl, hob, hrw, hne⟩ := hrel
                    obtain ⟨va, vc, rfl, _, _⟩ := owned_anyE hob.row
                    by_cases hql : q < R2.length
                    · obtain ⟨r, hri⟩ : ∃ r, R2[q]? = some r := ⟨_, List.getElem?_eq_getElem hql⟩
                      have HRW := Lib.hid hrw
                      obtain ⟨pb, pc, he, hpB, hpc⟩ := own_cells hrw (by omega)
                      injection he with he f2 f3
                      clear f2 f3
                      subst he
                      obtain ⟨k0, k1, k2, k3, k4⟩ := rwc_at hri
                      have y0 : wr.cell? ⟨pb, q * 5, none⟩ = some (.string r.t.o) := hpc _ _ k0
                      have y1 : wr.cell? ⟨pb, q * 5 + 1, none⟩ = some (.string r.t.r) := hpc _ _ k1
                      have y2 : wr.cell? ⟨pb, q * 5 + 2, none⟩ = some (.string r.t.u) := hpc _ _ k2
                      have y3 : wr.cell? ⟨pb, q * 5 + 3, none⟩ = some (.int .i64 r.s) := hpc _ _ k3
                      have y4 : wr.cell? ⟨pb, q * 5 + 4, none⟩ = some (.int .i64 r.u) := hpc _ _ k4
                      obtain ⟨os, hos⟩ : ∃ os, os = os3 ++ (R2.take q).map fun r => r.t.o := ⟨_, rfl⟩
                      have hnx : os3 ++ (R2.take (q + 1)).map (fun r => r.t.o) = os ++ [r.t.o] := by rw [hos, List.take_add_one, hri]; simp
                      have hol : os.length ≤ 4194304 := by rw [hos, List.length_append, List.length_map, List.length_take]; omega
                      rw [← hos] at hob hne ⊢
                      clear hos
                      obtain ⟨w5, hw5⟩ : ∃ w5, w5 = wr.alloc (.cells #[.string r.t.o, .string r.t.r, .string r.t.u, .int .i64 r.s, .int .i64 r.u] 46) := ⟨_, rfl⟩
                      have hb5 : Below wr.heap.size wr w5 := by rw [hw5]; exact below_alloc _ _
                      have h5 : Whole w5 wr.heap.size 46 #[.string r.t.o, .string r.t.r, .string r.t.u, .int .i64 r.s, .int .i64 r.u] := by rw [hw5]; exact heap_alloc_new _ _
                      have ho5 := hob.up hb5
                      have d0 : w5.cell? ⟨wr.heap.size, 0, none⟩ = some (.string r.t.o) := by rw [h5.cell]; rfl
                      have HO5 := Lib.hid ho5
                      have HR5 := Lib.hid (owns_keptN HRW.out (fun k hk => hb5.block k (HRW.out.lt k hk).2))
                      have HNE := Lib.hid hne
                      have HNX := Lib.hid hnx
                      have HBS := Lib.hid (show wS.heap.size ≤ w5.heap.size from ho5.below.size)
                      have hn1 : os.length + 1 ≤ maxLen := by unfold maxLen; omega
                      have hn2 : (os.length + 1) * 16 ≤ 140737488355328 := by omega
                      have hql2 : (q : Int) < (R2.length : Int) := by omega
                      have hq4 : q ≤ 2097152 := by omega
                      clear hri hpB hpc k0 k1 k2 k3 k4 hnx hol h5 ho5 hob hb5 hrw hne HRW
                      go_upto_region 31 with fail
                      rw [← hw5]
                      clear hw5 y0 y1 y2 y3 y4
                      go_wp2_with (at_builtin; refine wpList_append_own_at _ rfl (.tmp 143) (.tmp 147) 32 rfl wS.heap.size 9 i0 (.string ⟨#[]⟩) 1 16 Try.underlying32 hi0 hz0 hz1 hz2 rfl (by decide) (.slice va os.length vc) os.length (os.map Value.string) rfl (HO5.out.row.alloc _) ⟨w5.heap.size, 0, none⟩ 1 1 [.string r.t.o] rfl rfl (cell_one_new w5 (.string r.t.o) 9) (by simp [Value.oneCell']) hn1 hn2 (by have := HBS.out; simp; omega) ?_; intro v' w6 hown6 hgr6 _ hat6
                                   have HN := Lib.hid (show ObjS wS w6 v' (os3 ++ (R2.take (q + 1)).map fun r => r.t.o) ∧ w6.ownsRow bR 46 5 (.slice (some ⟨pb, 0, none⟩) R2.length xd) R2.length (rwc R2) ∧ ∀ k, v'.ownBlock = some k → (Value.slice (some ⟨pb, 0, none⟩) R2.length xd).ownBlock ≠ some k from by
                                     rw [HNX.out]
                                     refine ⟨⟨(bell_alloc HO5.out.below (.cells #[.string r.t.o] 9)).grown hgr6 (by have := HBS.out; simp; omega) (fun k e => (HO5.out.row.lt k e).1), ?_⟩, owns_keptN HR5.out (fun k hk => ?_), fun k h1 h2 => ?_⟩
                                     · rw [List.length_append, List.map_append]
                                       exact hown6
                                     · have hlt := (HR5.out.lt k hk).2
                                       exact (hgr6.block k (by simp; omega) (fun e => HNE.out k e.symm hk)).trans ((below_alloc w5 (.cells #[.string r.t.o] 9)).block k hlt)
                                     · rcases hat6 with e | e
                                       · exact HNE.out k (e.symm.trans h1) h2
                                       · rw [e] at h1
                                         injection h1 with h1
                                         have hlt := (HR5.out.lt k h2).2
                                         simp at h1
                                         omega)
                                   clear hown6 hgr6 hat6)
                      go_roundw
                      case rel => exact ⟨q + 1, by omega, by go_num, HN.out⟩
                      case measure => simp [intOf]; omega
                    · obtain rfl : q = R2.length := by omega
                      obtain ⟨os, hos⟩ : ∃ os, os = os3 ++ (R2.take R2.length).map fun r => r.t.o := ⟨_, rfl⟩
                      rw [← hos] at hob ⊢
                      have hol : os.length ≤ 4194304 := by rw [hos, List.length_append, List.length_map, List.length_take]; omega
                      have hin : ∀ x ∈ R2, x.t.o ∈ os := fun x hx => by
                        rw [hos, List.take_length]
                        exact List.mem_append_right _ (List.mem_map.2 ⟨x, hx, rfl⟩)
                      have hof : ∀ o ∈ os, o.size ≤ 1000000000000000000 := fun o ho => by
                        rw [hos] at ho
                        rcases List.mem_append.1 ho with h1 | h1
                        · exact HOF.out o h1
                        · obtain ⟨r, hr, rfl⟩ := List.mem_map.1 h1
                          exact HF2.out r (List.mem_of_mem_take hr)
                      have tw := HTW.out.below hob.below
                      obtain ⟨hsa, hnb⟩ := strs_own hob.row hof
                      have hdp := drop_any tw.a (by omega) hsa (c := vc) (by omega) (fun hp ad ha ho => by
                        have h1 := hnb hp ad ha
                        have h2 := HTW.out.a.raw.own_lt ho
                        omega)
                      rw [tw.ga] at hdp
                      have HDP := Lib.hid hdp
                      have HTT2 := Lib.hid (dropL_tot tw.a.ok HP2.out hin)
                      have HTW5 := Lib.hid tw
                      clear hos hol hin hof tw hsa hnb hdp hob hrw hne
                      go_wp2_with fail
                      refine HDP.out.mono ?_
                      rintro _ w6 ⟨rfl, H6, hs6, hc6⟩
                      have t6 := HTW5.out.stepA hs6 hc6
                      have HRD := Lib.hid (t6.rowsA (by omega) (by have := HTT2.out; omega))
                      have HT6 := Lib.hid t6
                      clear hs6 hc6 t6 HDP
                      go_wp2_with fail
                      refine HRD.out.mono ?_
                      rintro _ w7 ⟨v7, R7, rfl, _, hl7, hr7, hb7⟩
                      rw [hl7, HTT2.out] at hr7
                      obtain ⟨ya, yc, rfl, _, _⟩ := owned_anyE hr7
                      have HF := Lib.hid (show Below w.heap.size w w7 from HB0.out.trans ((bell_up HT6.out.bel hb7).mono HB0.out.size))
                      clear hl7 hr7 hb7 HRD
                      go_wp2
                      go_ret
                      exact ⟨rfl, HF.out⟩
end Go.Proofs.Ytilmpkmojfmlkaa
