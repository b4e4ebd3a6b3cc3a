/- StoreCollects: the walk. -/
import Derived.Test.YtlhilndgiabicaaEy
namespace Go.Proofs.Ytlhilndgiabicaa
open Go.RowKit
open Go.Maps (Keyed)

theorem colE0 (mark : Int) : (¬ (0 ≤ mark ∧ mark ≤ 1125899906842624) ∧ colE 0 mark = 1) ∨ ((0 ≤ mark ∧ mark ≤ 1125899906842624) ∧ colE 0 mark = 0) := by
  unfold colE
  by_cases h : mark < 0 ∨ 1125899906842624 < mark
  · exact .inl ⟨by omega, if_pos h⟩
  · exact .inr ⟨by omega, by rw [if_neg h, if_neg (by omega)]⟩
theorem Two.mono2 {W0 wr : World} {g1 g2 : Nat} {Ma Mb : SM} {Ha Hb : Gh} {ca cb ca' cb' : Nat} (h : Two W0 wr g1 g2 Ma Mb Ha Hb ca cb) (h1 : ca ≤ ca') (h2 : cb ≤ cb') : Two W0 wr g1 g2 Ma Mb Ha Hb ca' cb' := ⟨h.a.mono h1, h.b.mono h2, h.ga, h.gb, h.dj, h.oa, h.ob, h.bel⟩
set_option maxRecDepth 100000 in
set_option maxHeartbeats 16000000 in
theorem collects_walk (a : Option Addr) (n c : Nat) (mark : Int) (ob : ByteArray) (w : World) (hB : ∃ D, OpsIn w a n D) (hn : n ≤ 1048576) (hob : ob.size ≤ 1000000000000000000) :
    Calls Try.prog 8 #[.slice a n c, .int .i64 mark, .string ob] w fun e w' => e = .returned (.bool true) ∧ Below w.heap.size w w' := by
  obtain ⟨D, hD⟩ := hB
  have HD := Lib.hid (show ∀ d ∈ D, MutsAt w d.ma d.ml.length d.ml from fun d hd => (hD.ok d hd).mu)
  have HDC := Lib.hid (show ∀ i, costs D i ≤ 1048576 from fun i => Nat.le_trans (costs_le D i) hD.cost)
  have HDL := Lib.hid hD.len
  have HDA := Lib.hid hD.at_
  have HOB := Lib.hid hob
  clear hD hob
  go_enter Try.func8, Try.ntmps8
  go_upto_region 1 with fail
  go_wp2_with fail
  refine (awake_any w).mono ?_
  rintro _ w1 ⟨rfl, hb1⟩
  have HB1 := Lib.hid hb1
  clear hb1
  go_wp2_with fail
  refine (new_st w1).mono ?_
  rintro _ w2 ⟨rfl, hs2, hb2⟩
  have HO2 := Lib.hid (fun b (hb : (Gh.new w1.heap.size).own b) => (Gh.new_own hb).1)
  obtain ⟨H1, hH1⟩ : ∃ H1, H1 = Gh.new w1.heap.size := ⟨_, rfl⟩
  rw [← hH1] at hs2 HO2 ⊢
  clear hH1
  have HS2 := Lib.hid hs2
  have HB2 := Lib.hid (bell_up HB1.out hb2)
  clear hs2 hb2
  go_wp2_with fail
  refine (new_st w2).mono ?_
  rintro _ w3 ⟨rfl, hs3, hb3⟩
  have HO3 := Lib.hid (fun b (hb : (Gh.new w2.heap.size).own b) => (Gh.new_own hb).1)
  obtain ⟨H2, hH2⟩ : ∃ H2, H2 = Gh.new w2.heap.size := ⟨_, rfl⟩
  rw [← hH2] at hs3 HO3 ⊢
  clear hH2
  obtain ⟨g1, hg1⟩ : ∃ g1, g1 = H1.g := ⟨_, rfl⟩
  obtain ⟨g2, hg2⟩ : ∃ g2, g2 = H2.g := ⟨_, rfl⟩
  have HT3 := Lib.hid (show ∃ M Ha Hb, Two w w3 g1 g2 M M Ha Hb (5 * costs D 0) (5 * costs D 0) ∧ M.tot ≤ costs D 0 from
    ⟨SM.empty, H1, H2, ⟨(HS2.out.below hb3).mono (by omega), hs3.mono (by omega), hg1.symm, hg2.symm, fun b h1 h2 => by have := HS2.out.raw.own_lt h1; have := HO3.out b h2; omega,
      fun b hb => Nat.le_trans HB1.out.size (HO2.out b hb), fun b hb => Nat.le_trans HB2.out.size (HO3.out b hb), bell_up HB2.out hb3⟩, by rw [SM.empty_tot]; omega⟩)
  rw [← hg1, ← hg2]
  clear hs3 hb3 hg1 hg2 HS2 HB2 HB1 HO2 HO3
  go_wp2_with fail
  go_loopw [25] (fun iv wr => ∃ (i : Nat), i ≤ n ∧ iv = .int .i64 i ∧ ∃ M Ha Hb, Two w wr g1 g2 M M Ha Hb (5 * costs D i) (5 * costs D i) ∧ M.tot ≤ costs D i) (fun iv _ => n - (intOf iv).toNat)
  case atStart => exact ⟨0, by omega, rfl, HT3.out⟩
  case round =>
    clear HT3
    obtain ⟨i, hin, rfl, M, Ha, Hb, htw, htt⟩ := hrel
    by_cases hil : i < n
    · obtain ⟨b, off, rfl, hbB, hcc⟩ := HDA.out.resolve_left (by omega)
      obtain ⟨d, hdi⟩ : ∃ d, D[i]? = some d := ⟨_, List.getElem?_eq_getElem (by rw [HDL.out]; exact hil)⟩
      have hcell : ∀ (j : Nat) (u : Value), d.vals[j]? = some u → wr.cell? ⟨b, off + i * 8 + j, none⟩ = some u := fun j u hu => (htw.bel.cell (p := ⟨b, off + i * 8 + j, none⟩) hbB).trans (hcc i d hdi j u hu)
      have hmu := HD.out d (List.mem_of_getElem? hdi)
      have hnx := costs_next hdi
      have hc1 := HDC.out (i + 1)
      obtain ⟨dk, drev, dma, dml, dmc, dra, drl, drc, doa, dol, doc, dt⟩ := d
      have hcd : dml.length ≤ OpD.cost ⟨dk, drev, dma, dml, dmc, dra, drl, drc, doa, dol, doc, dt⟩ := by unfold OpD.cost; simp only; omega
      have y0 : wr.cell? ⟨b, off + i * 8, none⟩ = some (.int .i64 dk) := hcell 0 _ rfl
      have y1 : wr.cell? ⟨b, off + i * 8 + 1, none⟩ = some (.int .i64 drev) := hcell 1 _ rfl
      have y2 : wr.cell? ⟨b, off + i * 8 + 2, none⟩ = some (.slice dma dml.length dmc) := hcell 2 _ rfl
      have y3 : wr.cell? ⟨b, off + i * 8 + 3, none⟩ = some (.slice dra drl.length drc) := hcell 3 _ rfl
      have y4 : wr.cell? ⟨b, off + i * 8 + 4, none⟩ = some (.slice doa dol.length doc) := hcell 4 _ rfl
      have y5 : wr.cell? ⟨b, off + i * 8 + 5, none⟩ = some (.string dt.o) := hcell 5 _ rfl
      have y6 : wr.cell? ⟨b, off + i * 8 + 6, none⟩ = some (.string dt.r) := hcell 6 _ rfl
      have y7 : wr.cell? ⟨b, off + i * 8 + 7, none⟩ = some (.string dt.u) := hcell 7 _ rfl
      obtain ⟨w4, hw4⟩ : ∃ w4, w4 = wr.alloc (.cells #[.int .i64 dk, .int .i64 drev, .slice dma dml.length dmc, .slice dra drl.length drc, .slice doa dol.length doc, .string dt.o, .string dt.r, .string dt.u] 34) := ⟨_, rfl⟩
      have h4 : Whole w4 wr.heap.size 34 #[.int .i64 dk, .int .i64 drev, .slice dma dml.length dmc, .slice dra drl.length drc, .slice doa dol.length doc, .string dt.o, .string dt.r, .string dt.u] := by rw [hw4]; exact heap_alloc_new _ _
      have hb4 : Below wr.heap.size wr w4 := by rw [hw4]; exact below_alloc _ _
      have ht4 := htw.below hb4
      have d2 : w4.cell? ⟨wr.heap.size, 2, none⟩ = some (.slice dma dml.length dmc) := by rw [h4.cell]; rfl
      have HAP := Lib.hid (ht4.applyA hmu dmc ((i : Int) + 1) (by simp only; omega))
      have HMU := Lib.hid hmu
      have H4 := Lib.hid h4
      have HNO := Lib.hid (show ¬ Ha.own wr.heap.size from fun ho => Nat.lt_irrefl _ (htw.a.raw.own_lt ho))
      have HNX := Lib.hid (show costs D i + dml.length ≤ costs D (i + 1) by omega)
      have HC1 := Lib.hid hc1
      have HTT := Lib.hid htt
      have HOK := Lib.hid htw.a.ok
      have hil2 : (i : Int) < (n : Int) := by omega
      have hi4 : i ≤ 1048576 := by omega
      clear hcc hdi hcell hmu hnx hc1 hcd h4 hb4 ht4 htw htt hbB
      go_upto_region 7 with fail
      rw [← hw4]
      clear hw4 y0 y1 y2 y3 y4 y5 y6 y7
      go_wp2_with fail
      refine HAP.out.mono ?_
      rintro _ w5 ⟨rfl, H5, hc5, ht5⟩
      have h5 := H4.out.kept (hc5.chg.block _ H4.out.lt HNO.out)
      have e2 : w5.cell? ⟨wr.heap.size, 2, none⟩ = some (.slice dma dml.length dmc) := by rw [h5.cell]; rfl
      have HBP := Lib.hid (ht5.applyB HMU.out dmc ((i : Int) + 1) (by have := HNX.out; have := HC1.out; omega))
      clear d2 HAP hc5 ht5 h5
      go_wp2_with fail
      refine HBP.out.mono ?_
      rintro _ w6 ⟨rfl, H6, _, ht6⟩
      have HN := Lib.hid (show ∃ M Ha Hb, Two w w6 g1 g2 M M Ha Hb (5 * costs D (i + 1)) (5 * costs D (i + 1)) ∧ M.tot ≤ costs D (i + 1) from
        ⟨_, _, _, ht6.mono2 (by have := HNX.out; omega) (by have := HNX.out; omega), Nat.le_trans (SM.tried_tot HOK.out _ _ _) (by have := HTT.out; have := HNX.out; omega)⟩)
      clear ht6 e2 HBP
      go_wp2
      go_roundw
      case rel => exact ⟨i + 1, by omega, by go_num, HN.out⟩
      case measure => simp [intOf]; omega
    · obtain rfl : i = n := by omega
      have hcn := HDC.out i
      have hcl := collect_any htw.a (by omega) mark
      rw [htw.ga] at hcl
      have HTW := Lib.hid htw
      have HTT := Lib.hid (show M.tot ≤ 1048576 by omega)
      have HCN := Lib.hid hcn
      clear htw htt hcn
      rcases colE0 mark with ⟨hm, hc0⟩ | ⟨⟨hm1, hm2⟩, hc0⟩
      · rw [hc0, if_neg (by decide), if_neg (by decide)] at hcl
        have HCL := Lib.hid hcl
        clear hcl hc0
        go_wp2_with fail
        refine HCL.out.mono ?_
        rintro _ w5 ⟨rfl, H5, hs5, hc5⟩
        have ht5 := HTW.out.tw.stepA hs5 hc5
        have hra := rows_any ht5.a (by have := HCN.out; omega) (by have := HTT.out; omega)
        rw [ht5.ga] at hra
        have HRA := Lib.hid hra
        have HT5 := Lib.hid ht5
        have hm2 : mark < 0 ∨ (0 ≤ mark ∧ 1125899906842624 < mark) := by omega
        clear hs5 hc5 ht5 hra HTW HCL hm
        rcases hm2 with hm2 | ⟨hm2, hm3⟩
        all_goals
          go_wp2_with fail
          refine HRA.out.mono ?_
          rintro _ w6 ⟨v6, R6, rfl, hp6, hl6, hr6, hb6⟩
          have ht6 := HT5.out.below hb6
          have hrb := rows_any ht6.b (by have := HCN.out; omega) (by have := HTT.out; omega)
          rw [ht6.gb] at hrb
          have HRB := Lib.hid hrb
          have HT6 := Lib.hid ht6
          have HP6 := Lib.hid hp6
          have HL6 := Lib.hid hl6
          have HR6 := Lib.hid hr6
          clear hp6 hl6 hr6 hb6 ht6 hrb HT5 HRA
          go_wp2_with fail
          refine HRB.out.mono ?_
          rintro _ w7 ⟨v7, R7, rfl, hp7, _, hr7, hb7⟩
          have hR : R7 = R6 := Rep.unique ordT hp7 HP6.out
          rw [hR] at hr7
          have HSM := Lib.hid (rsame_any (owns_keptN HR6.out (fun k hk => hb7.block k (HR6.out.lt k hk).2)) hr7 (by have := HL6.out; have := HTT.out; omega))
          have HB7 := Lib.hid (HT6.out.below hb7).bel
          clear hp7 hr7 hb7 hR HT6 HRB
          go_wp2_with fail
          refine HSM.out.mono ?_
          rintro _ w8 ⟨rfl, hb8⟩
          have HB8 := Lib.hid (bell_up HB7.out hb8)
          clear hb8
          go_wp2
          go_ret
          exact ⟨rfl, HB8.out⟩
      · rw [hc0, if_pos rfl, if_pos rfl] at hcl
        have HCL := Lib.hid hcl
        clear hcl hc0
        go_wp2_with fail
        refine HCL.out.mono ?_
        rintro _ w5 ⟨rfl, H5, hs5, hc5⟩
        have ht5 := HTW.out.tw.stepA hs5 hc5
        obtain ⟨w6, hw6⟩ : ∃ w6, w6 = w5.alloc (.cells #[.string ob] 9) := ⟨_, rfl⟩
        have hb6 : Below w5.heap.size w5 w6 := by rw [hw6]; exact below_alloc _ _
        have hx6 : Whole w6 w5.heap.size 9 #[.string ob] := by rw [hw6]; exact heap_alloc_new _ _
        have ht6 := ht5.below hb6
        have hst : StrsAt w6 (some ⟨w5.heap.size, 0, none⟩) 1 [ob] := ⟨rfl, fun o ho => by rw [List.mem_singleton] at ho; rw [ho]; exact HOB.out, .inr ⟨_, 0, rfl, hx6.lt, fun j o hj => by
          match j, hj with
          | 0, hj =>
            obtain rfl : ob = o := by simpa using hj
            rw [hx6.cell]; rfl⟩⟩
        have hdr := drop_any ht6.a (c := 1) (by have := HCN.out; omega) hst (by omega) (fun _ ad he ho => by
          injection he with he
          rw [← he] at ho
          have := ht5.a.raw.own_lt ho
          simp at this)
        rw [ht6.ga] at hdr
        have HDR := Lib.hid hdr
        have HT6 := Lib.hid ht6
        have HOK := Lib.hid ht5.b.ok
        clear hs5 hc5 ht5 hb6 hx6 ht6 hst hdr HTW HCL
        go_upto_region 12 with fail
        go_wp2_with fail
        rw [← hw6]
        clear hw6
        refine HDR.out.mono ?_
        rintro _ w7 ⟨rfl, H7, hs7, hc7⟩
        have ht7 := HT6.out.stepA hs7 hc7
        have hrb := rows_any ht7.b (by have := HCN.out; omega) (by have := HTT.out; omega)
        rw [ht7.gb] at hrb
        have HRB := Lib.hid hrb
        have HT7 := Lib.hid ht7
        clear hs7 hc7 ht7 hrb HT6 HDR
        go_wp2_with fail
        refine HRB.out.mono ?_
        rintro _ w8 ⟨v8, R, rfl, hp8, hl8, hr8, hb8⟩
        obtain ⟨ra, rc, rfl, _, _⟩ := owned_anyE hr8
        have ht8 := HT7.out.below hb8
        have HFR := Lib.hid (fits_of ht8.b hp8)
        have HRL := Lib.hid (show R.length ≤ 1048576 by rw [hl8]; exact HTT.out)
        have HR8 := Lib.hid hr8
        have HT8 := Lib.hid ht8
        clear hp8 hl8 hr8 hb8 ht8 HT7 HRB
        go_wp2_with fail
        go_loopw [67] (fun iv wr => ∃ p : Nat, p ≤ R.length ∧ iv = .int .i64 p ∧ Below w8.heap.size w8 wr) (fun iv _ => R.length - (intOf iv).toNat)
        case atStart => exact ⟨0, by omega, rfl, Below.refl _ _⟩
        case round =>
          obtain ⟨p, hp, rfl, hbr⟩ := hrel
          by_cases hpl : p < R.length
          · obtain ⟨x, hx⟩ : ∃ x, R[p]? = some x := ⟨_, List.getElem?_eq_getElem hpl⟩
            obtain ⟨b, c', he, hbb, hcc⟩ := own_cells HR8.out (by omega)
            injection he with e1 e2 e3
            subst e1
            clear e2 e3
            obtain ⟨k0, k1, k2, k3, k4⟩ := rwc_at hx
            have x0 : wr.cell? ⟨b, 0 + p * 5, none⟩ = some (.string x.t.o) := by rw [Nat.zero_add]; exact (hbr.cell (p := ⟨b, p * 5, none⟩) hbb).trans (hcc _ _ k0)
            have x1 : wr.cell? ⟨b, 0 + p * 5 + 1, none⟩ = some (.string x.t.r) := by rw [Nat.zero_add]; exact (hbr.cell (p := ⟨b, p * 5 + 1, none⟩) hbb).trans (hcc _ _ k1)
            have x2 : wr.cell? ⟨b, 0 + p * 5 + 2, none⟩ = some (.string x.t.u) := by rw [Nat.zero_add]; exact (hbr.cell (p := ⟨b, p * 5 + 2, none⟩) hbb).trans (hcc _ _ k2)
            have x3 : wr.cell? ⟨b, 0 + p * 5 + 3, none⟩ = some (.int .i64 x.s) := by rw [Nat.zero_add]; exact (hbr.cell (p := ⟨b, p * 5 + 3, none⟩) hbb).trans (hcc _ _ k3)
            have x4 : wr.cell? ⟨b, 0 + p * 5 + 4, none⟩ = some (.int .i64 x.u) := by rw [Nat.zero_add]; exact (hbr.cell (p := ⟨b, p * 5 + 4, none⟩) hbb).trans (hcc _ _ k4)
            rw [Nat.zero_add] at x0 x1 x2 x3 x4
            have hfx := HFR.out x (List.mem_of_getElem? hx)
            obtain ⟨⟨xo, xr, xu⟩, xs, xt⟩ := x
            simp only at x0 x1 x2 x3 x4
            obtain ⟨w9, hw9⟩ : ∃ w9, w9 = wr.alloc (.cells #[.string xo, .string xr, .string xu, .int .i64 xs, .int .i64 xt] 46) := ⟨_, rfl⟩
            have hb9 : Below wr.heap.size wr w9 := by rw [hw9]; exact below_alloc _ _
            have h9 : Whole w9 wr.heap.size 46 #[.string xo, .string xr, .string xu, .int .i64 xs, .int .i64 xt] := by rw [hw9]; exact heap_alloc_new _ _
            obtain ⟨q9, hq9⟩ : ∃ q9, q9 = wr.heap.size := ⟨_, rfl⟩
            have HT9 := Lib.hid ((HT8.out.below hbr).below hb9)
            have HB9 := Lib.hid (bell_up hbr hb9)
            rw [← hq9] at h9
            have H9 := Lib.hid h9
            have HFX := Lib.hid (show xo.size ≤ 1000000000000000000 ∧ xr.size ≤ 1000000000000000000 from ⟨hfx.1, hfx.2.1⟩)
            have hpz : (p : Int) < (R.length : Int) := by omega
            have hp4 : p ≤ 1048576 := by have := HRL.out; omega
            clear hcc k0 k1 k2 k3 k4 hx hbb hb9 h9 hfx
            go_upto_region 16 with fail
            rw [← hw9, ← hq9]
            clear hw9 hq9 x0 x1 x2 x3 x4 hbr
            go_wp2_with fail
            go_loopw [13] (fun rv wr => ∃ k : Nat, k ≤ 5 ∧ rv = .int .i64 (mark + k) ∧ Below w9.heap.size w9 wr) (fun rv _ => (mark + 5 - intOf rv).toNat)
            case atStart => exact ⟨0, by omega, by simp, Below.refl _ _⟩
            case round =>
              obtain ⟨k, hk, rfl, hbq⟩ := hrel
              have hxq := H9.out.kept (hbq.block _ H9.out.lt)
              have z0 : wr.cell? ⟨q9, 0, none⟩ = some (.string xo) := by rw [hxq.cell]; rfl
              have z1 : wr.cell? ⟨q9, 1, none⟩ = some (.string xr) := by rw [hxq.cell]; rfl
              have HBQ := Lib.hid (bell_up HB9.out hbq)
              have HTQ := Lib.hid (HT9.out.below hbq)
              have HXQ := Lib.hid hxq
              have HBW := Lib.hid hbq
              clear hbq hxq
              by_cases hin2 : k < 5 ∧ mark + (k : Int) ≤ 1125899906842624
              · obtain ⟨hk5, hle⟩ := hin2
                have HUA := Lib.hid (HTQ.out.usersA (o := xo) (r := xr) (by have := HCN.out; omega) HFX.out.1 HFX.out.2 (rev := mark + (k : Int)) (by omega) (by omega))
                go_wp2_with fail
                refine HUA.out.mono ?_
                rintro _ w10 ⟨v1, ts, rfl, hu1, hr1, hb10⟩
                obtain ⟨a1, c1, rfl, _, _⟩ := owned_anyE hr1
                have hx10 := HXQ.out.kept (hb10.block _ HXQ.out.lt)
                have z0 : w10.cell? ⟨q9, 0, none⟩ = some (.string xo) := by rw [hx10.cell]; rfl
                have z1 : w10.cell? ⟨q9, 1, none⟩ = some (.string xr) := by rw [hx10.cell]; rfl
                have HT10 := Lib.hid (HTQ.out.below hb10)
                have HX10 := Lib.hid hx10
                have HU1 := Lib.hid hu1
                have HR1 := Lib.hid hr1
                have HB10 := Lib.hid (bell_up HBW.out hb10)
                have HUB := Lib.hid (HT10.out.usersB (o := xo) (r := xr) (by have := HCN.out; omega) HFX.out.1 HFX.out.2 (rev := mark + (k : Int)) (by omega) (by omega))
                clear hu1 hr1 hb10 hx10 HTQ HUA
                go_wp2_with fail
                refine HUB.out.mono ?_
                rintro _ w11 ⟨v2, us, rfl, hu2, hr2, hb11⟩
                obtain ⟨a2, c2, rfl, _, _⟩ := owned_anyE hr2
                have hx11 := HX10.out.kept (hb11.block _ HX10.out.lt)
                have z0 : w11.cell? ⟨q9, 0, none⟩ = some (.string xo) := by rw [hx11.cell]; rfl
                have HR1 := Lib.hid (owns_keptN HR1.out (fun k hk => hb11.block k (HR1.out.lt k hk).2))
                have HR2 := Lib.hid hr2
                have HB11 := Lib.hid (bell_up HB10.out hb11)
                by_cases hob : xo = ob
                · have hts : ts = [] := by
                    have := HU1.out
                    rw [hob] at this
                    exact users_gone this
                  have hq1 : (xo.toList == ob.toList) = true := by rw [hob]; simp
                  subst hts
                  clear hob hu2 hr2 hb11 hx11 HT10 HUB HX10 HB10 HU1
                  go_wp2
                  go_roundw
                  case rel => exact ⟨k + 1, by omega, by congr 1; omega, HB11.out⟩
                  case measure => simp [intOf]; omega
                · have hq1 : (xo.toList == ob.toList) = false := str_ne hob
                  obtain ⟨hss, hll⟩ := users_kept HOK.out (by omega) hob HU1.out hu2
                  have hln : (sortS (uOf ts)).length = ts.length := by rw [sortS_length]; unfold uOf; rw [List.length_map]
                  have HSS := Lib.hid hss
                  have HLN := Lib.hid hln
                  have hkb : ts.length ≤ 1099511627776 := by
                    have h1 := nd_len HU1.out.nd (fun t ht => ((HU1.out.mem t).1 ht).1)
                    have h2 := HT10.out.a.raw.bigK
                    have h3 := HCN.out
                    omega
                  clear hu2 hr2 hb11 hx11 HT10 HUB HX10 HB10 HU1 hss hln
                  go_wp2_with fail
                  go_loopw [136] (fun iv wr => ∃ m : Nat, m ≤ ts.length ∧ iv = .int .i64 m ∧ Below w11.heap.size w11 wr) (fun iv _ => ts.length - (intOf iv).toNat)
                  case atStart => exact ⟨0, by omega, rfl, Below.refl _ _⟩
                  case round =>
                    obtain ⟨m, hm, rfl, hbm⟩ := hrel
                    by_cases hml : m < ts.length
                    · obtain ⟨s, hs⟩ : ∃ s, (sortS (uOf ts))[m]? = some s := ⟨_, List.getElem?_eq_getElem (by rw [HLN.out]; exact hml)⟩
                      obtain ⟨b1, rfl, _, hb1, hc1⟩ := encS_at HR1.out (by omega)
                      obtain ⟨b2, rfl, _, hb2, hc2⟩ := encS_at HR2.out (by omega)
                      have y1 := (hbm.cell (p := ⟨b1, m, none⟩) hb1).trans (hc1 m s hs)
                      have y2 := (hbm.cell (p := ⟨b2, m, none⟩) hb2).trans (hc2 m s (by rw [← HSS.out]; exact hs))
                      unfold encS at y1 y2
                      generalize (⟨s.toArray⟩ : ByteArray) = S at y1 y2
                      have HBM := Lib.hid hbm
                      have hmz : (m : Int) < (ts.length : Int) := by omega
                      have hmz2 : (m : Int) < (us.length : Int) := by omega
                      have hq : (S.toList == S.toList) = true := by simp
                      clear hc1 hc2 hs hb1 hb2 hbm z0 z1
                      go_wp2_with fail
                      go_quiet (fail)
                      have HBD := Lib.hid (HBM.out.trans ((below_drewN wr nq).mono HBM.out.size))
                      go_wp2
                      go_roundw
                      case rel => exact ⟨m + 1, by omega, by go_num, HBD.out⟩
                      case measure => simp [intOf]; omega
                    · have HBM := Lib.hid (bell_up HB11.out hbm)
                      have hme : m = ts.length := by omega
                      subst hme
                      clear hbm
                      go_wp2
                      go_roundw
                      case rel => exact ⟨k + 1, by omega, by congr 1; omega, HBM.out⟩
                      case measure => simp [intOf]; omega
              · have hex : ¬ (mark + (k : Int) < mark + 5) ∨ (mark + (k : Int) < mark + 5 ∧ ¬ (mark + (k : Int) ≤ 1125899906842624)) := by omega
                clear hin2
                rcases hex with hex | ⟨hex, hex2⟩
                all_goals
                  go_wp2
                  go_roundw
                  case rel => exact ⟨p + 1, by omega, by go_num, HBQ.out⟩
                  case measure => simp [intOf]; omega
          · have hpe : p = R.length := by omega
            have HBF := Lib.hid (bell_up HT8.out.bel hbr)
            subst hpe
            clear hbr
            go_wp2
            go_ret
            exact ⟨rfl, HBF.out⟩
end Go.Proofs.Ytlhilndgiabicaa
