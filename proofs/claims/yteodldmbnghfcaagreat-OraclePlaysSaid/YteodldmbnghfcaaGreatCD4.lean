/- The document's reading of a message. -/
import Derived.Test.YteodldmbnghfcaaGreatCD3
import Derived.Deep.DeepCutAuto
import Derived.Deep.CutBlock
namespace Go.Proofs.YteodldmbnghfcaaGreat
open Go.RowKit

set_option maxRecDepth 100000 in
set_option maxHeartbeats 64000000 in
theorem refdec_any (xs : List Int) (w : World) (hb : Byt xs) : Calls Tryz.prog 44 #[.string (strOfNums xs)] w (DDone w (dec xs)) := by
  have hss := strOfNums_size xs
  obtain ⟨X, hX, hwX, hbX⟩ := boxc w 43 MsgZ
  have HZ1 := Lib.hid mZ_one
  by_cases hl : 16384 < xs.length
  · have HD := Lib.hid (show dec xs = .error 2 by unfold dec; rw [if_pos hl])
    have HT := Lib.hid (show X.there w.heap.size 0 mZ.size from there_all hwX)
    have HF := Lib.hid (put_all hwX (ds := mZ) rfl)
    have HB := Lib.hid (bel_sets (Nat.le_refl _) mZ.toList 0 hbX)
    have hl' : decide ((16384 : Int) < ((strOfNums xs).size : Int)) = true := decide_eq_true (by rw [hss]; omega)
    generalize strOfNums xs = S at *
    clear hwX hbX hss hl hb
    go_enter Tryz.func44, Tryz.ntmps44
    go_upto_region 1 with fail
    rw [← hX]
    clear hX
    go_wp2_with (refine wpList_store_mid rfl 43 (.tmp 2) (.tmp 20) rfl w.heap.size 0 mZ rfl rfl HT.out Tryz.infoMsg HZ1.out ?_)
    refine bodyPost_ret (v := .tuple #[.agg mZ, .int .i64 2]) (res_ct Tryz.results44 _ _ w.heap.size 43 mZ _ _ rfl rfl HF.out Tryz.underlying43 rfl Tryz.infoMsg) rfl (.inr ⟨2, HD.out, rfl, HB.out⟩)
  have HDC := Lib.hid hl
  obtain ⟨Y, hY, hwY, hbY⟩ := boxc X 126 #[.string (strOfNums xs), .int .i64 0]
  obtain ⟨Z, hZ, hwZ, hbZ⟩ := boxc Y 127 (numC 0 (xs, 0))
  have hsX : X.heap.size = w.heap.size + 1 := by rw [hX]; exact Array.size_push _
  have hsY : Y.heap.size = w.heap.size + 1 + 1 := by rw [hY, ← hsX]; exact Array.size_push _
  rw [hsX] at hwY
  rw [hsY] at hwZ
  rw [show numC 0 (xs, 0) = #[.int .i64 0, .int .i64 0, .int .i64 0, .int .i64 0, .int .i64 0, .int .i64 0, .int .i64 0] from rfl] at hZ
  have HRS := Lib.hid ((hwX.kept (hbY.block _ hwX.lt)).kept (hbZ.block _ (Nat.lt_of_lt_of_le hwX.lt hbY.size)))
  have HSC := Lib.hid (hwY.kept (hbZ.block _ hwY.lt))
  have HNM := Lib.hid hwZ
  have HB := Lib.hid (bell_upc (bell_upc hbX hbY) hbZ)
  have HOK := Lib.hid (show StOk (xs, 0) from ⟨hb, by show xs.length ≤ _; omega⟩)
  have hl' : decide ((16384 : Int) < ((strOfNums xs).size : Int)) = false := decide_eq_false (by rw [hss]; omega)
  clear hwX hwY hwZ hbX hbY hbZ hsX hb
  go_enter Tryz.func44, Tryz.ntmps44
  go_upto_region 4 with fail
  rw [← hX, ← hY]
  clear hX hY hss hl hl'
  go_upto_region 5 with fail
  rw [← hZ]
  clear hZ hsY
  go_wp2_with fail
  go_loopw [6] (fun iv wr => ∃ i : Nat, i ≤ 7 ∧ iv = .int .i64 (i : Int) ∧ Whole wr w.heap.size 43 MsgZ ∧ Whole wr (w.heap.size + 1) 126 #[.string (strOfNums (nst i (xs, 0)).2.1), .int .i64 (nst i (xs, 0)).2.2] ∧ Whole wr (w.heap.size + 1 + 1) 127 (numC i (xs, 0)) ∧ Below w.heap.size w wr) (fun iv _ => 7 - (intOf iv).toNat)
  case atStart => exact ⟨0, by omega, rfl, HRS.out, HSC.out, HNM.out, HB.out⟩
  case round =>
    obtain ⟨i, hi, rfl, h1, h2, h3, h4⟩ := hrel
    have HR1 := Lib.hid h1
    have HS1 := Lib.hid h2
    have HN1 := Lib.hid h3
    have HB1 := Lib.hid h4
    clear h1 h2 h3 h4 HRS HSC HNM HB
    by_cases hlt : i < 7
    · as_aux_lemma =>
        have c0 := HS1.out.cell 0
        have c1 := HS1.out.cell 1
        have HC := num_st _ (HOK.out.nst i) wr
        unfold sV srcV at HC
        have HA := Lib.hid (numC_set i (xs, 0) hlt)
        have HI := Lib.hid (numC_at i (xs, 0) hlt)
        have HN2 := Lib.hid (show nst (i + 1) (xs, 0) = ((nst i (xs, 0)).1 ++ [(rst rnum 0 (nst i (xs, 0)).2).1], (rst rnum 0 (nst i (xs, 0)).2).2) from rfl)
        generalize rst rnum 0 (nst i (xs, 0)).2 = q at *
        obtain ⟨y, s2⟩ := q
        have HC := Lib.hid HC
        have hij : (0 : Int) ≤ (i : Int) ∧ (i : Int) < 7 := by omega
        have HLT := Lib.hid hlt
        generalize (nst i (xs, 0)).2 = s1 at *
        go_wp2_with fail
        refine HC.out.mono ?_
        rintro e w1 ⟨rfl, hb1⟩
        have HRa := Lib.hid (HR1.out.kept (hb1.block _ HR1.out.lt))
        have HSa := Lib.hid (HS1.out.kept (hb1.block _ HS1.out.lt))
        have HNa := Lib.hid (HN1.out.kept (hb1.block _ HN1.out.lt))
        have HBa := Lib.hid (HB1.out.trans (hb1.mono HB1.out.size))
        clear hb1 c0 c1 HC
        have z0 : w1.cell? ⟨w.heap.size + 1 + 1, i, none⟩ = some (.int .i64 0) := by rw [HNa.out.cell]; exact HI.out
        have z1 := HNa.out.free i
        have HS0 := Lib.hid (keep1 HSa.out (b := w.heap.size + 1 + 1) (by omega) i (.int .i64 y))
        have c0 := HSa.out.cell 0
        have c1 := HSa.out.cell 1
        have y0 := HSa.out.free 0
        have y1 := HSa.out.free 1
        have HRf := Lib.hid (keep2 (keep1 HRa.out (b := w.heap.size + 1 + 1) (by omega) i (.int .i64 y)) (b := w.heap.size + 1) (by omega) (.string (strOfNums s2.1)) (.int .i64 s2.2))
        have HSf := Lib.hid (src_put HS0.out (strOfNums s2.1) s2.2)
        have hst := HNa.out.store i (.int .i64 y)
        rw [HA.out] at hst
        have HNf := Lib.hid (keep2 hst (b := w.heap.size + 1) (by omega) (.string (strOfNums s2.1)) (.int .i64 s2.2))
        have HBf := Lib.hid (src_below (show Below w.heap.size w (w1.setCell ⟨w.heap.size + 1 + 1, i, none⟩ (.int .i64 y)) from HBa.out.setCell (p := ⟨w.heap.size + 1 + 1, i, none⟩) (by show w.heap.size ≤ w.heap.size + 1 + 1; omega) _) (Nat.le_succ _) (strOfNums s2.1) s2.2)
        clear hst
        go_wp2_with fail
        exact ⟨⟨i + 1, by have := HLT.out; omega, by go_num, HRf.out, by rw [HN2.out]; exact HSf.out, HNf.out, HBf.out⟩, by simp [intOf]; have := HLT.out; omega⟩
    obtain rfl : i = 7 := by omega
    obtain ⟨a0, a1, a2, a3, a4, a5, a6, h7, heq⟩ := rmsg_seven (xs, 0)
    have HEQ := Lib.hid heq
    have hn7 := HN1.out
    rw [numC_seven h7] at hn7
    have HOK7 := Lib.hid (HOK.out.nst 7)
    generalize (nst 7 (xs, 0)).2 = s7 at *
    have c0 := hn7.cell 0
    have c1 := hn7.cell 1
    have c2 := hn7.cell 2
    have c3 := hn7.cell 3
    have c4 := hn7.cell 4
    have c5 := hn7.cell 5
    have c6 := hn7.cell 6
    obtain ⟨V, hV, hwV, hbV⟩ := boxc wr 43 (msgC ⟨a0, a1, a2, a3, a4, a5, a6, false, [], [], [], []⟩ (.slice none 0 0) (.slice none 0 0) (.slice none 0 0) (.slice none 0 0))
    have HDP := Lib.hid (show DP w V wr.heap.size s7 ⟨a0, a1, a2, a3, a4, a5, a6, false, [], [], [], []⟩ (.slice none 0 0) (.slice none 0 0) (.slice none 0 0) (.slice none 0 0) from
      ⟨HR1.out.kept (hbV.block _ HR1.out.lt), HS1.out.kept (hbV.block _ HS1.out.lt), hwV, ⟨⟨rfl, .inl ⟨rfl, rfl⟩⟩, ⟨rfl, .inl ⟨rfl, rfl⟩⟩, ⟨rfl, .inl ⟨rfl, rfl⟩⟩, ⟨rfl, .inl ⟨rfl, rfl⟩⟩⟩, HB1.out.trans (hbV.mono HB1.out.size), HOK7.out, HS1.out.lt⟩)
    rw [show msgC ⟨a0, a1, a2, a3, a4, a5, a6, false, [], [], [], []⟩ (.slice none 0 0) (.slice none 0 0) (.slice none 0 0) (.slice none 0 0) = #[.int .i64 a0, .int .i64 a1, .int .i64 a2, .int .i64 a3, .int .i64 a4, .int .i64 a5, .int .i64 a6, .bool false, .slice none 0 0, .slice none 0 0, .slice none 0 0, .slice none 0 0] from rfl] at hV
    clear hwV hbV hn7 h7 heq HN1 HR1 HS1 HB1 HOK7 HOK
    go_upto_region 10 with fail
    rw [← hV]
    clear hV c0 c1 c2 c3 c4 c5 c6 hi hlt
    generalize wr.heap.size = gm at *
    have c0 := HDP.out.src.cell 0
    have c1 := HDP.out.src.cell 1
    have HC := flag_st _ HDP.out.ok V
    unfold sV srcV at HC
    have HOK2 := Lib.hid (HDP.out.ok.rst suf_truth false)
    have heq := HEQ.out.trans (res_step en_truth false s7 (fun x l => m8 a0 a1 a2 a3 a4 a5 a6 x l))
    generalize rst rtruth false s7 = q at *
    obtain ⟨fl, s8⟩ := q
    have HEQ := Lib.hid heq
    have HC := Lib.hid HC
    clear heq
    go_wp2_with fail
    refine HC.out.mono ?_
    rintro e w1 ⟨rfl, hb1⟩
    have HD1 := Lib.hid (HDP.out.below hb1)
    have HD2 := Lib.hid (HD1.out.set_flag fl)
    have HD3 := Lib.hid (HD2.out.set_src s8 HOK2.out)
    clear hb1 HC c0 c1 HDP
    have z0 := HD1.out.msg.cell 7
    have z1 := HD1.out.msg.free 7
    have c0 := HD1.out.src.cell 0
    have c1 := HD1.out.src.cell 1
    have y0 := HD1.out.src.free 0
    have y1 := HD1.out.src.free 1
    go_upto_region 11 with fail
    clear z0 z1 c0 c1 y0 y1 HD1 HD2 HOK2
    generalize World.setCell (World.setCell (World.setCell w1 _ _) _ _) _ _ = W0 at *
    have c0 := HD3.out.src.cell 0
    have c1 := HD3.out.src.cell 1
    have HC := count_st 1024 _ HD3.out.ok W0
    unfold sV srcV at HC
    have HOK2 := Lib.hid (HD3.out.ok.rst (suf_count 1024) 0)
    have heq := HEQ.out.trans (res_list rnum s8 (fun x l => m9 a0 a1 a2 a3 a4 a5 a6 fl  x l))
    have hrg := rcount_st_range s8
    generalize rst (rcount 1024) 0 s8 = q at *
    obtain ⟨k0, t0⟩ := q
    simp only [] at hrg heq
    obtain ⟨kN, rfl⟩ : ∃ kN : Nat, k0 = kN := ⟨k0.toNat, by omega⟩
    rw [Int.toNat_natCast] at heq
    have HKN := Lib.hid (show kN ≤ 1024 by omega)
    have HEQ := Lib.hid heq
    have HC := Lib.hid HC
    clear heq hrg
    go_wp2_with fail
    refine HC.out.mono ?_
    rintro e w1 ⟨rfl, hb1⟩
    have HD1 := Lib.hid (HD3.out.below hb1)
    have HD2 := Lib.hid (HD1.out.set_src t0 HOK2.out)
    clear hb1 HC c0 c1 HD3
    have c0 := HD1.out.src.cell 0
    have c1 := HD1.out.src.cell 1
    have y0 := HD1.out.src.free 0
    have y1 := HD1.out.src.free 1
    go_upto_block 2 with fail
    clear c0 c1 y0 y1 HD1 HOK2
    generalize World.setCell (World.setCell w1 _ _) _ _ = Wc at *
    go_cut [8] (fun kv wx => ∃ (ys : List Int) (s : St) (u : Value), DP w wx gm s ⟨a0, a1, a2, a3, a4, a5, a6, fl, ys, [], [], []⟩ u (.slice none 0 0) (.slice none 0 0) (.slice none 0 0) ∧ res (xs, 0) rmsg = res s (fun l => m9 a0 a1 a2 a3 a4 a5 a6 fl  ys l))
    case first =>
      as_aux_lemma =>
        obtain ⟨i0, hi, hz0, hz1, hz2⟩ := info_parts Tryz.infoI
        have HINF := Lib.hid (And.intro hi (And.intro hz0 (And.intro hz1 hz2)))
        clear hi hz0 hz1 hz2
        go_wp2_with fail
        go_loopw [9] (fun iv wr => ∃ (i : Nat) (ys : List Int) (s : St) (u : Value), i ≤ kN ∧ iv = .int .i64 (i : Int) ∧ ys.length = i ∧ DP w wr gm s ⟨a0, a1, a2, a3, a4, a5, a6, fl, ys, [], [], []⟩ u (.slice none 0 0) (.slice none 0 0) (.slice none 0 0) ∧ res (xs, 0) rmsg = res s (fun l => rb (rrep rnum (kN - i) l) (fun zs l => m9 a0 a1 a2 a3 a4 a5 a6 fl  (ys ++ zs) l))) (fun iv _ => kN - (intOf iv).toNat)
        case atStart => exact ⟨0, [], t0, (.slice none 0 0), by omega, rfl, rfl, HD2.out, HEQ.out⟩
        case round =>
          obtain ⟨i, ys, s, u, hin, rfl, hyl, hdp, hrq⟩ := hrel
          have HDr := Lib.hid hdp
          have HQr := Lib.hid hrq
          have HYL := Lib.hid hyl
          clear hdp hrq hyl HD2 HEQ
          by_cases hc : i < kN ∧ s.2 = 0
          · obtain ⟨hlt, hs0⟩ := hc
            have HS0 := Lib.hid hs0
            have HLT := Lib.hid hlt
            obtain ⟨kk, hkk⟩ : ∃ kk, kN - i = kk + 1 := ⟨kN - i - 1, by omega⟩
            have hkk2 : kN - (i + 1) = kk := by omega
            have hrq2 := HQr.out
            rw [hkk] at hrq2
            simp only [rrep_rb rnum kk _ ys (fun x l => m9 a0 a1 a2 a3 a4 a5 a6 fl  x l)] at hrq2
            have HQr := Lib.hid hrq2
            have HK2 := Lib.hid hkk2
            clear hrq2 hkk hkk2 hs0
            have c0 := HDr.out.src.cell 0
            have c1 := HDr.out.src.cell 1
            have HC := num_st _ HDr.out.ok wr
            unfold sV srcV at HC
            have HOK2 := Lib.hid (HDr.out.ok.rst suf_num 0)
            have heq := HQr.out.trans (res_step en_num 0 s _)
            generalize rst rnum 0 s = q at *
            obtain ⟨x, t⟩ := q
            have HQz := Lib.hid heq
            have HC := Lib.hid HC
            clear heq
            have hcz : (s.2 == 0) = true := by rw [HS0.out]; rfl
            go_wp2_with fail
            refine HC.out.mono ?_
            rintro e w1 ⟨rfl, hb1⟩
            have HD1 := Lib.hid (HDr.out.below hb1)
            have HDz := Lib.hid (HD1.out.set_src t HOK2.out)
            clear hb1 HC c0 c1
            have c0 := HD1.out.src.cell 0
            have c1 := HD1.out.src.cell 1
            have y0 := HD1.out.src.free 0
            have y1 := HD1.out.src.free 1
            go_upto_region 18 with fail
            clear c0 c1 y0 y1 HD1 HOK2 hcz
            generalize World.setCell (World.setCell w1 _ _) _ _ = Wz at *
            obtain ⟨ua, uc, rfl⟩ := own_slice HDz.out.own.nodes
            have z0 : Wz.cell? ⟨gm, 8, none⟩ = some (.slice ua ys.length uc) := HDz.out.msg.cell 8
            have HOW := Lib.hid HDz.out.own.nodes
            have hzs : w.heap.size ≤ Wz.heap.size := HDz.out.bel.size
            have hkn : kN ≤ 1024 := HKN.out
            have hij : (0 : Int) ≤ (i : Int) ∧ (i : Int) < (kN : Int) := by have := HLT.out; omega
            have hyk : ys.length ≤ 1024 := by rw [HYL.out]; have := HKN.out; have := HLT.out; omega
            skip
            have HWS := Lib.hid (below_alloc Wz (.cells #[.int .i64 x] 3))
            obtain ⟨hi, hz0, hz1, hz2⟩ := HINF.out
            skip
            go_wp2_with (at_builtin; refine wpList_append_at_any _ rfl _ _ 38 rfl w.heap.size 3 i0 (.int .i64 0) 1 8 Tryz.underlying38 hi hz0 hz1 hz2 rfl (by decide) _ ys.length _ rfl (HOW.out.alloc _) (some ⟨Wz.heap.size, 0, none⟩) 1 1 [.int .i64 x] rfl rfl (by intro h; cases h) (by rintro ad he; injection he with he; subst he; exact cell_one_new _ _ _) (by intro q hq; simp at hq; subst hq; rfl) (by unfold maxLen; omega) (by omega) (by simp; omega) ?_; intro v2 w3 hown3 hgrow3 hat3; obtain ⟨va, vc, rfl⟩ := own_slice hown3; have HD5 := Lib.hid ((HDz.out.below HWS.out).add_nodes (ys ++ [x]) (.slice va (ys.length + 1) vc) hgrow3 (by rw [show (ys ++ [x]).length = ys.length + 1 by simp, show (ys ++ [x]).map (Value.int .i64) = (ys.map (Value.int .i64)) ++ [.int .i64 x] by simp]; exact hown3)); have hm9 := (HDz.out.below HWS.out).msg_nodes hgrow3; have z9 : w3.cell? ⟨gm, 8, none⟩ = some (.slice ua ys.length uc) := hm9.cell 8; have x9 := hm9.free 8; clear hown3 hgrow3 hat3 hm9)
            exact ⟨⟨i + 1, ys ++ [x], _, _, by have := HLT.out; omega, by go_num, by rw [List.length_append, HYL.out]; rfl, HD5.out, by rw [HK2.out]; exact HQz.out⟩, by simp [intOf]; have := HLT.out; omega⟩
          · by_cases hlt : i < kN
            · have hs0 : s.2 ≠ 0 := fun h => hc ⟨hlt, h⟩
              have hcz : (s.2 == 0) = false := by simpa using hs0
              have c1 := HDr.out.src.cell 1
              have HE := Lib.hid (HQr.out.trans (res_no2 hs0 _ (fun l => m9 a0 a1 a2 a3 a4 a5 a6 fl  ys l)))
              clear hc hs0
              go_wp2_with fail
              go_meet
              exact ⟨ys, s, u, HDr.out, HE.out⟩
            · have hik : kN - i = 0 := by omega
              have hrq2 := HQr.out
              rw [hik] at hrq2
              simp only [rrep_end rnum _ ys (fun x l => m9 a0 a1 a2 a3 a4 a5 a6 fl  x l)] at hrq2
              have HE := Lib.hid hrq2
              clear hc hrq2 hik
              go_wp2_with fail
              go_meet
              exact ⟨ys, s, u, HDr.out, HE.out⟩
    case rest =>
      obtain ⟨l8, s10, v8, hdp, heq⟩ := hcut
      have HDX1 := Lib.hid hdp
      have HEQ := Lib.hid heq
      clear hdp heq HD2 HKN
      generalize wc = W1 at *
      have c0 := HDX1.out.src.cell 0
      have c1 := HDX1.out.src.cell 1
      have HC := count_st 1024 _ HDX1.out.ok W1
      unfold sV srcV at HC
      have HOK2 := Lib.hid (HDX1.out.ok.rst (suf_count 1024) 0)
      have heq := HEQ.out.trans (res_list rflag s10 (fun x l => m10 a0 a1 a2 a3 a4 a5 a6 fl l8 x l))
      have hrg := rcount_st_range s10
      generalize rst (rcount 1024) 0 s10 = q at *
      obtain ⟨k0, t0⟩ := q
      simp only [] at hrg heq
      obtain ⟨kN, rfl⟩ : ∃ kN : Nat, k0 = kN := ⟨k0.toNat, by omega⟩
      rw [Int.toNat_natCast] at heq
      have HKN := Lib.hid (show kN ≤ 1024 by omega)
      have HEQ := Lib.hid heq
      have HC := Lib.hid HC
      clear heq hrg
      go_wp2_with fail
      refine HC.out.mono ?_
      rintro e w1 ⟨rfl, hb1⟩
      have HD1 := Lib.hid (HDX1.out.below hb1)
      have HD2 := Lib.hid (HD1.out.set_src t0 HOK2.out)
      clear hb1 HC c0 c1 HDX1
      have c0 := HD1.out.src.cell 0
      have c1 := HD1.out.src.cell 1
      have y0 := HD1.out.src.free 0
      have y1 := HD1.out.src.free 1
      go_upto_block 4 with fail
      clear c0 c1 y0 y1 HD1 HOK2
      generalize World.setCell (World.setCell w1 _ _) _ _ = Wc at *
      go_cut [8] (fun kv wx => ∃ (ys : List (Bool × Tx)) (s : St) (u : Value), DP w wx gm s ⟨a0, a1, a2, a3, a4, a5, a6, fl, l8, ys, [], []⟩ v8 u (.slice none 0 0) (.slice none 0 0) ∧ res (xs, 0) rmsg = res s (fun l => m10 a0 a1 a2 a3 a4 a5 a6 fl l8 ys l))
      case first =>
        as_aux_lemma =>
          obtain ⟨i0, hi, hz0, hz1, hz2⟩ := info_parts Tryz.infoM
          have HINF := Lib.hid (And.intro hi (And.intro hz0 (And.intro hz1 hz2)))
          clear hi hz0 hz1 hz2
          go_wp2_with fail
          go_loopw [11] (fun iv wr => ∃ (i : Nat) (ys : List (Bool × Tx)) (s : St) (u : Value), i ≤ kN ∧ iv = .int .i64 (i : Int) ∧ ys.length = i ∧ DP w wr gm s ⟨a0, a1, a2, a3, a4, a5, a6, fl, l8, ys, [], []⟩ v8 u (.slice none 0 0) (.slice none 0 0) ∧ res (xs, 0) rmsg = res s (fun l => rb (rrep rflag (kN - i) l) (fun zs l => m10 a0 a1 a2 a3 a4 a5 a6 fl l8 (ys ++ zs) l))) (fun iv _ => kN - (intOf iv).toNat)
          case atStart => exact ⟨0, [], t0, (.slice none 0 0), by omega, rfl, rfl, HD2.out, HEQ.out⟩
          case round =>
            obtain ⟨i, ys, s, u, hin, rfl, hyl, hdp, hrq⟩ := hrel
            have HDr := Lib.hid hdp
            have HQr := Lib.hid hrq
            have HYL := Lib.hid hyl
            clear hdp hrq hyl HD2 HEQ
            by_cases hc : i < kN ∧ s.2 = 0
            · obtain ⟨hlt, hs0⟩ := hc
              have HS0 := Lib.hid hs0
              have HLT := Lib.hid hlt
              obtain ⟨kk, hkk⟩ : ∃ kk, kN - i = kk + 1 := ⟨kN - i - 1, by omega⟩
              have hkk2 : kN - (i + 1) = kk := by omega
              have hrq2 := HQr.out
              rw [hkk] at hrq2
              simp only [rrep_rb rflag kk _ ys (fun x l => m10 a0 a1 a2 a3 a4 a5 a6 fl l8 x l)] at hrq2
              have HQr := Lib.hid hrq2
              have HK2 := Lib.hid hkk2
              clear hrq2 hkk hkk2 hs0
              obtain ⟨Q, hQ, hwQ, hbQ⟩ := boxc wr 116 #[.bool false, .string ⟨#[]⟩, .string ⟨#[]⟩, .string ⟨#[]⟩]
              have hcz : (s.2 == 0) = true := by rw [HS0.out]; rfl
              have c0 := HDr.out.src.cell 0
              have c1 := HDr.out.src.cell 1
              have HLQ := Lib.hid (fun k (h : Own4 v8 u (.slice none 0 0) (.slice none 0 0) k) => Nat.ne_of_lt (HDr.out.lt4 h))
              have HGQ := Lib.hid HDr.out.msg.lt
              have HDq := Lib.hid (HDr.out.below hbQ)
              have HIq := Lib.hid hwQ
              clear hwQ hbQ
              go_upto_region 24 with fail
              rw [← hQ]
              clear hQ c0 c1 hcz HDr
              generalize wr.heap.size = q at *
              have c0 := HDq.out.src.cell 0
              have c1 := HDq.out.src.cell 1
              have HC := flag_st _ HDq.out.ok Q
              unfold sV srcV at HC
              have HOK2 := Lib.hid (HDq.out.ok.rst suf_truth false)
              generalize hgq : rst rtruth false s = q1 at *
              obtain ⟨d0, ta⟩ := q1
              have HGta := Lib.hid hgq
              clear hgq
              have HC := Lib.hid HC
              go_wp2_with fail
              refine HC.out.mono ?_
              rintro e w1 ⟨rfl, hb1⟩
              have HD1 := Lib.hid (HDq.out.below hb1)
              have HI1 := Lib.hid (HIq.out.kept (hb1.block _ HIq.out.lt))
              clear hb1 HC c0 c1 HDq HIq
              have z0 := HI1.out.cell 0
              have x0 := HI1.out.free 0
              have HD2 := Lib.hid ((HD1.out).set_item HGQ.out HLQ.out 0 (.bool d0))
              have HD4 := Lib.hid (HD2.out.set_src ta HOK2.out)
              have hi2 : Whole (w1.setCell ⟨q, 0, none⟩ (.bool d0)) q 116 #[.bool d0, .string ⟨#[]⟩, .string ⟨#[]⟩, .string ⟨#[]⟩] := (HI1.out).store 0 (.bool d0)
              have HI4 := Lib.hid (keep2 hi2 (b := w.heap.size + 1) (by have := HGQ.out; have := HD2.out.hg; omega) (.string (strOfNums ta.1)) (.int .i64 ta.2))
              have c0 := HD2.out.src.cell 0
              have c1 := HD2.out.src.cell 1
              have y0 := HD2.out.src.free 0
              have y1 := HD2.out.src.free 1
              clear hi2
              go_upto_region 25 with fail
              clear c0 c1 y0 y1 HD1 HD2 HI1 HOK2 z0 x0
              generalize World.setCell (World.setCell (World.setCell w1 _ _) _ _) _ _ = Qta at *
              have HDqta := HD4
              have HIqta := HI4
              clear HD4 HI4
              have c0 := HDqta.out.src.cell 0
              have c1 := HDqta.out.src.cell 1
              have HC := tup_st _ HDqta.out.ok Qta
              unfold sV srcV at HC
              have HOK2 := Lib.hid (HDqta.out.ok.tst)
              unfold txV at HC
              generalize hgq : tst ta = q1 at *
              obtain ⟨⟨b1, b2, b3⟩, tb⟩ := q1
              have HGtb := Lib.hid hgq
              clear hgq
              have HC := Lib.hid HC
              go_wp2_with fail
              refine HC.out.mono ?_
              rintro e w1 ⟨rfl, hb1⟩
              have HD1 := Lib.hid (HDqta.out.below hb1)
              have HI1 := Lib.hid (HIqta.out.kept (hb1.block _ HIqta.out.lt))
              clear hb1 HC c0 c1 HDqta HIqta
              have z0 := HI1.out.cell 1
              have x0 := HI1.out.free 1
              have z1 := HI1.out.cell 2
              have x1 := HI1.out.free 2
              have z2 := HI1.out.cell 3
              have x2 := HI1.out.free 3
              have HD2 := Lib.hid ((((HD1.out).set_item HGQ.out HLQ.out 1 (.string (strOfNums b1))).set_item HGQ.out HLQ.out 2 (.string (strOfNums b2))).set_item HGQ.out HLQ.out 3 (.string (strOfNums b3)))
              have HD4 := Lib.hid (HD2.out.set_src tb HOK2.out)
              have hi2 : Whole (((w1.setCell ⟨q, 1, none⟩ (.string (strOfNums b1))).setCell ⟨q, 2, none⟩ (.string (strOfNums b2))).setCell ⟨q, 3, none⟩ (.string (strOfNums b3))) q 116 #[.bool d0, .string (strOfNums b1), .string (strOfNums b2), .string (strOfNums b3)] := (((HI1.out).store 1 (.string (strOfNums b1))).store 2 (.string (strOfNums b2))).store 3 (.string (strOfNums b3))
              have HI4 := Lib.hid (keep2 hi2 (b := w.heap.size + 1) (by have := HGQ.out; have := HD2.out.hg; omega) (.string (strOfNums tb.1)) (.int .i64 tb.2))
              have c0 := HD2.out.src.cell 0
              have c1 := HD2.out.src.cell 1
              have y0 := HD2.out.src.free 0
              have y1 := HD2.out.src.free 1
              clear hi2
              go_upto_region 26 with fail
              clear c0 c1 y0 y1 HD1 HD2 HI1 HOK2 z0 x0 z1 x1 z2 x2
              generalize World.setCell (World.setCell (World.setCell (World.setCell (World.setCell w1 _ _) _ _) _ _) _ _) _ _ = Qtb at *
              have HDqtb := HD4
              have HIqtb := HI4
              clear HD4 HI4
              have hfs : fst' s = ((d0, (b1, b2, b3)), tb) := by unfold fst'; rw [HGta.out]; simp only []; rw [HGtb.out]
              have heq := HQr.out.trans (res_flag s _)
              rw [hfs] at heq
              have HQz := Lib.hid heq
              clear heq hfs HGta HGtb
              have HDz := HDqtb
              have HIz := HIqtb
              clear HDqtb HIqtb
              generalize Qtb = Wz at *
              have t := tb
              obtain ⟨ua, uc, rfl⟩ := own_slice HDz.out.own.muts
              have z0 : Wz.cell? ⟨gm, 9, none⟩ = some (.slice ua ys.length uc) := HDz.out.msg.cell 9
              have HOW := Lib.hid HDz.out.own.muts
              have hzs : w.heap.size ≤ Wz.heap.size := HDz.out.bel.size
              have hkn : kN ≤ 1024 := HKN.out
              have hij : (0 : Int) ≤ (i : Int) ∧ (i : Int) < (kN : Int) := by have := HLT.out; omega
              have hyk : ys.length ≤ 1024 := by rw [HYL.out]; have := HKN.out; have := HLT.out; omega
              have j0 := HIz.out.cell 0
              have j1 := HIz.out.cell 1
              have j2 := HIz.out.cell 2
              have j3 := HIz.out.cell 3
              have HWS := Lib.hid (below_alloc Wz (.cells #[.bool d0, .string (strOfNums b1), .string (strOfNums b2), .string (strOfNums b3)] 116))
              obtain ⟨hi, hz0, hz1, hz2⟩ := HINF.out
              skip
              go_wp2_with (at_builtin; refine wpList_append_at_any _ rfl _ _ 39 rfl w.heap.size 116 i0 (.agg #[.bool false, .string ⟨#[]⟩, .string ⟨#[]⟩, .string ⟨#[]⟩]) 4 56 Tryz.underlying39 hi hz0 hz1 hz2 rfl (by decide) _ ys.length _ rfl (HOW.out.alloc _) (some ⟨Wz.heap.size, 0, none⟩) 1 1 [.bool d0, .string (strOfNums b1), .string (strOfNums b2), .string (strOfNums b3)] rfl rfl (by intro h; cases h) (by rintro ad he; injection he with he; subst he; exact cells_new _ [.bool d0, .string (strOfNums b1), .string (strOfNums b2), .string (strOfNums b3)] _) (by intro q hq; simp at hq; rcases hq with rfl | rfl | rfl | rfl <;> rfl) (by unfold maxLen; omega) (by omega) (by simp; omega) ?_; intro v2 w3 hown3 hgrow3 hat3; obtain ⟨va, vc, rfl⟩ := own_slice hown3; have HD5 := Lib.hid ((HDz.out.below HWS.out).add_muts (ys ++ [(d0, (b1, b2, b3))]) (.slice va (ys.length + 1) vc) hgrow3 (by rw [show (ys ++ [(d0, (b1, b2, b3))]).length = ys.length + 1 by simp, show (ys ++ [(d0, (b1, b2, b3))]).flatMap flagC = (ys.flatMap flagC) ++ [.bool d0, .string (strOfNums b1), .string (strOfNums b2), .string (strOfNums b3)] by simp [flagC]]; exact hown3)); have hm9 := (HDz.out.below HWS.out).msg_muts hgrow3; have z9 : w3.cell? ⟨gm, 9, none⟩ = some (.slice ua ys.length uc) := hm9.cell 9; have x9 := hm9.free 9; clear hown3 hgrow3 hat3 hm9)
              exact ⟨⟨i + 1, ys ++ [(d0, (b1, b2, b3))], _, _, by have := HLT.out; omega, by go_num, by rw [List.length_append, HYL.out]; rfl, HD5.out, by rw [HK2.out]; exact HQz.out⟩, by simp [intOf]; have := HLT.out; omega⟩
            · by_cases hlt : i < kN
              · have hs0 : s.2 ≠ 0 := fun h => hc ⟨hlt, h⟩
                have hcz : (s.2 == 0) = false := by simpa using hs0
                have c1 := HDr.out.src.cell 1
                have HE := Lib.hid (HQr.out.trans (res_no2 hs0 _ (fun l => m10 a0 a1 a2 a3 a4 a5 a6 fl l8 ys l)))
                clear hc hs0
                go_wp2_with fail
                go_meet
                exact ⟨ys, s, u, HDr.out, HE.out⟩
              · have hik : kN - i = 0 := by omega
                have hrq2 := HQr.out
                rw [hik] at hrq2
                simp only [rrep_end rflag _ ys (fun x l => m10 a0 a1 a2 a3 a4 a5 a6 fl l8 x l)] at hrq2
                have HE := Lib.hid hrq2
                clear hc hrq2 hik
                go_wp2_with fail
                go_meet
                exact ⟨ys, s, u, HDr.out, HE.out⟩
      case rest =>
        obtain ⟨l9, s12, v9, hdp, heq⟩ := hcut
        have HDX2 := Lib.hid hdp
        have HEQ := Lib.hid heq
        clear hdp heq HD2 HKN
        generalize wc = W2 at *
        have c0 := HDX2.out.src.cell 0
        have c1 := HDX2.out.src.cell 1
        have HC := count_st 1024 _ HDX2.out.ok W2
        unfold sV srcV at HC
        have HOK2 := Lib.hid (HDX2.out.ok.rst (suf_count 1024) 0)
        have heq := HEQ.out.trans (res_list rflag s12 (fun x l => m11 a0 a1 a2 a3 a4 a5 a6 fl l8 l9 x l))
        have hrg := rcount_st_range s12
        generalize rst (rcount 1024) 0 s12 = q at *
        obtain ⟨k0, t0⟩ := q
        simp only [] at hrg heq
        obtain ⟨kN, rfl⟩ : ∃ kN : Nat, k0 = kN := ⟨k0.toNat, by omega⟩
        rw [Int.toNat_natCast] at heq
        have HKN := Lib.hid (show kN ≤ 1024 by omega)
        have HEQ := Lib.hid heq
        have HC := Lib.hid HC
        clear heq hrg
        go_wp2_with fail
        refine HC.out.mono ?_
        rintro e w1 ⟨rfl, hb1⟩
        have HD1 := Lib.hid (HDX2.out.below hb1)
        have HD2 := Lib.hid (HD1.out.set_src t0 HOK2.out)
        clear hb1 HC c0 c1 HDX2
        have c0 := HD1.out.src.cell 0
        have c1 := HD1.out.src.cell 1
        have y0 := HD1.out.src.free 0
        have y1 := HD1.out.src.free 1
        go_upto_block 6 with fail
        clear c0 c1 y0 y1 HD1 HOK2
        generalize World.setCell (World.setCell w1 _ _) _ _ = Wc at *
        go_cut [8] (fun kv wx => ∃ (ys : List (Bool × Tx)) (s : St) (u : Value), DP w wx gm s ⟨a0, a1, a2, a3, a4, a5, a6, fl, l8, l9, ys, []⟩ v8 v9 u (.slice none 0 0) ∧ res (xs, 0) rmsg = res s (fun l => m11 a0 a1 a2 a3 a4 a5 a6 fl l8 l9 ys l))
        case first =>
          as_aux_lemma =>
            obtain ⟨i0, hi, hz0, hz1, hz2⟩ := info_parts Tryz.infoC
            have HINF := Lib.hid (And.intro hi (And.intro hz0 (And.intro hz1 hz2)))
            clear hi hz0 hz1 hz2
            go_wp2_with fail
            go_loopw [13] (fun iv wr => ∃ (i : Nat) (ys : List (Bool × Tx)) (s : St) (u : Value), i ≤ kN ∧ iv = .int .i64 (i : Int) ∧ ys.length = i ∧ DP w wr gm s ⟨a0, a1, a2, a3, a4, a5, a6, fl, l8, l9, ys, []⟩ v8 v9 u (.slice none 0 0) ∧ res (xs, 0) rmsg = res s (fun l => rb (rrep rflag (kN - i) l) (fun zs l => m11 a0 a1 a2 a3 a4 a5 a6 fl l8 l9 (ys ++ zs) l))) (fun iv _ => kN - (intOf iv).toNat)
            case atStart => exact ⟨0, [], t0, (.slice none 0 0), by omega, rfl, rfl, HD2.out, HEQ.out⟩
            case round =>
              obtain ⟨i, ys, s, u, hin, rfl, hyl, hdp, hrq⟩ := hrel
              have HDr := Lib.hid hdp
              have HQr := Lib.hid hrq
              have HYL := Lib.hid hyl
              clear hdp hrq hyl HD2 HEQ
              by_cases hc : i < kN ∧ s.2 = 0
              · obtain ⟨hlt, hs0⟩ := hc
                have HS0 := Lib.hid hs0
                have HLT := Lib.hid hlt
                obtain ⟨kk, hkk⟩ : ∃ kk, kN - i = kk + 1 := ⟨kN - i - 1, by omega⟩
                have hkk2 : kN - (i + 1) = kk := by omega
                have hrq2 := HQr.out
                rw [hkk] at hrq2
                simp only [rrep_rb rflag kk _ ys (fun x l => m11 a0 a1 a2 a3 a4 a5 a6 fl l8 l9 x l)] at hrq2
                have HQr := Lib.hid hrq2
                have HK2 := Lib.hid hkk2
                clear hrq2 hkk hkk2 hs0
                obtain ⟨Q, hQ, hwQ, hbQ⟩ := boxc wr 119 #[.bool false, .string ⟨#[]⟩, .string ⟨#[]⟩, .string ⟨#[]⟩]
                have hcz : (s.2 == 0) = true := by rw [HS0.out]; rfl
                have c0 := HDr.out.src.cell 0
                have c1 := HDr.out.src.cell 1
                have HLQ := Lib.hid (fun k (h : Own4 v8 v9 u (.slice none 0 0) k) => Nat.ne_of_lt (HDr.out.lt4 h))
                have HGQ := Lib.hid HDr.out.msg.lt
                have HDq := Lib.hid (HDr.out.below hbQ)
                have HIq := Lib.hid hwQ
                clear hwQ hbQ
                go_upto_region 32 with fail
                rw [← hQ]
                clear hQ c0 c1 hcz HDr
                generalize wr.heap.size = q at *
                have c0 := HDq.out.src.cell 0
                have c1 := HDq.out.src.cell 1
                have HC := flag_st _ HDq.out.ok Q
                unfold sV srcV at HC
                have HOK2 := Lib.hid (HDq.out.ok.rst suf_truth false)
                generalize hgq : rst rtruth false s = q1 at *
                obtain ⟨d0, ta⟩ := q1
                have HGta := Lib.hid hgq
                clear hgq
                have HC := Lib.hid HC
                go_wp2_with fail
                refine HC.out.mono ?_
                rintro e w1 ⟨rfl, hb1⟩
                have HD1 := Lib.hid (HDq.out.below hb1)
                have HI1 := Lib.hid (HIq.out.kept (hb1.block _ HIq.out.lt))
                clear hb1 HC c0 c1 HDq HIq
                have z0 := HI1.out.cell 0
                have x0 := HI1.out.free 0
                have HD2 := Lib.hid ((HD1.out).set_item HGQ.out HLQ.out 0 (.bool d0))
                have HD4 := Lib.hid (HD2.out.set_src ta HOK2.out)
                have hi2 : Whole (w1.setCell ⟨q, 0, none⟩ (.bool d0)) q 119 #[.bool d0, .string ⟨#[]⟩, .string ⟨#[]⟩, .string ⟨#[]⟩] := (HI1.out).store 0 (.bool d0)
                have HI4 := Lib.hid (keep2 hi2 (b := w.heap.size + 1) (by have := HGQ.out; have := HD2.out.hg; omega) (.string (strOfNums ta.1)) (.int .i64 ta.2))
                have c0 := HD2.out.src.cell 0
                have c1 := HD2.out.src.cell 1
                have y0 := HD2.out.src.free 0
                have y1 := HD2.out.src.free 1
                clear hi2
                go_upto_region 33 with fail
                clear c0 c1 y0 y1 HD1 HD2 HI1 HOK2 z0 x0
                generalize World.setCell (World.setCell (World.setCell w1 _ _) _ _) _ _ = Qta at *
                have HDqta := HD4
                have HIqta := HI4
                clear HD4 HI4
                have c0 := HDqta.out.src.cell 0
                have c1 := HDqta.out.src.cell 1
                have HC := tup_st _ HDqta.out.ok Qta
                unfold sV srcV at HC
                have HOK2 := Lib.hid (HDqta.out.ok.tst)
                unfold txV at HC
                generalize hgq : tst ta = q1 at *
                obtain ⟨⟨b1, b2, b3⟩, tb⟩ := q1
                have HGtb := Lib.hid hgq
                clear hgq
                have HC := Lib.hid HC
                go_wp2_with fail
                refine HC.out.mono ?_
                rintro e w1 ⟨rfl, hb1⟩
                have HD1 := Lib.hid (HDqta.out.below hb1)
                have HI1 := Lib.hid (HIqta.out.kept (hb1.block _ HIqta.out.lt))
                clear hb1 HC c0 c1 HDqta HIqta
                have z0 := HI1.out.cell 1
                have x0 := HI1.out.free 1
                have z1 := HI1.out.cell 2
                have x1 := HI1.out.free 2
                have z2 := HI1.out.cell 3
                have x2 := HI1.out.free 3
                have HD2 := Lib.hid ((((HD1.out).set_item HGQ.out HLQ.out 1 (.string (strOfNums b1))).set_item HGQ.out HLQ.out 2 (.string (strOfNums b2))).set_item HGQ.out HLQ.out 3 (.string (strOfNums b3)))
                have HD4 := Lib.hid (HD2.out.set_src tb HOK2.out)
                have hi2 : Whole (((w1.setCell ⟨q, 1, none⟩ (.string (strOfNums b1))).setCell ⟨q, 2, none⟩ (.string (strOfNums b2))).setCell ⟨q, 3, none⟩ (.string (strOfNums b3))) q 119 #[.bool d0, .string (strOfNums b1), .string (strOfNums b2), .string (strOfNums b3)] := (((HI1.out).store 1 (.string (strOfNums b1))).store 2 (.string (strOfNums b2))).store 3 (.string (strOfNums b3))
                have HI4 := Lib.hid (keep2 hi2 (b := w.heap.size + 1) (by have := HGQ.out; have := HD2.out.hg; omega) (.string (strOfNums tb.1)) (.int .i64 tb.2))
                have c0 := HD2.out.src.cell 0
                have c1 := HD2.out.src.cell 1
                have y0 := HD2.out.src.free 0
                have y1 := HD2.out.src.free 1
                clear hi2
                go_upto_region 34 with fail
                clear c0 c1 y0 y1 HD1 HD2 HI1 HOK2 z0 x0 z1 x1 z2 x2
                generalize World.setCell (World.setCell (World.setCell (World.setCell (World.setCell w1 _ _) _ _) _ _) _ _) _ _ = Qtb at *
                have HDqtb := HD4
                have HIqtb := HI4
                clear HD4 HI4
                have hfs : fst' s = ((d0, (b1, b2, b3)), tb) := by unfold fst'; rw [HGta.out]; simp only []; rw [HGtb.out]
                have heq := HQr.out.trans (res_flag s _)
                rw [hfs] at heq
                have HQz := Lib.hid heq
                clear heq hfs HGta HGtb
                have HDz := HDqtb
                have HIz := HIqtb
                clear HDqtb HIqtb
                generalize Qtb = Wz at *
                have t := tb
                obtain ⟨ua, uc, rfl⟩ := own_slice HDz.out.own.pre
                have z0 : Wz.cell? ⟨gm, 10, none⟩ = some (.slice ua ys.length uc) := HDz.out.msg.cell 10
                have HOW := Lib.hid HDz.out.own.pre
                have hzs : w.heap.size ≤ Wz.heap.size := HDz.out.bel.size
                have hkn : kN ≤ 1024 := HKN.out
                have hij : (0 : Int) ≤ (i : Int) ∧ (i : Int) < (kN : Int) := by have := HLT.out; omega
                have hyk : ys.length ≤ 1024 := by rw [HYL.out]; have := HKN.out; have := HLT.out; omega
                have j0 := HIz.out.cell 0
                have j1 := HIz.out.cell 1
                have j2 := HIz.out.cell 2
                have j3 := HIz.out.cell 3
                have HWS := Lib.hid (below_alloc Wz (.cells #[.bool d0, .string (strOfNums b1), .string (strOfNums b2), .string (strOfNums b3)] 119))
                obtain ⟨hi, hz0, hz1, hz2⟩ := HINF.out
                skip
                go_wp2_with (at_builtin; refine wpList_append_at_any _ rfl _ _ 40 rfl w.heap.size 119 i0 (.agg #[.bool false, .string ⟨#[]⟩, .string ⟨#[]⟩, .string ⟨#[]⟩]) 4 56 Tryz.underlying40 hi hz0 hz1 hz2 rfl (by decide) _ ys.length _ rfl (HOW.out.alloc _) (some ⟨Wz.heap.size, 0, none⟩) 1 1 [.bool d0, .string (strOfNums b1), .string (strOfNums b2), .string (strOfNums b3)] rfl rfl (by intro h; cases h) (by rintro ad he; injection he with he; subst he; exact cells_new _ [.bool d0, .string (strOfNums b1), .string (strOfNums b2), .string (strOfNums b3)] _) (by intro q hq; simp at hq; rcases hq with rfl | rfl | rfl | rfl <;> rfl) (by unfold maxLen; omega) (by omega) (by simp; omega) ?_; intro v2 w3 hown3 hgrow3 hat3; obtain ⟨va, vc, rfl⟩ := own_slice hown3; have HD5 := Lib.hid ((HDz.out.below HWS.out).add_pre (ys ++ [(d0, (b1, b2, b3))]) (.slice va (ys.length + 1) vc) hgrow3 (by rw [show (ys ++ [(d0, (b1, b2, b3))]).length = ys.length + 1 by simp, show (ys ++ [(d0, (b1, b2, b3))]).flatMap flagC = (ys.flatMap flagC) ++ [.bool d0, .string (strOfNums b1), .string (strOfNums b2), .string (strOfNums b3)] by simp [flagC]]; exact hown3)); have hm9 := (HDz.out.below HWS.out).msg_pre hgrow3; have z9 : w3.cell? ⟨gm, 10, none⟩ = some (.slice ua ys.length uc) := hm9.cell 10; have x9 := hm9.free 10; clear hown3 hgrow3 hat3 hm9)
                exact ⟨⟨i + 1, ys ++ [(d0, (b1, b2, b3))], _, _, by have := HLT.out; omega, by go_num, by rw [List.length_append, HYL.out]; rfl, HD5.out, by rw [HK2.out]; exact HQz.out⟩, by simp [intOf]; have := HLT.out; omega⟩
              · by_cases hlt : i < kN
                · have hs0 : s.2 ≠ 0 := fun h => hc ⟨hlt, h⟩
                  have hcz : (s.2 == 0) = false := by simpa using hs0
                  have c1 := HDr.out.src.cell 1
                  have HE := Lib.hid (HQr.out.trans (res_no2 hs0 _ (fun l => m11 a0 a1 a2 a3 a4 a5 a6 fl l8 l9 ys l)))
                  clear hc hs0
                  go_wp2_with fail
                  go_meet
                  exact ⟨ys, s, u, HDr.out, HE.out⟩
                · have hik : kN - i = 0 := by omega
                  have hrq2 := HQr.out
                  rw [hik] at hrq2
                  simp only [rrep_end rflag _ ys (fun x l => m11 a0 a1 a2 a3 a4 a5 a6 fl l8 l9 x l)] at hrq2
                  have HE := Lib.hid hrq2
                  clear hc hrq2 hik
                  go_wp2_with fail
                  go_meet
                  exact ⟨ys, s, u, HDr.out, HE.out⟩
        case rest =>
          obtain ⟨l10, s14, v10, hdp, heq⟩ := hcut
          have HDX3 := Lib.hid hdp
          have HEQ := Lib.hid heq
          clear hdp heq HD2 HKN
          generalize wc = W3 at *
          have c0 := HDX3.out.src.cell 0
          have c1 := HDX3.out.src.cell 1
          have HC := count_st 1024 _ HDX3.out.ok W3
          unfold sV srcV at HC
          have HOK2 := Lib.hid (HDX3.out.ok.rst (suf_count 1024) 0)
          have heq := HEQ.out.trans (res_list rrow s14 (fun x l => .ok ((⟨a0, a1, a2, a3, a4, a5, a6, fl, l8, l9, l10, x⟩ : MsgR), l)))
          have hrg := rcount_st_range s14
          generalize rst (rcount 1024) 0 s14 = q at *
          obtain ⟨k0, t0⟩ := q
          simp only [] at hrg heq
          obtain ⟨kN, rfl⟩ : ∃ kN : Nat, k0 = kN := ⟨k0.toNat, by omega⟩
          rw [Int.toNat_natCast] at heq
          have HKN := Lib.hid (show kN ≤ 1024 by omega)
          have HEQ := Lib.hid heq
          have HC := Lib.hid HC
          clear heq hrg
          go_wp2_with fail
          refine HC.out.mono ?_
          rintro e w1 ⟨rfl, hb1⟩
          have HD1 := Lib.hid (HDX3.out.below hb1)
          have HD2 := Lib.hid (HD1.out.set_src t0 HOK2.out)
          clear hb1 HC c0 c1 HDX3
          have c0 := HD1.out.src.cell 0
          have c1 := HD1.out.src.cell 1
          have y0 := HD1.out.src.free 0
          have y1 := HD1.out.src.free 1
          go_upto_block 8 with fail
          clear c0 c1 y0 y1 HD1 HOK2
          generalize World.setCell (World.setCell w1 _ _) _ _ = Wc at *
          go_cut [8] (fun kv wx => ∃ (ys : List (Tx × Int × Int)) (s : St) (u : Value), DP w wx gm s ⟨a0, a1, a2, a3, a4, a5, a6, fl, l8, l9, l10, ys⟩ v8 v9 v10 u ∧ res (xs, 0) rmsg = res s (fun l => .ok (⟨a0, a1, a2, a3, a4, a5, a6, fl, l8, l9, l10, ys⟩, l)))
          case first =>
            as_aux_lemma =>
              obtain ⟨i0, hi, hz0, hz1, hz2⟩ := info_parts Tryz.infoR
              have HINF := Lib.hid (And.intro hi (And.intro hz0 (And.intro hz1 hz2)))
              clear hi hz0 hz1 hz2
              go_wp2_with fail
              go_loopw [15] (fun iv wr => ∃ (i : Nat) (ys : List (Tx × Int × Int)) (s : St) (u : Value), i ≤ kN ∧ iv = .int .i64 (i : Int) ∧ ys.length = i ∧ DP w wr gm s ⟨a0, a1, a2, a3, a4, a5, a6, fl, l8, l9, l10, ys⟩ v8 v9 v10 u ∧ res (xs, 0) rmsg = res s (fun l => rb (rrep rrow (kN - i) l) (fun zs l => .ok ((⟨a0, a1, a2, a3, a4, a5, a6, fl, l8, l9, l10, ys ++ zs⟩ : MsgR), l)))) (fun iv _ => kN - (intOf iv).toNat)
              case atStart => exact ⟨0, [], t0, (.slice none 0 0), by omega, rfl, rfl, HD2.out, HEQ.out⟩
              case round =>
                obtain ⟨i, ys, s, u, hin, rfl, hyl, hdp, hrq⟩ := hrel
                have HDr := Lib.hid hdp
                have HQr := Lib.hid hrq
                have HYL := Lib.hid hyl
                clear hdp hrq hyl HD2 HEQ
                by_cases hc : i < kN ∧ s.2 = 0
                · obtain ⟨hlt, hs0⟩ := hc
                  have HS0 := Lib.hid hs0
                  have HLT := Lib.hid hlt
                  obtain ⟨kk, hkk⟩ : ∃ kk, kN - i = kk + 1 := ⟨kN - i - 1, by omega⟩
                  have hkk2 : kN - (i + 1) = kk := by omega
                  have hrq2 := HQr.out
                  rw [hkk] at hrq2
                  simp only [rrep_rb rrow kk _ ys (fun x l => .ok ((⟨a0, a1, a2, a3, a4, a5, a6, fl, l8, l9, l10, x⟩ : MsgR), l))] at hrq2
                  have HQr := Lib.hid hrq2
                  have HK2 := Lib.hid hkk2
                  clear hrq2 hkk hkk2 hs0
                  obtain ⟨Q, hQ, hwQ, hbQ⟩ := boxc wr 121 #[.string ⟨#[]⟩, .string ⟨#[]⟩, .string ⟨#[]⟩, .int .i64 0, .int .i64 0]
                  have hcz : (s.2 == 0) = true := by rw [HS0.out]; rfl
                  have c0 := HDr.out.src.cell 0
                  have c1 := HDr.out.src.cell 1
                  have HLQ := Lib.hid (fun k (h : Own4 v8 v9 v10 u k) => Nat.ne_of_lt (HDr.out.lt4 h))
                  have HGQ := Lib.hid HDr.out.msg.lt
                  have HDq := Lib.hid (HDr.out.below hbQ)
                  have HIq := Lib.hid hwQ
                  clear hwQ hbQ
                  go_upto_region 40 with fail
                  rw [← hQ]
                  clear hQ c0 c1 hcz HDr
                  generalize wr.heap.size = q at *
                  have c0 := HDq.out.src.cell 0
                  have c1 := HDq.out.src.cell 1
                  have HC := tup_st _ HDq.out.ok Q
                  unfold sV srcV at HC
                  have HOK2 := Lib.hid (HDq.out.ok.tst)
                  unfold txV at HC
                  generalize hgq : tst s = q1 at *
                  obtain ⟨⟨b1, b2, b3⟩, ta⟩ := q1
                  have HGta := Lib.hid hgq
                  clear hgq
                  have HC := Lib.hid HC
                  go_wp2_with fail
                  refine HC.out.mono ?_
                  rintro e w1 ⟨rfl, hb1⟩
                  have HD1 := Lib.hid (HDq.out.below hb1)
                  have HI1 := Lib.hid (HIq.out.kept (hb1.block _ HIq.out.lt))
                  clear hb1 HC c0 c1 HDq HIq
                  have z0 := HI1.out.cell 0
                  have x0 := HI1.out.free 0
                  have z1 := HI1.out.cell 1
                  have x1 := HI1.out.free 1
                  have z2 := HI1.out.cell 2
                  have x2 := HI1.out.free 2
                  have HD2 := Lib.hid ((((HD1.out).set_item HGQ.out HLQ.out 0 (.string (strOfNums b1))).set_item HGQ.out HLQ.out 1 (.string (strOfNums b2))).set_item HGQ.out HLQ.out 2 (.string (strOfNums b3)))
                  have HD4 := Lib.hid (HD2.out.set_src ta HOK2.out)
                  have hi2 : Whole (((w1.setCell ⟨q, 0, none⟩ (.string (strOfNums b1))).setCell ⟨q, 1, none⟩ (.string (strOfNums b2))).setCell ⟨q, 2, none⟩ (.string (strOfNums b3))) q 121 #[.string (strOfNums b1), .string (strOfNums b2), .string (strOfNums b3), .int .i64 0, .int .i64 0] := (((HI1.out).store 0 (.string (strOfNums b1))).store 1 (.string (strOfNums b2))).store 2 (.string (strOfNums b3))
                  have HI4 := Lib.hid (keep2 hi2 (b := w.heap.size + 1) (by have := HGQ.out; have := HD2.out.hg; omega) (.string (strOfNums ta.1)) (.int .i64 ta.2))
                  have c0 := HD2.out.src.cell 0
                  have c1 := HD2.out.src.cell 1
                  have y0 := HD2.out.src.free 0
                  have y1 := HD2.out.src.free 1
                  clear hi2
                  go_upto_region 41 with fail
                  clear c0 c1 y0 y1 HD1 HD2 HI1 HOK2 z0 x0 z1 x1 z2 x2
                  generalize World.setCell (World.setCell (World.setCell (World.setCell (World.setCell w1 _ _) _ _) _ _) _ _) _ _ = Qta at *
                  have HDqta := HD4
                  have HIqta := HI4
                  clear HD4 HI4
                  have c0 := HDqta.out.src.cell 0
                  have c1 := HDqta.out.src.cell 1
                  have HC := num_st _ HDqta.out.ok Qta
                  unfold sV srcV at HC
                  have HOK2 := Lib.hid (HDqta.out.ok.rst suf_num 0)
                  generalize hgq : rst rnum 0 ta = q1 at *
                  obtain ⟨e0, tb⟩ := q1
                  have HGtb := Lib.hid hgq
                  clear hgq
                  have HC := Lib.hid HC
                  go_wp2_with fail
                  refine HC.out.mono ?_
                  rintro e w1 ⟨rfl, hb1⟩
                  have HD1 := Lib.hid (HDqta.out.below hb1)
                  have HI1 := Lib.hid (HIqta.out.kept (hb1.block _ HIqta.out.lt))
                  clear hb1 HC c0 c1 HDqta HIqta
                  have z0 := HI1.out.cell 3
                  have x0 := HI1.out.free 3
                  have HD2 := Lib.hid ((HD1.out).set_item HGQ.out HLQ.out 3 (.int .i64 e0))
                  have HD4 := Lib.hid (HD2.out.set_src tb HOK2.out)
                  have hi2 : Whole (w1.setCell ⟨q, 3, none⟩ (.int .i64 e0)) q 121 #[.string (strOfNums b1), .string (strOfNums b2), .string (strOfNums b3), .int .i64 e0, .int .i64 0] := (HI1.out).store 3 (.int .i64 e0)
                  have HI4 := Lib.hid (keep2 hi2 (b := w.heap.size + 1) (by have := HGQ.out; have := HD2.out.hg; omega) (.string (strOfNums tb.1)) (.int .i64 tb.2))
                  have c0 := HD2.out.src.cell 0
                  have c1 := HD2.out.src.cell 1
                  have y0 := HD2.out.src.free 0
                  have y1 := HD2.out.src.free 1
                  clear hi2
                  go_upto_region 42 with fail
                  clear c0 c1 y0 y1 HD1 HD2 HI1 HOK2 z0 x0
                  generalize World.setCell (World.setCell (World.setCell w1 _ _) _ _) _ _ = Qtb at *
                  have HDqtb := HD4
                  have HIqtb := HI4
                  clear HD4 HI4
                  have c0 := HDqtb.out.src.cell 0
                  have c1 := HDqtb.out.src.cell 1
                  have HC := num_st _ HDqtb.out.ok Qtb
                  unfold sV srcV at HC
                  have HOK2 := Lib.hid (HDqtb.out.ok.rst suf_num 0)
                  generalize hgq : rst rnum 0 tb = q1 at *
                  obtain ⟨e1, tc⟩ := q1
                  have HGtc := Lib.hid hgq
                  clear hgq
                  have HC := Lib.hid HC
                  go_wp2_with fail
                  refine HC.out.mono ?_
                  rintro e w1 ⟨rfl, hb1⟩
                  have HD1 := Lib.hid (HDqtb.out.below hb1)
                  have HI1 := Lib.hid (HIqtb.out.kept (hb1.block _ HIqtb.out.lt))
                  clear hb1 HC c0 c1 HDqtb HIqtb
                  have z0 := HI1.out.cell 4
                  have x0 := HI1.out.free 4
                  have HD2 := Lib.hid ((HD1.out).set_item HGQ.out HLQ.out 4 (.int .i64 e1))
                  have HD4 := Lib.hid (HD2.out.set_src tc HOK2.out)
                  have hi2 : Whole (w1.setCell ⟨q, 4, none⟩ (.int .i64 e1)) q 121 #[.string (strOfNums b1), .string (strOfNums b2), .string (strOfNums b3), .int .i64 e0, .int .i64 e1] := (HI1.out).store 4 (.int .i64 e1)
                  have HI4 := Lib.hid (keep2 hi2 (b := w.heap.size + 1) (by have := HGQ.out; have := HD2.out.hg; omega) (.string (strOfNums tc.1)) (.int .i64 tc.2))
                  have c0 := HD2.out.src.cell 0
                  have c1 := HD2.out.src.cell 1
                  have y0 := HD2.out.src.free 0
                  have y1 := HD2.out.src.free 1
                  clear hi2
                  go_upto_region 43 with fail
                  clear c0 c1 y0 y1 HD1 HD2 HI1 HOK2 z0 x0
                  generalize World.setCell (World.setCell (World.setCell w1 _ _) _ _) _ _ = Qtc at *
                  have HDqtc := HD4
                  have HIqtc := HI4
                  clear HD4 HI4
                  have hfs : rwst s = (((b1, b2, b3), e0, e1), tc) := by unfold rwst; rw [HGta.out]; simp only []; rw [HGtb.out]; simp only []; rw [HGtc.out]
                  have heq := HQr.out.trans (res_row s _)
                  rw [hfs] at heq
                  have HQz := Lib.hid heq
                  clear heq hfs HGta HGtb HGtc
                  have HDz := HDqtc
                  have HIz := HIqtc
                  clear HDqtc HIqtc
                  generalize Qtc = Wz at *
                  obtain ⟨ua, uc, rfl⟩ := own_slice HDz.out.own.rows
                  have z0 : Wz.cell? ⟨gm, 11, none⟩ = some (.slice ua ys.length uc) := HDz.out.msg.cell 11
                  have HOW := Lib.hid HDz.out.own.rows
                  have hzs : w.heap.size ≤ Wz.heap.size := HDz.out.bel.size
                  have hkn : kN ≤ 1024 := HKN.out
                  have hij : (0 : Int) ≤ (i : Int) ∧ (i : Int) < (kN : Int) := by have := HLT.out; omega
                  have hyk : ys.length ≤ 1024 := by rw [HYL.out]; have := HKN.out; have := HLT.out; omega
                  have j0 := HIz.out.cell 0
                  have j1 := HIz.out.cell 1
                  have j2 := HIz.out.cell 2
                  have j3 := HIz.out.cell 3
                  have j4 := HIz.out.cell 4
                  have HWS := Lib.hid (below_alloc Wz (.cells #[.string (strOfNums b1), .string (strOfNums b2), .string (strOfNums b3), .int .i64 e0, .int .i64 e1] 121))
                  obtain ⟨hi, hz0, hz1, hz2⟩ := HINF.out
                  skip
                  go_wp2_with (at_builtin; refine wpList_append_at_any _ rfl _ _ 41 rfl w.heap.size 121 i0 (.agg #[.string ⟨#[]⟩, .string ⟨#[]⟩, .string ⟨#[]⟩, .int .i64 0, .int .i64 0]) 5 64 Tryz.underlying41 hi hz0 hz1 hz2 rfl (by decide) _ ys.length _ rfl (HOW.out.alloc _) (some ⟨Wz.heap.size, 0, none⟩) 1 1 [.string (strOfNums b1), .string (strOfNums b2), .string (strOfNums b3), .int .i64 e0, .int .i64 e1] rfl rfl (by intro h; cases h) (by rintro ad he; injection he with he; subst he; exact cells_new _ [.string (strOfNums b1), .string (strOfNums b2), .string (strOfNums b3), .int .i64 e0, .int .i64 e1] _) (by intro q hq; simp at hq; rcases hq with rfl | rfl | rfl | rfl | rfl <;> rfl) (by unfold maxLen; omega) (by omega) (by simp; omega) ?_; intro v2 w3 hown3 hgrow3 hat3; obtain ⟨va, vc, rfl⟩ := own_slice hown3; have HD5 := Lib.hid ((HDz.out.below HWS.out).add_rows (ys ++ [((b1, b2, b3), e0, e1)]) (.slice va (ys.length + 1) vc) hgrow3 (by rw [show (ys ++ [((b1, b2, b3), e0, e1)]).length = ys.length + 1 by simp, show (ys ++ [((b1, b2, b3), e0, e1)]).flatMap rowC = (ys.flatMap rowC) ++ [.string (strOfNums b1), .string (strOfNums b2), .string (strOfNums b3), .int .i64 e0, .int .i64 e1] by simp [rowC]]; exact hown3)); have hm9 := (HDz.out.below HWS.out).msg_rows hgrow3; have z9 : w3.cell? ⟨gm, 11, none⟩ = some (.slice ua ys.length uc) := hm9.cell 11; have x9 := hm9.free 11; clear hown3 hgrow3 hat3 hm9)
                  exact ⟨⟨i + 1, ys ++ [((b1, b2, b3), e0, e1)], _, _, by have := HLT.out; omega, by go_num, by rw [List.length_append, HYL.out]; rfl, HD5.out, by rw [HK2.out]; exact HQz.out⟩, by simp [intOf]; have := HLT.out; omega⟩
                · by_cases hlt : i < kN
                  · have hs0 : s.2 ≠ 0 := fun h => hc ⟨hlt, h⟩
                    have hcz : (s.2 == 0) = false := by simpa using hs0
                    have c1 := HDr.out.src.cell 1
                    have HE := Lib.hid (HQr.out.trans (res_no2 hs0 _ (fun l => .ok (⟨a0, a1, a2, a3, a4, a5, a6, fl, l8, l9, l10, ys⟩, l))))
                    clear hc hs0
                    go_wp2_with fail
                    go_meet
                    exact ⟨ys, s, u, HDr.out, HE.out⟩
                  · have hik : kN - i = 0 := by omega
                    have hrq2 := HQr.out
                    rw [hik] at hrq2
                    simp only [rrep_end rrow _ ys (fun x l => .ok ((⟨a0, a1, a2, a3, a4, a5, a6, fl, l8, l9, l10, x⟩ : MsgR), l))] at hrq2
                    have HE := Lib.hid hrq2
                    clear hc hrq2 hik
                    go_wp2_with fail
                    go_meet
                    exact ⟨ys, s, u, HDr.out, HE.out⟩
          case rest =>
            obtain ⟨l11, s16, v11, hdp, heq⟩ := hcut
            have HDX4 := Lib.hid hdp
            have HEQ := Lib.hid heq
            clear hdp heq HD2 HKN
            generalize wc = W4 at *
            have hR := HEQ.out
            rw [res_ok] at hR
            have HR := Lib.hid hR
            clear hR HEQ
            have HMG := Lib.hid HDX4.out.msg
            have c0 := HDX4.out.src.cell 0
            have c1 := HDX4.out.src.cell 1
            by_cases hs : s16.2 = 0
            · have hcz : (s16.2 == 0) = true := by rw [hs]; rfl
              have hcn : (s16.2 != 0) = false := by rw [hs]; rfl
              obtain ⟨rest, cc⟩ := s16
              obtain rfl : cc = 0 := hs
              rw [res_ok] at HR
              have HT := Lib.hid (show W4.there w.heap.size 0 mZ.size from there_all HDX4.out.res)
              by_cases he : rest = []
              · subst he
                have HD := Lib.hid (show dec xs = .ok ⟨a0, a1, a2, a3, a4, a5, a6, fl, l8, l9, l10, l11⟩ from dec_ok2 HDC.out HR.out)
                have HF := Lib.hid (put_all HDX4.out.res (ds := msgC ⟨a0, a1, a2, a3, a4, a5, a6, fl, l8, l9, l10, l11⟩ v8 v9 v10 v11) rfl)
                have HO1 := Lib.hid (show (msgC ⟨a0, a1, a2, a3, a4, a5, a6, fl, l8, l9, l10, l11⟩ v8 v9 v10 v11).all (·.oneCell') = true by
                  obtain ⟨p8, q8, rfl⟩ := own_slice HDX4.out.own.nodes
                  obtain ⟨p9, q9, rfl⟩ := own_slice HDX4.out.own.muts
                  obtain ⟨p10, q10, rfl⟩ := own_slice HDX4.out.own.pre
                  obtain ⟨p11, q11, rfl⟩ := own_slice HDX4.out.own.rows
                  simp [msgC, Value.oneCell'])
                have HTT := Lib.hid (show W4.there w.heap.size 0 (msgC ⟨a0, a1, a2, a3, a4, a5, a6, fl, l8, l9, l10, l11⟩ v8 v9 v10 v11).size from HT.out)
                have HOW := Lib.hid (HDX4.out.own.kept (w' := W4.setCells w.heap.size 0 (msgC ⟨a0, a1, a2, a3, a4, a5, a6, fl, l8, l9, l10, l11⟩ v8 v9 v10 v11).toList) fun k T cur hW hT => kept_sets (wne hW HDX4.out.res (by rcases hT with e1 | e1 | e1 | e1 <;> rw [e1] <;> decide)) _ _)
                have HB := Lib.hid (bel_sets (Nat.le_refl _) (msgC ⟨a0, a1, a2, a3, a4, a5, a6, fl, l8, l9, l10, l11⟩ v8 v9 v10 v11).toList 0 HDX4.out.bel)
                have e0 : strOfNums ([] : List Int) = ⟨#[]⟩ := rfl
                simp only [] at c0 c1
                rw [e0] at c0
                have HSC := Lib.hid (show (Tryz.prog.info? 43).map (·.size) = some (msgC ⟨a0, a1, a2, a3, a4, a5, a6, fl, l8, l9, l10, l11⟩ v8 v9 v10 v11).size from Tryz.infoMsg)
                generalize hCC : msgC ⟨a0, a1, a2, a3, a4, a5, a6, fl, l8, l9, l10, l11⟩ v8 v9 v10 v11 = CC at *
                have HCC := Lib.hid hCC
                clear hCC
                have HIC := Lib.hid (show (Tryz.prog.info? 43).map (·.size) = some CC.toList.length by rw [Array.length_toList]; exact HSC.out)
                go_wp2_with (first
                  | (refine wpList_load_mid rfl 43 (.tmp 7) rfl gm 0 rfl CC.toList _ (range_all HMG.out) Tryz.underlying43 rfl HIC.out ?_)
                  | (refine wpList_store_mid rfl 43 (.tmp 2) (.tmp 199) rfl w.heap.size 0 CC rfl (by simp [Act.eval, Act.put]) HTT.out HSC.out HO1.out ?_))
                refine bodyPost_ret (v := .tuple #[.agg CC, .int .i64 0]) (res_ct Tryz.results44 _ _ w.heap.size 43 CC _ _ rfl rfl HF.out Tryz.underlying43 rfl HSC.out) rfl (.inl ⟨_, v8, v9, v10, v11, HD.out, by rw [HCC.out], HOW.out, HB.out⟩)
              · have HD := Lib.hid (show dec xs = .error 21 from dec_trail HDC.out HR.out he)
                have hne : ((strOfNums rest).toList == (⟨#[]⟩ : ByteArray).toList) = false := str_ne (fun h => he (by
                  have h2 := congrArg ByteArray.size h
                  rw [strOfNums_size] at h2
                  exact List.eq_nil_of_length_eq_zero h2))
                have hie : (strOfNums rest).toList.isEmpty = false := by
                  have e0 : (⟨#[]⟩ : ByteArray).toList = [] := by decide +kernel
                  rw [e0] at hne
                  cases hS : (strOfNums rest).toList with
                  | nil => rw [hS] at hne; simp at hne
                  | cons => rfl
                have HF := Lib.hid (put_all HDX4.out.res (ds := mZ) rfl)
                have HB := Lib.hid (bel_sets (Nat.le_refl _) mZ.toList 0 HDX4.out.bel)
                simp only [] at c0 c1
                generalize strOfNums rest = S at *
                go_wp2_with (refine wpList_store_mid rfl 43 (.tmp 2) (.tmp 198) rfl w.heap.size 0 mZ rfl rfl HT.out Tryz.infoMsg HZ1.out ?_)
                refine bodyPost_ret (v := .tuple #[.agg mZ, .int .i64 21]) (res_ct Tryz.results44 _ _ w.heap.size 43 mZ _ _ rfl rfl HF.out Tryz.underlying43 rfl Tryz.infoMsg) rfl (.inr ⟨21, HD.out, rfl, HB.out⟩)
            · have hcz : (s16.2 == 0) = false := by simpa using hs
              have hcn : (s16.2 != 0) = true := by simpa using hs
              rw [res_no hs] at HR
              have HD := Lib.hid (show dec xs = .error s16.2 from dec_err2 HDC.out HR.out)
              go_upto_region 45 with fail
              obtain ⟨wd, hwd, hbd⟩ : ∃ wd, wd = W4.drew ∧ Below W4.heap.size W4 wd := ⟨_, rfl, below_drewN W4 1⟩
              have HR9 := Lib.hid (HDX4.out.res.kept (hbd.block _ HDX4.out.res.lt))
              have HS9 := Lib.hid (HDX4.out.src.kept (hbd.block _ HDX4.out.src.lt))
              have HT := Lib.hid (show wd.there w.heap.size 0 mZ.size from there_all HR9.out)
              have HF := Lib.hid (put_all HR9.out (ds := mZ) rfl)
              have HB := Lib.hid (bel_sets (Nat.le_refl _) mZ.toList 0 (HDX4.out.bel.trans (hbd.mono HDX4.out.bel.size)))
              have hS0 : Whole wd (w.heap.size + 1) 126 #[.string (strOfNums s16.1), .int .i64 s16.2] := HS9.out
              clear hbd c0 c1
              subst hwd
              refine wp_region_held_drew (S := fun V : World => Whole V (w.heap.size + 1) 126 #[.string (strOfNums s16.1), .int .i64 s16.2]) (by kernel_rfl) (hS0) (fun hHeld => ?_)
              refine wpAnyH_take (i := 0) (oi := { dst := Option.some 192, op := Go.Op.build 43 #[], type := 43, pos := "ref.go:162", after := #[], guard := Option.none }) (v := ?_) rfl (by kernel_rfl) (by kernel_rfl) (by kernel_rfl) (fun _ _ _ h => h) (Or.inl ⟨by rfl, ?_⟩) (by assumption) ?_
              rotate_left
              · intro V hV; (try dsimp only at hV); go_simp; all_goals (with_reducible rfl)
              try simp only [Act.put, List.setIfInBounds_toArray, List.set_cons_zero, List.set_cons_succ]
              refine wpAnyH_take (i := 1) (oi := { dst := Option.some 193, op := Go.Op.fieldAddr 126 (Go.Operand.tmp 4) 1, type := 0, pos := "ref.go:162", after := #[{ on := 3, ground := Go.Ground.gcOnly Go.Departure.lateStores }], guard := Option.none }) (v := ?_) rfl (by kernel_rfl) (by kernel_rfl) (by kernel_rfl) (fun _ _ _ h => h) (Or.inl ⟨by rfl, ?_⟩) (by assumption) ?_
              rotate_left
              · intro V hV; (try dsimp only at hV); go_simp; all_goals (with_reducible rfl)
              try simp only [Act.put, List.setIfInBounds_toArray, List.set_cons_zero, List.set_cons_succ]
              refine wpAnyH_take (i := 2) (oi := { dst := Option.some 194, op := Go.Op.load 3 (Go.Operand.tmp 193), type := 3, pos := "ref.go:162", after := #[{ on := 1, ground := Go.Ground.data }, { on := 3, ground := Go.Ground.gcOnly Go.Departure.lateStores }], guard := Option.none }) (v := ?_) rfl (by kernel_rfl) (by kernel_rfl) (by kernel_rfl) (fun _ _ _ h => h) (Or.inl ⟨by rfl, ?_⟩) (by assumption) ?_
              rotate_left
              · intro V hV; (try dsimp only at hV); have c1 := hV.cell 1; go_simp; all_goals (with_reducible rfl)
              try simp only [Act.put, List.setIfInBounds_toArray, List.set_cons_zero, List.set_cons_succ]
              refine wpAnyH_ready (rs := [3]) (by kernel_rfl) (by simp) ?_
              refine AllReadyH.cons (o := { dst := Option.none, op := Go.Op.store 43 (Go.Operand.tmp 2) (Go.Operand.tmp 192), type := 0, pos := "ref.go:162", after := #[{ on := 0, ground := Go.Ground.data }, { on := 0, ground := Go.Ground.phase }, { on := 1, ground := Go.Ground.textOnly Go.Departure.lateStores }, { on := 2, ground := Go.Ground.textOnly Go.Departure.lateStores }], guard := Option.none }) rfl (fun K hK => ?_) (AllReadyH.nil)
              refine wp_store_mid 43 (.tmp 2) (.tmp 192) rfl w.heap.size 0 mZ rfl rfl HT.out Tryz.infoMsg HZ1.out ?_
              refine hK.out _ _ (HS9.out.kept (kept_sets (by omega) _ _)) (fun hHeld => ?_)
              clear hK K
              try simp only [Act.put]
              refine wpAnyH_take (i := 4) (oi := { dst := Option.some 3, op := Go.Op.assign (Go.Operand.tmp 194), type := 3, pos := "ref.go:162", after := #[{ on := 2, ground := Go.Ground.data }, { on := 3, ground := Go.Ground.chain }, { on := 0, ground := Go.Ground.phase }, { on := 1, ground := Go.Ground.phase }, { on := 2, ground := Go.Ground.phase }, { on := 3, ground := Go.Ground.phase }], guard := Option.none }) (v := ?_) rfl (by kernel_rfl) (by kernel_rfl) (by kernel_rfl) (fun _ _ _ h => h) (Or.inl ⟨by rfl, ?_⟩) (by assumption) ?_
              rotate_left
              · intro V hV; (try dsimp only at hV); go_simp; all_goals (with_reducible rfl)
              try simp only [Act.put, List.setIfInBounds_toArray, List.set_cons_zero, List.set_cons_succ]
              refine wpAnyH_done (by kernel_rfl) ?_ _
              clear hHeld hS0
              go_wp2
              refine bodyPost_ret (v := .tuple #[.agg mZ, .int .i64 s16.2]) (res_ct Tryz.results44 _ _ w.heap.size 43 mZ _ _ rfl rfl HF.out Tryz.underlying43 rfl Tryz.infoMsg) rfl (.inr ⟨s16.2, HD.out, rfl, HB.out⟩)
end Go.Proofs.YteodldmbnghfcaaGreat
