/- MoveWalk: the walk. -/
import Derived.Test.YtchheefjlkkkpaaVe
import Derived.Deep.DeepCutAuto
import Derived.Deep.CutBlock
namespace Go.Proofs.Ytchheefjlkkkpaa
open Go.RowKit

set_option maxRecDepth 100000 in
set_option maxHeartbeats 64000000 in
theorem walk_walk (a c : Option Addr) (n ca n2 cc : Nat) (lu : List Bool) (w : World) (hx : MovesIn w a n) (hu : BoolsA w c n2 lu) (hn : n ≤ 140737488355328) :
    Calls Try.prog 5 #[.slice a n ca, .slice c n2 cc] w fun e w' => e = .returned (.bool true) ∧ Below w.heap.size w w' := by
  have HX := Lib.hid hx
  have HU := Lib.hid hu
  clear hx hu
  go_enter Try.func5, Try.ntmps5
  go_wp2_with fail
  refine (awake_any _).mono ?_
  rintro e w1 ⟨rfl, hb1⟩
  have HN := Lib.hid (Dk.new_good w.heap.size 1048576 w1 (by decide) hb1.size)
  have HB1 := Lib.hid hb1
  clear hb1
  go_wp2_with fail
  refine HN.out.mono ?_
  rintro e w2 ⟨rfl, hd2, hb2⟩
  have HB2 := Lib.hid (bell_up HB1.out hb2)
  have HGE := Lib.hid HB1.out.size
  have HO2 := opened_any (ms := []) w2 0 hd2 (by simp) HB2.out.size
  rw [zero_tab] at HO2
  have HO2 := Lib.hid HO2
  clear hd2 hb2 HN
  generalize w1.heap.size = g at *
  go_wp2_with fail
  refine HO2.out.mono ?_
  rintro e w3 (⟨gm, gl, v3, ms3, rfl, hms, hch, _, ⟨_, rfl⟩ | ⟨h0, _⟩⟩ | ⟨h0, _⟩)
  rotate_left
  · exact absurd rfl h0
  · exact absurd rfl h0
  have HM3 := Lib.hid hms
  have HB3 := Lib.hid (HB2.out.trans (hch.below (fun k hk => by
    rcases hk with e | e
    · rw [e]; exact HGE.out
    · cases e) HB2.out.size))
  clear hms hch HO2
  go_upto_region 7 with fail
  have HTH := Lib.hid (show (w3.alloc (.cells (tcs 0 noOwn) 24)).there w3.heap.size 0 (tcs (0) (noOwn)).size from tab_there (heap_alloc_new w3 (.cells (tcs 0 noOwn) 24)) (tcs_size _ _ rfl) rfl)
  have HWN := Lib.hid (show Whole ((w3.alloc (.cells (tcs 0 noOwn) 24)).setCells w3.heap.size 0 (tcs (0) (noOwn)).toList) w3.heap.size 24 (tcs (0) (noOwn)) from tab_put (heap_alloc_new w3 (.cells (tcs 0 noOwn) 24)) (tcs_size _ _ rfl) rfl)
  have HBN := Lib.hid (show Below w3.heap.size w3 ((w3.alloc (.cells (tcs 0 noOwn) 24)).setCells w3.heap.size 0 (tcs (0) (noOwn)).toList) from Chg.below (B := w3.heap.size) (Chg.sets (P := fun k => k = w3.heap.size) rfl _ _ (Chg.ofBelow _ (below_alloc w3 _))) (fun k hk => by rw [hk]; exact Nat.le_refl _) (Nat.le_refl _))
  rw [zero_tab] at HTH HWN HBN
  have HTI := Lib.hid (tab_info (e := 0) (o := noOwn) rfl)
  rw [zero_tab] at HTI
  go_upto_region 8 with (refine wpList_store_mid rfl 24 (.tmp 9) (.tmp 35) rfl w3.heap.size 0 #[.int .i64 0, .int .i64 0, .int .i64 0, .int .i64 0, .int .i64 0, .int .i64 0, .int .i64 0, .int .i64 0, .int .i64 0, .int .i64 0, .int .i64 0, .int .i64 0, .int .i64 0, .int .i64 0, .int .i64 0, .int .i64 0, .int .i64 0] rfl rfl HTH.out HTI.out (tcs_one 0 noOwn) ?_)
  generalize World.setCells _ w3.heap.size 0 _ = w4 at *
  clear HTH HTI
  have HMW := Lib.hid (show MW w w4 g gm gl w3.heap.size 0 from ⟨v3, _, _, HM3.out.below HBN.out, rfl, rfl, HWN.out, TB.zero, by decide, HB3.out.trans (HBN.out.mono HB3.out.size), HB3.out.size⟩)
  clear HM3 HBN HWN
  generalize w3.heap.size = tb at *
  go_wp2_with fail
  go_loopw [10, 38] (fun nv iv wr => ∃ i nn : Nat, i ≤ n ∧ iv = .int .i64 (i : Int) ∧ nv = .int .i64 (nn : Int) ∧ nn ≤ i ∧ nn ≤ 501 ∧ MW w wr g gm gl tb nn) (fun _ iv _ => n - (intOf iv).toNat)
  case atStart => exact ⟨0, 0, by omega, rfl, rfl, by omega, by omega, HMW.out⟩
  case round =>
    obtain ⟨i, nn, hin, rfl, rfl, hni, hn501, v, M, ms, hms, hst, hver, htb, hTB, hlen, hbel, htge⟩ := hrel
    have HM := Lib.hid hms
    have HST := Lib.hid hst
    have HVER := Lib.hid hver
    have HTW := Lib.hid htb
    have HTB := Lib.hid hTB
    have HLEN := Lib.hid hlen
    have HBEL := Lib.hid hbel
    have HTG := Lib.hid htge
    clear hms hst hver htb hTB hlen hbel htge HMW
    by_cases hil : i < n
    · obtain ⟨b, off, rfl, hbl, hcc⟩ := HX.out.resolve_left (by omega)
      obtain ⟨x, y, q0, q1⟩ := hcc i hil
      have p0 := (HBEL.out.cell (p := ⟨b, _, none⟩) hbl).trans q0
      have p1 := (HBEL.out.cell (p := ⟨b, _, none⟩) hbl).trans q1
      obtain ⟨X, hX, hwx, hbx⟩ := box_new wr 79 #[.int .i64 x, .int .i64 y]
      have HWX := Lib.hid hwx
      have HBX := Lib.hid hbx
      have HMX := Lib.hid (HM.out.below hbx)
      have HTX := Lib.hid (HTW.out.kept (hbx.block _ HTW.out.lt))
      have HBW := Lib.hid (HBEL.out.trans (hbx.mono HBEL.out.size))
      have hij : (0:Int) ≤ (i:Int) ∧ (i:Int) < (n:Int) := by omega
      clear hcc q0 q1
      go_upto_region 12 with fail
      rw [← hX]
      clear hX hwx hbx p0 p1
      generalize wr.heap.size = xb at *
      by_cases h500 : i > 500
      · have e500 : decide ((i : Int) > 500) = true := decide_eq_true (by omega)
        go_wp2
        go_ret
        exact ⟨rfl, HBW.out⟩
      · have e500 : decide ((i : Int) > 500) = false := decide_eq_false (by omega)
        have HMV := Lib.hid (move_any x y X (T := (tL M.e M.o).toArray) (e := M.e) (o := M.o) ⟨rfl, HTB.out.2.2.1⟩)
        have HLM := Lib.hid (move_len (e := M.e) x y HTB.out.2.2.1)
        have d0 := HWX.out.cell 0
        have d1 := HWX.out.cell 1
        go_wp2_with (refine wpList_load_mid rfl 24 (.tmp 9) rfl tb 0 rfl (tL M.e M.o) _ (tab_range HTX.out) Try.underlying24 rfl (tL_info _ HTB.out.2.2.1) ?_)
        refine HMV.out.mono ?_
        rintro r w5 ⟨rfl, hb5⟩
        have HB5 := Lib.hid hb5
        clear hb5 HMV d0 d1
        have HMC := Lib.hid (fun h => @move_ok M.e M.o x y h)
        have HM0 := Lib.hid (show ∃ q, q = Mt.move M.e M.o x y from ⟨_, rfl⟩)
        have HSB := Lib.hid (fun hs hm => start_bad (slot := x) (tw := y) (M := M) (B := w.heap.size) (gm := gm) (gl := gl) (hs := hs) (hm := hm))
        generalize hmm : Mt.move M.e M.o x y = m0 at *
        have HMM := Lib.hid hmm
        clear hmm
        have HTH := Lib.hid (show (w5.alloc (.cells (tcs 0 noOwn) 24)).there w5.heap.size 0 (tcs (m0.1) (m0.2.1)).size from tab_there (heap_alloc_new w5 (.cells (tcs 0 noOwn) 24)) (tcs_size _ _ rfl) HLM.out)
        have HWN := Lib.hid (show Whole ((w5.alloc (.cells (tcs 0 noOwn) 24)).setCells w5.heap.size 0 (tcs (m0.1) (m0.2.1)).toList) w5.heap.size 24 (tcs (m0.1) (m0.2.1)) from tab_put (heap_alloc_new w5 (.cells (tcs 0 noOwn) 24)) (tcs_size _ _ rfl) HLM.out)
        have HBN := Lib.hid (show Below w5.heap.size w5 ((w5.alloc (.cells (tcs 0 noOwn) 24)).setCells w5.heap.size 0 (tcs (m0.1) (m0.2.1)).toList) from Chg.below (B := w5.heap.size) (Chg.sets (P := fun k => k = w5.heap.size) rfl _ _ (Chg.ofBelow _ (below_alloc w5 _))) (fun k hk => by rw [hk]; exact Nat.le_refl _) (Nat.le_refl _))
        rw [zero_tab] at HTH HWN HBN
        have HTI := Lib.hid (tab_info (e := m0.1) (o := m0.2.1) HLM.out)
        skip
        go_upto_region 14 with (refine wpList_store_mid rfl 24 (.tmp 13) (.tmp 52) rfl w5.heap.size 0 (tcs (m0.1) (m0.2.1)) rfl rfl HTH.out HTI.out (tcs_one _ _) ?_)
        generalize World.setCells _ w5.heap.size 0 _ = w6 at *
        clear HTH HTI
        have HB6 := Lib.hid (HB5.out.trans (HBN.out.mono HB5.out.size))
        have HM6 := Lib.hid (HMX.out.below HB6.out)
        have HT6 := Lib.hid (HTX.out.kept (HB6.out.block _ HTX.out.lt))
        have HX6 := Lib.hid (HWX.out.kept (HB6.out.block _ HWX.out.lt))
        have HU6 := Lib.hid HWN.out
        have HBW6 := Lib.hid (HBW.out.trans (HB6.out.mono HBW.out.size))
        have HUX := Lib.hid (show X.heap.size ≤ w5.heap.size from HB5.out.size)
        clear HBN HWN HMX HTX HWX
        generalize w5.heap.size = ub at *
        have d0 := HX6.out.cell 0
        have d1 := HX6.out.cell 1
        by_cases hcd : m0.2.2 = 0
        · skip
          obtain ⟨s, rfl, hs16, hy0, hy7, he0, he7, hne, hm⟩ := HMC.out hcd
          have HTB2 := Lib.hid (HTB.out.move (s := s) (y := y) ⟨hy0, hy7⟩ he7)
          have hfr := HTB.out.at_ s hs16
          have hiv : InI (M.ver + 1) := by rw [HVER.out]; exact ⟨by omega, by omega⟩
          have hmv := HMM.out.trans hm
          have hl0 : (cat ms).length ≤ 68136 := by have := HLEN.out; omega
          have HS := start_fits w6 HM6.out s y HST.out hs16 hmv ⟨by omega, by omega⟩ ⟨by omega, by omega⟩ hiv (by omega)
          have HRC := Lib.hid (mm_rcd (k := 11) (f := M.o.getD s 0) (t := y) (i := M.ver + 1) (s := (s : Int)) ⟨by omega, by omega⟩ ⟨by omega, by omega⟩ ⟨by omega, by omega⟩ hiv ⟨by omega, by omega⟩)
          have HF7 := Lib.hid (show (mtake M (mM 11 (M.o.getD s 0) y (M.ver + 1) s)).st = 1 ∧ (mtake M (mM 11 (M.o.getD s 0) y (M.ver + 1) s)).id = (nn : Int) + 1 ∧ (mtake M (mM 11 (M.o.getD s 0) y (M.ver + 1) s)).e = M.e ∧ (mtake M (mM 11 (M.o.getD s 0) y (M.ver + 1) s)).o = M.o ∧ (mtake M (mM 11 (M.o.getD s 0) y (M.ver + 1) s)).e2 = M.e + 1 ∧ (mtake M (mM 11 (M.o.getD s 0) y (M.ver + 1) s)).o2 = M.o.set s y from ⟨rfl, by rw [← HVER.out]; rfl, rfl, rfl, (show (Mt.move M.e M.o s y).1 = _ by rw [hmv]), (show (Mt.move M.e M.o s y).2.1 = _ by rw [hmv])⟩)
          have HU6 := Lib.hid (show Whole w6 ub 24 (tcs (M.e + 1) (M.o.set s y)) from by have h := HU6.out; rw [hm] at h; exact h)
          rw [show (M.ver + 1 : Int) = (nn : Int) + 1 by rw [HVER.out]] at HS HRC HF7
          have HS := Lib.hid HS
          have hadd : IntKind.i64.wrap ((nn : Int) + 1) = (nn : Int) + 1 := i64_wrap ⟨by omega, by omega⟩
          have hsub : IntKind.i64.wrap ((nn : Int) + 1 - 1) = (nn : Int) := by rw [show (nn : Int) + 1 - 1 = (nn : Int) by omega]; exact i64_wrap ⟨by omega, by omega⟩
          rw [hcd]
          generalize mtake M (mM 11 (M.o.getD s 0) y ((nn : Int) + 1) s) = M7 at *
          generalize mM 11 (M.o.getD s 0) y ((nn : Int) + 1) s = r7 at *
          clear hcd hm hmv hfr hiv hne HSB HMC HMM HLM
          go_wp2_with fail
          refine HS.out.mono ?_
          rintro e w7 ⟨rfl, v7, hm7, hc7⟩
          have HM7 := Lib.hid hm7
          have HT7 := Lib.hid (HM6.out.tab HT6.out (by decide) hc7)
          have HU7 := Lib.hid (HM6.out.tab HU6.out (by decide) hc7)
          have HX7 := Lib.hid (HM6.out.tab HX6.out (by decide) hc7)
          have HB7 := Lib.hid (HBW6.out.trans (HM6.out.sb_below hc7))
          have HL7 := Lib.hid (show (cat (ms ++ [r7])).length ≤ 136 * nn + 68 from by rw [cat_snoc_len]; have h1 := HLEN.out; have h2 := HRC.out; omega)
          clear hm7 hc7 HS d0 d1 HM6 HT6 HU6 HX6 HRC
          have d0 := HX7.out.cell 0
          have d1 := HX7.out.cell 1
          have HSY := Lib.hid (start_busy w7 HM7.out.mv (s : Int) y (by rw [HF7.out.1]; decide))
          go_wp2_with fail
          refine HSY.out.mono ?_
          rintro e w7 ⟨rfl, rfl⟩
          clear HSY d0 d1
          have hidI : InI ((nn : Int) + 1) := ⟨by omega, by omega⟩
          by_cases hiu : i < n2
          · have HUU := HU.out
            obtain ⟨ub0, uoff, rfl, hub, hcu⟩ := HUU.2.resolve_left (by omega)
            obtain ⟨z, hz⟩ : ∃ z, lu[i]? = some z := ⟨_, List.getElem?_eq_getElem (by have := HUU.1; omega)⟩
            have q0 := (HB7.out.cell (p := ⟨ub0, _, none⟩) hub).trans (hcu i z hz)
            have eiu : decide ((i : Int) < (n2 : Int)) = true := decide_eq_true (by omega)
            have hij3 : (0:Int) ≤ (i:Int) ∧ (i:Int) < (n2:Int) := by omega
            clear HUU hcu hz
            cases z with
            | true =>
              have HUN := Lib.hid (undo_fits w7 HM7.out (by rw [HF7.out.1]; decide) (by rw [HF7.out.2.1]; exact hidI) (by have := HL7.out; omega))
              go_wp2_with fail
              refine HUN.out.mono ?_
              rintro e w8 ⟨rfl, v8, hm8, hc8⟩
              have HM8 := Lib.hid hm8
              have HT8 := Lib.hid (HM7.out.tab HT7.out (by decide) hc8)
              have HB8 := Lib.hid (HB7.out.trans (HM7.out.sb_below hc8))
              have HR8 := Lib.hid (mm_rcd (k := 13) (f := 0) (t := 0) (i := M7.id) (s := 0) ⟨by omega, by omega⟩ ini0 ini0 (by rw [HF7.out.2.1]; exact hidI) ini0)
              have HFE := Lib.hid (show (mend M7 M7.e M7.o).e = M.e ∧ (mend M7 M7.e M7.o).o = M.o ∧ (mend M7 M7.e M7.o).ver = (nn : Int) + 1 ∧ (mend M7 M7.e M7.o).st = 0 from ⟨HF7.out.2.2.1, HF7.out.2.2.2.1, HF7.out.2.1, rfl⟩)
              have HL8 := Lib.hid (show (cat (ms ++ [r7] ++ [mM 13 0 0 M7.id 0])).length ≤ 136 * (nn + 1) from by rw [cat_snoc_len]; have h1 := HL7.out; have h2 := HR8.out; omega)
              clear hm8 hc8 HUN
              generalize mend M7 M7.e M7.o = M8 at *
              have HU0 := Lib.hid (undo_none w8 HM8.out.mv HFE.out.2.2.2)
              go_wp2_with fail
              refine HU0.out.mono ?_
              rintro e w8 ⟨rfl, rfl⟩
              clear HU0
              have HTA := table_any w8 HM8.out.mv
              rw [HFE.out.1, HFE.out.2.1, HFE.out.2.2.1] at HTA
              have HTA := Lib.hid HTA
              go_wp2_with fail
              refine HTA.out.mono ?_
              rintro e wt ⟨rfl, hbt⟩
              have HMT := Lib.hid (HM8.out.below hbt)
              have HTT := Lib.hid (HT8.out.kept (hbt.block _ HT8.out.lt))
              have HBT := Lib.hid (HB8.out.trans (hbt.mono HB8.out.size))
              clear hbt HTA
              have HTH := Lib.hid (show (wt.alloc (.cells (tcs 0 noOwn) 24)).there wt.heap.size 0 (tcs (M.e) (M.o)).size from tab_there (heap_alloc_new wt (.cells (tcs 0 noOwn) 24)) (tcs_size _ _ rfl) HTB.out.2.2.1)
              have HWN := Lib.hid (show Whole ((wt.alloc (.cells (tcs 0 noOwn) 24)).setCells wt.heap.size 0 (tcs (M.e) (M.o)).toList) wt.heap.size 24 (tcs (M.e) (M.o)) from tab_put (heap_alloc_new wt (.cells (tcs 0 noOwn) 24)) (tcs_size _ _ rfl) HTB.out.2.2.1)
              have HBN := Lib.hid (show Below wt.heap.size wt ((wt.alloc (.cells (tcs 0 noOwn) 24)).setCells wt.heap.size 0 (tcs (M.e) (M.o)).toList) from Chg.below (B := wt.heap.size) (Chg.sets (P := fun k => k = wt.heap.size) rfl _ _ (Chg.ofBelow _ (below_alloc wt _))) (fun k hk => by rw [hk]; exact Nat.le_refl _) (Nat.le_refl _))
              rw [zero_tab] at HTH HWN HBN
              have HTI := Lib.hid (tab_info (e := M.e) (o := M.o) HTB.out.2.2.1)
              skip
              go_upto_region 29 with (refine wpList_store_mid rfl 24 (.tmp 19) (.tmp 137) rfl wt.heap.size 0 (tcs (M.e) (M.o)) rfl rfl HTH.out HTI.out (tcs_one _ _) ?_)
              generalize World.setCells _ wt.heap.size 0 _ = wv at *
              clear HTH HTI
              have HMZ := Lib.hid (HMT.out.below HBN.out)
              have HTZ := Lib.hid (HTT.out.kept (HBN.out.block _ HTT.out.lt))
              have HBZ := Lib.hid (HBT.out.trans (HBN.out.mono HBT.out.size))
              generalize wt.heap.size = nb at *
              have HEQ := Lib.hid (eq_tab (M.e) (M.o) HTB.out.2.2.1 HTB.out.in64.1 HTB.out.in64.2)
              go_wp2_with (first
                | (refine wpList_load_mid rfl 24 (.tmp 19) rfl nb 0 rfl (tL (M.e) (M.o)) _ (tab_range HWN.out) Try.underlying24 rfl (tL_info _ HTB.out.2.2.1) ?_)
                | (refine wpList_load_mid rfl 24 (.tmp 9) rfl tb 0 rfl (tL (M.e) (M.o)) _ (tab_range HTZ.out) Try.underlying24 rfl (tL_info _ HTB.out.2.2.1) ?_)
                | (refine wpList_neq_self rfl 24 (.tmp 139) (.tmp 140) 24 rfl (tcs (M.e) (M.o)) rfl rfl guardT (HEQ.out _) ?_))
              exact ⟨⟨i + 1, nn + 1, by omega, by go_num, by go_num, by omega, by omega, _, _, _, HMZ.out, HFE.out.2.2.2, by rw [HFE.out.2.2.1]; rfl, by rw [HFE.out.1, HFE.out.2.1]; exact HTZ.out, by rw [HFE.out.1, HFE.out.2.1]; exact HTB.out, HL8.out, HBZ.out, HTG.out⟩, by simp [intOf]; omega⟩
            | false =>
              have HI1 := Lib.hid (installed_no w7 HM7.out.mv ((nn : Int) + 1) (by rw [HF7.out.1]; rintro ⟨h, _⟩; cases h))
              go_wp2_with fail
              refine HI1.out.mono ?_
              rintro e w7 ⟨rfl, rfl⟩
              clear HI1
              have HF0 := Lib.hid (fenced_no w7 HM7.out.mv (nn : Int) none 0 0 (by rw [HF7.out.2.1]; rintro ⟨_, h⟩; omega))
              go_wp2_with fail
              refine HF0.out.mono ?_
              rintro e w7 ⟨rfl, rfl⟩
              clear HF0
              have HF1 := Lib.hid (fenced_any w7 HM7.out.mv ((nn : Int) + 1) none 0 0 ⟨HF7.out.1, HF7.out.2.1⟩ (clone_nil w7))
              go_wp2_with fail
              refine HF1.out.mono ?_
              rintro e w8 ⟨rfl, ⟨ra, rn, rc, hm8⟩, hc8⟩
              obtain ⟨hs8, hc8⟩ := HM7.out.step hm8 hc8
              have HM8 := Lib.hid hs8
              have HT8 := Lib.hid (HM7.out.tab HT7.out (by decide) hc8)
              have HU8 := Lib.hid (HM7.out.tab HU7.out (by decide) hc8)
              have HB8 := Lib.hid (HB7.out.trans (HM7.out.sb_below hc8))
              have HF8 := Lib.hid (show ({ M7 with ra := ra, rn := rn, rc := rc, st := 2 } : Mv).st = 2 ∧ ({ M7 with ra := ra, rn := rn, rc := rc, st := 2 } : Mv).id = (nn : Int) + 1 ∧ ({ M7 with ra := ra, rn := rn, rc := rc, st := 2 } : Mv).e2 = M.e + 1 ∧ ({ M7 with ra := ra, rn := rn, rc := rc, st := 2 } : Mv).o2 = M.o.set s y from ⟨rfl, HF7.out.2.1, HF7.out.2.2.2.2.1, HF7.out.2.2.2.2.2⟩)
              clear hm8 hc8 hs8 HF1
              generalize ({ M7 with ra := ra, rn := rn, rc := rc, st := 2 } : Mv) = M8 at *
              have HF2 := Lib.hid (fenced_no w8 HM8.out.mv ((nn : Int) + 1) none 0 0 (by rw [HF8.out.1]; rintro ⟨h, _⟩; cases h))
              go_wp2_with fail
              refine HF2.out.mono ?_
              rintro e w8 ⟨rfl, rfl⟩
              clear HF2
              have HI2 := Lib.hid (installed_fits w8 HM8.out ((nn : Int) + 1) ⟨HF8.out.1, HF8.out.2.1⟩ hidI (by have := HL7.out; omega))
              go_wp2_with fail
              refine HI2.out.mono ?_
              rintro e w9 ⟨rfl, v9, hm9, hc9⟩
              have HM9 := Lib.hid hm9
              have HT9 := Lib.hid (HM8.out.tab HT8.out (by decide) hc9)
              have HU9 := Lib.hid (HM8.out.tab HU8.out (by decide) hc9)
              have HB9 := Lib.hid (HB8.out.trans (HM8.out.sb_below hc9))
              have HR9 := Lib.hid (mm_rcd (k := 12) (f := 0) (t := 0) (i := (nn : Int) + 1) (s := 0) ⟨by omega, by omega⟩ ini0 ini0 hidI ini0)
              have HFE := Lib.hid (show (mend M8 M8.e2 M8.o2).e = M.e + 1 ∧ (mend M8 M8.e2 M8.o2).o = M.o.set s y ∧ (mend M8 M8.e2 M8.o2).ver = (nn : Int) + 1 ∧ (mend M8 M8.e2 M8.o2).st = 0 from ⟨HF8.out.2.2.1, HF8.out.2.2.2, HF8.out.2.1, rfl⟩)
              have HL9 := Lib.hid (show (cat (ms ++ [r7] ++ [mM 12 0 0 ((nn : Int) + 1) 0])).length ≤ 136 * (nn + 1) from by rw [cat_snoc_len]; have h1 := HL7.out; have h2 := HR9.out; omega)
              clear hm9 hc9 HI2
              generalize mend M8 M8.e2 M8.o2 = M9 at *
              have HTHR := Lib.hid (show w9.there tb 0 (tcs (M.e + 1) (M.o.set s y)).size from tab_there HT9.out (tcs_size _ _ HTB.out.2.2.1) HTB2.out.2.2.1)
              have HTIN := Lib.hid (tab_info (e := M.e + 1) (o := M.o.set s y) HTB2.out.2.2.1)
              have HTP := Lib.hid (show Whole (w9.setCells tb 0 (tcs (M.e + 1) (M.o.set s y)).toList) tb 24 (tcs (M.e + 1) (M.o.set s y)) from tab_put HT9.out (tcs_size _ _ HTB.out.2.2.1) HTB2.out.2.2.1)
              have HCP := Lib.hid (show Chg w9 (w9.setCells tb 0 (tcs (M.e + 1) (M.o.set s y)).toList) (fun k => k = tb) from Chg.sets (P := fun k => k = tb) rfl _ _ (Chg.refl _ _))
              go_upto_region 28 with (first
                | (refine wpList_load_mid rfl 24 (.tmp 13) rfl ub 0 rfl (tL (M.e + 1) (M.o.set s y)) _ (tab_range HU9.out) Try.underlying24 rfl (tL_info _ HTB2.out.2.2.1) ?_)
                | (refine wpList_store_mid rfl 24 (.tmp 9) (.tmp 133) rfl tb 0 (tcs (M.e + 1) (M.o.set s y)) rfl rfl HTHR.out HTIN.out (tcs_one _ _) ?_))
              generalize World.setCells w9 tb 0 _ = wp at *
              have HMP := Lib.hid (HM9.out.far HCP.out (HM9.out.other HT9.out (by decide) (by decide) (by decide) (by decide)))
              have HBP := Lib.hid (HB9.out.trans (HCP.out.below (fun k hk => by rw [hk]; exact HTG.out) HB9.out.size))
              clear HTHR HTIN HCP HM9 HT9 HU9
              have HTA := table_any wp HMP.out.mv
              rw [HFE.out.1, HFE.out.2.1, HFE.out.2.2.1] at HTA
              have HTA := Lib.hid HTA
              go_wp2_with fail
              refine HTA.out.mono ?_
              rintro e wt ⟨rfl, hbt⟩
              have HMT := Lib.hid (HMP.out.below hbt)
              have HTT := Lib.hid (HTP.out.kept (hbt.block _ HTP.out.lt))
              have HBT := Lib.hid (HBP.out.trans (hbt.mono HBP.out.size))
              clear hbt HTA
              have HTH := Lib.hid (show (wt.alloc (.cells (tcs 0 noOwn) 24)).there wt.heap.size 0 (tcs (M.e + 1) (M.o.set s y)).size from tab_there (heap_alloc_new wt (.cells (tcs 0 noOwn) 24)) (tcs_size _ _ rfl) HTB2.out.2.2.1)
              have HWN := Lib.hid (show Whole ((wt.alloc (.cells (tcs 0 noOwn) 24)).setCells wt.heap.size 0 (tcs (M.e + 1) (M.o.set s y)).toList) wt.heap.size 24 (tcs (M.e + 1) (M.o.set s y)) from tab_put (heap_alloc_new wt (.cells (tcs 0 noOwn) 24)) (tcs_size _ _ rfl) HTB2.out.2.2.1)
              have HBN := Lib.hid (show Below wt.heap.size wt ((wt.alloc (.cells (tcs 0 noOwn) 24)).setCells wt.heap.size 0 (tcs (M.e + 1) (M.o.set s y)).toList) from Chg.below (B := wt.heap.size) (Chg.sets (P := fun k => k = wt.heap.size) rfl _ _ (Chg.ofBelow _ (below_alloc wt _))) (fun k hk => by rw [hk]; exact Nat.le_refl _) (Nat.le_refl _))
              rw [zero_tab] at HTH HWN HBN
              have HTI := Lib.hid (tab_info (e := M.e + 1) (o := M.o.set s y) HTB2.out.2.2.1)
              skip
              go_upto_region 29 with (refine wpList_store_mid rfl 24 (.tmp 19) (.tmp 137) rfl wt.heap.size 0 (tcs (M.e + 1) (M.o.set s y)) rfl rfl HTH.out HTI.out (tcs_one _ _) ?_)
              generalize World.setCells _ wt.heap.size 0 _ = wv at *
              clear HTH HTI
              have HMZ := Lib.hid (HMT.out.below HBN.out)
              have HTZ := Lib.hid (HTT.out.kept (HBN.out.block _ HTT.out.lt))
              have HBZ := Lib.hid (HBT.out.trans (HBN.out.mono HBT.out.size))
              generalize wt.heap.size = nb at *
              have HEQ := Lib.hid (eq_tab (M.e + 1) (M.o.set s y) HTB2.out.2.2.1 HTB2.out.in64.1 HTB2.out.in64.2)
              go_wp2_with (first
                | (refine wpList_load_mid rfl 24 (.tmp 19) rfl nb 0 rfl (tL (M.e + 1) (M.o.set s y)) _ (tab_range HWN.out) Try.underlying24 rfl (tL_info _ HTB2.out.2.2.1) ?_)
                | (refine wpList_load_mid rfl 24 (.tmp 9) rfl tb 0 rfl (tL (M.e + 1) (M.o.set s y)) _ (tab_range HTZ.out) Try.underlying24 rfl (tL_info _ HTB2.out.2.2.1) ?_)
                | (refine wpList_neq_self rfl 24 (.tmp 139) (.tmp 140) 24 rfl (tcs (M.e + 1) (M.o.set s y)) rfl rfl guardT (HEQ.out _) ?_))
              exact ⟨⟨i + 1, nn + 1, by omega, by go_num, by go_num, by omega, by omega, _, _, _, HMZ.out, HFE.out.2.2.2, by rw [HFE.out.2.2.1]; rfl, by rw [HFE.out.1, HFE.out.2.1]; exact HTZ.out, by rw [HFE.out.1, HFE.out.2.1]; exact HTB2.out, HL9.out, HBZ.out, HTG.out⟩, by simp [intOf]; omega⟩
          · have eiu : decide ((i : Int) < (n2 : Int)) = false := decide_eq_false (by omega)
            have HI1 := Lib.hid (installed_no w7 HM7.out.mv ((nn : Int) + 1) (by rw [HF7.out.1]; rintro ⟨h, _⟩; cases h))
            go_wp2_with fail
            refine HI1.out.mono ?_
            rintro e w7 ⟨rfl, rfl⟩
            clear HI1
            have HF0 := Lib.hid (fenced_no w7 HM7.out.mv (nn : Int) none 0 0 (by rw [HF7.out.2.1]; rintro ⟨_, h⟩; omega))
            go_wp2_with fail
            refine HF0.out.mono ?_
            rintro e w7 ⟨rfl, rfl⟩
            clear HF0
            have HF1 := Lib.hid (fenced_any w7 HM7.out.mv ((nn : Int) + 1) none 0 0 ⟨HF7.out.1, HF7.out.2.1⟩ (clone_nil w7))
            go_wp2_with fail
            refine HF1.out.mono ?_
            rintro e w8 ⟨rfl, ⟨ra, rn, rc, hm8⟩, hc8⟩
            obtain ⟨hs8, hc8⟩ := HM7.out.step hm8 hc8
            have HM8 := Lib.hid hs8
            have HT8 := Lib.hid (HM7.out.tab HT7.out (by decide) hc8)
            have HU8 := Lib.hid (HM7.out.tab HU7.out (by decide) hc8)
            have HB8 := Lib.hid (HB7.out.trans (HM7.out.sb_below hc8))
            have HF8 := Lib.hid (show ({ M7 with ra := ra, rn := rn, rc := rc, st := 2 } : Mv).st = 2 ∧ ({ M7 with ra := ra, rn := rn, rc := rc, st := 2 } : Mv).id = (nn : Int) + 1 ∧ ({ M7 with ra := ra, rn := rn, rc := rc, st := 2 } : Mv).e2 = M.e + 1 ∧ ({ M7 with ra := ra, rn := rn, rc := rc, st := 2 } : Mv).o2 = M.o.set s y from ⟨rfl, HF7.out.2.1, HF7.out.2.2.2.2.1, HF7.out.2.2.2.2.2⟩)
            clear hm8 hc8 hs8 HF1
            generalize ({ M7 with ra := ra, rn := rn, rc := rc, st := 2 } : Mv) = M8 at *
            have HF2 := Lib.hid (fenced_no w8 HM8.out.mv ((nn : Int) + 1) none 0 0 (by rw [HF8.out.1]; rintro ⟨h, _⟩; cases h))
            go_wp2_with fail
            refine HF2.out.mono ?_
            rintro e w8 ⟨rfl, rfl⟩
            clear HF2
            have HI2 := Lib.hid (installed_fits w8 HM8.out ((nn : Int) + 1) ⟨HF8.out.1, HF8.out.2.1⟩ hidI (by have := HL7.out; omega))
            go_wp2_with fail
            refine HI2.out.mono ?_
            rintro e w9 ⟨rfl, v9, hm9, hc9⟩
            have HM9 := Lib.hid hm9
            have HT9 := Lib.hid (HM8.out.tab HT8.out (by decide) hc9)
            have HU9 := Lib.hid (HM8.out.tab HU8.out (by decide) hc9)
            have HB9 := Lib.hid (HB8.out.trans (HM8.out.sb_below hc9))
            have HR9 := Lib.hid (mm_rcd (k := 12) (f := 0) (t := 0) (i := (nn : Int) + 1) (s := 0) ⟨by omega, by omega⟩ ini0 ini0 hidI ini0)
            have HFE := Lib.hid (show (mend M8 M8.e2 M8.o2).e = M.e + 1 ∧ (mend M8 M8.e2 M8.o2).o = M.o.set s y ∧ (mend M8 M8.e2 M8.o2).ver = (nn : Int) + 1 ∧ (mend M8 M8.e2 M8.o2).st = 0 from ⟨HF8.out.2.2.1, HF8.out.2.2.2, HF8.out.2.1, rfl⟩)
            have HL9 := Lib.hid (show (cat (ms ++ [r7] ++ [mM 12 0 0 ((nn : Int) + 1) 0])).length ≤ 136 * (nn + 1) from by rw [cat_snoc_len]; have h1 := HL7.out; have h2 := HR9.out; omega)
            clear hm9 hc9 HI2
            generalize mend M8 M8.e2 M8.o2 = M9 at *
            have HTHR := Lib.hid (show w9.there tb 0 (tcs (M.e + 1) (M.o.set s y)).size from tab_there HT9.out (tcs_size _ _ HTB.out.2.2.1) HTB2.out.2.2.1)
            have HTIN := Lib.hid (tab_info (e := M.e + 1) (o := M.o.set s y) HTB2.out.2.2.1)
            have HTP := Lib.hid (show Whole (w9.setCells tb 0 (tcs (M.e + 1) (M.o.set s y)).toList) tb 24 (tcs (M.e + 1) (M.o.set s y)) from tab_put HT9.out (tcs_size _ _ HTB.out.2.2.1) HTB2.out.2.2.1)
            have HCP := Lib.hid (show Chg w9 (w9.setCells tb 0 (tcs (M.e + 1) (M.o.set s y)).toList) (fun k => k = tb) from Chg.sets (P := fun k => k = tb) rfl _ _ (Chg.refl _ _))
            go_upto_region 28 with (first
              | (refine wpList_load_mid rfl 24 (.tmp 13) rfl ub 0 rfl (tL (M.e + 1) (M.o.set s y)) _ (tab_range HU9.out) Try.underlying24 rfl (tL_info _ HTB2.out.2.2.1) ?_)
              | (refine wpList_store_mid rfl 24 (.tmp 9) (.tmp 133) rfl tb 0 (tcs (M.e + 1) (M.o.set s y)) rfl rfl HTHR.out HTIN.out (tcs_one _ _) ?_))
            generalize World.setCells w9 tb 0 _ = wp at *
            have HMP := Lib.hid (HM9.out.far HCP.out (HM9.out.other HT9.out (by decide) (by decide) (by decide) (by decide)))
            have HBP := Lib.hid (HB9.out.trans (HCP.out.below (fun k hk => by rw [hk]; exact HTG.out) HB9.out.size))
            clear HTHR HTIN HCP HM9 HT9 HU9
            have HTA := table_any wp HMP.out.mv
            rw [HFE.out.1, HFE.out.2.1, HFE.out.2.2.1] at HTA
            have HTA := Lib.hid HTA
            go_wp2_with fail
            refine HTA.out.mono ?_
            rintro e wt ⟨rfl, hbt⟩
            have HMT := Lib.hid (HMP.out.below hbt)
            have HTT := Lib.hid (HTP.out.kept (hbt.block _ HTP.out.lt))
            have HBT := Lib.hid (HBP.out.trans (hbt.mono HBP.out.size))
            clear hbt HTA
            have HTH := Lib.hid (show (wt.alloc (.cells (tcs 0 noOwn) 24)).there wt.heap.size 0 (tcs (M.e + 1) (M.o.set s y)).size from tab_there (heap_alloc_new wt (.cells (tcs 0 noOwn) 24)) (tcs_size _ _ rfl) HTB2.out.2.2.1)
            have HWN := Lib.hid (show Whole ((wt.alloc (.cells (tcs 0 noOwn) 24)).setCells wt.heap.size 0 (tcs (M.e + 1) (M.o.set s y)).toList) wt.heap.size 24 (tcs (M.e + 1) (M.o.set s y)) from tab_put (heap_alloc_new wt (.cells (tcs 0 noOwn) 24)) (tcs_size _ _ rfl) HTB2.out.2.2.1)
            have HBN := Lib.hid (show Below wt.heap.size wt ((wt.alloc (.cells (tcs 0 noOwn) 24)).setCells wt.heap.size 0 (tcs (M.e + 1) (M.o.set s y)).toList) from Chg.below (B := wt.heap.size) (Chg.sets (P := fun k => k = wt.heap.size) rfl _ _ (Chg.ofBelow _ (below_alloc wt _))) (fun k hk => by rw [hk]; exact Nat.le_refl _) (Nat.le_refl _))
            rw [zero_tab] at HTH HWN HBN
            have HTI := Lib.hid (tab_info (e := M.e + 1) (o := M.o.set s y) HTB2.out.2.2.1)
            skip
            go_upto_region 29 with (refine wpList_store_mid rfl 24 (.tmp 19) (.tmp 137) rfl wt.heap.size 0 (tcs (M.e + 1) (M.o.set s y)) rfl rfl HTH.out HTI.out (tcs_one _ _) ?_)
            generalize World.setCells _ wt.heap.size 0 _ = wv at *
            clear HTH HTI
            have HMZ := Lib.hid (HMT.out.below HBN.out)
            have HTZ := Lib.hid (HTT.out.kept (HBN.out.block _ HTT.out.lt))
            have HBZ := Lib.hid (HBT.out.trans (HBN.out.mono HBT.out.size))
            generalize wt.heap.size = nb at *
            have HEQ := Lib.hid (eq_tab (M.e + 1) (M.o.set s y) HTB2.out.2.2.1 HTB2.out.in64.1 HTB2.out.in64.2)
            go_wp2_with (first
              | (refine wpList_load_mid rfl 24 (.tmp 19) rfl nb 0 rfl (tL (M.e + 1) (M.o.set s y)) _ (tab_range HWN.out) Try.underlying24 rfl (tL_info _ HTB2.out.2.2.1) ?_)
              | (refine wpList_load_mid rfl 24 (.tmp 9) rfl tb 0 rfl (tL (M.e + 1) (M.o.set s y)) _ (tab_range HTZ.out) Try.underlying24 rfl (tL_info _ HTB2.out.2.2.1) ?_)
              | (refine wpList_neq_self rfl 24 (.tmp 139) (.tmp 140) 24 rfl (tcs (M.e + 1) (M.o.set s y)) rfl rfl guardT (HEQ.out _) ?_))
            exact ⟨⟨i + 1, nn + 1, by omega, by go_num, by go_num, by omega, by omega, _, _, _, HMZ.out, HFE.out.2.2.2, by rw [HFE.out.2.2.1]; rfl, by rw [HFE.out.1, HFE.out.2.1]; exact HTZ.out, by rw [HFE.out.1, HFE.out.2.1]; exact HTB2.out, HL9.out, HBZ.out, HTG.out⟩, by simp [intOf]; omega⟩
        · have f0 : (m0.2.2 == 0) = false := by simpa using hcd
          have HS := start_bad w6 HM6.out.mv x y HST.out (by rw [HMM.out]; exact hcd)
          rw [HMM.out] at HS
          have HS := Lib.hid HS
          clear hcd HSB
          generalize m0.2.2 = cd at *
          go_wp2_with fail
          refine HS.out.mono ?_
          rintro e w7 ⟨rfl, hb7⟩
          have HMW7 := Lib.hid (show MW w w7 g gm gl tb nn from ⟨v, M, ms, HM6.out.below hb7, HST.out, HVER.out, HT6.out.kept (hb7.block _ HT6.out.lt), HTB.out, HLEN.out, HBW6.out.trans (hb7.mono HBW6.out.size), HTG.out⟩)
          clear hb7 HS d0 d1
          go_wp2_with fail
          exact ⟨⟨i + 1, nn, by omega, by go_num, rfl, by omega, hn501, HMW7.out⟩, by simp [intOf]; omega⟩
    · obtain rfl : i = n := by omega
      go_wp2
      go_ret
      exact ⟨rfl, HBEL.out⟩
end Go.Proofs.Ytchheefjlkkkpaa
