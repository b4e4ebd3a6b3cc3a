/- MoveOnce: the walk. -/
import Derived.Test.YtchheefjlkkkpaaVf
import Derived.Deep.DeepCutAuto
import Derived.Deep.CutBlock
namespace Go.Proofs.Ytchheefjlkkkpaa
open Go.RowKit

set_option maxRecDepth 100000 in
set_option maxHeartbeats 64000000 in
theorem once_walk (a : Option Addr) (n cp : Nat) (w : World) (hx : OpsIn w a n) (hn : n ≤ 140737488351232) :
    Calls Try.prog 4 #[.slice a n cp] w fun e w' => e = .returned (.bool true) ∧ Below w.heap.size w w' := by
  have HX := Lib.hid hx
  clear hx
  go_enter Try.func4, Try.ntmps4
  go_wp2_with fail
  refine (awake_any _).mono ?_
  rintro e w1 ⟨rfl, hb1⟩
  have HN := Lib.hid (Dk.new_good w.heap.size 100000 w1 (by decide) hb1.size)
  have HB1 := Lib.hid hb1
  clear hb1
  go_wp2_with fail
  refine HN.out.mono ?_
  rintro e w2 ⟨rfl, hd2, hb2⟩
  have HB2 := Lib.hid (bell_up HB1.out hb2)
  have HGE := Lib.hid HB1.out.size
  have HO2 := opened_any (ms := []) w2 0 hd2 (by simp) HB2.out.size
  rw [zero_tab] at HO2
  have HO2 := Lib.hid HO2
  clear hd2 hb2 HN
  generalize w1.heap.size = g at *
  go_wp2_with fail
  refine HO2.out.mono ?_
  rintro e w3 (⟨gm, gl, v3, ms3, rfl, hms, hch, _, ⟨_, rfl⟩ | ⟨h0, _⟩⟩ | ⟨h0, _⟩)
  rotate_left
  · exact absurd rfl h0
  · exact absurd rfl h0
  have HB3 := Lib.hid (HB2.out.trans (hch.below (fun k hk => by
    rcases hk with e | e
    · rw [e]; exact HGE.out
    · cases e) HB2.out.size))
  have HSO := Lib.hid (show SO w w3 g (.pointer (some ⟨gm, 0, none⟩)) from ⟨gm, gl, v3, _, _, rfl, hms, OM.zero, RwAt.none _ _, HB3.out⟩)
  clear hms hch HO2
  go_wp2_with fail
  go_loopw [5, 33] (fun mv iv wr => ∃ i : Nat, i ≤ n ∧ iv = .int .i64 (i : Int) ∧ SO w wr g mv) (fun _ iv _ => n - (intOf iv).toNat)
  case atStart => exact ⟨0, by omega, rfl, HSO.out⟩
  case round =>
    obtain ⟨i, hin, rfl, gm, gl, v, M, ms, rfl, hms, hom, hrw, hbel⟩ := hrel
    have HM := Lib.hid hms
    have HOM := Lib.hid hom
    have HRW := Lib.hid hrw
    have HBEL := Lib.hid hbel
    have HTB := Lib.hid hom.tb
    clear hms hom hrw hbel HSO
    by_cases hil : i < n
    · obtain ⟨b, off, rfl, hbl, hcc⟩ := HX.out.resolve_left (by omega)
      obtain ⟨⟨kd, sd, td, di, ra, rn, rc⟩, hd⟩ := hcc i hil
      dsimp only [OpAt] at hd
      obtain ⟨q0, q1, q2, q3, q4, q5, q6⟩ := hd
      have p0 := (HBEL.out.cell (p := ⟨b, _, none⟩) hbl).trans q0
      have p1 := (HBEL.out.cell (p := ⟨b, _, none⟩) hbl).trans q1
      have p2 := (HBEL.out.cell (p := ⟨b, _, none⟩) hbl).trans q2
      have p3 := (HBEL.out.cell (p := ⟨b, _, none⟩) hbl).trans q3
      have p4 := (HBEL.out.cell (p := ⟨b, _, none⟩) hbl).trans q4
      obtain ⟨X, hX, hwx, hbx⟩ := box_new wr 49 #[.int .i64 kd, .int .i64 sd, .int .i64 td, .int .i64 di, .slice ra rn rc]
      have HWX := Lib.hid hwx
      have HMX := Lib.hid (HM.out.below hbx)
      have HRX := Lib.hid (HRW.out.below hbx)
      have HBX := Lib.hid (HBEL.out.trans (hbx.mono HBEL.out.size))
      have HDI := Lib.hid q5
      have HSR := Lib.hid q6
      have hij : (0:Int) ≤ (i:Int) ∧ (i:Int) < (n:Int) := by omega
      clear hcc q0 q1 q2 q3 q4 q5 q6
      go_upto_region 10 with fail
      rw [← hX]
      clear hX hwx hbx p0 p1 p2 p3 p4
      generalize wr.heap.size = ob at *
      have HTA := Lib.hid (table_any X HMX.out.mv)
      go_wp2_with fail
      refine HTA.out.mono ?_
      rintro e w5 ⟨rfl, hb5⟩
      have HB5 := Lib.hid hb5
      clear hb5 HTA
      have HTH := Lib.hid (show (w5.alloc (.cells (tcs 0 noOwn) 24)).there w5.heap.size 0 (tcs (M.e) (M.o)).size from tab_there (heap_alloc_new w5 (.cells (tcs 0 noOwn) 24)) (tcs_size _ _ rfl) HTB.out.2.2.1)
      have HWN := Lib.hid (show Whole ((w5.alloc (.cells (tcs 0 noOwn) 24)).setCells w5.heap.size 0 (tcs (M.e) (M.o)).toList) w5.heap.size 24 (tcs (M.e) (M.o)) from tab_put (heap_alloc_new w5 (.cells (tcs 0 noOwn) 24)) (tcs_size _ _ rfl) HTB.out.2.2.1)
      have HBN := Lib.hid (show Below w5.heap.size w5 ((w5.alloc (.cells (tcs 0 noOwn) 24)).setCells w5.heap.size 0 (tcs (M.e) (M.o)).toList) from Chg.below (B := w5.heap.size) (Chg.sets (P := fun k => k = w5.heap.size) rfl _ _ (Chg.ofBelow _ (below_alloc w5 _))) (fun k hk => by rw [hk]; exact Nat.le_refl _) (Nat.le_refl _))
      rw [zero_tab] at HTH HWN HBN
      have HTI := Lib.hid (tab_info (e := M.e) (o := M.o) HTB.out.2.2.1)
      skip
      go_upto_region 11 with (refine wpList_store_mid rfl 24 (.tmp 9) (.tmp 40) rfl w5.heap.size 0 (tcs (M.e) (M.o)) rfl rfl HTH.out HTI.out (tcs_one _ _) ?_)
      generalize World.setCells _ w5.heap.size 0 _ = w6 at *
      clear HTH HTI
      have HB6 := Lib.hid (HB5.out.trans (HBN.out.mono HB5.out.size))
      have HM6 := Lib.hid (HMX.out.below HB6.out)
      have HR6 := Lib.hid (HRX.out.below HB6.out)
      have HX6 := Lib.hid (HWX.out.kept (HB6.out.block _ HWX.out.lt))
      have HT6 := Lib.hid HWN.out
      have HBW6 := Lib.hid (HBX.out.trans (HB6.out.mono HBX.out.size))
      clear HBN HWN HMX HRX HWX HB5 HB6
      generalize w5.heap.size = tb at *
      have HMV := Lib.hid (moving_any w6 HM6.out.mv (fun W hb => (clone_rows W ((HR6.out.below hb).src)).mono fun _ _ h => h.plain))
      go_wp2_with fail
      refine HMV.out.mono ?_
      rintro e w7 ⟨ma, mn, mc, rfl, hb7⟩
      have HM7 := Lib.hid (HM6.out.below hb7)
      have HR7 := Lib.hid (HR6.out.below hb7)
      have HX7 := Lib.hid (HX6.out.kept (hb7.block _ HX6.out.lt))
      have HT7 := Lib.hid (HT6.out.kept (hb7.block _ HT6.out.lt))
      have HBW7 := Lib.hid (HBW6.out.trans (hb7.mono HBW6.out.size))
      clear hb7 HMV HM6 HR6 HX6 HT6 HBW6
      obtain ⟨mz, hmz⟩ : ∃ mz, mz = (mcs (mrows M ma mn mc)).toArray := ⟨_, rfl⟩
      rw [← hmz]
      have HMZ := Lib.hid (show mz.size = 12 ∧ mz.all (·.oneCell') = true ∧ mz[1]? = some (.int .i64 M.fr) ∧ mz[2]? = some (.int .i64 M.tw) ∧ mz[3]? = some (.int .i64 M.id) ∧ mz[6]? = some (.int .i64 M.sl) from by rw [hmz]; exact ⟨rfl, mcs_one _, rfl, rfl, rfl, rfl⟩)
      clear hmz
      have hth := whole_all (heap_alloc_new w7 (.cells #[.int .i64 0, .int .i64 0, .int .i64 0, .int .i64 0, .int .i64 0, .int .i64 0, .int .i64 0, .bool false, .slice none 0 0, .slice none 0 0, .slice none 0 0, .slice none 0 0] 45) : Whole (w7.alloc (.cells #[.int .i64 0, .int .i64 0, .int .i64 0, .int .i64 0, .int .i64 0, .int .i64 0, .int .i64 0, .bool false, .slice none 0 0, .slice none 0 0, .slice none 0 0, .slice none 0 0] 45)) w7.heap.size 45 #[.int .i64 0, .int .i64 0, .int .i64 0, .int .i64 0, .int .i64 0, .int .i64 0, .int .i64 0, .bool false, .slice none 0 0, .slice none 0 0, .slice none 0 0, .slice none 0 0])
      have HTH := Lib.hid (show (w7.alloc (.cells #[.int .i64 0, .int .i64 0, .int .i64 0, .int .i64 0, .int .i64 0, .int .i64 0, .int .i64 0, .bool false, .slice none 0 0, .slice none 0 0, .slice none 0 0, .slice none 0 0] 45)).there w7.heap.size 0 mz.size from by rw [HMZ.out.1]; exact hth)
      have HTI := Lib.hid (show (Try.prog.info? 45).map (·.size) = some mz.size from by rw [HMZ.out.1]; exact Try.infoMs)
      have HWM := Lib.hid (show Whole ((w7.alloc (.cells #[.int .i64 0, .int .i64 0, .int .i64 0, .int .i64 0, .int .i64 0, .int .i64 0, .int .i64 0, .bool false, .slice none 0 0, .slice none 0 0, .slice none 0 0, .slice none 0 0] 45)).setCells w7.heap.size 0 mz.toList) w7.heap.size 45 mz from whole_row (heap_alloc_new w7 (.cells #[.int .i64 0, .int .i64 0, .int .i64 0, .int .i64 0, .int .i64 0, .int .i64 0, .int .i64 0, .bool false, .slice none 0 0, .slice none 0 0, .slice none 0 0, .slice none 0 0] 45)) (by rw [Array.length_toList, HMZ.out.1]; rfl))
      have HBN := Lib.hid (show Below w7.heap.size w7 ((w7.alloc (.cells #[.int .i64 0, .int .i64 0, .int .i64 0, .int .i64 0, .int .i64 0, .int .i64 0, .int .i64 0, .bool false, .slice none 0 0, .slice none 0 0, .slice none 0 0, .slice none 0 0] 45)).setCells w7.heap.size 0 mz.toList) from Chg.below (B := w7.heap.size) (Chg.sets (P := fun k => k = w7.heap.size) rfl _ _ (Chg.ofBelow _ (below_alloc w7 _))) (fun k hk => by rw [hk]; exact Nat.le_refl _) (Nat.le_refl _))
      clear hth
      go_upto_region 12 with (refine wpList_store_mid rfl 45 (.tmp 11) (.tmp 45) rfl w7.heap.size 0 mz rfl rfl HTH.out HTI.out HMZ.out.2.1 ?_)
      generalize World.setCells _ w7.heap.size 0 _ = w8 at *
      have HM8 := Lib.hid (HM7.out.below HBN.out)
      have HR8 := Lib.hid (HR7.out.below HBN.out)
      have HX8 := Lib.hid (HX7.out.kept (HBN.out.block _ HX7.out.lt))
      have HT8 := Lib.hid (HT7.out.kept (HBN.out.block _ HT7.out.lt))
      have HW8 := Lib.hid HWM.out
      have HBW8 := Lib.hid (HBW7.out.trans (HBN.out.mono HBW7.out.size))
      clear HBN HWM HTH HTI HM7 HR7 HX7 HT7 HBW7
      generalize w7.heap.size = xb at *
      have d0 := HX8.out.cell 0
      go_upto_block 2 with fail
      go_cut [5, 13] (fun mv okv wx => SC w wx g tb xb M mz mv okv)
      case first J KK hJR hMK =>
        by_cases hk0 : kd = 0
        · subst hk0
          as_aux_lemma =>
            have d1 := HX8.out.cell 1
            have d2 := HX8.out.cell 2
            by_cases hs : M.st = 0
            · by_cases hcd : (Mt.move M.e M.o sd td).2.2 = 0
              · obtain ⟨s, rfl, hs16, hy0, hy7, he0, he7, hne, hmv⟩ := move_ok hcd
                have hfr := HTB.out.at_ s hs16
                have hsm := HM8.out.small
                have hvv := HOM.out.ver
                have hiv : InI (M.ver + 1) := ⟨by omega, by omega⟩
                have HS := Lib.hid (start_good w8 HM8.out s td hs hs16 hmv ⟨by omega, by omega⟩ ⟨by omega, by omega⟩ hiv)
                have HO9 := Lib.hid (HOM.out.start hs16 ⟨hy0, hy7⟩ he7 hne hmv)
                clear hcd hne hmv hfr hsm hvv hiv hs
                go_wp2_with fail
                refine HS.out.mono ?_
                rintro e w9 ⟨k, rfl, ⟨rfl, _, v9, hm9, hc9⟩ | ⟨rfl, _, hm9, hb9⟩⟩
                · have HM9 := Lib.hid hm9
                  have HTx := Lib.hid (HM8.out.tab HT8.out (by decide) hc9)
                  have HWx := Lib.hid (HM8.out.tab HW8.out (by decide) hc9)
                  have HRx := Lib.hid (HM8.out.rows HR8.out hc9)
                  have HBx := Lib.hid (HBW8.out.trans (HM8.out.sb_below hc9))
                  clear hm9 hc9 HS d0 d1 d2
                  go_wp2_with fail
                  go_meet
                  exact ⟨gm, gl, v9, mtake M (mM 11 (M.o.getD s 0) td (M.ver + 1) s), ms ++ [mM 11 (M.o.getD s 0) td (M.ver + 1) s], false, rfl, rfl, .inl ⟨rfl, rfl, rfl, Int.le_refl _⟩, HM9.out, HO9.out, RwAt.none _ _, HTx.out, HWx.out, HBx.out⟩
                · have HM9 := Lib.hid hm9
                  have HTx := Lib.hid (HM8.out.tab HT8.out (by decide) (Chg.ofBelow _ hb9))
                  have HWx := Lib.hid (HM8.out.tab HW8.out (by decide) (Chg.ofBelow _ hb9))
                  have HRx := Lib.hid (HM8.out.rows HR8.out (Chg.ofBelow _ hb9))
                  have HBx := Lib.hid (HBW8.out.trans (HM8.out.sb_below (Chg.ofBelow _ hb9)))
                  clear hm9 hb9 HS d0 d1 d2
                  go_wp2_with fail
                  go_meet
                  exact ⟨gm, gl, v, M, ms, false, rfl, rfl, .inl ⟨rfl, rfl, rfl, Int.le_refl _⟩, HM9.out, HOM.out, HRx.out, HTx.out, HWx.out, HBx.out⟩
              · have HS := Lib.hid (start_bad w8 HM8.out.mv sd td hs hcd)
                clear hcd hs
                go_wp2_with fail
                refine HS.out.mono ?_
                rintro e w9 ⟨rfl, hb9⟩
                have HM9 := Lib.hid (HM8.out.below hb9)
                have HTx := Lib.hid (HM8.out.tab HT8.out (by decide) (Chg.ofBelow _ hb9))
                have HWx := Lib.hid (HM8.out.tab HW8.out (by decide) (Chg.ofBelow _ hb9))
                have HRx := Lib.hid (HM8.out.rows HR8.out (Chg.ofBelow _ hb9))
                have HBx := Lib.hid (HBW8.out.trans (HM8.out.sb_below (Chg.ofBelow _ hb9)))
                clear hb9 HS d0 d1 d2
                go_wp2_with fail
                go_meet
                exact ⟨gm, gl, v, M, ms, false, rfl, rfl, .inl ⟨rfl, rfl, rfl, Int.le_refl _⟩, HM9.out, HOM.out, HRx.out, HTx.out, HWx.out, HBx.out⟩
            · have HS := Lib.hid (start_busy w8 HM8.out.mv sd td hs)
              clear hs
              go_wp2_with fail
              refine HS.out.mono ?_
              rintro e w8 ⟨rfl, rfl⟩
              clear HS d0 d1 d2
              go_wp2_with fail
              go_meet
              exact ⟨gm, gl, v, M, ms, false, rfl, rfl, .inl ⟨rfl, rfl, rfl, Int.le_refl _⟩, HM8.out, HOM.out, HR8.out, HT8.out, HW8.out, HBW8.out⟩
        · have f0 : (kd == 0) = false := by simpa using hk0
          by_cases hk1 : kd = 1
          · subst hk1
            as_aux_lemma =>
              have d3 := HX8.out.cell 3
              have d4 := HX8.out.cell 4
              by_cases hs : M.st = 1 ∧ M.id = di
              · have HS := Lib.hid (fenced_rows w8 HM8.out di hs (HSR.out.up HBW8.out).1)
                have HSH := Lib.hid hs
                clear hs
                go_wp2_with fail
                refine HS.out.mono ?_
                rintro e w9 ⟨rfl, ⟨r1, r2, r3, hm9, hr9⟩, hc9⟩
                have HM9 := Lib.hid hm9
                have HR9 := Lib.hid (hr9.lower HBW8.out.size)
                have HO9 := Lib.hid (HOM.out.fenced HSH.out.1 r1 r2 r3)
                have HTx := Lib.hid (HM8.out.tab HT8.out (by decide) hc9)
                have HWx := Lib.hid (HM8.out.tab HW8.out (by decide) hc9)
                have HRx := Lib.hid (HM8.out.rows HR8.out hc9)
                have HBx := Lib.hid (HBW8.out.trans (HM8.out.sb_below hc9))
                clear hm9 hr9 hc9 HS d0 d3 d4
                go_wp2_with fail
                go_meet
                exact ⟨gm, gl, v, { M with ra := r1, rn := r2, rc := r3, st := 2 }, ms, false, rfl, rfl, .inl ⟨rfl, rfl, rfl, Int.le_refl _⟩, HM9.out, HO9.out, HR9.out, HTx.out, HWx.out, HBx.out⟩
              · have HS := Lib.hid (fenced_no w8 HM8.out.mv di ra rn rc hs)
                clear hs
                go_wp2_with fail
                refine HS.out.mono ?_
                rintro e w8 ⟨rfl, rfl⟩
                clear HS d0 d3 d4
                go_wp2_with fail
                go_meet
                exact ⟨gm, gl, v, M, ms, false, rfl, rfl, .inl ⟨rfl, rfl, rfl, Int.le_refl _⟩, HM8.out, HOM.out, HR8.out, HT8.out, HW8.out, HBW8.out⟩
          · have f1 : (kd == 1) = false := by simpa using hk1
            by_cases hk2 : kd = 2
            · subst hk2
              as_aux_lemma =>
                have d3 := HX8.out.cell 3
                by_cases hs : M.st = 2 ∧ M.id = di
                · have HS := Lib.hid (installed_any w8 HM8.out di hs HDI.out)
                  have HST := Lib.hid hs
                  have HO9 := Lib.hid (HOM.out.cut (by rw [hs.1]; decide) di)
                  clear hs
                  go_wp2_with fail
                  refine HS.out.mono ?_
                  rintro e w9 ⟨k, rfl, ⟨rfl, _, v9, hm9, hc9⟩ | ⟨rfl, _, hm9, hb9⟩⟩
                  · have HM9 := Lib.hid hm9
                    have HTx := Lib.hid (HM8.out.tab HT8.out (by decide) hc9)
                    have HWx := Lib.hid (HM8.out.tab HW8.out (by decide) hc9)
                    have HRx := Lib.hid (HM8.out.rows HR8.out hc9)
                    have HBx := Lib.hid (HBW8.out.trans (HM8.out.sb_below hc9))
                    clear hm9 hc9 HS d0 d3
                    go_wp2_with fail
                    go_meet
                    exact ⟨gm, gl, v9, _, _, true, rfl, rfl, .inr ⟨rfl, HST.out.1, rfl, rfl, rfl⟩, HM9.out, HO9.out, RwAt.none _ _, HTx.out, HWx.out, HBx.out⟩
                  · have HM9 := Lib.hid hm9
                    have HTx := Lib.hid (HM8.out.tab HT8.out (by decide) (Chg.ofBelow _ hb9))
                    have HWx := Lib.hid (HM8.out.tab HW8.out (by decide) (Chg.ofBelow _ hb9))
                    have HRx := Lib.hid (HM8.out.rows HR8.out (Chg.ofBelow _ hb9))
                    have HBx := Lib.hid (HBW8.out.trans (HM8.out.sb_below (Chg.ofBelow _ hb9)))
                    clear hm9 hb9 HS d0 d3
                    go_wp2_with fail
                    go_meet
                    exact ⟨gm, gl, v, M, ms, false, rfl, rfl, .inl ⟨rfl, rfl, rfl, Int.le_refl _⟩, HM9.out, HOM.out, HRx.out, HTx.out, HWx.out, HBx.out⟩
                · have HS := Lib.hid (installed_no w8 HM8.out.mv di hs)
                  clear hs
                  go_wp2_with fail
                  refine HS.out.mono ?_
                  rintro e w8 ⟨rfl, rfl⟩
                  clear HS d0 d3
                  go_wp2_with fail
                  go_meet
                  exact ⟨gm, gl, v, M, ms, false, rfl, rfl, .inl ⟨rfl, rfl, rfl, Int.le_refl _⟩, HM8.out, HOM.out, HR8.out, HT8.out, HW8.out, HBW8.out⟩
            · have f2 : (kd == 2) = false := by simpa using hk2
              by_cases hk3 : kd = 3
              · subst hk3
                as_aux_lemma =>
                  by_cases hs : M.st = 0
                  · have HS := Lib.hid (undo_none w8 HM8.out.mv hs)
                    clear hs
                    go_wp2_with fail
                    refine HS.out.mono ?_
                    rintro e w8 ⟨rfl, rfl⟩
                    clear HS d0
                    go_wp2_with fail
                    go_meet
                    exact ⟨gm, gl, v, M, ms, false, rfl, rfl, .inl ⟨rfl, rfl, rfl, Int.le_refl _⟩, HM8.out, HOM.out, HR8.out, HT8.out, HW8.out, HBW8.out⟩
                  · have hsm := HM8.out.small
                    have hvv := HOM.out.ver
                    have hid := (HOM.out.moving hs).2.1
                    have hidI : InI M.id := ⟨by omega, by omega⟩
                    have HS := Lib.hid (undo_any w8 HM8.out hs hidI)
                    have HO9 := Lib.hid (HOM.out.undo hs M.id)
                    have HV9 := Lib.hid (show M.ver ≤ (mend M M.e M.o).ver from by show M.ver ≤ M.id; omega)
                    clear hs hsm hvv hid hidI
                    go_wp2_with fail
                    refine HS.out.mono ?_
                    rintro e w9 ⟨k, rfl, ⟨rfl, _, v9, hm9, hc9⟩ | ⟨rfl, _, hm9, hb9⟩⟩
                    · have HM9 := Lib.hid hm9
                      have HTx := Lib.hid (HM8.out.tab HT8.out (by decide) hc9)
                      have HWx := Lib.hid (HM8.out.tab HW8.out (by decide) hc9)
                      have HRx := Lib.hid (HM8.out.rows HR8.out hc9)
                      have HBx := Lib.hid (HBW8.out.trans (HM8.out.sb_below hc9))
                      clear hm9 hc9 HS d0
                      go_wp2_with fail
                      go_meet
                      exact ⟨gm, gl, v9, mend M M.e M.o, ms ++ [mM 13 0 0 M.id 0], false, rfl, rfl, .inl ⟨rfl, rfl, rfl, HV9.out⟩, HM9.out, HO9.out, RwAt.none _ _, HTx.out, HWx.out, HBx.out⟩
                    · have HM9 := Lib.hid hm9
                      have HTx := Lib.hid (HM8.out.tab HT8.out (by decide) (Chg.ofBelow _ hb9))
                      have HWx := Lib.hid (HM8.out.tab HW8.out (by decide) (Chg.ofBelow _ hb9))
                      have HRx := Lib.hid (HM8.out.rows HR8.out (Chg.ofBelow _ hb9))
                      have HBx := Lib.hid (HBW8.out.trans (HM8.out.sb_below (Chg.ofBelow _ hb9)))
                      clear hm9 hb9 HS d0
                      go_wp2_with fail
                      go_meet
                      exact ⟨gm, gl, v, M, ms, false, rfl, rfl, .inl ⟨rfl, rfl, rfl, Int.le_refl _⟩, HM9.out, HOM.out, HRx.out, HTx.out, HWx.out, HBx.out⟩
              · have f3 : (kd == 3) = false := by simpa using hk3
                by_cases hk4 : kd = 4
                · subst hk4
                  as_aux_lemma =>
                    have HCR := Lib.hid (crash_all w8 HM8.out)
                    go_wp2_with fail
                    refine HCR.out.mono ?_
                    rintro e w9 ⟨rfl, v9, hd9, hch9, hv9⟩
                    have hc9 : Chg w8 w9 (SB gm gl g v) := hch9.mono fun k _ hk => .inr (.inl hk)
                    have hb9 : Below w.heap.size w w9 := HBW8.out.trans (HM8.out.sb_below hc9)
                    have HO9 := opened_any w9 _ hd9 HM8.out.fine hb9.size
                    rw [zero_tab] at HO9
                    have HO9 := Lib.hid HO9
                    have HB9 := Lib.hid hb9
                    have HC9 := Lib.hid hc9
                    have HV9 := Lib.hid hv9
                    clear hd9 hch9 hv9 hb9 hc9 HCR d0
                    go_wp2_with fail
                    refine HO9.out.mono ?_
                    rintro e wa (⟨gm2, gl2, va, msa, rfl, hms, hch, _, hcase⟩ | ⟨h0, hlt, rfl, ⟨va, hda⟩, hch⟩)
                    · obtain ⟨hom2, he2, ho2, hv2⟩ := HOM.out.boot hcase
                      have hca : Chg w8 wa (SB gm gl g v) := HC9.out.trans ⟨hch.os, hch.tape, hch.output, hch.size, fun k hk hn => hch.block k hk (by
                        rintro (e | e)
                        · exact hn (.inr (.inl e))
                        · exact hn (.inr (.inr (.inl (by rw [← HV9.out]; exact e)))))⟩
                      have HMA := Lib.hid hms
                      have HOA := Lib.hid hom2
                      have HEA := Lib.hid (And.intro he2 (And.intro ho2 hv2))
                      have HTx := Lib.hid (HM8.out.tab HT8.out (by decide) hca)
                      have HWx := Lib.hid (HM8.out.tab HW8.out (by decide) hca)
                      have HRx := Lib.hid (HM8.out.rows HR8.out hca)
                      have HBx := Lib.hid (HBW8.out.trans (HM8.out.sb_below hca))
                      have HRA := Lib.hid (show RwAt wa w.heap.size (rep 0 noOwn msa).ra (rep 0 noOwn msa).rn (rep 0 noOwn msa).rc from by rw [(rep_rows msa).1, (rep_rows msa).2.1, (rep_rows msa).2.2]; exact RwAt.none _ _)
                      clear hms hch hcase hom2 he2 ho2 hv2 hca HO9
                      generalize rep 0 noOwn msa = Ma at *
                      go_wp2_with fail
                      go_meet
                      exact ⟨gm2, gl2, va, Ma, msa, false, rfl, rfl, .inl ⟨rfl, HEA.out.1, HEA.out.2.1, HEA.out.2.2⟩, HMA.out, HOA.out, HRA.out, HTx.out, HWx.out, HBx.out⟩
                    · have h1 : (rcd (undoM ms)).length ≤ 68 := mm_rcd (k := 13) (f := 0) (t := 0) (i := (rep 0 noOwn ms).id) (s := 0) ⟨by omega, by omega⟩ ini0 ini0 (rep_id 0 noOwn HM8.out.fine) ini0
                      have HLF := Lib.hid (Dk.left_any wa hda)
                      have hdec : decide (((100000 - (cat ms).length : Nat) : Int) < 100) = true := decide_eq_true (by omega)
                      have HBA := Lib.hid (HB9.out.trans (hch.below (fun k hk => by
                        rcases hk with e | e
                        · rw [e]; exact HGE.out
                        · exact (HM8.out.ge (k := k) (.inr (.inr (.inl (by rw [← HV9.out]; exact e))))).1) HB9.out.size))
                      clear h0 hlt h1 hda hch HO9
                      go_wp2_with fail
                      refine HLF.out.mono ?_
                      rintro e wb ⟨rfl, n9, rfl⟩
                      go_wp2
                      go_ret
                      exact ⟨rfl, HBA.out.trans ((below_drewN wa n9).mono HBA.out.size)⟩
                · have f4 : (kd == 4) = false := by simpa using hk4
                  clear d0 hk0 hk1 hk2 hk3 hk4
                  have d0 := HX8.out.cell 0
                  go_wp2_with fail
                  go_meet
                  exact ⟨gm, gl, v, M, ms, false, rfl, rfl, .inl ⟨rfl, rfl, rfl, Int.le_refl _⟩, HM8.out, HOM.out, HR8.out, HT8.out, HW8.out, HBW8.out⟩
      case rest =>
        as_aux_lemma =>
          clear HM8 HR8 HX8 HT8 HW8 HBW8 d0 HM HRW HBEL HSR HDI
          obtain ⟨gm5, gl5, v5, M5, ms5, ok5, rfl, rfl, hcase, hms5, hom5, hr5, ht5, hx5, hb5⟩ := hcut
          have HM5 := Lib.hid hms5
          have HO5 := Lib.hid hom5
          have HR5 := Lib.hid hr5
          have HT5 := Lib.hid ht5
          have HW5 := Lib.hid hx5
          have HB5 := Lib.hid hb5
          have HTB5 := Lib.hid hom5.tb
          clear hms5 hom5 hr5 ht5 hx5 hb5
          have HTA := Lib.hid (table_any wc HM5.out.mv)
          go_wp2_with fail
          refine HTA.out.mono ?_
          rintro e w9 ⟨rfl, hb9⟩
          have HM9 := Lib.hid (HM5.out.below hb9)
          have HR9 := Lib.hid (HR5.out.below hb9)
          have HT9 := Lib.hid (HT5.out.kept (hb9.block _ HT5.out.lt))
          have HW9 := Lib.hid (HW5.out.kept (hb9.block _ HW5.out.lt))
          have HB9 := Lib.hid (HB5.out.trans (hb9.mono HB5.out.size))
          clear hb9 HTA HM5 HR5 HT5 HW5 HB5
          have HTH := Lib.hid (show (w9.alloc (.cells (tcs 0 noOwn) 24)).there w9.heap.size 0 (tcs (M5.e) (M5.o)).size from tab_there (heap_alloc_new w9 (.cells (tcs 0 noOwn) 24)) (tcs_size _ _ rfl) HTB5.out.2.2.1)
          have HWN := Lib.hid (show Whole ((w9.alloc (.cells (tcs 0 noOwn) 24)).setCells w9.heap.size 0 (tcs (M5.e) (M5.o)).toList) w9.heap.size 24 (tcs (M5.e) (M5.o)) from tab_put (heap_alloc_new w9 (.cells (tcs 0 noOwn) 24)) (tcs_size _ _ rfl) HTB5.out.2.2.1)
          have HBN := Lib.hid (show Below w9.heap.size w9 ((w9.alloc (.cells (tcs 0 noOwn) 24)).setCells w9.heap.size 0 (tcs (M5.e) (M5.o)).toList) from Chg.below (B := w9.heap.size) (Chg.sets (P := fun k => k = w9.heap.size) rfl _ _ (Chg.ofBelow _ (below_alloc w9 _))) (fun k hk => by rw [hk]; exact Nat.le_refl _) (Nat.le_refl _))
          rw [zero_tab] at HTH HWN HBN
          have HTI := Lib.hid (tab_info (e := M5.e) (o := M5.o) HTB5.out.2.2.1)
          skip
          go_upto_region 28 with (refine wpList_store_mid rfl 24 (.tmp 14) (.tmp 94) rfl w9.heap.size 0 (tcs (M5.e) (M5.o)) rfl rfl HTH.out HTI.out (tcs_one _ _) ?_)
          generalize World.setCells _ w9.heap.size 0 _ = wd at *
          clear HTH HTI
          have HMD := Lib.hid (HM9.out.below HBN.out)
          have HRD := Lib.hid (HR9.out.below HBN.out)
          have HTD := Lib.hid (HT9.out.kept (HBN.out.block _ HT9.out.lt))
          have HWD := Lib.hid (HW9.out.kept (HBN.out.block _ HW9.out.lt))
          have HBD := Lib.hid (HB9.out.trans (HBN.out.mono HB9.out.size))
          have HND := Lib.hid HWN.out
          clear HBN HWN HM9 HR9 HT9 HW9 HB9
          generalize w9.heap.size = nb at *
          have x3 : wd.cell? ⟨xb, 3, none⟩ = some (.int .i64 M.id) := by rw [HWD.out.cell]; exact HMZ.out.2.2.2.2.1
          have HDF := Lib.hid (diff_any wd (T := tcs M.e M.o) (U := tcs M5.e M5.o) (TabC.mk' M.e M.o HTB.out.2.2.1) (TabC.mk' M5.e M5.o HTB5.out.2.2.1))
          rcases hcase with ⟨rfl, he5, ho5, hv5⟩ | ⟨rfl, hst, hv5, he5, ho5⟩
          · have e0 : decide (M5.ver < M.ver) = false := decide_eq_false (by omega)
            have HEQ := Lib.hid (eq_tab M.e M.o HTB.out.2.2.1 HTB.out.in64.1 HTB.out.in64.2)
            have HND2 := Lib.hid (show Whole wd nb 24 (tcs M.e M.o) from by rw [← he5, ← ho5]; exact HND.out)
            rw [he5, ho5] at HDF
            clear hv5 he5 ho5
            go_wp2_with (first
              | (refine wpList_load_mid rfl 24 (.tmp 9) rfl tb 0 rfl (tL M.e M.o) _ (tab_range HTD.out) Try.underlying24 rfl (tL_info _ HTB.out.2.2.1) ?_)
              | (refine wpList_load_mid rfl 24 (.tmp 14) rfl nb 0 rfl (tL M.e M.o) _ (tab_range HND2.out) Try.underlying24 rfl (tL_info _ HTB.out.2.2.1) ?_))
            refine HDF.out.mono ?_
            rintro e we ⟨⟨dv, rfl, hrow⟩, hbe⟩
            have HTE := Lib.hid (HTD.out.kept (hbe.block _ HTD.out.lt))
            have HNE := Lib.hid (HND2.out.kept (hbe.block _ HND2.out.lt))
            have HSO := Lib.hid (show SO w we g (.pointer (some ⟨gm5, 0, none⟩)) from ⟨gm5, gl5, v5, M5, ms5, rfl, HMD.out.below hbe, HO5.out, HRD.out.below hbe, HBD.out.trans (hbe.mono HBD.out.size)⟩)
            clear hrow hbe HDF x3
            go_wp2_with (first
              | (refine wpList_load_mid rfl 24 (.tmp 9) rfl tb 0 rfl (tL M.e M.o) _ (tab_range HTE.out) Try.underlying24 rfl (tL_info _ HTB.out.2.2.1) ?_)
              | (refine wpList_load_mid rfl 24 (.tmp 14) rfl nb 0 rfl (tL M.e M.o) _ (tab_range HNE.out) Try.underlying24 rfl (tL_info _ HTB.out.2.2.1) ?_)
              | (refine wpList_neq_self rfl 24 (.tmp 117) (.tmp 118) 24 rfl (tcs M.e M.o) rfl rfl guardT (HEQ.out _) ?_))
            exact ⟨⟨i + 1, by omega, by go_num, HSO.out⟩, by simp [intOf]; omega⟩
          · obtain ⟨_, hid, s, hsl, hs16, ht0, ht7, he7, hfr, hne, he2, ho2⟩ := HOM.out.moving (by rw [hst]; decide)
            have e0 : decide (M5.ver < M.ver) = false := decide_eq_false (by omega)
            have e1 : (M.st == 2) = true := by simpa using hst
            have e2 : (M.st != 2) = false := by simpa using hst
            have e3 : (M5.ver != M.id) = false := by simpa using hv5
            have hup := ups_one HTB.out.2.2.1 hs16 hne
            rw [he5, ho5, he2, ho2] at HDF HND
            rw [hup] at HDF
            go_wp2_with (first
              | (refine wpList_load_mid rfl 24 (.tmp 9) rfl tb 0 rfl (tL M.e M.o) _ (tab_range HTD.out) Try.underlying24 rfl (tL_info _ HTB.out.2.2.1) ?_)
              | (refine wpList_load_mid rfl 24 (.tmp 14) rfl nb 0 rfl (tL (M.e + 1) (M.o.set s M.tw)) _ (tab_range HND.out) Try.underlying24 rfl (tL_info _ (by rw [List.length_set]; exact HTB.out.2.2.1)) ?_))
            refine HDF.out.mono ?_
            rintro e we ⟨⟨dv, rfl, hrow⟩, hbe⟩
            obtain ⟨da, dc, rfl, hL⟩ := Lies.owned hrow
            obtain ⟨db, doff, rfl, hdb, _⟩ := hL.addr (by simp)
            have y0 : we.cell? ⟨db, doff, none⟩ = some (.int .i64 (s : Int)) := by have := hL.cell (j := 0) (u := .int .i64 (s : Int)) rfl; rwa [Nat.add_zero] at this
            have HTE := HTD.out.kept (hbe.block _ HTD.out.lt)
            have HNE := HND.out.kept (hbe.block _ HND.out.lt)
            have HWE := HWD.out.kept (hbe.block _ HWD.out.lt)
            have HSO := Lib.hid (show SO w we g (.pointer (some ⟨gm5, 0, none⟩)) from ⟨gm5, gl5, v5, M5, ms5, rfl, HMD.out.below hbe, HO5.out, HRD.out.below hbe, HBD.out.trans (hbe.mono HBD.out.size)⟩)
            have hso : (M.o.set s M.tw).getD s 0 = M.tw := by simp [List.getD, HTB.out.2.2.1, hs16]
            have z0 : we.cell? ⟨tb, 0, none⟩ = some (.int .i64 M.e) := by rw [HTE.cell]; exact tcs_0 _ _
            have zs : we.cell? ⟨tb, 1 + s, none⟩ = some (.int .i64 M.fr) := by rw [HTE.cell, tcs_at _ _ _ (by rw [HTB.out.2.2.1]; exact hs16), hfr]
            have n0 : we.cell? ⟨nb, 0, none⟩ = some (.int .i64 (M.e + 1)) := by rw [HNE.cell]; exact tcs_0 _ _
            have ns : we.cell? ⟨nb, 1 + s, none⟩ = some (.int .i64 M.tw) := by rw [HNE.cell, tcs_at _ _ _ (by rw [List.length_set, HTB.out.2.2.1]; exact hs16), hso]
            have m1 : we.cell? ⟨xb, 1, none⟩ = some (.int .i64 M.fr) := by rw [HWE.cell]; exact HMZ.out.2.2.1
            have m2 : we.cell? ⟨xb, 2, none⟩ = some (.int .i64 M.tw) := by rw [HWE.cell]; exact HMZ.out.2.2.2.1
            have m6 : we.cell? ⟨xb, 6, none⟩ = some (.int .i64 (s : Int)) := by rw [HWE.cell, ← hsl]; exact HMZ.out.2.2.2.2.2
            have hadd : IntKind.i64.wrap (M.e + 1) = M.e + 1 := i64_wrap ⟨by have := HTB.out.1; omega, by omega⟩
            have hij4 : (0:Int) ≤ (s:Int) ∧ (s:Int) < 16 := by omega
            have e4 : decide (M5.ver ≤ M.ver) = false := decide_eq_false (by omega)
            have e5 : decide (M.ver + 1 ≤ M.ver) = false := decide_eq_false (by omega)
            have e6 : decide (M.id ≤ M.ver) = false := decide_eq_false (by omega)
            clear hrow hbe HDF x3 hL HTE HNE HWE hso hup hfr hsl he5 ho5 he2 ho2 hne
            go_upto_region 34 with fail
            clear hv5 hid e0 e1 e2 e3 hst
            go_quiet (fail)
            go_wp2_with fail
            exact ⟨⟨i + 1, by omega, by go_num, HSO.out.below (below_drewN we _)⟩, by simp [intOf]; omega⟩
    · obtain rfl : i = n := by omega
      go_wp2
      go_ret
      exact ⟨rfl, HBEL.out⟩
end Go.Proofs.Ytchheefjlkkkpaa
