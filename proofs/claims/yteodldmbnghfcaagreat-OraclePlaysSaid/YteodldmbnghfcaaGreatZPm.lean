/- OraclePlays: the walk. -/
import Derived.Test.YteodldmbnghfcaaGreatZPo
import Derived.Deep.DeepCutAuto
import Derived.Deep.CutBlock
namespace Go.Proofs.YteodldmbnghfcaaGreat.Rl
open Go.RowKit

set_option maxRecDepth 100000 in
set_option maxHeartbeats 2000000 in
theorem oplays_bad (r : Int) (a : Option Addr) (n c : Nat) (w : World) (h : r < 0 ∨ 1048576 < r) :
    Calls Tryz.prog 3 #[.int .i64 r, .slice a n c] w fun e w' => e = .returned (.bool true) ∧ Below w.heap.size w w' := by
  have HH := Lib.hid h
  have hif : (if r < 0 ∨ 1048576 < r then (1 : Int) else 0) = 1 := if_pos h
  have HI := Lib.hid hif
  clear h hif
  go_enter Tryz.func3, Tryz.ntmps3
  go_wp2_with (first
    | (go_at_call 4; refine (awake_any _).mono ?_; rintro e w1 ⟨rfl, hb1⟩; have HB1 := Lib.hid hb1; clear hb1)
    | (go_at_call 5; refine (Dk.new_bad _ _ HH.out).mono ?_; rintro e w' ⟨rfl, rfl⟩)
    | (go_at_call 6; refine (rwrong_any r _).mono ?_; rintro e w' ⟨rfl, rfl⟩; rw [HI.out]))
  go_ret
  exact ⟨rfl, HB1.out⟩

set_option maxRecDepth 100000 in
set_option maxHeartbeats 64000000 in
theorem oplays_good (r : Nat) (a : Option Addr) (n cp : Nat) (w : World) (hr : r ≤ 1048576) (hx : OpsP w a n) (hn : n ≤ 140737488351232) :
    Calls Tryz.prog 3 #[.int .i64 r, .slice a n cp] w fun e w' => e = .returned (.bool true) ∧ Below w.heap.size w w' := by
  have HX := Lib.hid hx
  have HR := Lib.hid hr
  clear hx hr
  go_enter Tryz.func3, Tryz.ntmps3
  go_wp2_with fail
  refine (awake_any _).mono ?_
  rintro e w1 ⟨rfl, hb1⟩
  have HB1 := Lib.hid hb1
  have HN := Lib.hid (Dk.new_good w.heap.size r w1 HR.out hb1.size)
  clear hb1
  go_wp2_with fail
  refine HN.out.mono ?_
  rintro e w2 ⟨rfl, hd2, hb2⟩
  have HB2 := Lib.hid (HB1.out.trans (hb2.mono HB1.out.size))
  have HGE := Lib.hid HB1.out.size
  have HOP := Lib.hid (opened_any (ms := []) w2 0 (show Dk.DAt w2 w.heap.size w1.heap.size (.slice none 0 0) (cat []) 0 r from hd2) (by simp) HB2.out.size)
  clear hd2 hb2 HN HB1
  generalize w1.heap.size = g at *
  go_wp2_with fail
  refine HOP.out.mono ?_
  rintro e w3 ⟨go, gl, mb, v3, row, rfl, hos, hch, _⟩
  have HOS := Lib.hid hos
  have HB3 := Lib.hid (HB2.out.trans (hch.below (fun k hk => by have h3 : k = g := hk; have := HGE.out; omega) HB2.out.size))
  have hro := ropen14_any w3 ⟨#[]⟩ 0 (r : Int) none 0 0 [] ⟨rfl, .inl rfl⟩ (by simp) (by omega)
  unfold RD RO at hro
  have HRO := Lib.hid hro
  clear hos hch HOP HB2 HGE hro
  go_wp2_with fail
  refine HRO.out.mono ?_
  rintro e w4 ⟨v1, v2, rfl, hri, hrj, hb4⟩
  obtain ⟨a1, c1, rfl, hl1⟩ := hri
  obtain ⟨a2, c2, rfl, hl2⟩ := hrj
  obtain ⟨Z, hZ, hwZ, hbZ⟩ := ro_box w4 ⟨#[]⟩ 0 (r : Int) (.slice a1 0 c1) (.slice a2 0 c2)
  have HPC := Lib.hid (show PC14 w Z w4.heap.size g r (.pointer (some ⟨go, 0, none⟩)) from ⟨go, gl, mb, v3, row, [], 0, ⟨#[]⟩, .slice a1 0 c1, .slice a2 0 c2, rfl, rfl, ⟨(HOS.out.below hb4).below hbZ, hwZ, RI.below (show RI w4 (rep []) (.slice a1 0 c1) from ⟨a1, c1, rfl, hl1⟩) hbZ, RJ.below (show RJ w4 (dep []) (.slice a2 0 c2) from ⟨a2, c2, rfl, hl2⟩) hbZ, HB3.out.trans ((hb4.trans (hbZ.mono hb4.size)).mono HB3.out.size), (HB3.out.trans (hb4.mono HB3.out.size)).size⟩⟩)
  clear hl1 hl2 hb4 hwZ hbZ HOS HB3 HRO
  go_upto_region 8 with fail
  have hZ2 : w4.alloc (.cells #[.string ⟨#[]⟩, .int .i64 0, .int .i64 (r : Int), .slice a1 (rep []).length c1, .slice a2 (dep []).length c2] 36) = Z := hZ.symm
  rw [hZ2]
  clear hZ hZ2
  generalize w4.heap.size = ob at *
  go_wp2_with fail
  go_loopw [7, 43] (fun ov iv wr => ∃ i : Nat, i ≤ n ∧ iv = .int .i64 (i : Int) ∧ PC14 w wr ob g r ov) (fun _ iv _ => n - (intOf iv).toNat)
  case atStart => exact ⟨0, by omega, rfl, HPC.out⟩
  case round =>
    obtain ⟨i, hin, rfl, go, gl, mb, v, row, ms, d, S, iv, dv, rfl, hS, hpm⟩ := hrel
    obtain ⟨a1, c1, rfl, hl1⟩ := hpm.ri
    obtain ⟨a2, c2, rfl, hl2⟩ := hpm.rj
    clear hl1 hl2
    have HP := Lib.hid hpm
    have HS := Lib.hid hS
    have HSZ := Lib.hid (show S.size = (cat ms).length from by rw [hS, strOfNums_size])
    clear hpm hS HPC
    generalize (rep ms).length = n1 at *
    generalize (dep ms).length = n2 at *
    by_cases hil : i < n
    · obtain ⟨b, off, rfl, hbl, hcc⟩ := HX.out.resolve_left (by omega)
      obtain ⟨kd, fr, id, m, s8, s9, s10, s11, hcell, hkd, hfr, hid, hmi, hsm⟩ := hcc i hil
      obtain ⟨na, ma, pa, qa, nn, nc, mn, mc, pn, pc, rn, qc, hma⟩ := hmi
      obtain ⟨rfl, rfl, rfl, rfl⟩ : s8 = .slice na nn nc ∧ s9 = .slice ma mn mc ∧ s10 = .slice pa pn pc ∧ s11 = .slice qa rn qc := by simpa using hma.val
      have hmi : MsgIn w (.agg #[.int .i64 m.kind, .int .i64 m.from_, .int .i64 m.«to», .int .i64 m.id, .int .i64 m.rev, .int .i64 m.epoch, .int .i64 m.slot, .bool m.flag, .slice na nn nc, .slice ma mn mc, .slice pa pn pc, .slice qa rn qc]) m := ⟨na, ma, pa, qa, nn, nc, mn, mc, pn, pc, rn, qc, hma⟩
      clear hma
      obtain ⟨q0, q1, q2, q3, q4, q5, q6, q7, q8, q9, q10, q11, q12, q13, q14⟩ := hcell
      have p0 := (HP.out.b.cell (p := ⟨b, _, none⟩) hbl).trans q0
      have p1 := (HP.out.b.cell (p := ⟨b, _, none⟩) hbl).trans q1
      have p2 := (HP.out.b.cell (p := ⟨b, _, none⟩) hbl).trans q2
      have p3 := (HP.out.b.cell (p := ⟨b, _, none⟩) hbl).trans q3
      have p4 := (HP.out.b.cell (p := ⟨b, _, none⟩) hbl).trans q4
      have p5 := (HP.out.b.cell (p := ⟨b, _, none⟩) hbl).trans q5
      have p6 := (HP.out.b.cell (p := ⟨b, _, none⟩) hbl).trans q6
      have p7 := (HP.out.b.cell (p := ⟨b, _, none⟩) hbl).trans q7
      have p8 := (HP.out.b.cell (p := ⟨b, _, none⟩) hbl).trans q8
      have p9 := (HP.out.b.cell (p := ⟨b, _, none⟩) hbl).trans q9
      have p10 := (HP.out.b.cell (p := ⟨b, _, none⟩) hbl).trans q10
      have p11 := (HP.out.b.cell (p := ⟨b, _, none⟩) hbl).trans q11
      have p12 := (HP.out.b.cell (p := ⟨b, _, none⟩) hbl).trans q12
      have p13 := (HP.out.b.cell (p := ⟨b, _, none⟩) hbl).trans q13
      have p14 := (HP.out.b.cell (p := ⟨b, _, none⟩) hbl).trans q14
      obtain ⟨X, hX, hwx, hbx⟩ := box_new wr 45 #[.int .i64 kd, .int .i64 fr, .int .i64 id, .int .i64 m.kind, .int .i64 m.from_, .int .i64 m.«to», .int .i64 m.id, .int .i64 m.rev, .int .i64 m.epoch, .int .i64 m.slot, .bool m.flag, .slice na nn nc, .slice ma mn mc, .slice pa pn pc, .slice qa rn qc]
      have HX8 := Lib.hid hwx
      have HP8 := Lib.hid (HP.out.below hbx)
      have HMI := Lib.hid hmi
      have HSM := Lib.hid hsm
      have HFR := Lib.hid (show Go.Proofs.YteodldmbnghfcaaGreat.InI fr from hfr)
      have HID := Lib.hid (show Go.Proofs.YteodldmbnghfcaaGreat.InI id from hid)
      have hij : (0:Int) ≤ (i:Int) ∧ (i:Int) < (n:Int) := by omega
      clear hcc q0 q1 q2 q3 q4 q5 q6 q7 q8 q9 q10 q11 q12 q13 q14 hmi hsm hfr hid hkd
      go_upto_region 11 with fail
      rw [← hX]
      clear hX hwx hbx p0 p1 p2 p3 p4 p5 p6 p7 p8 p9 p10 p11 p12 p13 p14 HP
      generalize wr.heap.size = xb at *
      have d0 := HX8.out.cell 0
      go_upto_block 2 with fail
      go_cut [7] (fun ov wx => PC14 w wx ob g r ov)
      case first J KK hJR hMK =>
        by_cases hk0 : kd = 0
        · skip
          subst hk0
          as_aux_lemma =>
            have d1 := HX8.out.cell 1
            have d2 := HX8.out.cell 2
            have HIS := Lib.hid (HP8.out.issue id fr HID.out HFR.out)
            have HSI := Lib.hid (show S.size ≤ 1048576 from by rw [HSZ.out]; have := HP8.out.bytes; omega)
            go_wp2_with fail
            refine HIS.out.mono ?_
            rintro e w9 (⟨h1, rfl, hb9⟩ | ⟨h1, h2, rfl, hb9⟩ | ⟨h1, h2, h3, rfl, v9, row9, hos, hch⟩ | ⟨h1, h2, h3, rfl, hb9⟩)
            · skip
              have H1 := Lib.hid h1
              have HP9 := Lib.hid (HP8.out.below hb9)
              have HX9 := Lib.hid (HX8.out.kept (hb9.block _ HX8.out.lt))
              have HM9 := Lib.hid HP9.out.m
              have HRI9 := Lib.hid HP9.out.ri
              have HRJ9 := Lib.hid HP9.out.rj
              have HB9 := Lib.hid HP9.out.b
              have HO9 := Lib.hid HP9.out.os
              clear hb9 h1 d0 d1 d2 HIS
              have HAS := rask_any w9 S d r (.slice a1 n1 c1) (.slice a2 n2 c2) (rep ms) (dep ms) id fr HRI9.out HRJ9.out HP8.out.dq HP8.out.few HSI.out HID.out HFR.out
              unfold RO at HAS
              have HAS := Lib.hid HAS
              have d1 := HX9.out.cell 1
              have d2 := HX9.out.cell 2
              obtain ⟨x0, x1, x2, x3, x4⟩ := box5_of HM9.out
              go_wp2_with fail
              refine HAS.out.mono ?_
              rintro e wa ⟨⟨g1, rfl⟩ | ⟨g1, g2, rfl⟩ | ⟨g1, g2, g3, v3, v4, rfl, hri, hrj⟩ | ⟨g1, g2, g3, rfl⟩, hba⟩
              · skip
                have HXA := Lib.hid (HX9.out.kept (hba.block _ HX9.out.lt))
                have HMA := Lib.hid (HM9.out.kept (hba.block _ HM9.out.lt))
                have HBA := Lib.hid (HB9.out.trans (hba.mono HB9.out.size))
                have HOA := Lib.hid (HO9.out.below hba)
                have HRIA := Lib.hid (HRI9.out.below hba)
                have HRJA := Lib.hid (HRJ9.out.below hba)
                clear hba x0 x1 x2 x3 x4 d1 d2 HAS g1
                unfold RO
                obtain ⟨E, hE, hwE, hbE⟩ := ro_box wa S d (r : Int) (.slice a1 n1 c1) (.slice a2 n2 c2)
                have HME := Lib.hid ((HMA.out).kept (hbE.block _ (HMA.out).lt))
                have HXE := Lib.hid (HXA.out.kept (hbE.block _ HXA.out.lt))
                obtain ⟨e0, e1, e2, e3, e4⟩ := box5_of hwE
                go_upto_region 15 with fail
                rw [← hE]
                have f0 := (HME.out).free 0
                have f1 := (HME.out).free 1
                have f2 := (HME.out).free 2
                have f3 := (HME.out).free 3
                have f4 := (HME.out).free 4
                obtain ⟨y0, y1, y2, y3, y4⟩ := box5_of HME.out
                obtain ⟨wz, hwz⟩ : ∃ wz, wz = ((((E.setCell ⟨ob, 0, none⟩ (.string S)).setCell ⟨ob, 1, none⟩ (.int .i64 d)).setCell ⟨ob, 2, none⟩ (.int .i64 (r : Int))).setCell ⟨ob, 3, none⟩ (.slice a1 n1 c1)).setCell ⟨ob, 4, none⟩ (.slice a2 n2 c2) := ⟨_, rfl⟩
                have HWZ := Lib.hid hwz
                have HBE := Lib.hid hbE
                clear hE hwE hbE
                go_upto_region 16 with fail
                rw [← hwz]
                have HCZ := Lib.hid (show Chg E wz (fun k => k = ob) from by rw [hwz]; exact ((((((Chg.refl E (fun k => k = ob)).set (b := ob) rfl 0 _).set (b := ob) rfl 1 _).set (b := ob) rfl 2 _).set (b := ob) rfl 3 _).set (b := ob) rfl 4 _))
                have HXZ := Lib.hid (HXE.out.kept (HCZ.out.block _ HXE.out.lt (whole_ne HXE.out HME.out (by decide))))
                clear hwz e0 e1 e2 e3 e4 f0 f1 f2 f3 f4 y0 y1 y2 y3 y4
                have HPZ := Lib.hid (PQ.store (W' := wz) (HOA.out.below HBE.out) HME.out (HRIA.out.below HBE.out) (HRJA.out.below HBE.out) (HBA.out.trans (HBE.out.mono HBA.out.size)) HP8.out.ge HWZ.out)
                go_wp2_with fail
                go_meet
                exact ⟨go, gl, mb, v, row, ms, d, S, .slice a1 n1 c1, .slice a2 n2 c2, rfl, HS.out, HPZ.out⟩
              · exact absurd g1 H1.out
              · exact absurd g1 H1.out
              · exact absurd g1 H1.out
            · skip
              have H1 := Lib.hid h1
              have H2 := Lib.hid h2
              have HP9 := Lib.hid (HP8.out.below hb9)
              have HX9 := Lib.hid (HX8.out.kept (hb9.block _ HX8.out.lt))
              have HM9 := Lib.hid HP9.out.m
              have HRI9 := Lib.hid HP9.out.ri
              have HRJ9 := Lib.hid HP9.out.rj
              have HB9 := Lib.hid HP9.out.b
              have HO9 := Lib.hid HP9.out.os
              clear hb9 h1 h2 d0 d1 d2 HIS
              have HAS := rask_any w9 S d r (.slice a1 n1 c1) (.slice a2 n2 c2) (rep ms) (dep ms) id fr HRI9.out HRJ9.out HP8.out.dq HP8.out.few HSI.out HID.out HFR.out
              unfold RO at HAS
              have HAS := Lib.hid HAS
              have d1 := HX9.out.cell 1
              have d2 := HX9.out.cell 2
              obtain ⟨x0, x1, x2, x3, x4⟩ := box5_of HM9.out
              go_wp2_with fail
              refine HAS.out.mono ?_
              rintro e wa ⟨⟨g1, rfl⟩ | ⟨g1, g2, rfl⟩ | ⟨g1, g2, g3, v3, v4, rfl, hri, hrj⟩ | ⟨g1, g2, g3, rfl⟩, hba⟩
              · exact absurd H1.out g1
              · skip
                have HXA := Lib.hid (HX9.out.kept (hba.block _ HX9.out.lt))
                have HMA := Lib.hid (HM9.out.kept (hba.block _ HM9.out.lt))
                have HBA := Lib.hid (HB9.out.trans (hba.mono HB9.out.size))
                have HOA := Lib.hid (HO9.out.below hba)
                have HRIA := Lib.hid (HRI9.out.below hba)
                have HRJA := Lib.hid (HRJ9.out.below hba)
                clear hba x0 x1 x2 x3 x4 d1 d2 HAS g1 g2
                unfold RO
                obtain ⟨E, hE, hwE, hbE⟩ := ro_box wa S d (r : Int) (.slice a1 n1 c1) (.slice a2 n2 c2)
                have HME := Lib.hid ((HMA.out).kept (hbE.block _ (HMA.out).lt))
                have HXE := Lib.hid (HXA.out.kept (hbE.block _ HXA.out.lt))
                obtain ⟨e0, e1, e2, e3, e4⟩ := box5_of hwE
                go_upto_region 15 with fail
                rw [← hE]
                have f0 := (HME.out).free 0
                have f1 := (HME.out).free 1
                have f2 := (HME.out).free 2
                have f3 := (HME.out).free 3
                have f4 := (HME.out).free 4
                obtain ⟨y0, y1, y2, y3, y4⟩ := box5_of HME.out
                obtain ⟨wz, hwz⟩ : ∃ wz, wz = ((((E.setCell ⟨ob, 0, none⟩ (.string S)).setCell ⟨ob, 1, none⟩ (.int .i64 d)).setCell ⟨ob, 2, none⟩ (.int .i64 (r : Int))).setCell ⟨ob, 3, none⟩ (.slice a1 n1 c1)).setCell ⟨ob, 4, none⟩ (.slice a2 n2 c2) := ⟨_, rfl⟩
                have HWZ := Lib.hid hwz
                have HBE := Lib.hid hbE
                clear hE hwE hbE
                go_upto_region 16 with fail
                rw [← hwz]
                have HCZ := Lib.hid (show Chg E wz (fun k => k = ob) from by rw [hwz]; exact ((((((Chg.refl E (fun k => k = ob)).set (b := ob) rfl 0 _).set (b := ob) rfl 1 _).set (b := ob) rfl 2 _).set (b := ob) rfl 3 _).set (b := ob) rfl 4 _))
                have HXZ := Lib.hid (HXE.out.kept (HCZ.out.block _ HXE.out.lt (whole_ne HXE.out HME.out (by decide))))
                clear hwz e0 e1 e2 e3 e4 f0 f1 f2 f3 f4 y0 y1 y2 y3 y4
                have HPZ := Lib.hid (PQ.store (W' := wz) (HOA.out.below HBE.out) HME.out (HRIA.out.below HBE.out) (HRJA.out.below HBE.out) (HBA.out.trans (HBE.out.mono HBA.out.size)) HP8.out.ge HWZ.out)
                go_wp2_with fail
                go_meet
                exact ⟨go, gl, mb, v, row, ms, d, S, .slice a1 n1 c1, .slice a2 n2 c2, rfl, HS.out, HPZ.out⟩
              · exact absurd H2.out (by omega)
              · exact absurd H2.out (by omega)
            · skip
              have H1 := Lib.hid h1
              have H2 := Lib.hid h2
              have H3 := Lib.hid h3
              have HDD := Lib.hid (HP8.out.doc hch)
              have HX9 := Lib.hid (HX8.out.kept (hch.block _ HX8.out.lt (HP8.out.os.other HX8.out (by decide) (by decide) (by decide) (by decide) (by decide))))
              have HM9 := Lib.hid HDD.out.1
              have HRI9 := Lib.hid HDD.out.2.1
              have HRJ9 := Lib.hid HDD.out.2.2.1
              have HB9 := Lib.hid HDD.out.2.2.2
              have HO9 := Lib.hid hos
              clear hos hch h1 h2 h3 d0 d1 d2 HIS
              have HAS := rask_any w9 S d r (.slice a1 n1 c1) (.slice a2 n2 c2) (rep ms) (dep ms) id fr HRI9.out HRJ9.out HP8.out.dq HP8.out.few HSI.out HID.out HFR.out
              unfold RO at HAS
              have HAS := Lib.hid HAS
              have d1 := HX9.out.cell 1
              have d2 := HX9.out.cell 2
              obtain ⟨x0, x1, x2, x3, x4⟩ := box5_of HM9.out
              go_wp2_with fail
              refine HAS.out.mono ?_
              rintro e wa ⟨⟨g1, rfl⟩ | ⟨g1, g2, rfl⟩ | ⟨g1, g2, g3, v3, v4, rfl, hri, hrj⟩ | ⟨g1, g2, g3, rfl⟩, hba⟩
              · exact absurd H1.out g1
              · exact absurd H2.out (by omega)
              · skip
                have HXA := Lib.hid (HX9.out.kept (hba.block _ HX9.out.lt))
                have HMA := Lib.hid (HM9.out.kept (hba.block _ HM9.out.lt))
                have HBA := Lib.hid (HB9.out.trans (hba.mono HB9.out.size))
                have HOA := Lib.hid (HO9.out.below hba)
                have HRIA := Lib.hid (HRI9.out.below hba)
                have HRJA := Lib.hid (HRJ9.out.below hba)
                clear hba x0 x1 x2 x3 x4 d1 d2 HAS g1 g2 g3
                have HRP := Lib.hid (rep_snoc ms (oD 1 fr id (lastR (rep ms) + 1)))
                have HDP := Lib.hid (dep_snoc ms (oD 1 fr id (lastR (rep ms) + 1)))
                rw [← HRP.out] at hri
                rw [← HDP.out] at hrj
                obtain ⟨a3, c3, rfl, hl3⟩ := hri
                obtain ⟨a4, c4, rfl, hl4⟩ := hrj
                have HRI3 := Lib.hid (show RI wa (rep (ms ++ [oD 1 fr id (lastR (rep ms) + 1)])) _ from ⟨a3, c3, rfl, hl3⟩)
                have HRJ3 := Lib.hid (show RJ wa (dep (ms ++ [oD 1 fr id (lastR (rep ms) + 1)])) _ from ⟨a4, c4, rfl, hl4⟩)
                have HT := Lib.hid (show S ++ strOfNums (rcd (oD 1 fr id (lastR (rep ms) + 1))) = strOfNums (cat (ms ++ [oD 1 fr id (lastR (rep ms) + 1)])) from by rw [HS.out, strs_cat])
                clear hl3 hl4
                generalize (rep (ms ++ [oD 1 fr id (lastR (rep ms) + 1)])).length = n3 at *
                generalize (dep (ms ++ [oD 1 fr id (lastR (rep ms) + 1)])).length = n4 at *
                generalize S ++ strOfNums (rcd (oD 1 fr id (lastR (rep ms) + 1))) = T at *
                unfold RO
                obtain ⟨E, hE, hwE, hbE⟩ := ro_box wa T (T.size : Int) (r : Int) (.slice a3 n3 c3) (.slice a4 n4 c4)
                have HME := Lib.hid ((HMA.out).kept (hbE.block _ (HMA.out).lt))
                have HXE := Lib.hid (HXA.out.kept (hbE.block _ HXA.out.lt))
                obtain ⟨e0, e1, e2, e3, e4⟩ := box5_of hwE
                go_upto_region 15 with fail
                rw [← hE]
                have f0 := (HME.out).free 0
                have f1 := (HME.out).free 1
                have f2 := (HME.out).free 2
                have f3 := (HME.out).free 3
                have f4 := (HME.out).free 4
                obtain ⟨y0, y1, y2, y3, y4⟩ := box5_of HME.out
                obtain ⟨wz, hwz⟩ : ∃ wz, wz = ((((E.setCell ⟨ob, 0, none⟩ (.string T)).setCell ⟨ob, 1, none⟩ (.int .i64 (T.size : Int))).setCell ⟨ob, 2, none⟩ (.int .i64 (r : Int))).setCell ⟨ob, 3, none⟩ (.slice a3 n3 c3)).setCell ⟨ob, 4, none⟩ (.slice a4 n4 c4) := ⟨_, rfl⟩
                have HWZ := Lib.hid hwz
                have HBE := Lib.hid hbE
                clear hE hwE hbE
                go_upto_region 16 with fail
                rw [← hwz]
                have HCZ := Lib.hid (show Chg E wz (fun k => k = ob) from by rw [hwz]; exact ((((((Chg.refl E (fun k => k = ob)).set (b := ob) rfl 0 _).set (b := ob) rfl 1 _).set (b := ob) rfl 2 _).set (b := ob) rfl 3 _).set (b := ob) rfl 4 _))
                have HXZ := Lib.hid (HXE.out.kept (HCZ.out.block _ HXE.out.lt (whole_ne HXE.out HME.out (by decide))))
                clear hwz e0 e1 e2 e3 e4 f0 f1 f2 f3 f4 y0 y1 y2 y3 y4
                have HPZ := Lib.hid (PQ.store (W' := wz) (HOA.out.below HBE.out) HME.out (HRI3.out.below HBE.out) (HRJ3.out.below HBE.out) (HBA.out.trans (HBE.out.mono HBA.out.size)) HP8.out.ge HWZ.out)
                go_wp2_with fail
                go_meet
                exact ⟨go, gl, mb, v9, row9, _, _, T, .slice a3 n3 c3, .slice a4 n4 c4, rfl, HT.out, HPZ.out⟩
              · exact absurd H3.out (by rw [HSZ.out] at g3; omega)
            · skip
              have H1 := Lib.hid h1
              have H2 := Lib.hid h2
              have H3 := Lib.hid h3
              have HP9 := Lib.hid (HP8.out.below hb9)
              have HX9 := Lib.hid (HX8.out.kept (hb9.block _ HX8.out.lt))
              have HM9 := Lib.hid HP9.out.m
              have HRI9 := Lib.hid HP9.out.ri
              have HRJ9 := Lib.hid HP9.out.rj
              have HB9 := Lib.hid HP9.out.b
              have HO9 := Lib.hid HP9.out.os
              clear hb9 h1 h2 h3 d0 d1 d2 HIS
              have HAS := rask_any w9 S d r (.slice a1 n1 c1) (.slice a2 n2 c2) (rep ms) (dep ms) id fr HRI9.out HRJ9.out HP8.out.dq HP8.out.few HSI.out HID.out HFR.out
              unfold RO at HAS
              have HAS := Lib.hid HAS
              have d1 := HX9.out.cell 1
              have d2 := HX9.out.cell 2
              obtain ⟨x0, x1, x2, x3, x4⟩ := box5_of HM9.out
              go_wp2_with fail
              refine HAS.out.mono ?_
              rintro e wa ⟨⟨g1, rfl⟩ | ⟨g1, g2, rfl⟩ | ⟨g1, g2, g3, v3, v4, rfl, hri, hrj⟩ | ⟨g1, g2, g3, rfl⟩, hba⟩
              · exact absurd H1.out g1
              · exact absurd H2.out (by omega)
              · exact absurd H3.out (by rw [HSZ.out] at g3; omega)
              · skip
                have HXA := Lib.hid (HX9.out.kept (hba.block _ HX9.out.lt))
                have HMA := Lib.hid (HM9.out.kept (hba.block _ HM9.out.lt))
                have HBA := Lib.hid (HB9.out.trans (hba.mono HB9.out.size))
                have HOA := Lib.hid (HO9.out.below hba)
                have HRIA := Lib.hid (HRI9.out.below hba)
                have HRJA := Lib.hid (HRJ9.out.below hba)
                clear hba x0 x1 x2 x3 x4 d1 d2 HAS g1 g2 g3
                unfold RO
                obtain ⟨E, hE, hwE, hbE⟩ := ro_box wa S d (r : Int) (.slice a1 n1 c1) (.slice a2 n2 c2)
                have HME := Lib.hid ((HMA.out).kept (hbE.block _ (HMA.out).lt))
                have HXE := Lib.hid (HXA.out.kept (hbE.block _ HXA.out.lt))
                obtain ⟨e0, e1, e2, e3, e4⟩ := box5_of hwE
                go_upto_region 15 with fail
                rw [← hE]
                have f0 := (HME.out).free 0
                have f1 := (HME.out).free 1
                have f2 := (HME.out).free 2
                have f3 := (HME.out).free 3
                have f4 := (HME.out).free 4
                obtain ⟨y0, y1, y2, y3, y4⟩ := box5_of HME.out
                obtain ⟨wz, hwz⟩ : ∃ wz, wz = ((((E.setCell ⟨ob, 0, none⟩ (.string S)).setCell ⟨ob, 1, none⟩ (.int .i64 d)).setCell ⟨ob, 2, none⟩ (.int .i64 (r : Int))).setCell ⟨ob, 3, none⟩ (.slice a1 n1 c1)).setCell ⟨ob, 4, none⟩ (.slice a2 n2 c2) := ⟨_, rfl⟩
                have HWZ := Lib.hid hwz
                have HBE := Lib.hid hbE
                clear hE hwE hbE
                go_upto_region 16 with fail
                rw [← hwz]
                have HCZ := Lib.hid (show Chg E wz (fun k => k = ob) from by rw [hwz]; exact ((((((Chg.refl E (fun k => k = ob)).set (b := ob) rfl 0 _).set (b := ob) rfl 1 _).set (b := ob) rfl 2 _).set (b := ob) rfl 3 _).set (b := ob) rfl 4 _))
                have HXZ := Lib.hid (HXE.out.kept (HCZ.out.block _ HXE.out.lt (whole_ne HXE.out HME.out (by decide))))
                clear hwz e0 e1 e2 e3 e4 f0 f1 f2 f3 f4 y0 y1 y2 y3 y4
                have HPZ := Lib.hid (PQ.store (W' := wz) (HOA.out.below HBE.out) HME.out (HRIA.out.below HBE.out) (HRJA.out.below HBE.out) (HBA.out.trans (HBE.out.mono HBA.out.size)) HP8.out.ge HWZ.out)
                go_wp2_with fail
                go_meet
                exact ⟨go, gl, mb, v, row, ms, d, S, .slice a1 n1 c1, .slice a2 n2 c2, rfl, HS.out, HPZ.out⟩
        by_cases hk1 : kd = 1
        · skip
          subst hk1
          as_aux_lemma =>
            have d2 := HX8.out.cell 2
            have HSI := Lib.hid (show S.size ≤ 1048576 from by rw [HSZ.out]; have := HP8.out.bytes; omega)
            have HM9 := Lib.hid HP8.out.m
            have HST := rsettle_any X S d r (.slice a1 n1 c1) (.slice a2 n2 c2) (rep ms) (dep ms) id HP8.out.ri HP8.out.rj HP8.out.dq HP8.out.few HSI.out HID.out
            unfold RO at HST
            have HST := Lib.hid HST
            obtain ⟨x0, x1, x2, x3, x4⟩ := box5_of HM9.out
            go_wp2_with fail
            refine HST.out.mono ?_
            rintro e wa ⟨⟨h1, rfl⟩ | ⟨h1, h2, rfl⟩ | ⟨h1, h2, h3, v3, v4, rfl, hri, hrj⟩ | ⟨h1, h2, h3, rfl⟩, hba⟩
            · skip
              have H1 := Lib.hid h1
              have HXA := Lib.hid (HX8.out.kept (hba.block _ HX8.out.lt))
              have HPA := Lib.hid (HP8.out.below hba)
              have HMA := Lib.hid HPA.out.m
              clear hba x0 x1 x2 x3 x4 d0 d2 HST h1
              unfold RO
              obtain ⟨E, hE, hwE, hbE⟩ := ro_box wa S d (r : Int) (.slice a1 n1 c1) (.slice a2 n2 c2)
              have HME := Lib.hid ((HMA.out).kept (hbE.block _ (HMA.out).lt))
              have HXE := Lib.hid (HXA.out.kept (hbE.block _ HXA.out.lt))
              obtain ⟨e0, e1, e2, e3, e4⟩ := box5_of hwE
              go_upto_region 20 with fail
              rw [← hE]
              have f0 := (HME.out).free 0
              have f1 := (HME.out).free 1
              have f2 := (HME.out).free 2
              have f3 := (HME.out).free 3
              have f4 := (HME.out).free 4
              obtain ⟨y0, y1, y2, y3, y4⟩ := box5_of HME.out
              obtain ⟨wz, hwz⟩ : ∃ wz, wz = ((((E.setCell ⟨ob, 0, none⟩ (.string S)).setCell ⟨ob, 1, none⟩ (.int .i64 d)).setCell ⟨ob, 2, none⟩ (.int .i64 (r : Int))).setCell ⟨ob, 3, none⟩ (.slice a1 n1 c1)).setCell ⟨ob, 4, none⟩ (.slice a2 n2 c2) := ⟨_, rfl⟩
              have HWZ := Lib.hid hwz
              have HBE := Lib.hid hbE
              clear hE hwE hbE
              go_upto_region 21 with fail
              rw [← hwz]
              have HCZ := Lib.hid (show Chg E wz (fun k => k = ob) from by rw [hwz]; exact ((((((Chg.refl E (fun k => k = ob)).set (b := ob) rfl 0 _).set (b := ob) rfl 1 _).set (b := ob) rfl 2 _).set (b := ob) rfl 3 _).set (b := ob) rfl 4 _))
              have HXZ := Lib.hid (HXE.out.kept (HCZ.out.block _ HXE.out.lt (whole_ne HXE.out HME.out (by decide))))
              clear hwz e0 e1 e2 e3 e4 f0 f1 f2 f3 f4 y0 y1 y2 y3 y4
              have HWW := Lib.hid (show Whole wz ob 36 #[.string S, .int .i64 d, .int .i64 (r : Int), .slice a1 n1 c1, .slice a2 n2 c2] from by rw [HWZ.out]; exact ((((HME.out.store 0 _).store 1 _).store 2 _).store 3 _).store 4 _)
              have HRIZ := Lib.hid (RI.chg (HPA.out.ri.below HBE.out) HME.out HCZ.out (by decide))
              have HRJZ := Lib.hid (RJ.chg (HPA.out.rj.below HBE.out) HME.out HCZ.out (by decide))
              have HOZ := Lib.hid (OS.one (HPA.out.os.below HBE.out) HME.out (by decide) (by decide) (by decide) (by decide) (by decide) HCZ.out)
              have HBZ := Lib.hid (show Below w.heap.size w wz from (Chg.trans (Chg.ofBelow (fun k => k = ob) (HPA.out.b.trans (HBE.out.mono HPA.out.b.size))) HCZ.out).below (fun k hk => by have h3 : k = ob := hk; have := HP8.out.ge; omega) (Nat.le_refl _))
              have HRS := Lib.hid (os_resolve HOZ.out HBZ.out id HID.out)
              have d2 := HXZ.out.cell 2
              go_wp2_with fail
              refine HRS.out.mono ?_
              rintro e w9 (⟨g1, rfl, hb9⟩ | ⟨g1, g2, rfl, hb9⟩ | ⟨g1, g2, g3, rfl, v9, row9, hos, hch⟩ | ⟨g1, g2, g3, rfl, hb9⟩)
              · skip
                have HPZ := Lib.hid ((show PQ w wz ob g r go gl mb v row ms d S (.slice a1 n1 c1) (.slice a2 n2 c2) from ⟨HOZ.out, HWW.out, HRIZ.out, HRJZ.out, HBZ.out, HP8.out.ge⟩).below hb9)
                clear hb9 g1 d2 HRS
                go_wp2_with fail
                go_meet
                exact ⟨go, gl, mb, v, row, ms, d, S, .slice a1 n1 c1, .slice a2 n2 c2, rfl, HS.out, HPZ.out⟩
              · exact absurd H1.out g1
              · exact absurd H1.out g1
              · exact absurd H1.out g1
            · skip
              have H1 := Lib.hid h1
              have H2 := Lib.hid h2
              have HXA := Lib.hid (HX8.out.kept (hba.block _ HX8.out.lt))
              have HPA := Lib.hid (HP8.out.below hba)
              have HMA := Lib.hid HPA.out.m
              clear hba x0 x1 x2 x3 x4 d0 d2 HST h1 h2
              unfold RO
              obtain ⟨E, hE, hwE, hbE⟩ := ro_box wa S d (r : Int) (.slice a1 n1 c1) (.slice a2 n2 c2)
              have HME := Lib.hid ((HMA.out).kept (hbE.block _ (HMA.out).lt))
              have HXE := Lib.hid (HXA.out.kept (hbE.block _ HXA.out.lt))
              obtain ⟨e0, e1, e2, e3, e4⟩ := box5_of hwE
              go_upto_region 20 with fail
              rw [← hE]
              have f0 := (HME.out).free 0
              have f1 := (HME.out).free 1
              have f2 := (HME.out).free 2
              have f3 := (HME.out).free 3
              have f4 := (HME.out).free 4
              obtain ⟨y0, y1, y2, y3, y4⟩ := box5_of HME.out
              obtain ⟨wz, hwz⟩ : ∃ wz, wz = ((((E.setCell ⟨ob, 0, none⟩ (.string S)).setCell ⟨ob, 1, none⟩ (.int .i64 d)).setCell ⟨ob, 2, none⟩ (.int .i64 (r : Int))).setCell ⟨ob, 3, none⟩ (.slice a1 n1 c1)).setCell ⟨ob, 4, none⟩ (.slice a2 n2 c2) := ⟨_, rfl⟩
              have HWZ := Lib.hid hwz
              have HBE := Lib.hid hbE
              clear hE hwE hbE
              go_upto_region 21 with fail
              rw [← hwz]
              have HCZ := Lib.hid (show Chg E wz (fun k => k = ob) from by rw [hwz]; exact ((((((Chg.refl E (fun k => k = ob)).set (b := ob) rfl 0 _).set (b := ob) rfl 1 _).set (b := ob) rfl 2 _).set (b := ob) rfl 3 _).set (b := ob) rfl 4 _))
              have HXZ := Lib.hid (HXE.out.kept (HCZ.out.block _ HXE.out.lt (whole_ne HXE.out HME.out (by decide))))
              clear hwz e0 e1 e2 e3 e4 f0 f1 f2 f3 f4 y0 y1 y2 y3 y4
              have HWW := Lib.hid (show Whole wz ob 36 #[.string S, .int .i64 d, .int .i64 (r : Int), .slice a1 n1 c1, .slice a2 n2 c2] from by rw [HWZ.out]; exact ((((HME.out.store 0 _).store 1 _).store 2 _).store 3 _).store 4 _)
              have HRIZ := Lib.hid (RI.chg (HPA.out.ri.below HBE.out) HME.out HCZ.out (by decide))
              have HRJZ := Lib.hid (RJ.chg (HPA.out.rj.below HBE.out) HME.out HCZ.out (by decide))
              have HOZ := Lib.hid (OS.one (HPA.out.os.below HBE.out) HME.out (by decide) (by decide) (by decide) (by decide) (by decide) HCZ.out)
              have HBZ := Lib.hid (show Below w.heap.size w wz from (Chg.trans (Chg.ofBelow (fun k => k = ob) (HPA.out.b.trans (HBE.out.mono HPA.out.b.size))) HCZ.out).below (fun k hk => by have h3 : k = ob := hk; have := HP8.out.ge; omega) (Nat.le_refl _))
              have HRS := Lib.hid (os_resolve HOZ.out HBZ.out id HID.out)
              have d2 := HXZ.out.cell 2
              go_wp2_with fail
              refine HRS.out.mono ?_
              rintro e w9 (⟨g1, rfl, hb9⟩ | ⟨g1, g2, rfl, hb9⟩ | ⟨g1, g2, g3, rfl, v9, row9, hos, hch⟩ | ⟨g1, g2, g3, rfl, hb9⟩)
              · exact absurd g1 H1.out
              · skip
                have HPZ := Lib.hid ((show PQ w wz ob g r go gl mb v row ms d S (.slice a1 n1 c1) (.slice a2 n2 c2) from ⟨HOZ.out, HWW.out, HRIZ.out, HRJZ.out, HBZ.out, HP8.out.ge⟩).below hb9)
                clear hb9 g1 g2 d2 HRS
                go_wp2_with fail
                go_meet
                exact ⟨go, gl, mb, v, row, ms, d, S, .slice a1 n1 c1, .slice a2 n2 c2, rfl, HS.out, HPZ.out⟩
              · exact absurd H2.out g2
              · exact absurd H2.out g2
            · skip
              have H1 := Lib.hid h1
              have H2 := Lib.hid h2
              have H3 := Lib.hid h3
              have HXA := Lib.hid (HX8.out.kept (hba.block _ HX8.out.lt))
              have HPA := Lib.hid (HP8.out.below hba)
              have HMA := Lib.hid HPA.out.m
              clear hba x0 x1 x2 x3 x4 d0 d2 HST h1 h2 h3
              have HRP := Lib.hid (rep_snoc ms (oD 2 0 id 0))
              have HDP := Lib.hid (dep_snoc ms (oD 2 0 id 0))
              rw [← HRP.out] at hri
              rw [← HDP.out] at hrj
              obtain ⟨a3, c3, rfl, hl3⟩ := hri
              obtain ⟨a4, c4, rfl, hl4⟩ := hrj
              have HRI3 := Lib.hid (show RI wa (rep (ms ++ [oD 2 0 id 0])) _ from ⟨a3, c3, rfl, hl3⟩)
              have HRJ3 := Lib.hid (show RJ wa (dep (ms ++ [oD 2 0 id 0])) _ from ⟨a4, c4, rfl, hl4⟩)
              have HT := Lib.hid (show S ++ strOfNums (rcd (oD 2 0 id 0)) = strOfNums (cat (ms ++ [oD 2 0 id 0])) from by rw [HS.out, strs_cat])
              clear hl3 hl4
              generalize (rep (ms ++ [oD 2 0 id 0])).length = n3 at *
              generalize (dep (ms ++ [oD 2 0 id 0])).length = n4 at *
              generalize S ++ strOfNums (rcd (oD 2 0 id 0)) = T at *
              unfold RO
              obtain ⟨E, hE, hwE, hbE⟩ := ro_box wa T (T.size : Int) (r : Int) (.slice a3 n3 c3) (.slice a4 n4 c4)
              have HME := Lib.hid ((HMA.out).kept (hbE.block _ (HMA.out).lt))
              have HXE := Lib.hid (HXA.out.kept (hbE.block _ HXA.out.lt))
              obtain ⟨e0, e1, e2, e3, e4⟩ := box5_of hwE
              go_upto_region 20 with fail
              rw [← hE]
              have f0 := (HME.out).free 0
              have f1 := (HME.out).free 1
              have f2 := (HME.out).free 2
              have f3 := (HME.out).free 3
              have f4 := (HME.out).free 4
              obtain ⟨y0, y1, y2, y3, y4⟩ := box5_of HME.out
              obtain ⟨wz, hwz⟩ : ∃ wz, wz = ((((E.setCell ⟨ob, 0, none⟩ (.string T)).setCell ⟨ob, 1, none⟩ (.int .i64 (T.size : Int))).setCell ⟨ob, 2, none⟩ (.int .i64 (r : Int))).setCell ⟨ob, 3, none⟩ (.slice a3 n3 c3)).setCell ⟨ob, 4, none⟩ (.slice a4 n4 c4) := ⟨_, rfl⟩
              have HWZ := Lib.hid hwz
              have HBE := Lib.hid hbE
              clear hE hwE hbE
              go_upto_region 21 with fail
              rw [← hwz]
              have HCZ := Lib.hid (show Chg E wz (fun k => k = ob) from by rw [hwz]; exact ((((((Chg.refl E (fun k => k = ob)).set (b := ob) rfl 0 _).set (b := ob) rfl 1 _).set (b := ob) rfl 2 _).set (b := ob) rfl 3 _).set (b := ob) rfl 4 _))
              have HXZ := Lib.hid (HXE.out.kept (HCZ.out.block _ HXE.out.lt (whole_ne HXE.out HME.out (by decide))))
              clear hwz e0 e1 e2 e3 e4 f0 f1 f2 f3 f4 y0 y1 y2 y3 y4
              have HWW := Lib.hid (show Whole wz ob 36 #[.string T, .int .i64 (T.size : Int), .int .i64 (r : Int), .slice a3 n3 c3, .slice a4 n4 c4] from by rw [HWZ.out]; exact ((((HME.out.store 0 _).store 1 _).store 2 _).store 3 _).store 4 _)
              have HRIZ := Lib.hid (RI.chg (HRI3.out.below HBE.out) HME.out HCZ.out (by decide))
              have HRJZ := Lib.hid (RJ.chg (HRJ3.out.below HBE.out) HME.out HCZ.out (by decide))
              have HOZ := Lib.hid (OS.one (HPA.out.os.below HBE.out) HME.out (by decide) (by decide) (by decide) (by decide) (by decide) HCZ.out)
              have HBZ := Lib.hid (show Below w.heap.size w wz from (Chg.trans (Chg.ofBelow (fun k => k = ob) (HPA.out.b.trans (HBE.out.mono HPA.out.b.size))) HCZ.out).below (fun k hk => by have h3 : k = ob := hk; have := HP8.out.ge; omega) (Nat.le_refl _))
              have HRS := Lib.hid (os_resolve HOZ.out HBZ.out id HID.out)
              have d2 := HXZ.out.cell 2
              go_wp2_with fail
              refine HRS.out.mono ?_
              rintro e w9 (⟨g1, rfl, hb9⟩ | ⟨g1, g2, rfl, hb9⟩ | ⟨g1, g2, g3, rfl, v9, row9, hos, hch⟩ | ⟨g1, g2, g3, rfl, hb9⟩)
              · exact absurd g1 H1.out
              · exact absurd g2 H2.out
              · skip
                have HPZ := Lib.hid (show PQ w w9 ob g r go gl mb v9 row9 (ms ++ [oD 2 0 id 0]) (T.size : Int) T (.slice a3 n3 c3) (.slice a4 n4 c4) from ⟨hos, HWW.out.kept (hch.block _ HWW.out.lt (HOZ.out.other HWW.out (by decide) (by decide) (by decide) (by decide) (by decide))), HRIZ.out.sb HOZ.out (ofRoot hch), HRJZ.out.sb HOZ.out (ofRoot hch), HBZ.out.trans (HOZ.out.sb_ge hch HBZ.out.size), HP8.out.ge⟩)
                clear hos hch g1 g2 g3 d2 HRS
                go_wp2_with fail
                go_meet
                exact ⟨go, gl, mb, v9, row9, _, _, T, .slice a3 n3 c3, .slice a4 n4 c4, rfl, HT.out, HPZ.out⟩
              · exact absurd H3.out (by rw [HSZ.out]; omega)
            · skip
              have H1 := Lib.hid h1
              have H2 := Lib.hid h2
              have H3 := Lib.hid h3
              have HXA := Lib.hid (HX8.out.kept (hba.block _ HX8.out.lt))
              have HPA := Lib.hid (HP8.out.below hba)
              have HMA := Lib.hid HPA.out.m
              clear hba x0 x1 x2 x3 x4 d0 d2 HST h1 h2 h3
              unfold RO
              obtain ⟨E, hE, hwE, hbE⟩ := ro_box wa S d (r : Int) (.slice a1 n1 c1) (.slice a2 n2 c2)
              have HME := Lib.hid ((HMA.out).kept (hbE.block _ (HMA.out).lt))
              have HXE := Lib.hid (HXA.out.kept (hbE.block _ HXA.out.lt))
              obtain ⟨e0, e1, e2, e3, e4⟩ := box5_of hwE
              go_upto_region 20 with fail
              rw [← hE]
              have f0 := (HME.out).free 0
              have f1 := (HME.out).free 1
              have f2 := (HME.out).free 2
              have f3 := (HME.out).free 3
              have f4 := (HME.out).free 4
              obtain ⟨y0, y1, y2, y3, y4⟩ := box5_of HME.out
              obtain ⟨wz, hwz⟩ : ∃ wz, wz = ((((E.setCell ⟨ob, 0, none⟩ (.string S)).setCell ⟨ob, 1, none⟩ (.int .i64 d)).setCell ⟨ob, 2, none⟩ (.int .i64 (r : Int))).setCell ⟨ob, 3, none⟩ (.slice a1 n1 c1)).setCell ⟨ob, 4, none⟩ (.slice a2 n2 c2) := ⟨_, rfl⟩
              have HWZ := Lib.hid hwz
              have HBE := Lib.hid hbE
              clear hE hwE hbE
              go_upto_region 21 with fail
              rw [← hwz]
              have HCZ := Lib.hid (show Chg E wz (fun k => k = ob) from by rw [hwz]; exact ((((((Chg.refl E (fun k => k = ob)).set (b := ob) rfl 0 _).set (b := ob) rfl 1 _).set (b := ob) rfl 2 _).set (b := ob) rfl 3 _).set (b := ob) rfl 4 _))
              have HXZ := Lib.hid (HXE.out.kept (HCZ.out.block _ HXE.out.lt (whole_ne HXE.out HME.out (by decide))))
              clear hwz e0 e1 e2 e3 e4 f0 f1 f2 f3 f4 y0 y1 y2 y3 y4
              have HWW := Lib.hid (show Whole wz ob 36 #[.string S, .int .i64 d, .int .i64 (r : Int), .slice a1 n1 c1, .slice a2 n2 c2] from by rw [HWZ.out]; exact ((((HME.out.store 0 _).store 1 _).store 2 _).store 3 _).store 4 _)
              have HRIZ := Lib.hid (RI.chg (HPA.out.ri.below HBE.out) HME.out HCZ.out (by decide))
              have HRJZ := Lib.hid (RJ.chg (HPA.out.rj.below HBE.out) HME.out HCZ.out (by decide))
              have HOZ := Lib.hid (OS.one (HPA.out.os.below HBE.out) HME.out (by decide) (by decide) (by decide) (by decide) (by decide) HCZ.out)
              have HBZ := Lib.hid (show Below w.heap.size w wz from (Chg.trans (Chg.ofBelow (fun k => k = ob) (HPA.out.b.trans (HBE.out.mono HPA.out.b.size))) HCZ.out).below (fun k hk => by have h3 : k = ob := hk; have := HP8.out.ge; omega) (Nat.le_refl _))
              have HRS := Lib.hid (os_resolve HOZ.out HBZ.out id HID.out)
              have d2 := HXZ.out.cell 2
              go_wp2_with fail
              refine HRS.out.mono ?_
              rintro e w9 (⟨g1, rfl, hb9⟩ | ⟨g1, g2, rfl, hb9⟩ | ⟨g1, g2, g3, rfl, v9, row9, hos, hch⟩ | ⟨g1, g2, g3, rfl, hb9⟩)
              · exact absurd g1 H1.out
              · exact absurd g2 H2.out
              · exact absurd H3.out (by rw [HSZ.out]; omega)
              · skip
                have HPZ := Lib.hid ((show PQ w wz ob g r go gl mb v row ms d S (.slice a1 n1 c1) (.slice a2 n2 c2) from ⟨HOZ.out, HWW.out, HRIZ.out, HRJZ.out, HBZ.out, HP8.out.ge⟩).below hb9)
                clear hb9 g1 g2 g3 d2 HRS
                go_wp2_with fail
                go_meet
                exact ⟨go, gl, mb, v, row, ms, d, S, .slice a1 n1 c1, .slice a2 n2 c2, rfl, HS.out, HPZ.out⟩
        by_cases hk2 : kd = 2
        · skip
          subst hk2
          as_aux_lemma =>
            have HLg := Lib.hid HP8.out.os.log
            have HFn := Lib.hid HP8.out.os.fine
            have HMw := Lib.hid HP8.out.m
            have HBw := Lib.hid HP8.out.b
            have HTs := HS
            obtain ⟨md, hmd⟩ : ∃ md, md = ms := ⟨_, rfl⟩
            rw [← hmd] at HLg HFn HTs
            clear hmd
            have HCR := Lib.hid (Dk.crash_any 0 X (show Lg X w.heap.size gl g v (cat md) (cat md).length r md.length from HLg.out).disk (by omega))
            go_wp2_with fail
            refine HCR.out.mono ?_
            rintro e wc ⟨rfl, vc, hdc, htc, _⟩
            have hle : Dk.left (cat md).length (cat md).length 0 = (cat md).length := by unfold Dk.left; simp
            rw [hle, List.take_length] at hdc
            have hgd : Whole X g 73 _ := (show Lg X w.heap.size gl g v (cat md) (cat md).length r md.length from HLg.out).disk.blk
            have HMC := Lib.hid (HMw.out.kept (htc.block _ HMw.out.lt (whole_ne HMw.out hgd (by decide)) (by simp)))
            have HGE := Lib.hid (show w.heap.size ≤ g from (show Lg X w.heap.size gl g v (cat md) (cat md).length r md.length from HLg.out).disk.ge)
            have HBC := Lib.hid (HBw.out.trans (htc.below HGE.out (by simp) HBw.out.size))
            have HOP := Lib.hid (opened_any wc _ hdc HFn.out HBC.out.size)
            have HGW := Lib.hid (show ∃ cs, Whole wc g 73 cs from ⟨_, hdc.blk⟩)
            clear hdc htc hle hgd HCR
            go_wp2_with fail
            refine HOP.out.mono ?_
            rintro e we ⟨go2, gl2, mb2, v2, row2, rfl, hos, hch, _⟩
            have HOE := Lib.hid hos
            have HME := Lib.hid (HMC.out.kept (hch.block _ HMC.out.lt (fun e2 => by
              obtain ⟨cs, hcs⟩ := HGW.out
              exact whole_ne HMC.out hcs (by decide) e2)))
            have HBE := Lib.hid (HBC.out.trans (hch.below (fun k hk => by have h3 : k = g := hk; have := HGE.out; omega) HBC.out.size))
            clear hos hch HOP
            have hlg : Lg we w.heap.size gl2 g v2 (cat md) (cat md).length r md.length := HOE.out.log
            have HBY := Lib.hid (show Byt (cat md) from hlg.disk.byte)
            have HLN := Lib.hid (show (cat md).length ≤ r ∧ r ≤ 1048576 from ⟨hlg.disk.hr, hlg.disk.hm⟩)
            have HRC := Lib.hid (recs_cat md HFn.out)
            have hro := ropen_any (cat md) d (r : Int) we HBY.out (by have := HLN.out; omega)
            rw [HRC.out, ← HTs.out] at hro
            have HTK := Lib.hid (show strOfNums ((cat md).take (cat md).length) = S from by rw [List.take_length]; exact HTs.out.symm)
            simp only [HTK.out] at hro
            unfold RD at hro
            have HRO := Lib.hid hro
            clear hlg hro
            obtain ⟨x0, x1, x2, x3, x4⟩ := box5_of HME.out
            go_wp2_with fail
            refine HRO.out.mono ?_
            rintro e wf ⟨rv, rfl, hrw, hbf⟩
            obtain ⟨ra, rc, rfl, _, _⟩ := hrw.slice
            have hms := rows_msgs hrw
            rw [map_unR] at hms
            have HMF := Lib.hid (HME.out.kept (hbf.block _ HME.out.lt))
            have HOF := Lib.hid (HOE.out.below hbf)
            have HBF := Lib.hid (HBE.out.trans (hbf.mono HBE.out.size))
            obtain ⟨E, hE, hwE, hbE⟩ := box_new wf 32 #[.string S, .int .i64 ((cat md).length : Int), .int .i64 (r : Int)]
            have HMG := Lib.hid (HMF.out.kept (hbE.block _ HMF.out.lt))
            have HOG := Lib.hid (HOF.out.below hbE)
            have HBG := Lib.hid (HBF.out.trans (hbE.mono HBF.out.size))
            have hro := ropen14_any E S ((cat md).length : Int) (r : Int) ra _ rc md (hms.below hbE) (fun x hx => (HFn.out x hx).2) (by have := cat_len md; have := HLN.out; simp; omega)
            have hln : (md.map toR).length = md.length := by simp
            rw [hln] at hro
            unfold RD RO at hro
            have HR14 := Lib.hid hro
            have e0 := hwE.cell 0
            have e1 := hwE.cell 1
            have e2 := hwE.cell 2
            clear hrw hms hbf hwE hbE hro HRO x0 x1 x2 x3 x4
            go_upto_region 33 with fail
            rw [← hE]
            try rw [hln]
            clear hE hln
            generalize (cat md).length = ld at *
            go_wp2_with fail
            refine HR14.out.mono ?_
            rintro e wg ⟨v3, v4, rfl, hri, hrj, hbg⟩
            obtain ⟨a3, c3, rfl, hl3⟩ := hri
            obtain ⟨a4, c4, rfl, hl4⟩ := hrj
            have HRI3 := Lib.hid (show RI wg (rep md) _ from ⟨a3, c3, rfl, hl3⟩)
            have HRJ3 := Lib.hid (show RJ wg (dep md) _ from ⟨a4, c4, rfl, hl4⟩)
            clear hl3 hl4
            generalize (rep md).length = n3 at *
            generalize (dep md).length = n4 at *
            have HMH := Lib.hid (HMG.out.kept (hbg.block _ HMG.out.lt))
            have HOH := Lib.hid (HOG.out.below hbg)
            have HBH := Lib.hid (HBG.out.trans (hbg.mono HBG.out.size))
            clear hbg e0 e1 e2 HR14
            have f0 := (HMH.out).free 0
            have f1 := (HMH.out).free 1
            have f2 := (HMH.out).free 2
            have f3 := (HMH.out).free 3
            have f4 := (HMH.out).free 4
            obtain ⟨y0, y1, y2, y3, y4⟩ := box5_of HMH.out
            obtain ⟨wy, hwz⟩ : ∃ wy, wy = ((((wg.setCell ⟨ob, 0, none⟩ (.string S)).setCell ⟨ob, 1, none⟩ (.int .i64 (ld : Int))).setCell ⟨ob, 2, none⟩ (.int .i64 (r : Int))).setCell ⟨ob, 3, none⟩ (.slice a3 n3 c3)).setCell ⟨ob, 4, none⟩ (.slice a4 n4 c4) := ⟨_, rfl⟩
            have HPZ := Lib.hid (PQ.store (W' := wy) HOH.out HMH.out HRI3.out HRJ3.out HBH.out HP8.out.ge hwz)
            go_wp2_with fail
            rw [← hwz]
            clear hwz
            go_meet
            exact ⟨go2, gl2, mb2, v2, row2, md, (ld : Int), S, .slice a3 n3 c3, .slice a4 n4 c4, rfl, HTs.out, HPZ.out⟩
        by_cases hk3 : kd = 3
        · skip
          subst hk3
          as_aux_lemma =>
            have HOP0 := Lib.hid (lopen_cat w.heap.size g v ms _ r X (show Lg X w.heap.size gl g v (cat ms) (cat ms).length r ms.length from HP8.out.os.log).disk HP8.out.os.fine)
            have HGD := Lib.hid (show ∃ cs, Whole X g 73 cs from ⟨_, (show Lg X w.heap.size gl g v (cat ms) (cat ms).length r ms.length from HP8.out.os.log).disk.blk⟩)
            have HGE0 := Lib.hid (show w.heap.size ≤ g from (show Lg X w.heap.size gl g v (cat ms) (cat ms).length r ms.length from HP8.out.os.log).disk.ge)
            go_wp2_with fail
            refine HOP0.out.mono ?_
            rintro e w5 ⟨gl5, ra, rc, v5, rfl, _, _, _, hls, _, _, _, ht⟩
            have hng : ∀ {k : Nat} {t : TypeId} {cs : Array Value}, Whole X k t cs → t ≠ 73 → Whole w5 k t cs := fun hk ht2 => by
              obtain ⟨ds, hd⟩ := HGD.out
              exact hk.kept (ht.block _ hk.lt (whole_ne hk hd ht2) (by simp))
            have HX5 := Lib.hid (hng HX8.out (by decide))
            have HM5 := Lib.hid (hng HP8.out.m (by decide))
            have HB5 := Lib.hid (HP8.out.b.trans (ht.below HGE0.out (by simp) HP8.out.b.size))
            have HL5 := Lib.hid hls
            have HWR := Lib.hid (lwrite_any w.heap.size gl5 g v5 ms (cat ms).length r (.agg #[.int .i64 m.kind, .int .i64 m.from_, .int .i64 m.«to», .int .i64 m.id, .int .i64 m.rev, .int .i64 m.epoch, .int .i64 m.slot, .bool m.flag, .slice na nn nc, .slice ma mn mc, .slice pa pn pc, .slice qa rn qc]) m w5 hls (msgin_up HMI.out HB5.out))
            have HSI := Lib.hid (show S.size ≤ 1048576 from by rw [HSZ.out]; have := HP8.out.bytes; omega)
            clear hls ht hng HOP0
            have m0 := HX5.out.cell 3
            have m1 := HX5.out.cell 4
            have m2 := HX5.out.cell 5
            have m3 := HX5.out.cell 6
            have m4 := HX5.out.cell 7
            have m5 := HX5.out.cell 8
            have m6 := HX5.out.cell 9
            have m7 := HX5.out.cell 10
            have m8 := HX5.out.cell 11
            have m9 := HX5.out.cell 12
            have m10 := HX5.out.cell 13
            have m11 := HX5.out.cell 14
            clear d0
            have d0 := HX5.out.cell 0
            go_wp2_with fail
            refine HWR.out.mono ?_
            rintro e w6 ⟨c6, rfl, ⟨rfl, hg, hfit, v6, hl6, hk6, _⟩ | ⟨hcc, hl6, hb6⟩⟩
            · skip
              have HG := Lib.hid hg
              have HFI := Lib.hid (show S.size + (rcd m).length ≤ r from by rw [HSZ.out]; exact hfit)
              have HX6 := Lib.hid (past_log HX5.out HL5.out hk6 (by decide) (by decide) (by decide))
              have HM6 := Lib.hid (past_log HM5.out HL5.out hk6 (by decide) (by decide) (by decide))
              have HB6 := Lib.hid (HB5.out.trans (Lg.below HL5.out hk6 HB5.out.size))
              have HL6 := Lib.hid hl6
              clear hg hfit hl6 hk6 HWR m0 m1 m2 m3 m4 m5 m6 m7 m8 m9 m10 m11 d0
              have m0 := HX6.out.cell 3
              have m1 := HX6.out.cell 4
              have m2 := HX6.out.cell 5
              have m3 := HX6.out.cell 6
              have m4 := HX6.out.cell 7
              have m5 := HX6.out.cell 8
              have m6 := HX6.out.cell 9
              have m7 := HX6.out.cell 10
              have m8 := HX6.out.cell 11
              have m9 := HX6.out.cell 12
              have m10 := HX6.out.cell 13
              have m11 := HX6.out.cell 14
              obtain ⟨x0, x1, x2, x3, x4⟩ := box5_of HM6.out
              have hra := radd_any (.agg #[.int .i64 m.kind, .int .i64 m.from_, .int .i64 m.«to», .int .i64 m.id, .int .i64 m.rev, .int .i64 m.epoch, .int .i64 m.slot, .bool m.flag, .slice na nn nc, .slice ma mn mc, .slice pa pn pc, .slice qa rn qc]) w6 m (msgin_up HMI.out HB6.out) HSM.out S d r HSI.out
              unfold RD at hra
              have HRA := Lib.hid hra
              clear hra
              go_wp2_with fail
              refine HRA.out.mono ?_
              rintro e wa ⟨⟨h1, h2, rfl⟩ | ⟨h1, h2, rfl⟩ | ⟨h1, rfl⟩, hba⟩
              · skip
                have HXA := Lib.hid (HX6.out.kept (hba.block _ HX6.out.lt))
                have HMA := Lib.hid (HM6.out.kept (hba.block _ HM6.out.lt))
                have HBA := Lib.hid (HB6.out.trans (hba.mono HB6.out.size))
                have HLA := Lib.hid (Lg.keep HL6.out hba)
                clear hba x0 x1 x2 x3 x4 m0 m1 m2 m3 m4 m5 m6 m7 m8 m9 m10 m11 HRA h1 h2
                unfold RD
                have HT := Lib.hid (show S ++ strOfNums (rcd m) = strOfNums (cat (ms ++ [m])) from by rw [HS.out, strs_cat])
                generalize S ++ strOfNums (rcd m) = T at *
                obtain ⟨E, hE, hwE, hbE⟩ := box_new wa 32 #[.string T, .int .i64 d, .int .i64 (r : Int)]
                have HME := Lib.hid (HMA.out.kept (hbE.block _ HMA.out.lt))
                have HBE := Lib.hid (HBA.out.trans (hbE.mono HBA.out.size))
                have HLE := Lib.hid (Lg.keep HLA.out hbE)
                have e0 := hwE.cell 0
                have e1 := hwE.cell 1
                have e2 := hwE.cell 2
                have hsy := rsync_any T d r E
                unfold RD at hsy
                have HSY := Lib.hid hsy
                clear hsy hwE hbE
                go_upto_region 29 with fail
                rw [← hE]
                clear hE
                go_wp2_with fail
                refine HSY.out.mono ?_
                rintro e w8 ⟨rfl, hb8⟩
                have HM8 := Lib.hid (HME.out.kept (hb8.block _ HME.out.lt))
                have HB8 := Lib.hid (HBE.out.trans (hb8.mono HBE.out.size))
                have HL8 := Lib.hid (Lg.keep HLE.out hb8)
                clear hb8 e0 e1 e2 HSY
                obtain ⟨y0, y1, y2, y3, y4⟩ := box5_of HM8.out
                have f0 := HM8.out.free 0
                have f1 := HM8.out.free 1
                have f2 := HM8.out.free 2
                obtain ⟨wz, hwz⟩ : ∃ wz, wz = ((w8.setCell ⟨ob, 0, none⟩ (.string T)).setCell ⟨ob, 1, none⟩ (.int .i64 (T.size : Int))).setCell ⟨ob, 2, none⟩ (.int .i64 (r : Int)) := ⟨_, rfl⟩
                have HMw := Lib.hid (show Whole wz ob 36 #[.string T, .int .i64 (T.size : Int), .int .i64 (r : Int), .slice a1 n1 c1, .slice a2 n2 c2] from by rw [hwz]; exact ((HM8.out.store 0 _).store 1 _).store 2 _)
                have hcz : Chg w8 wz (fun k => k = ob) := by rw [hwz]; exact ((((Chg.refl w8 (fun k => k = ob)).set (b := ob) rfl 0 _).set (b := ob) rfl 1 _).set (b := ob) rfl 2 _)
                have HLg := Lib.hid (lg_one HL8.out HM8.out (by decide) (by decide) (by decide) hcz)
                have HBw := Lib.hid (show Below w.heap.size w wz from (Chg.trans (Chg.ofBelow (fun k => k = ob) HB8.out) hcz).below (fun k hk => by have h3 : k = ob := hk; have := HP8.out.ge; omega) (Nat.le_refl _))
                clear hcz
                go_upto_region 30 with fail
                rw [← hwz]
                clear hwz y0 y1 y2 y3 y4 f0 f1 f2
                have HFn := Lib.hid (show ∀ x ∈ ms ++ [m], x.fine from fun x hx => by
                  rcases List.mem_append.1 hx with h | h
                  · exact HP8.out.os.fine x h
                  · rw [List.mem_singleton] at h
                    rw [h]
                    obtain ⟨_, _, _, _, _, _, _, _, _, _, _, _, hma⟩ := HMI.out
                    exact ⟨HG.out, hma.in64⟩)
                have HTs := HT
                have HLg := Lib.hid (show Ls wz w.heap.size gl5 g v6 (ms ++ [m]) (cat (ms ++ [m])).length r from HLg.out)
                obtain ⟨md, hmd⟩ : ∃ md, md = ms ++ [m] := ⟨_, rfl⟩
                rw [← hmd] at HLg HFn HTs
                clear hmd
                have HCR := Lib.hid (Dk.crash_any 0 wz (show Lg wz w.heap.size gl5 g v6 (cat md) (cat md).length r md.length from HLg.out).disk (by omega))
                go_wp2_with fail
                refine HCR.out.mono ?_
                rintro e wc ⟨rfl, vc, hdc, htc, _⟩
                have hle : Dk.left (cat md).length (cat md).length 0 = (cat md).length := by unfold Dk.left; simp
                rw [hle, List.take_length] at hdc
                have hgd : Whole wz g 73 _ := (show Lg wz w.heap.size gl5 g v6 (cat md) (cat md).length r md.length from HLg.out).disk.blk
                have HMC := Lib.hid (HMw.out.kept (htc.block _ HMw.out.lt (whole_ne HMw.out hgd (by decide)) (by simp)))
                have HGE := Lib.hid (show w.heap.size ≤ g from (show Lg wz w.heap.size gl5 g v6 (cat md) (cat md).length r md.length from HLg.out).disk.ge)
                have HBC := Lib.hid (HBw.out.trans (htc.below HGE.out (by simp) HBw.out.size))
                have HOP := Lib.hid (opened_any wc _ hdc HFn.out HBC.out.size)
                have HGW := Lib.hid (show ∃ cs, Whole wc g 73 cs from ⟨_, hdc.blk⟩)
                clear hdc htc hle hgd HCR
                go_wp2_with fail
                refine HOP.out.mono ?_
                rintro e we ⟨go2, gl2, mb2, v2, row2, rfl, hos, hch, _⟩
                have HOE := Lib.hid hos
                have HME := Lib.hid (HMC.out.kept (hch.block _ HMC.out.lt (fun e2 => by
                  obtain ⟨cs, hcs⟩ := HGW.out
                  exact whole_ne HMC.out hcs (by decide) e2)))
                have HBE := Lib.hid (HBC.out.trans (hch.below (fun k hk => by have h3 : k = g := hk; have := HGE.out; omega) HBC.out.size))
                clear hos hch HOP
                have hlg : Lg we w.heap.size gl2 g v2 (cat md) (cat md).length r md.length := HOE.out.log
                have HBY := Lib.hid (show Byt (cat md) from hlg.disk.byte)
                have HLN := Lib.hid (show (cat md).length ≤ r ∧ r ≤ 1048576 from ⟨hlg.disk.hr, hlg.disk.hm⟩)
                have HRC := Lib.hid (recs_cat md HFn.out)
                have hro := ropen_any (cat md) (T.size : Int) (r : Int) we HBY.out (by have := HLN.out; omega)
                rw [HRC.out, ← HTs.out] at hro
                have HTK := Lib.hid (show strOfNums ((cat md).take (cat md).length) = T from by rw [List.take_length]; exact HTs.out.symm)
                simp only [HTK.out] at hro
                unfold RD at hro
                have HRO := Lib.hid hro
                clear hlg hro
                obtain ⟨x0, x1, x2, x3, x4⟩ := box5_of HME.out
                go_wp2_with fail
                refine HRO.out.mono ?_
                rintro e wf ⟨rv, rfl, hrw, hbf⟩
                obtain ⟨ra, rc, rfl, _, _⟩ := hrw.slice
                have hms := rows_msgs hrw
                rw [map_unR] at hms
                have HMF := Lib.hid (HME.out.kept (hbf.block _ HME.out.lt))
                have HOF := Lib.hid (HOE.out.below hbf)
                have HBF := Lib.hid (HBE.out.trans (hbf.mono HBE.out.size))
                obtain ⟨E, hE, hwE, hbE⟩ := box_new wf 32 #[.string T, .int .i64 ((cat md).length : Int), .int .i64 (r : Int)]
                have HMG := Lib.hid (HMF.out.kept (hbE.block _ HMF.out.lt))
                have HOG := Lib.hid (HOF.out.below hbE)
                have HBG := Lib.hid (HBF.out.trans (hbE.mono HBF.out.size))
                have hro := ropen14_any E T ((cat md).length : Int) (r : Int) ra _ rc md (hms.below hbE) (fun x hx => (HFn.out x hx).2) (by have := cat_len md; have := HLN.out; simp; omega)
                have hln : (md.map toR).length = md.length := by simp
                rw [hln] at hro
                unfold RD RO at hro
                have HR14 := Lib.hid hro
                have e0 := hwE.cell 0
                have e1 := hwE.cell 1
                have e2 := hwE.cell 2
                clear hrw hms hbf hwE hbE hro HRO x0 x1 x2 x3 x4
                go_upto_region 33 with fail
                rw [← hE]
                try rw [hln]
                clear hE hln
                generalize (cat md).length = ld at *
                go_wp2_with fail
                refine HR14.out.mono ?_
                rintro e wg ⟨v3, v4, rfl, hri, hrj, hbg⟩
                obtain ⟨a3, c3, rfl, hl3⟩ := hri
                obtain ⟨a4, c4, rfl, hl4⟩ := hrj
                have HRI3 := Lib.hid (show RI wg (rep md) _ from ⟨a3, c3, rfl, hl3⟩)
                have HRJ3 := Lib.hid (show RJ wg (dep md) _ from ⟨a4, c4, rfl, hl4⟩)
                clear hl3 hl4
                generalize (rep md).length = n3 at *
                generalize (dep md).length = n4 at *
                have HMH := Lib.hid (HMG.out.kept (hbg.block _ HMG.out.lt))
                have HOH := Lib.hid (HOG.out.below hbg)
                have HBH := Lib.hid (HBG.out.trans (hbg.mono HBG.out.size))
                clear hbg e0 e1 e2 HR14
                have f0 := (HMH.out).free 0
                have f1 := (HMH.out).free 1
                have f2 := (HMH.out).free 2
                have f3 := (HMH.out).free 3
                have f4 := (HMH.out).free 4
                obtain ⟨y0, y1, y2, y3, y4⟩ := box5_of HMH.out
                obtain ⟨wy, hwz⟩ : ∃ wy, wy = ((((wg.setCell ⟨ob, 0, none⟩ (.string T)).setCell ⟨ob, 1, none⟩ (.int .i64 (ld : Int))).setCell ⟨ob, 2, none⟩ (.int .i64 (r : Int))).setCell ⟨ob, 3, none⟩ (.slice a3 n3 c3)).setCell ⟨ob, 4, none⟩ (.slice a4 n4 c4) := ⟨_, rfl⟩
                have HPZ := Lib.hid (PQ.store (W' := wy) HOH.out HMH.out HRI3.out HRJ3.out HBH.out HP8.out.ge hwz)
                go_wp2_with fail
                rw [← hwz]
                clear hwz
                go_meet
                exact ⟨go2, gl2, mb2, v2, row2, md, (ld : Int), T, .slice a3 n3 c3, .slice a4 n4 c4, rfl, HTs.out, HPZ.out⟩
              · exact absurd HFI.out (by omega)
              · exact absurd HG.out h1
            · skip
              have HNF := Lib.hid (show ¬ (m.good ∧ S.size + (rcd m).length ≤ r) from by
                rw [HSZ.out]
                rintro ⟨h1, h2⟩
                rcases hcc with ⟨_, _, h3⟩ | ⟨_, h3⟩
                · omega
                · exact h3 h1)
              have HX6 := Lib.hid (HX5.out.kept (hb6.block _ HX5.out.lt))
              have HM6 := Lib.hid (HM5.out.kept (hb6.block _ HM5.out.lt))
              have HB6 := Lib.hid (HB5.out.trans (hb6.mono HB5.out.size))
              have HL6 := Lib.hid hl6
              clear hcc hl6 hb6 HWR m0 m1 m2 m3 m4 m5 m6 m7 m8 m9 m10 m11 d0
              have m0 := HX6.out.cell 3
              have m1 := HX6.out.cell 4
              have m2 := HX6.out.cell 5
              have m3 := HX6.out.cell 6
              have m4 := HX6.out.cell 7
              have m5 := HX6.out.cell 8
              have m6 := HX6.out.cell 9
              have m7 := HX6.out.cell 10
              have m8 := HX6.out.cell 11
              have m9 := HX6.out.cell 12
              have m10 := HX6.out.cell 13
              have m11 := HX6.out.cell 14
              obtain ⟨x0, x1, x2, x3, x4⟩ := box5_of HM6.out
              have hra := radd_any (.agg #[.int .i64 m.kind, .int .i64 m.from_, .int .i64 m.«to», .int .i64 m.id, .int .i64 m.rev, .int .i64 m.epoch, .int .i64 m.slot, .bool m.flag, .slice na nn nc, .slice ma mn mc, .slice pa pn pc, .slice qa rn qc]) w6 m (msgin_up HMI.out HB6.out) HSM.out S d r HSI.out
              unfold RD at hra
              have HRA := Lib.hid hra
              clear hra
              go_wp2_with fail
              refine HRA.out.mono ?_
              rintro e wa ⟨⟨h1, h2, rfl⟩ | ⟨h1, h2, rfl⟩ | ⟨h1, rfl⟩, hba⟩
              · exact absurd ⟨h1, h2⟩ HNF.out
              · skip
                have HXA := Lib.hid (HX6.out.kept (hba.block _ HX6.out.lt))
                have HMA := Lib.hid (HM6.out.kept (hba.block _ HM6.out.lt))
                have HBA := Lib.hid (HB6.out.trans (hba.mono HB6.out.size))
                have HLA := Lib.hid (Lg.keep HL6.out hba)
                clear hba x0 x1 x2 x3 x4 m0 m1 m2 m3 m4 m5 m6 m7 m8 m9 m10 m11 HRA h1 h2
                unfold RD
                obtain ⟨E, hE, hwE, hbE⟩ := box_new wa 32 #[.string S, .int .i64 d, .int .i64 (r : Int)]
                have HME := Lib.hid (HMA.out.kept (hbE.block _ HMA.out.lt))
                have HBE := Lib.hid (HBA.out.trans (hbE.mono HBA.out.size))
                have HLE := Lib.hid (Lg.keep HLA.out hbE)
                have e0 := hwE.cell 0
                have e1 := hwE.cell 1
                have e2 := hwE.cell 2
                have hsy := rsync_any S d r E
                unfold RD at hsy
                have HSY := Lib.hid hsy
                clear hsy hwE hbE
                go_upto_region 29 with fail
                rw [← hE]
                clear hE
                go_wp2_with fail
                refine HSY.out.mono ?_
                rintro e w8 ⟨rfl, hb8⟩
                have HM8 := Lib.hid (HME.out.kept (hb8.block _ HME.out.lt))
                have HB8 := Lib.hid (HBE.out.trans (hb8.mono HBE.out.size))
                have HL8 := Lib.hid (Lg.keep HLE.out hb8)
                clear hb8 e0 e1 e2 HSY
                obtain ⟨y0, y1, y2, y3, y4⟩ := box5_of HM8.out
                have f0 := HM8.out.free 0
                have f1 := HM8.out.free 1
                have f2 := HM8.out.free 2
                obtain ⟨wz, hwz⟩ : ∃ wz, wz = ((w8.setCell ⟨ob, 0, none⟩ (.string S)).setCell ⟨ob, 1, none⟩ (.int .i64 (S.size : Int))).setCell ⟨ob, 2, none⟩ (.int .i64 (r : Int)) := ⟨_, rfl⟩
                have HMw := Lib.hid (show Whole wz ob 36 #[.string S, .int .i64 (S.size : Int), .int .i64 (r : Int), .slice a1 n1 c1, .slice a2 n2 c2] from by rw [hwz]; exact ((HM8.out.store 0 _).store 1 _).store 2 _)
                have hcz : Chg w8 wz (fun k => k = ob) := by rw [hwz]; exact ((((Chg.refl w8 (fun k => k = ob)).set (b := ob) rfl 0 _).set (b := ob) rfl 1 _).set (b := ob) rfl 2 _)
                have HLg := Lib.hid (lg_one HL8.out HM8.out (by decide) (by decide) (by decide) hcz)
                have HBw := Lib.hid (show Below w.heap.size w wz from (Chg.trans (Chg.ofBelow (fun k => k = ob) HB8.out) hcz).below (fun k hk => by have h3 : k = ob := hk; have := HP8.out.ge; omega) (Nat.le_refl _))
                clear hcz
                go_upto_region 30 with fail
                rw [← hwz]
                clear hwz y0 y1 y2 y3 y4 f0 f1 f2
                have HFn := Lib.hid HP8.out.os.fine
                have HTs := HS
                have HLg := Lib.hid (show Ls wz w.heap.size gl5 g v5 (ms) (cat (ms)).length r from HLg.out)
                obtain ⟨md, hmd⟩ : ∃ md, md = ms := ⟨_, rfl⟩
                rw [← hmd] at HLg HFn HTs
                clear hmd
                have HCR := Lib.hid (Dk.crash_any 0 wz (show Lg wz w.heap.size gl5 g v5 (cat md) (cat md).length r md.length from HLg.out).disk (by omega))
                go_wp2_with fail
                refine HCR.out.mono ?_
                rintro e wc ⟨rfl, vc, hdc, htc, _⟩
                have hle : Dk.left (cat md).length (cat md).length 0 = (cat md).length := by unfold Dk.left; simp
                rw [hle, List.take_length] at hdc
                have hgd : Whole wz g 73 _ := (show Lg wz w.heap.size gl5 g v5 (cat md) (cat md).length r md.length from HLg.out).disk.blk
                have HMC := Lib.hid (HMw.out.kept (htc.block _ HMw.out.lt (whole_ne HMw.out hgd (by decide)) (by simp)))
                have HGE := Lib.hid (show w.heap.size ≤ g from (show Lg wz w.heap.size gl5 g v5 (cat md) (cat md).length r md.length from HLg.out).disk.ge)
                have HBC := Lib.hid (HBw.out.trans (htc.below HGE.out (by simp) HBw.out.size))
                have HOP := Lib.hid (opened_any wc _ hdc HFn.out HBC.out.size)
                have HGW := Lib.hid (show ∃ cs, Whole wc g 73 cs from ⟨_, hdc.blk⟩)
                clear hdc htc hle hgd HCR
                go_wp2_with fail
                refine HOP.out.mono ?_
                rintro e we ⟨go2, gl2, mb2, v2, row2, rfl, hos, hch, _⟩
                have HOE := Lib.hid hos
                have HME := Lib.hid (HMC.out.kept (hch.block _ HMC.out.lt (fun e2 => by
                  obtain ⟨cs, hcs⟩ := HGW.out
                  exact whole_ne HMC.out hcs (by decide) e2)))
                have HBE := Lib.hid (HBC.out.trans (hch.below (fun k hk => by have h3 : k = g := hk; have := HGE.out; omega) HBC.out.size))
                clear hos hch HOP
                have hlg : Lg we w.heap.size gl2 g v2 (cat md) (cat md).length r md.length := HOE.out.log
                have HBY := Lib.hid (show Byt (cat md) from hlg.disk.byte)
                have HLN := Lib.hid (show (cat md).length ≤ r ∧ r ≤ 1048576 from ⟨hlg.disk.hr, hlg.disk.hm⟩)
                have HRC := Lib.hid (recs_cat md HFn.out)
                have hro := ropen_any (cat md) (S.size : Int) (r : Int) we HBY.out (by have := HLN.out; omega)
                rw [HRC.out, ← HTs.out] at hro
                have HTK := Lib.hid (show strOfNums ((cat md).take (cat md).length) = S from by rw [List.take_length]; exact HTs.out.symm)
                simp only [HTK.out] at hro
                unfold RD at hro
                have HRO := Lib.hid hro
                clear hlg hro
                obtain ⟨x0, x1, x2, x3, x4⟩ := box5_of HME.out
                go_wp2_with fail
                refine HRO.out.mono ?_
                rintro e wf ⟨rv, rfl, hrw, hbf⟩
                obtain ⟨ra, rc, rfl, _, _⟩ := hrw.slice
                have hms := rows_msgs hrw
                rw [map_unR] at hms
                have HMF := Lib.hid (HME.out.kept (hbf.block _ HME.out.lt))
                have HOF := Lib.hid (HOE.out.below hbf)
                have HBF := Lib.hid (HBE.out.trans (hbf.mono HBE.out.size))
                obtain ⟨E, hE, hwE, hbE⟩ := box_new wf 32 #[.string S, .int .i64 ((cat md).length : Int), .int .i64 (r : Int)]
                have HMG := Lib.hid (HMF.out.kept (hbE.block _ HMF.out.lt))
                have HOG := Lib.hid (HOF.out.below hbE)
                have HBG := Lib.hid (HBF.out.trans (hbE.mono HBF.out.size))
                have hro := ropen14_any E S ((cat md).length : Int) (r : Int) ra _ rc md (hms.below hbE) (fun x hx => (HFn.out x hx).2) (by have := cat_len md; have := HLN.out; simp; omega)
                have hln : (md.map toR).length = md.length := by simp
                rw [hln] at hro
                unfold RD RO at hro
                have HR14 := Lib.hid hro
                have e0 := hwE.cell 0
                have e1 := hwE.cell 1
                have e2 := hwE.cell 2
                clear hrw hms hbf hwE hbE hro HRO x0 x1 x2 x3 x4
                go_upto_region 33 with fail
                rw [← hE]
                try rw [hln]
                clear hE hln
                generalize (cat md).length = ld at *
                go_wp2_with fail
                refine HR14.out.mono ?_
                rintro e wg ⟨v3, v4, rfl, hri, hrj, hbg⟩
                obtain ⟨a3, c3, rfl, hl3⟩ := hri
                obtain ⟨a4, c4, rfl, hl4⟩ := hrj
                have HRI3 := Lib.hid (show RI wg (rep md) _ from ⟨a3, c3, rfl, hl3⟩)
                have HRJ3 := Lib.hid (show RJ wg (dep md) _ from ⟨a4, c4, rfl, hl4⟩)
                clear hl3 hl4
                generalize (rep md).length = n3 at *
                generalize (dep md).length = n4 at *
                have HMH := Lib.hid (HMG.out.kept (hbg.block _ HMG.out.lt))
                have HOH := Lib.hid (HOG.out.below hbg)
                have HBH := Lib.hid (HBG.out.trans (hbg.mono HBG.out.size))
                clear hbg e0 e1 e2 HR14
                have f0 := (HMH.out).free 0
                have f1 := (HMH.out).free 1
                have f2 := (HMH.out).free 2
                have f3 := (HMH.out).free 3
                have f4 := (HMH.out).free 4
                obtain ⟨y0, y1, y2, y3, y4⟩ := box5_of HMH.out
                obtain ⟨wy, hwz⟩ : ∃ wy, wy = ((((wg.setCell ⟨ob, 0, none⟩ (.string S)).setCell ⟨ob, 1, none⟩ (.int .i64 (ld : Int))).setCell ⟨ob, 2, none⟩ (.int .i64 (r : Int))).setCell ⟨ob, 3, none⟩ (.slice a3 n3 c3)).setCell ⟨ob, 4, none⟩ (.slice a4 n4 c4) := ⟨_, rfl⟩
                have HPZ := Lib.hid (PQ.store (W' := wy) HOH.out HMH.out HRI3.out HRJ3.out HBH.out HP8.out.ge hwz)
                go_wp2_with fail
                rw [← hwz]
                clear hwz
                go_meet
                exact ⟨go2, gl2, mb2, v2, row2, md, (ld : Int), S, .slice a3 n3 c3, .slice a4 n4 c4, rfl, HTs.out, HPZ.out⟩
              · skip
                have HXA := Lib.hid (HX6.out.kept (hba.block _ HX6.out.lt))
                have HMA := Lib.hid (HM6.out.kept (hba.block _ HM6.out.lt))
                have HBA := Lib.hid (HB6.out.trans (hba.mono HB6.out.size))
                have HLA := Lib.hid (Lg.keep HL6.out hba)
                clear hba x0 x1 x2 x3 x4 m0 m1 m2 m3 m4 m5 m6 m7 m8 m9 m10 m11 HRA h1
                unfold RD
                obtain ⟨E, hE, hwE, hbE⟩ := box_new wa 32 #[.string S, .int .i64 d, .int .i64 (r : Int)]
                have HME := Lib.hid (HMA.out.kept (hbE.block _ HMA.out.lt))
                have HBE := Lib.hid (HBA.out.trans (hbE.mono HBA.out.size))
                have HLE := Lib.hid (Lg.keep HLA.out hbE)
                have e0 := hwE.cell 0
                have e1 := hwE.cell 1
                have e2 := hwE.cell 2
                have hsy := rsync_any S d r E
                unfold RD at hsy
                have HSY := Lib.hid hsy
                clear hsy hwE hbE
                go_upto_region 29 with fail
                rw [← hE]
                clear hE
                go_wp2_with fail
                refine HSY.out.mono ?_
                rintro e w8 ⟨rfl, hb8⟩
                have HM8 := Lib.hid (HME.out.kept (hb8.block _ HME.out.lt))
                have HB8 := Lib.hid (HBE.out.trans (hb8.mono HBE.out.size))
                have HL8 := Lib.hid (Lg.keep HLE.out hb8)
                clear hb8 e0 e1 e2 HSY
                obtain ⟨y0, y1, y2, y3, y4⟩ := box5_of HM8.out
                have f0 := HM8.out.free 0
                have f1 := HM8.out.free 1
                have f2 := HM8.out.free 2
                obtain ⟨wz, hwz⟩ : ∃ wz, wz = ((w8.setCell ⟨ob, 0, none⟩ (.string S)).setCell ⟨ob, 1, none⟩ (.int .i64 (S.size : Int))).setCell ⟨ob, 2, none⟩ (.int .i64 (r : Int)) := ⟨_, rfl⟩
                have HMw := Lib.hid (show Whole wz ob 36 #[.string S, .int .i64 (S.size : Int), .int .i64 (r : Int), .slice a1 n1 c1, .slice a2 n2 c2] from by rw [hwz]; exact ((HM8.out.store 0 _).store 1 _).store 2 _)
                have hcz : Chg w8 wz (fun k => k = ob) := by rw [hwz]; exact ((((Chg.refl w8 (fun k => k = ob)).set (b := ob) rfl 0 _).set (b := ob) rfl 1 _).set (b := ob) rfl 2 _)
                have HLg := Lib.hid (lg_one HL8.out HM8.out (by decide) (by decide) (by decide) hcz)
                have HBw := Lib.hid (show Below w.heap.size w wz from (Chg.trans (Chg.ofBelow (fun k => k = ob) HB8.out) hcz).below (fun k hk => by have h3 : k = ob := hk; have := HP8.out.ge; omega) (Nat.le_refl _))
                clear hcz
                go_upto_region 30 with fail
                rw [← hwz]
                clear hwz y0 y1 y2 y3 y4 f0 f1 f2
                have HFn := Lib.hid HP8.out.os.fine
                have HTs := HS
                have HLg := Lib.hid (show Ls wz w.heap.size gl5 g v5 (ms) (cat (ms)).length r from HLg.out)
                obtain ⟨md, hmd⟩ : ∃ md, md = ms := ⟨_, rfl⟩
                rw [← hmd] at HLg HFn HTs
                clear hmd
                have HCR := Lib.hid (Dk.crash_any 0 wz (show Lg wz w.heap.size gl5 g v5 (cat md) (cat md).length r md.length from HLg.out).disk (by omega))
                go_wp2_with fail
                refine HCR.out.mono ?_
                rintro e wc ⟨rfl, vc, hdc, htc, _⟩
                have hle : Dk.left (cat md).length (cat md).length 0 = (cat md).length := by unfold Dk.left; simp
                rw [hle, List.take_length] at hdc
                have hgd : Whole wz g 73 _ := (show Lg wz w.heap.size gl5 g v5 (cat md) (cat md).length r md.length from HLg.out).disk.blk
                have HMC := Lib.hid (HMw.out.kept (htc.block _ HMw.out.lt (whole_ne HMw.out hgd (by decide)) (by simp)))
                have HGE := Lib.hid (show w.heap.size ≤ g from (show Lg wz w.heap.size gl5 g v5 (cat md) (cat md).length r md.length from HLg.out).disk.ge)
                have HBC := Lib.hid (HBw.out.trans (htc.below HGE.out (by simp) HBw.out.size))
                have HOP := Lib.hid (opened_any wc _ hdc HFn.out HBC.out.size)
                have HGW := Lib.hid (show ∃ cs, Whole wc g 73 cs from ⟨_, hdc.blk⟩)
                clear hdc htc hle hgd HCR
                go_wp2_with fail
                refine HOP.out.mono ?_
                rintro e we ⟨go2, gl2, mb2, v2, row2, rfl, hos, hch, _⟩
                have HOE := Lib.hid hos
                have HME := Lib.hid (HMC.out.kept (hch.block _ HMC.out.lt (fun e2 => by
                  obtain ⟨cs, hcs⟩ := HGW.out
                  exact whole_ne HMC.out hcs (by decide) e2)))
                have HBE := Lib.hid (HBC.out.trans (hch.below (fun k hk => by have h3 : k = g := hk; have := HGE.out; omega) HBC.out.size))
                clear hos hch HOP
                have hlg : Lg we w.heap.size gl2 g v2 (cat md) (cat md).length r md.length := HOE.out.log
                have HBY := Lib.hid (show Byt (cat md) from hlg.disk.byte)
                have HLN := Lib.hid (show (cat md).length ≤ r ∧ r ≤ 1048576 from ⟨hlg.disk.hr, hlg.disk.hm⟩)
                have HRC := Lib.hid (recs_cat md HFn.out)
                have hro := ropen_any (cat md) (S.size : Int) (r : Int) we HBY.out (by have := HLN.out; omega)
                rw [HRC.out, ← HTs.out] at hro
                have HTK := Lib.hid (show strOfNums ((cat md).take (cat md).length) = S from by rw [List.take_length]; exact HTs.out.symm)
                simp only [HTK.out] at hro
                unfold RD at hro
                have HRO := Lib.hid hro
                clear hlg hro
                obtain ⟨x0, x1, x2, x3, x4⟩ := box5_of HME.out
                go_wp2_with fail
                refine HRO.out.mono ?_
                rintro e wf ⟨rv, rfl, hrw, hbf⟩
                obtain ⟨ra, rc, rfl, _, _⟩ := hrw.slice
                have hms := rows_msgs hrw
                rw [map_unR] at hms
                have HMF := Lib.hid (HME.out.kept (hbf.block _ HME.out.lt))
                have HOF := Lib.hid (HOE.out.below hbf)
                have HBF := Lib.hid (HBE.out.trans (hbf.mono HBE.out.size))
                obtain ⟨E, hE, hwE, hbE⟩ := box_new wf 32 #[.string S, .int .i64 ((cat md).length : Int), .int .i64 (r : Int)]
                have HMG := Lib.hid (HMF.out.kept (hbE.block _ HMF.out.lt))
                have HOG := Lib.hid (HOF.out.below hbE)
                have HBG := Lib.hid (HBF.out.trans (hbE.mono HBF.out.size))
                have hro := ropen14_any E S ((cat md).length : Int) (r : Int) ra _ rc md (hms.below hbE) (fun x hx => (HFn.out x hx).2) (by have := cat_len md; have := HLN.out; simp; omega)
                have hln : (md.map toR).length = md.length := by simp
                rw [hln] at hro
                unfold RD RO at hro
                have HR14 := Lib.hid hro
                have e0 := hwE.cell 0
                have e1 := hwE.cell 1
                have e2 := hwE.cell 2
                clear hrw hms hbf hwE hbE hro HRO x0 x1 x2 x3 x4
                go_upto_region 33 with fail
                rw [← hE]
                try rw [hln]
                clear hE hln
                generalize (cat md).length = ld at *
                go_wp2_with fail
                refine HR14.out.mono ?_
                rintro e wg ⟨v3, v4, rfl, hri, hrj, hbg⟩
                obtain ⟨a3, c3, rfl, hl3⟩ := hri
                obtain ⟨a4, c4, rfl, hl4⟩ := hrj
                have HRI3 := Lib.hid (show RI wg (rep md) _ from ⟨a3, c3, rfl, hl3⟩)
                have HRJ3 := Lib.hid (show RJ wg (dep md) _ from ⟨a4, c4, rfl, hl4⟩)
                clear hl3 hl4
                generalize (rep md).length = n3 at *
                generalize (dep md).length = n4 at *
                have HMH := Lib.hid (HMG.out.kept (hbg.block _ HMG.out.lt))
                have HOH := Lib.hid (HOG.out.below hbg)
                have HBH := Lib.hid (HBG.out.trans (hbg.mono HBG.out.size))
                clear hbg e0 e1 e2 HR14
                have f0 := (HMH.out).free 0
                have f1 := (HMH.out).free 1
                have f2 := (HMH.out).free 2
                have f3 := (HMH.out).free 3
                have f4 := (HMH.out).free 4
                obtain ⟨y0, y1, y2, y3, y4⟩ := box5_of HMH.out
                obtain ⟨wy, hwz⟩ : ∃ wy, wy = ((((wg.setCell ⟨ob, 0, none⟩ (.string S)).setCell ⟨ob, 1, none⟩ (.int .i64 (ld : Int))).setCell ⟨ob, 2, none⟩ (.int .i64 (r : Int))).setCell ⟨ob, 3, none⟩ (.slice a3 n3 c3)).setCell ⟨ob, 4, none⟩ (.slice a4 n4 c4) := ⟨_, rfl⟩
                have HPZ := Lib.hid (PQ.store (W' := wy) HOH.out HMH.out HRI3.out HRJ3.out HBH.out HP8.out.ge hwz)
                go_wp2_with fail
                rw [← hwz]
                clear hwz
                go_meet
                exact ⟨go2, gl2, mb2, v2, row2, md, (ld : Int), S, .slice a3 n3 c3, .slice a4 n4 c4, rfl, HTs.out, HPZ.out⟩
        have e0 : (kd == 0) = false := by simpa using hk0
        have e1 : (kd == 1) = false := by simpa using hk1
        have e2 : (kd == 2) = false := by simpa using hk2
        have e3 : (kd == 3) = false := by simpa using hk3
        clear hk0 hk1 hk2 hk3
        go_wp2_with fail
        go_meet
        exact ⟨go, gl, mb, v, row, ms, d, S, .slice a1 n1 c1, .slice a2 n2 c2, rfl, HS.out, HP8.out⟩
      case rest =>
        as_aux_lemma =>
          clear HP8 HX8 HS HSZ d0 HMI HSM HFR HID
          obtain ⟨go5, gl5, mb5, v5, row5, ms5, d5, T, iv5, dv5, rfl, hT, hp5⟩ := hcut
          have HP5 := Lib.hid hp5
          have HT := Lib.hid hT
          have hTT : (T.toList == T.toList) = true := by simp
          have hTN : (T.toList != T.toList) = false := by simp
          have hdq := hp5.dq
          have hfw := hp5.few
          have hnl := Nat.le_trans hdq.nl hfw
          have hnm := Nat.le_trans hdq.nm hfw
          have hla := fun V (h : PQ w V ob g r go5 gl5 mb5 v5 row5 ms5 d5 T iv5 dv5) => rlast_any V T d5 (r : Int) iv5 dv5 (rep ms5) h.ri hnl
          have hcl := fun V (h : PQ w V ob g r go5 gl5 mb5 v5 row5 ms5 d5 T iv5 dv5) => rclosed_any V T d5 (r : Int) iv5 dv5 (rep ms5) (dep ms5) h.ri h.rj hnl hnm hdq.rise hdq.dn
          have hpe := fun V (h : PQ w V ob g r go5 gl5 mb5 v5 row5 ms5 d5 T iv5 dv5) => rpend_any V T d5 (r : Int) iv5 dv5 (rep ms5) (dep ms5) h.ri h.rj hnl hnm hdq.rise hdq.dn
          unfold RO at hla hcl hpe
          have HLA := Lib.hid hla
          have HCL := Lib.hid hcl
          have HPE := Lib.hid hpe
          have HPN := Lib.hid (show (pend (rep ms5)).length ≤ 9223372036854775806 by have := pend_le (rep ms5); omega)
          clear hT hp5 hdq hfw hnl hnm hla hcl hpe
          go_upto_region 34 with fail
          refine wp_region_held_drew (S := fun V => PQ w V ob g r go5 gl5 mb5 v5 row5 ms5 d5 T iv5 dv5 ∧ Box5 V ob T d5 (r : Int) iv5 dv5) (by kernel_rfl) ⟨HP5.out.below (below_drewN _ 1), box5_of (HP5.out.below (below_drewN _ 1)).m⟩ (fun hHeld => ?_)
          refine wpAnyH_take (i := 0) (oi := { dst := Option.some 134, op := Go.Op.move (Go.Operand.tmp 7), type := 29, pos := "law.go:111", after := #[], guard := Option.none }) (v := ?_) rfl (by kernel_rfl) (by kernel_rfl) (by kernel_rfl) (fun _ _ _ h => h) (Or.inl ⟨by rfl, ?_⟩) (by assumption) ?_
          rotate_left
          · intro w hSw; (try dsimp only at hSw); go_simp; all_goals (with_reducible rfl)
          try simp only [Act.put, List.setIfInBounds_toArray, List.set_cons_zero, List.set_cons_succ]
          refine wpAnyH_take (i := 1) (oi := { dst := Option.some 135, op := Go.Op.binOp Go.BinOp.eql 29 (Go.Operand.tmp 134) (Go.Operand.const (Go.Value.pointer Option.none)) 29, type := 4, pos := "law.go:111", after := #[{ on := 0, ground := Go.Ground.data }], guard := Option.none }) (v := ?_) rfl (by kernel_rfl) (by kernel_rfl) (by kernel_rfl) (fun _ _ _ h => h) (Or.inl ⟨by rfl, ?_⟩) (by assumption) ?_
          rotate_left
          · intro w hSw; (try dsimp only at hSw); go_simp; all_goals (with_reducible rfl)
          try simp only [Act.put, List.setIfInBounds_toArray, List.set_cons_zero, List.set_cons_succ]
          refine wpAnyH_take (i := 2) (oi := { dst := Option.some 136, op := Go.Op.move (Go.Operand.tmp 135), type := 4, pos := "law.go:111", after := #[{ on := 1, ground := Go.Ground.data }], guard := Option.none }) (v := ?_) rfl (by kernel_rfl) (by kernel_rfl) (by kernel_rfl) (fun _ _ _ h => h) (Or.inl ⟨by rfl, ?_⟩) (by assumption) ?_
          rotate_left
          · intro w hSw; (try dsimp only at hSw); go_simp; all_goals (with_reducible rfl)
          try simp only [Act.put, List.setIfInBounds_toArray, List.set_cons_zero, List.set_cons_succ]
          refine wpAnyH_take (i := 3) (oi := { dst := Option.some 137, op := Go.Op.move (Go.Operand.tmp 7), type := 29, pos := "law.go:111", after := #[{ on := 2, ground := Go.Ground.guard }], guard := Option.some (2, Bool.false) }) (v := ?_) rfl (by kernel_rfl) (by kernel_rfl) (by kernel_rfl) (fun _ _ _ h => h) (Or.inl ⟨by rfl, ?_⟩) (by assumption) ?_
          rotate_left
          · intro w hSw; (try dsimp only at hSw); go_simp; all_goals (with_reducible rfl)
          try simp only [Act.put, List.setIfInBounds_toArray, List.set_cons_zero, List.set_cons_succ]
          refine wpAnyH_take (i := 5) (oi := { dst := Option.some 139, op := Go.Op.load 36 (Go.Operand.tmp 8), type := 36, pos := "law.go:111", after := #[{ on := 2, ground := Go.Ground.guard }], guard := Option.some (2, Bool.false) }) (v := ?_) rfl (by kernel_rfl) (by kernel_rfl) (by kernel_rfl) (fun _ _ _ h => h) (Or.inl ⟨by rfl, ?_⟩) (by assumption) ?_
          rotate_left
          · intro w hSw; (try dsimp only at hSw); go_simp; all_goals (with_reducible rfl)
          try simp only [Act.put, List.setIfInBounds_toArray, List.set_cons_zero, List.set_cons_succ]
          refine wpAnyH_ready (rs := [4]) (by kernel_rfl) (by simp) ?_
          refine AllReadyH.cons (o := { dst := Option.some 138, op := Go.Op.call { callee := Go.Callee.value (Go.Operand.func 19), args := #[Go.Operand.tmp 137], argTypes := #[29] }, type := 2, pos := "law.go:111", after := #[{ on := 3, ground := Go.Ground.data }, { on := 2, ground := Go.Ground.chain }, { on := 2, ground := Go.Ground.guard }], guard := Option.some (2, Bool.false) }) rfl (fun K hK => ?_) AllReadyH.nil
          go_simp
          refine (last_any _ hHeld.1.os.ora).mono ?_
          rintro e wp ⟨rfl, q1, hw1⟩
          have hHa := Lib.hid (show PQ w wp ob g r go5 gl5 mb5 v5 row5 ms5 d5 T iv5 dv5 from hHeld.1.below (by rw [hw1]; exact below_drewN _ q1))
          clear hHeld hw1
          go_wp2_with fail
          refine hK.out _ _ (⟨hHa.out, box5_of hHa.out.m⟩) (fun hHeld => ?_)
          clear hK K
          try simp only [Act.put, List.setIfInBounds_toArray, List.set_cons_zero, List.set_cons_succ]
          refine wpAnyH_ready (rs := [6]) (by kernel_rfl) (by simp) ?_
          refine AllReadyH.cons (o := { dst := Option.some 140, op := Go.Op.call { callee := Go.Callee.value (Go.Operand.func 20), args := #[Go.Operand.tmp 139], argTypes := #[36] }, type := 2, pos := "law.go:111", after := #[{ on := 5, ground := Go.Ground.data }, { on := 4, ground := Go.Ground.chain }, { on := 2, ground := Go.Ground.guard }], guard := Option.some (2, Bool.false) }) rfl (fun K hK => ?_) AllReadyH.nil
          go_simp
          refine (HLA.out _ hHeld.1).mono ?_
          rintro e w6 ⟨rfl, hb6⟩
          have hHb := Lib.hid (hHeld.1.below hb6)
          clear hHeld hb6
          go_wp2_with fail
          refine hK.out _ _ (⟨hHb.out, box5_of hHb.out.m⟩) (fun hHeld => ?_)
          clear hK K
          try simp only [Act.put, List.setIfInBounds_toArray, List.set_cons_zero, List.set_cons_succ]
          refine wpAnyH_take (i := 7) (oi := { dst := Option.some 141, op := Go.Op.binOp Go.BinOp.neq 2 (Go.Operand.tmp 138) (Go.Operand.tmp 140) 2, type := 4, pos := "law.go:111", after := #[{ on := 4, ground := Go.Ground.data }, { on := 6, ground := Go.Ground.data }, { on := 2, ground := Go.Ground.guard }], guard := Option.some (2, Bool.false) }) (v := ?_) rfl (by kernel_rfl) (by kernel_rfl) (by kernel_rfl) (fun _ _ _ h => h) (Or.inl ⟨by rfl, ?_⟩) (by assumption) ?_
          rotate_left
          · intro w hSw; (try dsimp only at hSw); go_simp; all_goals (with_reducible rfl)
          try simp only [Act.put, List.setIfInBounds_toArray, List.set_cons_zero, List.set_cons_succ]
          refine wpAnyH_take (i := 8) (oi := { dst := Option.some 142, op := Go.Op.pick (Go.Operand.tmp 136) (Go.Operand.const (Go.Value.bool Bool.true)) (Go.Operand.tmp 141), type := 4, pos := "law.go:111", after := #[{ on := 2, ground := Go.Ground.data }, { on := 7, ground := Go.Ground.data }], guard := Option.none }) (v := ?_) rfl (by kernel_rfl) (by kernel_rfl) (by kernel_rfl) (fun _ _ _ h => h) (Or.inl ⟨by rfl, ?_⟩) (by assumption) ?_
          rotate_left
          · intro w hSw; (try dsimp only at hSw); go_simp; all_goals (with_reducible rfl)
          try simp only [Act.put, List.setIfInBounds_toArray, List.set_cons_zero, List.set_cons_succ]
          refine wpAnyH_take (i := 9) (oi := { dst := Option.some 143, op := Go.Op.move (Go.Operand.tmp 142), type := 4, pos := "law.go:111", after := #[{ on := 8, ground := Go.Ground.data }, { on := 6, ground := Go.Ground.chain }], guard := Option.none }) (v := ?_) rfl (by kernel_rfl) (by kernel_rfl) (by kernel_rfl) (fun _ _ _ h => h) (Or.inl ⟨by rfl, ?_⟩) (by assumption) ?_
          rotate_left
          · intro w hSw; (try dsimp only at hSw); go_simp; all_goals (with_reducible rfl)
          try simp only [Act.put, List.setIfInBounds_toArray, List.set_cons_zero, List.set_cons_succ]
          refine wpAnyH_take (i := 10) (oi := { dst := Option.some 144, op := Go.Op.move (Go.Operand.tmp 7), type := 29, pos := "law.go:111", after := #[{ on := 9, ground := Go.Ground.guard }], guard := Option.some (9, Bool.false) }) (v := ?_) rfl (by kernel_rfl) (by kernel_rfl) (by kernel_rfl) (fun _ _ _ h => h) (Or.inl ⟨by rfl, ?_⟩) (by assumption) ?_
          rotate_left
          · intro w hSw; (try dsimp only at hSw); go_simp; all_goals (with_reducible rfl)
          try simp only [Act.put, List.setIfInBounds_toArray, List.set_cons_zero, List.set_cons_succ]
          refine wpAnyH_take (i := 12) (oi := { dst := Option.some 146, op := Go.Op.load 36 (Go.Operand.tmp 8), type := 36, pos := "law.go:111", after := #[{ on := 9, ground := Go.Ground.guard }], guard := Option.some (9, Bool.false) }) (v := ?_) rfl (by kernel_rfl) (by kernel_rfl) (by kernel_rfl) (fun _ _ _ h => h) (Or.inl ⟨by rfl, ?_⟩) (by assumption) ?_
          rotate_left
          · intro w hSw; (try dsimp only at hSw); go_simp; all_goals (with_reducible rfl)
          try simp only [Act.put, List.setIfInBounds_toArray, List.set_cons_zero, List.set_cons_succ]
          refine wpAnyH_ready (rs := [11]) (by kernel_rfl) (by simp) ?_
          refine AllReadyH.cons (o := { dst := Option.some 145, op := Go.Op.call { callee := Go.Callee.value (Go.Operand.func 21), args := #[Go.Operand.tmp 144], argTypes := #[29] }, type := 2, pos := "law.go:111", after := #[{ on := 10, ground := Go.Ground.data }, { on := 9, ground := Go.Ground.chain }, { on := 9, ground := Go.Ground.guard }], guard := Option.some (9, Bool.false) }) rfl (fun K hK => ?_) AllReadyH.nil
          go_simp
          refine (closed_any _ hHeld.1.os.ora).mono ?_
          rintro e wq ⟨rfl, q2, hw2⟩
          have hHc := Lib.hid (show PQ w wq ob g r go5 gl5 mb5 v5 row5 ms5 d5 T iv5 dv5 from hHeld.1.below (by rw [hw2]; exact below_drewN _ q2))
          clear hHeld hw2
          go_wp2_with fail
          refine hK.out _ _ (⟨hHc.out, box5_of hHc.out.m⟩) (fun hHeld => ?_)
          clear hK K
          try simp only [Act.put, List.setIfInBounds_toArray, List.set_cons_zero, List.set_cons_succ]
          refine wpAnyH_ready (rs := [13]) (by kernel_rfl) (by simp) ?_
          refine AllReadyH.cons (o := { dst := Option.some 147, op := Go.Op.call { callee := Go.Callee.value (Go.Operand.func 22), args := #[Go.Operand.tmp 146], argTypes := #[36] }, type := 2, pos := "law.go:111", after := #[{ on := 12, ground := Go.Ground.data }, { on := 11, ground := Go.Ground.chain }, { on := 9, ground := Go.Ground.guard }], guard := Option.some (9, Bool.false) }) rfl (fun K hK => ?_) AllReadyH.nil
          go_simp
          refine (HCL.out _ hHeld.1).mono ?_
          rintro e w8 ⟨rfl, hb8⟩
          have hHd := Lib.hid (hHeld.1.below hb8)
          clear hHeld hb8
          go_wp2_with fail
          refine hK.out _ _ (⟨hHd.out, box5_of hHd.out.m⟩) (fun hHeld => ?_)
          clear hK K
          try simp only [Act.put, List.setIfInBounds_toArray, List.set_cons_zero, List.set_cons_succ]
          refine wpAnyH_take (i := 14) (oi := { dst := Option.some 148, op := Go.Op.binOp Go.BinOp.neq 2 (Go.Operand.tmp 145) (Go.Operand.tmp 147) 2, type := 4, pos := "law.go:111", after := #[{ on := 11, ground := Go.Ground.data }, { on := 13, ground := Go.Ground.data }, { on := 9, ground := Go.Ground.guard }], guard := Option.some (9, Bool.false) }) (v := ?_) rfl (by kernel_rfl) (by kernel_rfl) (by kernel_rfl) (fun _ _ _ h => h) (Or.inl ⟨by rfl, ?_⟩) (by assumption) ?_
          rotate_left
          · intro w hSw; (try dsimp only at hSw); go_simp; all_goals (with_reducible rfl)
          try simp only [Act.put, List.setIfInBounds_toArray, List.set_cons_zero, List.set_cons_succ]
          refine wpAnyH_take (i := 15) (oi := { dst := Option.some 149, op := Go.Op.pick (Go.Operand.tmp 143) (Go.Operand.const (Go.Value.bool Bool.true)) (Go.Operand.tmp 148), type := 4, pos := "law.go:111", after := #[{ on := 9, ground := Go.Ground.data }, { on := 14, ground := Go.Ground.data }], guard := Option.none }) (v := ?_) rfl (by kernel_rfl) (by kernel_rfl) (by kernel_rfl) (fun _ _ _ h => h) (Or.inl ⟨by rfl, ?_⟩) (by assumption) ?_
          rotate_left
          · intro w hSw; (try dsimp only at hSw); go_simp; all_goals (with_reducible rfl)
          try simp only [Act.put, List.setIfInBounds_toArray, List.set_cons_zero, List.set_cons_succ]
          refine wpAnyH_take (i := 16) (oi := { dst := Option.some 150, op := Go.Op.move (Go.Operand.tmp 149), type := 4, pos := "law.go:111", after := #[{ on := 15, ground := Go.Ground.data }, { on := 13, ground := Go.Ground.chain }], guard := Option.none }) (v := ?_) rfl (by kernel_rfl) (by kernel_rfl) (by kernel_rfl) (fun _ _ _ h => h) (Or.inl ⟨by rfl, ?_⟩) (by assumption) ?_
          rotate_left
          · intro w hSw; (try dsimp only at hSw); go_simp; all_goals (with_reducible rfl)
          try simp only [Act.put, List.setIfInBounds_toArray, List.set_cons_zero, List.set_cons_succ]
          refine wpAnyH_take (i := 17) (oi := { dst := Option.some 151, op := Go.Op.move (Go.Operand.tmp 7), type := 29, pos := "law.go:111", after := #[{ on := 16, ground := Go.Ground.guard }], guard := Option.some (16, Bool.false) }) (v := ?_) rfl (by kernel_rfl) (by kernel_rfl) (by kernel_rfl) (fun _ _ _ h => h) (Or.inl ⟨by rfl, ?_⟩) (by assumption) ?_
          rotate_left
          · intro w hSw; (try dsimp only at hSw); go_simp; all_goals (with_reducible rfl)
          try simp only [Act.put, List.setIfInBounds_toArray, List.set_cons_zero, List.set_cons_succ]
          refine wpAnyH_take (i := 19) (oi := { dst := Option.some 153, op := Go.Op.load 36 (Go.Operand.tmp 8), type := 36, pos := "law.go:111", after := #[{ on := 16, ground := Go.Ground.guard }], guard := Option.some (16, Bool.false) }) (v := ?_) rfl (by kernel_rfl) (by kernel_rfl) (by kernel_rfl) (fun _ _ _ h => h) (Or.inl ⟨by rfl, ?_⟩) (by assumption) ?_
          rotate_left
          · intro w hSw; (try dsimp only at hSw); go_simp; all_goals (with_reducible rfl)
          try simp only [Act.put, List.setIfInBounds_toArray, List.set_cons_zero, List.set_cons_succ]
          refine wpAnyH_ready (rs := [18]) (by kernel_rfl) (by simp) ?_
          refine AllReadyH.cons (o := { dst := Option.some 152, op := Go.Op.call { callee := Go.Callee.value (Go.Operand.func 24), args := #[Go.Operand.tmp 151], argTypes := #[29] }, type := 33, pos := "law.go:111", after := #[{ on := 17, ground := Go.Ground.data }, { on := 16, ground := Go.Ground.chain }, { on := 16, ground := Go.Ground.guard }], guard := Option.some (16, Bool.false) }) rfl (fun K hK => ?_) AllReadyH.nil
          go_simp
          refine (pending_any _ hHeld.1.os.ora).mono ?_
          rintro e w9 ⟨pa, pc, rfl, hall, hb9⟩
          have hHe := Lib.hid (hHeld.1.below hb9)
          have HM9 := Lib.hid (hall.msgs hb9.size)
          clear hHeld hb9 hall
          go_wp2_with fail
          refine hK.out _ _ (⟨hHe.out, box5_of hHe.out.m⟩) (fun hHeld => ?_)
          clear hK K
          try simp only [Act.put, List.setIfInBounds_toArray, List.set_cons_zero, List.set_cons_succ]
          refine wpAnyH_ready (rs := [20]) (by kernel_rfl) (by simp) ?_
          refine AllReadyH.cons (o := { dst := Option.some 154, op := Go.Op.call { callee := Go.Callee.value (Go.Operand.func 25), args := #[Go.Operand.tmp 153], argTypes := #[36] }, type := 33, pos := "law.go:111", after := #[{ on := 19, ground := Go.Ground.data }, { on := 18, ground := Go.Ground.chain }, { on := 16, ground := Go.Ground.guard }], guard := Option.some (16, Bool.false) }) rfl (fun K hK => ?_) AllReadyH.nil
          go_simp
          refine (HPE.out _ hHeld.1).mono ?_
          rintro e w10 ⟨ra2, rc2, rfl, hall, hb10⟩
          have hHf := Lib.hid (hHeld.1.below hb10)
          have HM10 := Lib.hid (hall.msgs hb10.size)
          have HM9b := Lib.hid (HM9.out.below hb10)
          clear hHeld hb10 hall
          go_wp2_with fail
          refine hK.out _ _ (⟨hHf.out, box5_of hHf.out.m⟩) (fun hHeld => ?_)
          clear hK K
          try simp only [Act.put, List.setIfInBounds_toArray, List.set_cons_zero, List.set_cons_succ]
          refine wpAnyH_ready (rs := [21]) (by kernel_rfl) (by simp) ?_
          refine AllReadyH.cons (o := { dst := Option.some 155, op := Go.Op.call { callee := Go.Callee.value (Go.Operand.func 23), args := #[Go.Operand.tmp 152, Go.Operand.tmp 154], argTypes := #[33, 33] }, type := 4, pos := "law.go:111", after := #[{ on := 18, ground := Go.Ground.data }, { on := 20, ground := Go.Ground.data }, { on := 20, ground := Go.Ground.chain }, { on := 16, ground := Go.Ground.guard }], guard := Option.some (16, Bool.false) }) rfl (fun K hK => ?_) AllReadyH.nil
          go_simp
          refine (same_msgs pa _ pc _ ra2 _ rc2 _ w10 HM9b.out HM10.out HPN.out HPN.out).mono ?_
          rintro e w11 ⟨rr, rfl, hrr, hb11⟩
          obtain rfl : rr = true := hrr.2 rfl
          have hHg := Lib.hid (hHeld.1.below hb11)
          clear hHeld hb11 hrr
          go_wp2_with fail
          refine hK.out _ _ (⟨hHg.out, box5_of hHg.out.m⟩) (fun hHeld => ?_)
          clear hK K
          try simp only [Act.put, List.setIfInBounds_toArray, List.set_cons_zero, List.set_cons_succ]
          refine wpAnyH_take (i := 22) (oi := { dst := Option.some 156, op := Go.Op.unOp Go.UnOp.not 4 (Go.Operand.tmp 155), type := 4, pos := "law.go:111", after := #[{ on := 21, ground := Go.Ground.data }, { on := 16, ground := Go.Ground.guard }], guard := Option.some (16, Bool.false) }) (v := ?_) rfl (by kernel_rfl) (by kernel_rfl) (by kernel_rfl) (fun _ _ _ h => h) (Or.inl ⟨by rfl, ?_⟩) (by assumption) ?_
          rotate_left
          · intro w hSw; (try dsimp only at hSw); go_simp; all_goals (with_reducible rfl)
          try simp only [Act.put, List.setIfInBounds_toArray, List.set_cons_zero, List.set_cons_succ]
          refine wpAnyH_take (i := 23) (oi := { dst := Option.some 157, op := Go.Op.pick (Go.Operand.tmp 150) (Go.Operand.const (Go.Value.bool Bool.true)) (Go.Operand.tmp 156), type := 4, pos := "law.go:111", after := #[{ on := 16, ground := Go.Ground.data }, { on := 22, ground := Go.Ground.data }], guard := Option.none }) (v := ?_) rfl (by kernel_rfl) (by kernel_rfl) (by kernel_rfl) (fun _ _ _ h => h) (Or.inl ⟨by rfl, ?_⟩) (by assumption) ?_
          rotate_left
          · intro w hSw; (try dsimp only at hSw); go_simp; all_goals (with_reducible rfl)
          try simp only [Act.put, List.setIfInBounds_toArray, List.set_cons_zero, List.set_cons_succ]
          refine wpAnyH_take (i := 24) (oi := { dst := Option.some 158, op := Go.Op.move (Go.Operand.tmp 157), type := 4, pos := "law.go:111", after := #[{ on := 23, ground := Go.Ground.data }, { on := 21, ground := Go.Ground.chain }], guard := Option.none }) (v := ?_) rfl (by kernel_rfl) (by kernel_rfl) (by kernel_rfl) (fun _ _ _ h => h) (Or.inl ⟨by rfl, ?_⟩) (by assumption) ?_
          rotate_left
          · intro w hSw; (try dsimp only at hSw); go_simp; all_goals (with_reducible rfl)
          try simp only [Act.put, List.setIfInBounds_toArray, List.set_cons_zero, List.set_cons_succ]
          refine wpAnyH_take (i := 25) (oi := { dst := Option.some 159, op := Go.Op.move (Go.Operand.tmp 5), type := 24, pos := "law.go:111", after := #[{ on := 24, ground := Go.Ground.guard }], guard := Option.some (24, Bool.false) }) (v := ?_) rfl (by kernel_rfl) (by kernel_rfl) (by kernel_rfl) (fun _ _ _ h => h) (Or.inl ⟨by rfl, ?_⟩) (by assumption) ?_
          rotate_left
          · intro w hSw; (try dsimp only at hSw); go_simp; all_goals (with_reducible rfl)
          try simp only [Act.put, List.setIfInBounds_toArray, List.set_cons_zero, List.set_cons_succ]
          refine wpAnyH_take (i := 26) (oi := { dst := Option.some 160, op := Go.Op.nilCheck (Go.Operand.tmp 159), type := 0, pos := "law.go:111", after := #[{ on := 25, ground := Go.Ground.data }, { on := 24, ground := Go.Ground.guard }], guard := Option.some (24, Bool.false) }) (v := ?_) rfl (by kernel_rfl) (by kernel_rfl) (by kernel_rfl) (fun _ _ _ h => h) (Or.inl ⟨by rfl, ?_⟩) (by assumption) ?_
          rotate_left
          · intro w hSw; (try dsimp only at hSw); go_simp; all_goals (with_reducible rfl)
          try simp only [Act.put, List.setIfInBounds_toArray, List.set_cons_zero, List.set_cons_succ]
          refine wpAnyH_take (i := 27) (oi := { dst := Option.some 161, op := Go.Op.fieldAddr 73 (Go.Operand.tmp 160) 0, type := 0, pos := "law.go:111", after := #[{ on := 26, ground := Go.Ground.data }, { on := 24, ground := Go.Ground.guard }], guard := Option.some (24, Bool.false) }) (v := ?_) rfl (by kernel_rfl) (by kernel_rfl) (by kernel_rfl) (fun _ _ _ h => h) (Or.inl ⟨by rfl, ?_⟩) (by assumption) ?_
          rotate_left
          · intro w hSw; (try dsimp only at hSw); go_simp; all_goals (with_reducible rfl)
          try simp only [Act.put, List.setIfInBounds_toArray, List.set_cons_zero, List.set_cons_succ]
          refine wpAnyH_take (i := 30) (oi := { dst := Option.some 164, op := Go.Op.fieldAddr 36 (Go.Operand.tmp 8) 0, type := 0, pos := "law.go:111", after := #[{ on := 24, ground := Go.Ground.guard }], guard := Option.some (24, Bool.false) }) (v := ?_) rfl (by kernel_rfl) (by kernel_rfl) (by kernel_rfl) (fun _ _ _ h => h) (Or.inl ⟨by rfl, ?_⟩) (by assumption) ?_
          rotate_left
          · intro w hSw; (try dsimp only at hSw); go_simp; all_goals (with_reducible rfl)
          try simp only [Act.put, List.setIfInBounds_toArray, List.set_cons_zero, List.set_cons_succ]
          refine wpAnyH_take (i := 31) (oi := { dst := Option.some 165, op := Go.Op.fieldAddr 32 (Go.Operand.tmp 164) 0, type := 0, pos := "law.go:111", after := #[{ on := 30, ground := Go.Ground.data }, { on := 24, ground := Go.Ground.guard }], guard := Option.some (24, Bool.false) }) (v := ?_) rfl (by kernel_rfl) (by kernel_rfl) (by kernel_rfl) (fun _ _ _ h => h) (Or.inl ⟨by rfl, ?_⟩) (by assumption) ?_
          rotate_left
          · intro w hSw; (try dsimp only at hSw); go_simp; all_goals (with_reducible rfl)
          try simp only [Act.put, List.setIfInBounds_toArray, List.set_cons_zero, List.set_cons_succ]
          refine wpAnyH_take (i := 32) (oi := { dst := Option.some 166, op := Go.Op.load 9 (Go.Operand.tmp 165), type := 9, pos := "law.go:111", after := #[{ on := 31, ground := Go.Ground.data }, { on := 24, ground := Go.Ground.guard }], guard := Option.some (24, Bool.false) }) (v := ?_) rfl (by kernel_rfl) (by kernel_rfl) (by kernel_rfl) (fun _ _ _ h => h) (Or.inl ⟨by rfl, ?_⟩) (by assumption) ?_
          rotate_left
          · intro w hSw; (try dsimp only at hSw); go_simp; all_goals (with_reducible rfl)
          try simp only [Act.put, List.setIfInBounds_toArray, List.set_cons_zero, List.set_cons_succ]
          refine wpAnyH_ready (rs := [28]) (by kernel_rfl) (by simp) ?_
          refine AllReadyH.cons (o := { dst := Option.some 162, op := Go.Op.call { callee := Go.Callee.value (Go.Operand.func 26), args := #[Go.Operand.tmp 161], argTypes := #[71] }, type := 68, pos := "law.go:111", after := #[{ on := 27, ground := Go.Ground.data }, { on := 24, ground := Go.Ground.chain }, { on := 24, ground := Go.Ground.guard }], guard := Option.some (24, Bool.false) }) rfl (fun K hK => ?_) AllReadyH.nil
          go_simp
          have hlg : Lg _ w.heap.size gl5 g v5 (cat ms5) (cat ms5).length r ms5.length := hHeld.1.os.log
          refine (Dk.bytes_any _ hlg.disk).mono ?_
          rintro e w12 ⟨u2, rfl, hown8, hb12⟩
          obtain ⟨ua2, uc2, rfl, hui, _⟩ := owned_slice hown8 hlg.disk.byte
          have hcu := Fr.IsB.str hui uc2
          rw [← HT.out] at hcu
          have hHh := Lib.hid (hHeld.1.below hb12)
          clear hown8 hb12 hui hHeld hlg
          go_wp2_with fail
          refine hK.out _ _ (⟨hHh.out, box5_of hHh.out.m⟩) (fun hHeld => ?_)
          clear hK K
          try simp only [Act.put, List.setIfInBounds_toArray, List.set_cons_zero, List.set_cons_succ]
          refine wpAnyH_ready (rs := [29]) (by kernel_rfl) (by simp) ?_
          refine AllReadyH.cons (o := { dst := Option.some 163, op := Go.Op.convert 68 9 (Go.Operand.tmp 162), type := 9, pos := "law.go:111", after := #[{ on := 28, ground := Go.Ground.data }, { on := 24, ground := Go.Ground.guard }], guard := Option.some (24, Bool.false) }) rfl (fun K hK => ?_) AllReadyH.nil
          go_simp
          refine hK.out _ _ (hHeld) (fun hHeld => ?_)
          clear hK K
          try simp only [Act.put, List.setIfInBounds_toArray, List.set_cons_zero, List.set_cons_succ]
          refine wpAnyH_take (i := 33) (oi := { dst := Option.some 167, op := Go.Op.binOp Go.BinOp.neq 9 (Go.Operand.tmp 163) (Go.Operand.tmp 166) 9, type := 4, pos := "law.go:111", after := #[{ on := 29, ground := Go.Ground.data }, { on := 32, ground := Go.Ground.data }, { on := 24, ground := Go.Ground.guard }], guard := Option.some (24, Bool.false) }) (v := ?_) rfl (by kernel_rfl) (by kernel_rfl) (by kernel_rfl) (fun _ _ _ h => h) (Or.inl ⟨by rfl, ?_⟩) (by assumption) ?_
          rotate_left
          · intro w hSw; (try dsimp only at hSw); go_simp; all_goals (with_reducible rfl)
          try simp only [Act.put, List.setIfInBounds_toArray, List.set_cons_zero, List.set_cons_succ]
          refine wpAnyH_take (i := 34) (oi := { dst := Option.some 168, op := Go.Op.pick (Go.Operand.tmp 158) (Go.Operand.const (Go.Value.bool Bool.true)) (Go.Operand.tmp 167), type := 4, pos := "law.go:111", after := #[{ on := 24, ground := Go.Ground.data }, { on := 33, ground := Go.Ground.data }], guard := Option.none }) (v := ?_) rfl (by kernel_rfl) (by kernel_rfl) (by kernel_rfl) (fun _ _ _ h => h) (Or.inl ⟨by rfl, ?_⟩) (by assumption) ?_
          rotate_left
          · intro w hSw; (try dsimp only at hSw); go_simp; all_goals (with_reducible rfl)
          try simp only [Act.put, List.setIfInBounds_toArray, List.set_cons_zero, List.set_cons_succ]
          refine wpAnyH_done (by kernel_rfl) ?_ _
          have HF := Lib.hid hHeld.1
          clear hHeld
          go_wp2
          go_roundw
          case rel => exact ⟨i + 1, by omega, by go_num, go5, gl5, mb5, v5, row5, ms5, d5, T, iv5, dv5, rfl, HT.out, HF.out⟩
          case measure => simp [intOf]; omega
    · have HPF := Lib.hid HP.out.b
      go_wp2
      go_ret
      exact ⟨rfl, HPF.out⟩
theorem oplays_walk (r : Int) (a : Option Addr) (n cp : Nat) (w : World) (hx : OpsP w a n) (hn : n ≤ 140737488351232) :
    Calls Tryz.prog 3 #[.int .i64 r, .slice a n cp] w fun e w' => e = .returned (.bool true) ∧ Below w.heap.size w w' := by
  by_cases hr : r < 0 ∨ 1048576 < r
  · exact oplays_bad r a n cp w hr
  · obtain ⟨m, rfl⟩ : ∃ m : Nat, r = (m : Int) := ⟨r.toNat, by omega⟩
    exact oplays_good m a n cp w (by omega) hx hn
end Go.Proofs.YteodldmbnghfcaaGreat.Rl
