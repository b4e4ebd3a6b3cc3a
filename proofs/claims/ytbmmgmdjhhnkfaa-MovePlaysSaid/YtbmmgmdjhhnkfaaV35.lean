/- MovePlays: the walk. -/
import Derived.Test.YtbmmgmdjhhnkfaaVh
import Derived.Deep.DeepCutAuto
import Derived.Deep.CutBlock
namespace Go.Proofs.Ytbmmgmdjhhnkfaa
open Go.RowKit

set_option maxRecDepth 100000 in
theorem built_rm (r e : Int) (o : List Int) (h : o.length = 16) : Try.prog.built 47 [(0, .agg #[.string ⟨#[]⟩, .int .i64 0, .int .i64 r]), (1, .agg (tcs e o))] = some (rmC ⟨#[]⟩ 0 r (rep e o [])) := by
  obtain ⟨a0, a1, a2, a3, a4, a5, a6, a7, a8, a9, a10, a11, a12, a13, a14, a15, rfl⟩ := list16b o h
  kernel_rfl
theorem rmC_start (S : ByteArray) (d r : Int) (M : Mv) (na : Option Addr) (nn nc : Nat) (s : Nat) (td fr : Int) : rmC S d r (mvS (mrows M na nn nc) s td fr) = rmC S d r (mrows (mtake M (mM 11 fr td (M.ver + 1) s)) none 0 0) := rfl
theorem rmC_end (S : ByteArray) (d r : Int) (M : Mv) (na : Option Addr) (nn nc : Nat) (e : Int) (o : List Int) : rmC S d r (mend (mrows M na nn nc) e o) = rmC S d r (mrows (mend M e o) none 0 0) := rfl
theorem rmC_fenced (S : ByteArray) (d r : Int) (M : Mv) (na a2 a3 : Option Addr) (nn nc n2 c2 n3 c3 : Nat) : rmC S d r { mrows M na nn nc with ra := a2, rn := n2, rc := c2, st := 2 } = rmC S d r (mrows { M with ra := a3, rn := n3, rc := c3, st := 2 } a2 n2 c2) := rfl
set_option maxRecDepth 100000 in
set_option maxHeartbeats 64000000 in
theorem plays_walk (room e0 : Int) (o0 : List Int) (a : Option Addr) (n cp : Nat) (w : World) (ho : o0.length = 16) (he : In64 e0) (hx : OpsIn w a n) (hn : n ≤ 140737488351232) :
    Calls Try.prog 3 #[.int .i64 room, .agg (tcs e0 o0), .slice a n cp] w fun e w' => e = .returned (.bool true) ∧ Below w.heap.size w w' := by
  obtain ⟨X0, hX0, hw0, hb0⟩ := box_new w 24 (tcs e0 o0)
  have HX := Lib.hid hx
  have HFT := Lib.hid hw0
  have HB0 := Lib.hid hb0
  have HO := Lib.hid ho
  have HE := Lib.hid he
  clear hx hw0 hb0 ho he
  go_enter Try.func3, Try.ntmps3
  go_upto_region 1 with fail
  rw [← hX0]
  clear hX0
  go_wp2_with fail
  refine (awake_any _).mono ?_
  rintro e w1 ⟨rfl, hb1⟩
  have HF1 := Lib.hid (HFT.out.kept (hb1.block _ HFT.out.lt))
  have HB1 := Lib.hid (bell_up HB0.out hb1)
  clear hb1 HFT HB0
  by_cases hr : room < 0 ∨ 1048576 < room
  · as_aux_lemma =>
      have HN := Lib.hid (Dk.new_bad room w1 hr)
      have HW := rwrong_any room w1
      rw [if_pos hr] at HW
      have HW := Lib.hid HW
      clear hr
      go_wp2_with fail
      refine HN.out.mono ?_
      rintro e w2 ⟨rfl, rfl⟩
      go_wp2_with fail
      refine HW.out.mono ?_
      rintro e w2 ⟨rfl, rfl⟩
      go_wp2
      go_ret
      exact ⟨rfl, HB1.out⟩
  obtain ⟨r, rfl⟩ : ∃ r : Nat, room = r := ⟨room.toNat, by omega⟩
  have HR1 := Lib.hid (show r ≤ 1048576 by omega)
  clear hr
  have HN := Lib.hid (Dk.new_good w.heap.size r w1 HR1.out HB1.out.size)
  go_wp2_with fail
  refine HN.out.mono ?_
  rintro e w2 ⟨rfl, hd2, hb2⟩
  have HF2 := Lib.hid (HF1.out.kept (hb2.block _ HF1.out.lt))
  have HB2 := Lib.hid (HB1.out.trans (hb2.mono HB1.out.size))
  have HGE := Lib.hid HB1.out.size
  have HD2 := Lib.hid (show Dk.DAt w2 w.heap.size w1.heap.size (.slice none 0 0) (cat []) 0 r from hd2)
  clear hd2 hb2 HN HF1 HB1
  generalize w1.heap.size = g at *
  rcases check_cases e0 o0 with hck | hck
  rotate_left
  · as_aux_lemma =>
      have HOP := Lib.hid (opened_bad (ms := []) w2 0 e0 o0 HO.out hck HD2.out (by simp))
      have HCK := Lib.hid hck
      have HFG := Lib.hid (show w.heap.size ≠ g from whole_ne HF2.out (show Whole w2 g 72 _ from HD2.out.blk) (by decide))
      clear hck HD2
      go_wp2_with (refine wpList_load_mid rfl 24 (.tmp 4) rfl w.heap.size 0 rfl (tL e0 o0) _ (whole_all_range HF2.out) Try.underlying24 rfl (tL_info _ HO.out) ?_)
      refine HOP.out.mono ?_
      rintro e w3 ⟨rfl, hc3⟩
      have HF3 := Lib.hid (HF2.out.kept (hc3.block _ HF2.out.lt (by rintro (e1 | e1); exact HFG.out e1; cases e1)))
      have HB3 := Lib.hid (HB2.out.trans (hc3.below (fun k hk => by
        rcases hk with e1 | e1
        · rw [e1]; exact HGE.out
        · cases e1) HB2.out.size))
      clear hc3 HOP
      go_wp2_with (refine wpList_load_mid rfl 24 (.tmp 4) rfl w.heap.size 0 rfl (tL e0 o0) _ (whole_all_range HF3.out) Try.underlying24 rfl (tL_info _ HO.out) ?_)
      refine (plain_any w3 e0 o0 HO.out).mono ?_
      rintro e w4 ⟨rfl, hb4⟩
      have HB4 := Lib.hid (HB3.out.trans (hb4.mono HB3.out.size))
      have HCH := rcheck_any 8 w4 (TabC.mk' e0 o0 HO.out)
      rw [HCK.out] at HCH
      have HCH := Lib.hid HCH
      clear hb4
      go_wp2_with fail
      refine HCH.out.mono ?_
      rintro e w5 ⟨rfl, hb5⟩
      have HB5 := Lib.hid (HB4.out.trans (hb5.mono HB4.out.size))
      clear hb5
      go_wp2
      go_ret
      exact ⟨rfl, HB5.out⟩
  have HOP := Lib.hid (opened_tab (ms := []) w2 0 e0 o0 HO.out hck HD2.out (by simp) HB2.out.size)
  have HTB := Lib.hid (TBx.of hck HE.out HO.out)
  have HCK := Lib.hid hck
  have HFG := Lib.hid (show w.heap.size ≠ g from whole_ne HF2.out (show Whole w2 g 72 _ from HD2.out.blk) (by decide))
  clear hck HD2
  go_wp2_with (refine wpList_load_mid rfl 24 (.tmp 4) rfl w.heap.size 0 rfl (tL e0 o0) _ (whole_all_range HF2.out) Try.underlying24 rfl (tL_info _ HO.out) ?_)
  refine HOP.out.mono ?_
  rintro e w3 (⟨gm, gl, v3, ms3, rfl, hms, hch, _, ⟨_, rfl⟩ | ⟨h0, _⟩⟩ | ⟨h0, _⟩)
  rotate_left
  · exact absurd rfl h0
  · exact absurd rfl h0
  have HF3 := Lib.hid (HF2.out.kept (hch.block _ HF2.out.lt (by rintro (e1 | e1); exact HFG.out e1; cases e1)))
  have HB3 := Lib.hid (HB2.out.trans (hch.below (fun k hk => by
    rcases hk with e1 | e1
    · rw [e1]; exact HGE.out
    · cases e1) HB2.out.size))
  have HP3 := Lib.hid (show PB w w3 w.heap.size g r gm gl v3 e0 o0 (rep e0 o0 []) [] [] from ⟨hms, RwC.none _ _, HF3.out, HB3.out⟩)
  clear hms hch HOP HF2 HB2
  go_wp2_with (refine wpList_load_mid rfl 24 (.tmp 4) rfl w.heap.size 0 rfl (tL e0 o0) _ (whole_all_range HF3.out) Try.underlying24 rfl (tL_info _ HO.out) ?_)
  refine (plain_any w3 e0 o0 HO.out).mono ?_
  rintro e w4 ⟨rfl, hb4⟩
  have HP4 := Lib.hid (HP3.out.below hb4)
  have HCH := rcheck_any 8 w4 (TabC.mk' e0 o0 HO.out)
  rw [HCK.out] at HCH
  have HCH := Lib.hid HCH
  clear hb4 HP3 HF3 HB3
  go_wp2_with fail
  refine HCH.out.mono ?_
  rintro e w5 ⟨rfl, hb5⟩
  have HP5 := Lib.hid (HP4.out.below hb5)
  clear hb5 HP4 HCH
  go_wp2_with (refine wpList_load_mid rfl 24 (.tmp 4) rfl w.heap.size 0 rfl (tL e0 o0) _ (whole_all_range HP5.out.ft) Try.underlying24 rfl (tL_info _ HO.out) ?_)
  refine (plain_any w5 e0 o0 HO.out).mono ?_
  rintro e w6 ⟨rfl, hb6⟩
  have HP6 := Lib.hid (HP5.out.below hb6)
  clear hb6 HP5
  have HBU := Lib.hid (built_rm (r : Int) e0 o0 HO.out)
  have HOL := Lib.hid (show (rep e0 o0 []).o.length = 16 from HO.out)
  obtain ⟨Z, hZ, hwZ, hbZ⟩ := box_new w6 47 (rmC ⟨#[]⟩ 0 0 mvZ)
  have HTH := Lib.hid (show (w6.alloc (.cells (rmC ⟨#[]⟩ 0 0 mvZ) 47)).there w6.heap.size 0 (rmC ⟨#[]⟩ 0 r (rep e0 o0 [])).size from by rw [← hZ]; exact (show RmAt Z w6.heap.size ⟨#[]⟩ 0 0 mvZ from hwZ).room rfl _ _ _ HOL.out)
  have HPN := Lib.hid (show PB w ((w6.alloc (.cells (rmC ⟨#[]⟩ 0 0 mvZ) 47)).setCells w6.heap.size 0 (rmC ⟨#[]⟩ 0 r (rep e0 o0 [])).toList) w.heap.size g r gm gl v3 e0 o0 (rep e0 o0 []) [] [] ∧ RmAt ((w6.alloc (.cells (rmC ⟨#[]⟩ 0 0 mvZ) 47)).setCells w6.heap.size 0 (rmC ⟨#[]⟩ 0 r (rep e0 o0 [])).toList) w6.heap.size ⟨#[]⟩ 0 r (rep e0 o0 []) from by
    rw [← hZ]
    have hr0 : RmAt Z w6.heap.size ⟨#[]⟩ 0 (0 : Int) mvZ := hwZ
    exact (HP6.out.below hbZ).stored HP6.out.bel.size hr0 rfl _ _ HOL.out)
  rw [zero_rm] at HTH HPN
  have HDB := Lib.hid HP6.out.bel.size
  clear hZ hwZ hbZ
  go_upto_region 13 with (first
    | (refine wpList_at (some 62) rfl ?_; (refine wpList_buildTo rfl 47 #[(0, .tmp 59), (1, .tmp 61)] rfl (some 62) rfl (rmC ⟨#[]⟩ 0 r (rep e0 o0 [])) (by simpa [Act.eval, Act.put] using HBU.out) ?_))
    | (refine wpList_load_mid rfl 24 (.tmp 4) rfl w.heap.size 0 rfl (tL e0 o0) _ (whole_all_range HP6.out.ft) Try.underlying24 rfl (tL_info _ HO.out) ?_)
    | (refine wpList_store_mid rfl 47 (.tmp 12) (.tmp 62) rfl w6.heap.size 0 (rmC ⟨#[]⟩ 0 r (rep e0 o0 [])) rfl rfl HTH.out (rmC_info ⟨#[]⟩ 0 r (M := rep e0 o0 []) HOL.out) (rmC_one _ _ _ _) ?_))
  generalize World.setCells _ w6.heap.size 0 _ = w7 at *
  generalize w6.heap.size = db at *
  have HPS := Lib.hid (show PS w w7 w.heap.size g r db e0 o0 (.pointer (some ⟨gm, 0, none⟩)) from ⟨gm, gl, v3, _, _, _, 0, none, 0, 0, rfl, HPN.out.1, OQ.zero HTB.out, HPN.out.2, SrcZ.none _ _⟩)
  clear HPN HTH HBU HP6 HOL HFG HTB
  go_wp2_with fail
  go_loopw [9, 65] (fun mv iv wr => ∃ i : Nat, i ≤ n ∧ iv = .int .i64 (i : Int) ∧ PS w wr w.heap.size g r db e0 o0 mv) (fun _ iv _ => n - (intOf iv).toNat)
  case atStart => exact ⟨0, by omega, rfl, HPS.out⟩
  case round =>
    obtain ⟨i, hin, rfl, gm, gl, v, M, ms, zs, d, na, nn, nc, rfl, hpb, hoq, hdoc, hsr⟩ := hrel
    have HP := Lib.hid hpb
    have HOQ := Lib.hid hoq
    have HDC := Lib.hid hdoc
    have HSR := Lib.hid hsr
    have HOL := Lib.hid (show (mrows M na nn nc).o.length = 16 from hoq.tb.2.2.1)
    clear hpb hoq hdoc hsr HPS
    by_cases hil : i < n
    · obtain ⟨b, off, rfl, hbl, hcc⟩ := HX.out.resolve_left (by omega)
      obtain ⟨⟨kd, sd, td, di, ra, rn, rc⟩, hd⟩ := hcc i hil
      dsimp only [OpAt] at hd
      obtain ⟨q0, q1, q2, q3, q4, q5, zo, q6⟩ := hd
      have p0 := (HP.out.bel.cell (p := ⟨b, _, none⟩) hbl).trans q0
      have p1 := (HP.out.bel.cell (p := ⟨b, _, none⟩) hbl).trans q1
      have p2 := (HP.out.bel.cell (p := ⟨b, _, none⟩) hbl).trans q2
      have p3 := (HP.out.bel.cell (p := ⟨b, _, none⟩) hbl).trans q3
      have p4 := (HP.out.bel.cell (p := ⟨b, _, none⟩) hbl).trans q4
      obtain ⟨X, hX, hwx, hbx⟩ := box_new wr 49 #[.int .i64 kd, .int .i64 sd, .int .i64 td, .int .i64 di, .slice ra rn rc]
      have HX8 := Lib.hid hwx
      have HP8 := Lib.hid (HP.out.below hbx)
      have HD8 := Lib.hid (HDC.out.below hbx)
      have HDI := Lib.hid q5
      have HSO := Lib.hid q6
      have hij : (0:Int) ≤ (i:Int) ∧ (i:Int) < (n:Int) := by omega
      clear hcc q0 q1 q2 q3 q4 q5 q6
      go_upto_region 16 with fail
      rw [← hX]
      clear hX hwx hbx p0 p1 p2 p3 p4 HP HDC
      generalize wr.heap.size = ob at *
      have d0 := HX8.out.cell 0
      go_upto_block 2 with fail
      go_cut [9, 15, 11] (fun mv bd cd wx => PC w wx w.heap.size g r db e0 o0 mv bd cd)
      case first J KK hJR hMK =>
        by_cases hk0 : kd = 0
        · skip
          subst hk0
          as_aux_lemma =>
            have d1 := HX8.out.cell 1
            have d2 := HX8.out.cell 2
            by_cases hs : M.st = 0
            · by_cases hcd : (Mt.move M.e M.o sd td).2.2 = 0
              · obtain ⟨s, rfl, hs16, hy0, hy7, he0, he7, hne, hmv⟩ := move_ok hcd
                have hfr := HOQ.out.tb.at_ s hs16
                have hsm := HP8.out.ms.small
                have hvv := HOQ.out.ver
                have hiv : InI (M.ver + 1) := ⟨by omega, by omega⟩
                have hif : InI (M.o.getD s 0) := ⟨by omega, by omega⟩
                have hit : InI td := ⟨by omega, by omega⟩
                have hsz : (dtx ms).size ≤ 1048576 := by rw [dtx_size]; have := HP8.out.ms.bytes; have := HR1.out; omega
                have HS := Lib.hid (start_good X HP8.out.ms s td hs hs16 hmv hif hit hiv)
                have HDS := Lib.hid (fun W => rstart_good W (dtx ms) d r (mrows M na nn nc) HOL.out s td hs hs16 hmv hif hit hiv hsz)
                have HO9 := Lib.hid (HOQ.out.start hs16 ⟨hy0, hy7⟩ he7 hne hmv)
                clear hcd hne hmv hfr hsm hvv hiv hs hif hit hsz
                go_wp2_with fail
                refine HS.out.mono ?_
                rintro e w9 ⟨k, rfl, ⟨rfl, hfit, v9, hm9, hc9⟩ | ⟨rfl, hno, hm9, hb9⟩⟩
                · have HP9 := Lib.hid (HP8.out.chg hm9 (RwC.none _ _) hc9)
                  have HD9 := Lib.hid (HP8.out.doc HD8.out hc9)
                  have HX9 := Lib.hid (HP8.out.ms.tab HX8.out (by decide) hc9)
                  have HFI := Lib.hid (show (dtx ms).size + (Fr.sealed (enc (mM 11 (M.o.getD s 0) td (M.ver + 1) s))).length ≤ r from by rw [dtx_size]; exact hfit)
                  clear hm9 hc9 HS d0 d1 d2 hfit
                  have d1 := HX9.out.cell 1
                  have d2 := HX9.out.cell 2
                  go_wp2_with (refine wpList_load_mid rfl 47 (.tmp 12) rfl db 0 rfl (rmL (dtx ms) d r (mrows M na nn nc)) _ HD9.out.all Try.underlying47 rfl (rmC_info (dtx ms) d r (M := (mrows M na nn nc)) HOL.out) ?_)
                  refine (HDS.out w9).mono ?_
                  rintro e wa ⟨⟨hfit, rfl⟩ | ⟨hno, _⟩, hba⟩
                  rotate_left
                  · exact absurd hno (by have := HFI.out; show ¬ r < _ + (Fr.sealed (enc (mM 11 (M.o.getD s 0) td (M.ver + 1) s))).length; omega)
                  change Below w9.heap.size w9 wa at hba
                  have HTX := Lib.hid (dtx_snoc ms (mM 11 (M.o.getD s 0) td (M.ver + 1) s))
                  have hTX : dtx ms ++ strOfNums (Fr.sealed (enc (mM 11 ((mrows M na nn nc).o.getD s 0) td ((mrows M na nn nc).ver + 1) s))) = dtx (ms ++ [mM 11 (M.o.getD s 0) td (M.ver + 1) s]) := HTX.out.symm
                  rw [hTX]
                  clear hTX hfit
                  generalize hTT : dtx (ms ++ [mM 11 (M.o.getD s 0) td (M.ver + 1) s]) = TT at *
                  have HTT := Lib.hid hTT
                  clear hTT d1 d2
                  have hf2 : (mrows M na nn nc).o.getD s 0 = M.o.getD s 0 := rfl
                  have hf3 : (mrows M na nn nc).ver = M.ver := rfl
                  rw [hf2, hf3]
                  clear hf2 hf3
                  generalize hfr : M.o.getD s 0 = fr at *
                  clear hfr
                  have HPA := Lib.hid (HP9.out.below hba)
                  have HDA := Lib.hid (HD9.out.below hba)
                  clear hba HP9 HD9 HX9 HDS
                  obtain ⟨Z, hZ, hwZ, hbZ⟩ := box_new wa 47 (rmC ⟨#[]⟩ 0 0 mvZ)
                  have hz0 : RmAt Z wa.heap.size ⟨#[]⟩ 0 (0 : Int) mvZ := hwZ
                  have HNL := Lib.hid (show (mvS (mrows M na nn nc) s td fr).o.length = 16 from HOL.out)
                  have HTH := Lib.hid (show (wa.alloc (.cells (rmC ⟨#[]⟩ 0 0 mvZ) 47)).there wa.heap.size 0 (rmC TT TT.size r (mvS (mrows M na nn nc) s td fr)).size from by rw [← hZ]; exact hz0.room rfl _ _ _ HNL.out)
                  have HQ := Lib.hid (show RmAt ((wa.alloc (.cells (rmC ⟨#[]⟩ 0 0 mvZ) 47)).setCells wa.heap.size 0 (rmC TT TT.size r (mvS (mrows M na nn nc) s td fr)).toList) wa.heap.size TT TT.size r (mvS (mrows M na nn nc) s td fr) ∧ Below wa.heap.size wa ((wa.alloc (.cells (rmC ⟨#[]⟩ 0 0 mvZ) 47)).setCells wa.heap.size 0 (rmC TT TT.size r (mvS (mrows M na nn nc) s td fr)).toList) from by rw [← hZ]; exact ⟨hz0.put rfl _ _ _ HNL.out, below_sets (Nat.le_refl _) _ _ hbZ⟩)
                  rw [zero_rm] at HTH HQ
                  clear hZ hwZ hbZ hz0
                  go_upto_region 22 with (refine wpList_store_mid rfl 47 (.tmp 18) (.tmp 89) rfl wa.heap.size 0 (rmC TT TT.size r (mvS (mrows M na nn nc) s td fr)) rfl rfl HTH.out (rmC_info TT TT.size r (M := mvS (mrows M na nn nc) s td fr) HNL.out) (rmC_one _ _ _ _) ?_)
                  generalize World.setCells _ wa.heap.size 0 _ = wb at *
                  have HPB := Lib.hid (HPA.out.below HQ.out.2)
                  have HDB2 := Lib.hid (HDA.out.below HQ.out.2)
                  have HST := Lib.hid (HPB.out.stored HDB.out HDB2.out HOL.out TT TT.size (N' := mvS (mrows M na nn nc) s td fr) HNL.out)
                  have HRM := Lib.hid (HDB2.out.room HOL.out TT TT.size r (M' := mvS (mrows M na nn nc) s td fr) HNL.out)
                  clear HTH HPA HDA
                  generalize wa.heap.size = qb at *
                  go_wp2_with (first
                    | (refine wpList_load_mid rfl 47 (.tmp 18) rfl qb 0 rfl (rmL TT TT.size r (mvS (mrows M na nn nc) s td fr)) _ HQ.out.1.all Try.underlying47 rfl (rmC_info TT TT.size r (M := mvS (mrows M na nn nc) s td fr) HNL.out) ?_)
                    | (refine wpList_store_mid rfl 47 (.tmp 12) (.tmp 92) rfl db 0 (rmC TT TT.size r (mvS (mrows M na nn nc) s td fr)) rfl rfl HRM.out (rmC_info TT TT.size r (M := mvS (mrows M na nn nc) s td fr) HNL.out) (rmC_one _ _ _ _) ?_; generalize World.setCells wb db 0 _ = wc at *))
                  go_meet
                  exact ⟨⟨0, rfl, rfl⟩, gm, gl, v9, _, _, [], _, none, 0, 0, rfl, HST.out.1, HO9.out, by rw [HTT.out]; exact HST.out.2, SrcZ.none _ _⟩
                · have HP9 := Lib.hid (HP8.out.below hb9)
                  have HD9 := Lib.hid (HD8.out.below hb9)
                  have HX9 := Lib.hid (HX8.out.kept (hb9.block _ HX8.out.lt))
                  have HFI := Lib.hid (show r < (dtx ms).size + (Fr.sealed (enc (mM 11 (M.o.getD s 0) td (M.ver + 1) s))).length from by rw [dtx_size]; exact hno)
                  clear hm9 hb9 HS d0 d1 d2 hno
                  have d1 := HX9.out.cell 1
                  have d2 := HX9.out.cell 2
                  go_wp2_with (refine wpList_load_mid rfl 47 (.tmp 12) rfl db 0 rfl (rmL (dtx ms) d r (mrows M na nn nc)) _ HD9.out.all Try.underlying47 rfl (rmC_info (dtx ms) d r (M := (mrows M na nn nc)) HOL.out) ?_)
                  refine (HDS.out w9).mono ?_
                  rintro e wa ⟨⟨hfit, _⟩ | ⟨hno, rfl⟩, hba⟩
                  · exact absurd hfit (by have := HFI.out; show ¬ _ + (Fr.sealed (enc (mM 11 (M.o.getD s 0) td (M.ver + 1) s))).length ≤ r; omega)
                  clear hno d1 d2
                  have HPA := Lib.hid (HP9.out.below hba)
                  have HDA := Lib.hid (HD9.out.below hba)
                  clear hba HP9 HD9 HX9 HDS
                  obtain ⟨Z, hZ, hwZ, hbZ⟩ := box_new wa 47 (rmC ⟨#[]⟩ 0 0 mvZ)
                  have hz0 : RmAt Z wa.heap.size ⟨#[]⟩ 0 (0 : Int) mvZ := hwZ
                  have HNL := Lib.hid (show (mrows M na nn nc).o.length = 16 from HOL.out)
                  have HTH := Lib.hid (show (wa.alloc (.cells (rmC ⟨#[]⟩ 0 0 mvZ) 47)).there wa.heap.size 0 (rmC (dtx ms) d r (mrows M na nn nc)).size from by rw [← hZ]; exact hz0.room rfl _ _ _ HNL.out)
                  have HQ := Lib.hid (show RmAt ((wa.alloc (.cells (rmC ⟨#[]⟩ 0 0 mvZ) 47)).setCells wa.heap.size 0 (rmC (dtx ms) d r (mrows M na nn nc)).toList) wa.heap.size (dtx ms) d r (mrows M na nn nc) ∧ Below wa.heap.size wa ((wa.alloc (.cells (rmC ⟨#[]⟩ 0 0 mvZ) 47)).setCells wa.heap.size 0 (rmC (dtx ms) d r (mrows M na nn nc)).toList) from by rw [← hZ]; exact ⟨hz0.put rfl _ _ _ HNL.out, below_sets (Nat.le_refl _) _ _ hbZ⟩)
                  rw [zero_rm] at HTH HQ
                  clear hZ hwZ hbZ hz0
                  go_upto_region 22 with (refine wpList_store_mid rfl 47 (.tmp 18) (.tmp 89) rfl wa.heap.size 0 (rmC (dtx ms) d r (mrows M na nn nc)) rfl rfl HTH.out (rmC_info (dtx ms) d r (M := mrows M na nn nc) HNL.out) (rmC_one _ _ _ _) ?_)
                  generalize World.setCells _ wa.heap.size 0 _ = wb at *
                  have HPB := Lib.hid (HPA.out.below HQ.out.2)
                  have HDB2 := Lib.hid (HDA.out.below HQ.out.2)
                  have HST := Lib.hid (HPB.out.stored HDB.out HDB2.out HOL.out (dtx ms) d (N' := mrows M na nn nc) HNL.out)
                  have HRM := Lib.hid (HDB2.out.room HOL.out (dtx ms) d r (M' := mrows M na nn nc) HNL.out)
                  clear HTH HPA HDA
                  generalize wa.heap.size = qb at *
                  go_wp2_with (first
                    | (refine wpList_load_mid rfl 47 (.tmp 18) rfl qb 0 rfl (rmL (dtx ms) d r (mrows M na nn nc)) _ HQ.out.1.all Try.underlying47 rfl (rmC_info (dtx ms) d r (M := mrows M na nn nc) HNL.out) ?_)
                    | (refine wpList_store_mid rfl 47 (.tmp 12) (.tmp 92) rfl db 0 (rmC (dtx ms) d r (mrows M na nn nc)) rfl rfl HRM.out (rmC_info (dtx ms) d r (M := mrows M na nn nc) HNL.out) (rmC_one _ _ _ _) ?_; generalize World.setCells wb db 0 _ = wc at *))
                  go_meet
                  exact ⟨⟨3, rfl, rfl⟩, gm, gl, v, M, ms, zs, d, na, nn, nc, rfl, HST.out.1, HOQ.out, HST.out.2, HSR.out⟩
              · have HS := Lib.hid (start_bad X HP8.out.ms.mv sd td hs hcd)
                have HDS := Lib.hid (fun W => rstart_bad W (dtx ms) d r (mrows M na nn nc) HOL.out sd td hs hcd)
                clear hcd hs
                go_wp2_with fail
                refine HS.out.mono ?_
                rintro e w9 ⟨rfl, hb9⟩
                have HP9 := Lib.hid (HP8.out.below hb9)
                have HD9 := Lib.hid (HD8.out.below hb9)
                have HX9 := Lib.hid (HX8.out.kept (hb9.block _ HX8.out.lt))
                clear hb9 HS d0 d1 d2
                have d1 := HX9.out.cell 1
                have d2 := HX9.out.cell 2
                go_wp2_with (refine wpList_load_mid rfl 47 (.tmp 12) rfl db 0 rfl (rmL (dtx ms) d r (mrows M na nn nc)) _ HD9.out.all Try.underlying47 rfl (rmC_info (dtx ms) d r (M := (mrows M na nn nc)) HOL.out) ?_)
                refine (HDS.out w9).mono ?_
                rintro e wa ⟨rfl, hba⟩
                change Below w9.heap.size w9 wa at hba
                generalize hcd : (Mt.move M.e M.o sd td).2.2 = cd at *
                have hcd2 : (Mt.move (mrows M na nn nc).e (mrows M na nn nc).o sd td).2.2 = cd := hcd
                rw [hcd2]
                clear hcd hcd2 d1 d2
                have HPA := Lib.hid (HP9.out.below hba)
                have HDA := Lib.hid (HD9.out.below hba)
                clear hba HP9 HD9 HX9 HDS
                obtain ⟨Z, hZ, hwZ, hbZ⟩ := box_new wa 47 (rmC ⟨#[]⟩ 0 0 mvZ)
                have hz0 : RmAt Z wa.heap.size ⟨#[]⟩ 0 (0 : Int) mvZ := hwZ
                have HNL := Lib.hid (show (mrows M na nn nc).o.length = 16 from HOL.out)
                have HTH := Lib.hid (show (wa.alloc (.cells (rmC ⟨#[]⟩ 0 0 mvZ) 47)).there wa.heap.size 0 (rmC (dtx ms) d r (mrows M na nn nc)).size from by rw [← hZ]; exact hz0.room rfl _ _ _ HNL.out)
                have HQ := Lib.hid (show RmAt ((wa.alloc (.cells (rmC ⟨#[]⟩ 0 0 mvZ) 47)).setCells wa.heap.size 0 (rmC (dtx ms) d r (mrows M na nn nc)).toList) wa.heap.size (dtx ms) d r (mrows M na nn nc) ∧ Below wa.heap.size wa ((wa.alloc (.cells (rmC ⟨#[]⟩ 0 0 mvZ) 47)).setCells wa.heap.size 0 (rmC (dtx ms) d r (mrows M na nn nc)).toList) from by rw [← hZ]; exact ⟨hz0.put rfl _ _ _ HNL.out, below_sets (Nat.le_refl _) _ _ hbZ⟩)
                rw [zero_rm] at HTH HQ
                clear hZ hwZ hbZ hz0
                go_upto_region 22 with (refine wpList_store_mid rfl 47 (.tmp 18) (.tmp 89) rfl wa.heap.size 0 (rmC (dtx ms) d r (mrows M na nn nc)) rfl rfl HTH.out (rmC_info (dtx ms) d r (M := mrows M na nn nc) HNL.out) (rmC_one _ _ _ _) ?_)
                generalize World.setCells _ wa.heap.size 0 _ = wb at *
                have HPB := Lib.hid (HPA.out.below HQ.out.2)
                have HDB2 := Lib.hid (HDA.out.below HQ.out.2)
                have HST := Lib.hid (HPB.out.stored HDB.out HDB2.out HOL.out (dtx ms) d (N' := mrows M na nn nc) HNL.out)
                have HRM := Lib.hid (HDB2.out.room HOL.out (dtx ms) d r (M' := mrows M na nn nc) HNL.out)
                clear HTH HPA HDA
                generalize wa.heap.size = qb at *
                go_wp2_with (first
                  | (refine wpList_load_mid rfl 47 (.tmp 18) rfl qb 0 rfl (rmL (dtx ms) d r (mrows M na nn nc)) _ HQ.out.1.all Try.underlying47 rfl (rmC_info (dtx ms) d r (M := mrows M na nn nc) HNL.out) ?_)
                  | (refine wpList_store_mid rfl 47 (.tmp 12) (.tmp 92) rfl db 0 (rmC (dtx ms) d r (mrows M na nn nc)) rfl rfl HRM.out (rmC_info (dtx ms) d r (M := mrows M na nn nc) HNL.out) (rmC_one _ _ _ _) ?_; generalize World.setCells wb db 0 _ = wc at *))
                go_meet
                exact ⟨⟨cd, rfl, rfl⟩, gm, gl, v, M, ms, zs, d, na, nn, nc, rfl, HST.out.1, HOQ.out, HST.out.2, HSR.out⟩
            · have HS := Lib.hid (start_busy X HP8.out.ms.mv sd td hs)
              have HDS := Lib.hid (fun W => rstart_busy W (dtx ms) d r (mrows M na nn nc) HOL.out sd td hs)
              clear hs
              go_wp2_with fail
              refine HS.out.mono ?_
              rintro e w9 ⟨rfl, rfl⟩
              have HP9 := HP8
              have HD9 := HD8
              have HX9 := HX8
              clear HS
              go_wp2_with (refine wpList_load_mid rfl 47 (.tmp 12) rfl db 0 rfl (rmL (dtx ms) d r (mrows M na nn nc)) _ HD9.out.all Try.underlying47 rfl (rmC_info (dtx ms) d r (M := (mrows M na nn nc)) HOL.out) ?_)
              refine (HDS.out w9).mono ?_
              rintro e wa ⟨rfl, hba⟩
              clear d0 d1 d2
              have HPA := Lib.hid (HP9.out.below hba)
              have HDA := Lib.hid (HD9.out.below hba)
              clear hba HP9 HD9 HX9 HDS
              obtain ⟨Z, hZ, hwZ, hbZ⟩ := box_new wa 47 (rmC ⟨#[]⟩ 0 0 mvZ)
              have hz0 : RmAt Z wa.heap.size ⟨#[]⟩ 0 (0 : Int) mvZ := hwZ
              have HNL := Lib.hid (show (mrows M na nn nc).o.length = 16 from HOL.out)
              have HTH := Lib.hid (show (wa.alloc (.cells (rmC ⟨#[]⟩ 0 0 mvZ) 47)).there wa.heap.size 0 (rmC (dtx ms) d r (mrows M na nn nc)).size from by rw [← hZ]; exact hz0.room rfl _ _ _ HNL.out)
              have HQ := Lib.hid (show RmAt ((wa.alloc (.cells (rmC ⟨#[]⟩ 0 0 mvZ) 47)).setCells wa.heap.size 0 (rmC (dtx ms) d r (mrows M na nn nc)).toList) wa.heap.size (dtx ms) d r (mrows M na nn nc) ∧ Below wa.heap.size wa ((wa.alloc (.cells (rmC ⟨#[]⟩ 0 0 mvZ) 47)).setCells wa.heap.size 0 (rmC (dtx ms) d r (mrows M na nn nc)).toList) from by rw [← hZ]; exact ⟨hz0.put rfl _ _ _ HNL.out, below_sets (Nat.le_refl _) _ _ hbZ⟩)
              rw [zero_rm] at HTH HQ
              clear hZ hwZ hbZ hz0
              go_upto_region 22 with (refine wpList_store_mid rfl 47 (.tmp 18) (.tmp 89) rfl wa.heap.size 0 (rmC (dtx ms) d r (mrows M na nn nc)) rfl rfl HTH.out (rmC_info (dtx ms) d r (M := mrows M na nn nc) HNL.out) (rmC_one _ _ _ _) ?_)
              generalize World.setCells _ wa.heap.size 0 _ = wb at *
              have HPB := Lib.hid (HPA.out.below HQ.out.2)
              have HDB2 := Lib.hid (HDA.out.below HQ.out.2)
              have HST := Lib.hid (HPB.out.stored HDB.out HDB2.out HOL.out (dtx ms) d (N' := mrows M na nn nc) HNL.out)
              have HRM := Lib.hid (HDB2.out.room HOL.out (dtx ms) d r (M' := mrows M na nn nc) HNL.out)
              clear HTH HPA HDA
              generalize wa.heap.size = qb at *
              go_wp2_with (first
                | (refine wpList_load_mid rfl 47 (.tmp 18) rfl qb 0 rfl (rmL (dtx ms) d r (mrows M na nn nc)) _ HQ.out.1.all Try.underlying47 rfl (rmC_info (dtx ms) d r (M := mrows M na nn nc) HNL.out) ?_)
                | (refine wpList_store_mid rfl 47 (.tmp 12) (.tmp 92) rfl db 0 (rmC (dtx ms) d r (mrows M na nn nc)) rfl rfl HRM.out (rmC_info (dtx ms) d r (M := mrows M na nn nc) HNL.out) (rmC_one _ _ _ _) ?_; generalize World.setCells wb db 0 _ = wc at *))
              go_meet
              exact ⟨⟨180, rfl, rfl⟩, gm, gl, v, M, ms, zs, d, na, nn, nc, rfl, HST.out.1, HOQ.out, HST.out.2, HSR.out⟩
        · have f0 : (kd == 0) = false := by simpa using hk0
          by_cases hk1 : kd = 1
          · skip
            subst hk1
            as_aux_lemma =>
              have d3 := HX8.out.cell 3
              have d4 := HX8.out.cell 4
              by_cases hs : M.st = 1 ∧ M.id = di
              · have HS := Lib.hid (fenced_rowsC X HP8.out.ms di hs (HSO.out.up HP8.out.bel).1)
                have HDS := Lib.hid (fun W => rfenced_any W (dtx ms) d r (mrows M na nn nc) HOL.out di ra rn rc hs.1 hs.2)
                have HS1 := Lib.hid hs.1
                clear hs
                go_wp2_with fail
                refine HS.out.mono ?_
                rintro e w9 ⟨rfl, ⟨r1, r2, r3, hm9, hr9⟩, hc9⟩
                have HP9 := Lib.hid (HP8.out.chg hm9 (hr9.lower HP8.out.bel.size) hc9)
                have HD9 := Lib.hid (HP8.out.doc HD8.out hc9)
                have HX9 := Lib.hid (HP8.out.ms.tab HX8.out (by decide) hc9)
                have HO9 := Lib.hid (HOQ.out.fenced HS1.out r1 r2 r3 zo)
                clear hm9 hr9 hc9 HS d0 d3 d4
                have d3 := HX9.out.cell 3
                have d4 := HX9.out.cell 4
                go_wp2_with (refine wpList_load_mid rfl 47 (.tmp 12) rfl db 0 rfl (rmL (dtx ms) d r (mrows M na nn nc)) _ HD9.out.all Try.underlying47 rfl (rmC_info (dtx ms) d r (M := (mrows M na nn nc)) HOL.out) ?_)
                refine (HDS.out w9).mono ?_
                rintro e wa ⟨rfl, hba⟩
                clear d3 d4
                have HPA := Lib.hid (HP9.out.below hba)
                have HDA := Lib.hid (HD9.out.below hba)
                have HNL := Lib.hid (show ({ mrows M na nn nc with ra := ra, rn := rn, rc := rc, st := 2 }).o.length = 16 from HOL.out)
                have HST := Lib.hid (HPA.out.stored HDB.out HDA.out HOL.out (dtx ms) d (N' := { mrows M na nn nc with ra := ra, rn := rn, rc := rc, st := 2 }) HNL.out)
                have HRM := Lib.hid (HDA.out.room HOL.out (dtx ms) d r (M' := { mrows M na nn nc with ra := ra, rn := rn, rc := rc, st := 2 }) HNL.out)
                clear hba HP9 HD9 HX9 HDS
                go_wp2_with (refine wpList_store_mid rfl 47 (.tmp 12) (.tmp 113) rfl db 0 (rmC (dtx ms) d r ({ mrows M na nn nc with ra := ra, rn := rn, rc := rc, st := 2 })) rfl rfl HRM.out (rmC_info (dtx ms) d r (M := { mrows M na nn nc with ra := ra, rn := rn, rc := rc, st := 2 }) HNL.out) (rmC_one _ _ _ _) ?_; generalize World.setCells wa db 0 _ = wc at *)
                go_meet
                exact ⟨⟨0, rfl, rfl⟩, gm, gl, v, _, ms, zo, d, ra, rn, rc, rfl, HST.out.1, HO9.out, HST.out.2, HSO.out⟩
              · skip
                have HS := Lib.hid (fenced_no X HP8.out.ms.mv di ra rn rc hs)
                have HDS := Lib.hid (fun W => rfenced_no W (dtx ms) d r (mrows M na nn nc) HOL.out di ra rn rc hs)
                clear hs
                go_wp2_with fail
                refine HS.out.mono ?_
                rintro e w9 ⟨rfl, rfl⟩
                have HP9 := HP8
                have HD9 := HD8
                have HX9 := HX8
                clear HS
                go_wp2_with (refine wpList_load_mid rfl 47 (.tmp 12) rfl db 0 rfl (rmL (dtx ms) d r (mrows M na nn nc)) _ HD9.out.all Try.underlying47 rfl (rmC_info (dtx ms) d r (M := (mrows M na nn nc)) HOL.out) ?_)
                refine (HDS.out w9).mono ?_
                rintro e wa ⟨rfl, hba⟩
                clear d0
                have HPA := Lib.hid (HP9.out.below hba)
                have HDA := Lib.hid (HD9.out.below hba)
                have HNL := Lib.hid (show (mrows M na nn nc).o.length = 16 from HOL.out)
                have HST := Lib.hid (HPA.out.stored HDB.out HDA.out HOL.out (dtx ms) d (N' := mrows M na nn nc) HNL.out)
                have HRM := Lib.hid (HDA.out.room HOL.out (dtx ms) d r (M' := mrows M na nn nc) HNL.out)
                clear hba HP9 HD9 HX9 HDS
                go_wp2_with (refine wpList_store_mid rfl 47 (.tmp 12) (.tmp 113) rfl db 0 (rmC (dtx ms) d r (mrows M na nn nc)) rfl rfl HRM.out (rmC_info (dtx ms) d r (M := mrows M na nn nc) HNL.out) (rmC_one _ _ _ _) ?_; generalize World.setCells wa db 0 _ = wc at *)
                go_meet
                exact ⟨⟨154, rfl, rfl⟩, gm, gl, v, M, ms, zs, d, na, nn, nc, rfl, HST.out.1, HOQ.out, HST.out.2, HSR.out⟩
          · have f1 : (kd == 1) = false := by simpa using hk1
            by_cases hk2 : kd = 2
            · skip
              subst hk2
              as_aux_lemma =>
                have d3 := HX8.out.cell 3
                by_cases hs : M.st = 2 ∧ M.id = di
                · have hn0 : M.st ≠ 0 := by rw [hs.1]; decide
                  have hsz : (dtx ms).size ≤ 1048576 := by rw [dtx_size]; have := HP8.out.ms.bytes; have := HR1.out; omega
                  have HS := installed_any X HP8.out.ms di hs HDI.out
                  have HDS := fun W => rinstalled_any W (dtx ms) d r (mrows M na nn nc) HOL.out hs.1 hsz (show InI M.id from by rw [hs.2]; exact HDI.out)
                  have HO9 := Lib.hid (HOQ.out.cut hn0 M.id)
                  have HMVD := Lib.hid (HOQ.out.moved hn0)
                  rw [← hs.2] at HS
                  have HID := hs.2
                  rw [← HID] at d3 HX8
                  have HS := Lib.hid HS
                  have HDS := Lib.hid HDS
                  clear hs hn0 hsz HID HDI
                  go_wp2_with fail
                  refine HS.out.mono ?_
                  rintro e w9 ⟨k, rfl, ⟨rfl, hfit, v9, hm9, hc9⟩ | ⟨rfl, hno, hm9, hb9⟩⟩
                  · have HP9 := Lib.hid (HP8.out.chg hm9 (RwC.none _ _) hc9)
                    have HD9 := Lib.hid (HP8.out.doc HD8.out hc9)
                    have HX9 := Lib.hid (HP8.out.ms.tab HX8.out (by decide) hc9)
                    have HFI := Lib.hid (show (dtx ms).size + (Fr.sealed (enc (mM 12 0 0 M.id 0))).length ≤ r from by rw [dtx_size]; exact hfit)
                    clear hm9 hc9 HS d0 hfit d3
                    have d3 := HX9.out.cell 3
                    go_wp2_with (refine wpList_load_mid rfl 47 (.tmp 12) rfl db 0 rfl (rmL (dtx ms) d r (mrows M na nn nc)) _ HD9.out.all Try.underlying47 rfl (rmC_info (dtx ms) d r (M := (mrows M na nn nc)) HOL.out) ?_)
                    refine (HDS.out w9).mono ?_
                    rintro e wa ⟨⟨hfit, rfl⟩ | ⟨hno, _⟩, hba⟩
                    rotate_left
                    · exact absurd hno (by have := HFI.out; show ¬ r < _ + (Fr.sealed (enc (mM 12 0 0 M.id 0))).length; omega)
                    have hTX : dtx ms ++ strOfNums (Fr.sealed (enc (mM 12 0 0 (mrows M na nn nc).id 0))) = dtx (ms ++ [mM 12 0 0 M.id 0]) := (dtx_snoc ms (mM 12 0 0 M.id 0)).symm
                    rw [hTX]
                    clear hTX hfit
                    generalize hTT : dtx (ms ++ [mM 12 0 0 M.id 0]) = TT at *
                    have HTT := Lib.hid hTT
                    clear hTT
                    have HPA := Lib.hid (HP9.out.below hba)
                    have HDA := Lib.hid (HD9.out.below hba)
                    have HNL := Lib.hid (show (mend (mrows M na nn nc) (Mt.move (mrows M na nn nc).e (mrows M na nn nc).o (mrows M na nn nc).sl (mrows M na nn nc).tw).1 (Mt.move (mrows M na nn nc).e (mrows M na nn nc).o (mrows M na nn nc).sl (mrows M na nn nc).tw).2.1).o.length = 16 from move_len (mrows M na nn nc).sl (mrows M na nn nc).tw HOL.out)
                    have HST := Lib.hid (HPA.out.stored HDB.out HDA.out HOL.out TT TT.size (N' := mend (mrows M na nn nc) (Mt.move (mrows M na nn nc).e (mrows M na nn nc).o (mrows M na nn nc).sl (mrows M na nn nc).tw).1 (Mt.move (mrows M na nn nc).e (mrows M na nn nc).o (mrows M na nn nc).sl (mrows M na nn nc).tw).2.1) HNL.out)
                    have HRM := Lib.hid (HDA.out.room HOL.out TT TT.size r (M' := mend (mrows M na nn nc) (Mt.move (mrows M na nn nc).e (mrows M na nn nc).o (mrows M na nn nc).sl (mrows M na nn nc).tw).1 (Mt.move (mrows M na nn nc).e (mrows M na nn nc).o (mrows M na nn nc).sl (mrows M na nn nc).tw).2.1) HNL.out)
                    clear hba HP9 HD9 HX9 HDS
                    go_wp2_with (refine wpList_store_mid rfl 47 (.tmp 12) (.tmp 126) rfl db 0 (rmC TT TT.size r (mend (mrows M na nn nc) (Mt.move (mrows M na nn nc).e (mrows M na nn nc).o (mrows M na nn nc).sl (mrows M na nn nc).tw).1 (Mt.move (mrows M na nn nc).e (mrows M na nn nc).o (mrows M na nn nc).sl (mrows M na nn nc).tw).2.1)) rfl rfl HRM.out (rmC_info TT TT.size r (M := mend (mrows M na nn nc) (Mt.move (mrows M na nn nc).e (mrows M na nn nc).o (mrows M na nn nc).sl (mrows M na nn nc).tw).1 (Mt.move (mrows M na nn nc).e (mrows M na nn nc).o (mrows M na nn nc).sl (mrows M na nn nc).tw).2.1) HNL.out) (rmC_one _ _ _ _) ?_; generalize World.setCells wa db 0 _ = wc at *)
                    go_meet
                    exact ⟨⟨0, rfl, rfl⟩, gm, gl, v9, mend M M.e2 M.o2, _, [], _, none, 0, 0, rfl, HST.out.1, HO9.out, by
                      rw [HTT.out]
                      have h1 := HST.out.2
                      rw [show Mt.move (mrows M na nn nc).e (mrows M na nn nc).o (mrows M na nn nc).sl (mrows M na nn nc).tw = (M.e2, M.o2, 0) from HMVD.out] at h1
                      exact h1, SrcZ.none _ _⟩
                  · have HP9 := Lib.hid (HP8.out.below hb9)
                    have HD9 := Lib.hid (HD8.out.below hb9)
                    have HX9 := Lib.hid (HX8.out.kept (hb9.block _ HX8.out.lt))
                    have HFI := Lib.hid (show r < (dtx ms).size + (Fr.sealed (enc (mM 12 0 0 M.id 0))).length from by rw [dtx_size]; exact hno)
                    clear hm9 hb9 HS d0 hno d3
                    have d3 := HX9.out.cell 3
                    go_wp2_with (refine wpList_load_mid rfl 47 (.tmp 12) rfl db 0 rfl (rmL (dtx ms) d r (mrows M na nn nc)) _ HD9.out.all Try.underlying47 rfl (rmC_info (dtx ms) d r (M := (mrows M na nn nc)) HOL.out) ?_)
                    refine (HDS.out w9).mono ?_
                    rintro e wa ⟨⟨hfit, _⟩ | ⟨hno, rfl⟩, hba⟩
                    · exact absurd hfit (by have := HFI.out; show ¬ _ + (Fr.sealed (enc (mM 12 0 0 M.id 0))).length ≤ r; omega)
                    clear hno
                    have HPA := Lib.hid (HP9.out.below hba)
                    have HDA := Lib.hid (HD9.out.below hba)
                    have HNL := Lib.hid (show (mrows M na nn nc).o.length = 16 from HOL.out)
                    have HST := Lib.hid (HPA.out.stored HDB.out HDA.out HOL.out (dtx ms) d (N' := mrows M na nn nc) HNL.out)
                    have HRM := Lib.hid (HDA.out.room HOL.out (dtx ms) d r (M' := mrows M na nn nc) HNL.out)
                    clear hba HP9 HD9 HX9 HDS
                    go_wp2_with (refine wpList_store_mid rfl 47 (.tmp 12) (.tmp 126) rfl db 0 (rmC (dtx ms) d r (mrows M na nn nc)) rfl rfl HRM.out (rmC_info (dtx ms) d r (M := mrows M na nn nc) HNL.out) (rmC_one _ _ _ _) ?_; generalize World.setCells wa db 0 _ = wc at *)
                    go_meet
                    exact ⟨⟨3, rfl, rfl⟩, gm, gl, v, M, ms, zs, d, na, nn, nc, rfl, HST.out.1, HOQ.out, HST.out.2, HSR.out⟩
                · skip
                  have HS := Lib.hid (installed_no X HP8.out.ms.mv di hs)
                  have HDS := Lib.hid (fun W => rinstalled_no W (dtx ms) d r (mrows M na nn nc) HOL.out di hs)
                  clear hs
                  go_wp2_with fail
                  refine HS.out.mono ?_
                  rintro e w9 ⟨rfl, rfl⟩
                  have HP9 := HP8
                  have HD9 := HD8
                  have HX9 := HX8
                  clear HS
                  go_wp2_with (refine wpList_load_mid rfl 47 (.tmp 12) rfl db 0 rfl (rmL (dtx ms) d r (mrows M na nn nc)) _ HD9.out.all Try.underlying47 rfl (rmC_info (dtx ms) d r (M := (mrows M na nn nc)) HOL.out) ?_)
                  refine (HDS.out w9).mono ?_
                  rintro e wa ⟨rfl, hba⟩
                  clear d0
                  have HPA := Lib.hid (HP9.out.below hba)
                  have HDA := Lib.hid (HD9.out.below hba)
                  have HNL := Lib.hid (show (mrows M na nn nc).o.length = 16 from HOL.out)
                  have HST := Lib.hid (HPA.out.stored HDB.out HDA.out HOL.out (dtx ms) d (N' := mrows M na nn nc) HNL.out)
                  have HRM := Lib.hid (HDA.out.room HOL.out (dtx ms) d r (M' := mrows M na nn nc) HNL.out)
                  clear hba HP9 HD9 HX9 HDS
                  go_wp2_with (refine wpList_store_mid rfl 47 (.tmp 12) (.tmp 126) rfl db 0 (rmC (dtx ms) d r (mrows M na nn nc)) rfl rfl HRM.out (rmC_info (dtx ms) d r (M := mrows M na nn nc) HNL.out) (rmC_one _ _ _ _) ?_; generalize World.setCells wa db 0 _ = wc at *)
                  go_meet
                  exact ⟨⟨154, rfl, rfl⟩, gm, gl, v, M, ms, zs, d, na, nn, nc, rfl, HST.out.1, HOQ.out, HST.out.2, HSR.out⟩
            · have f2 : (kd == 2) = false := by simpa using hk2
              by_cases hk3 : kd = 3
              · skip
                subst hk3
                as_aux_lemma =>
                  by_cases hs : M.st = 0
                  · skip
                    have HS := Lib.hid (undo_none X HP8.out.ms.mv hs)
                    have HDS := Lib.hid (fun W => rundo_none W (dtx ms) d r (mrows M na nn nc) HOL.out hs)
                    clear hs
                    go_wp2_with fail
                    refine HS.out.mono ?_
                    rintro e w9 ⟨rfl, rfl⟩
                    have HP9 := HP8
                    have HD9 := HD8
                    have HX9 := HX8
                    clear HS
                    go_wp2_with (refine wpList_load_mid rfl 47 (.tmp 12) rfl db 0 rfl (rmL (dtx ms) d r (mrows M na nn nc)) _ HD9.out.all Try.underlying47 rfl (rmC_info (dtx ms) d r (M := (mrows M na nn nc)) HOL.out) ?_)
                    refine (HDS.out w9).mono ?_
                    rintro e wa ⟨rfl, hba⟩
                    clear d0
                    have HPA := Lib.hid (HP9.out.below hba)
                    have HDA := Lib.hid (HD9.out.below hba)
                    have HNL := Lib.hid (show (mrows M na nn nc).o.length = 16 from HOL.out)
                    have HST := Lib.hid (HPA.out.stored HDB.out HDA.out HOL.out (dtx ms) d (N' := mrows M na nn nc) HNL.out)
                    have HRM := Lib.hid (HDA.out.room HOL.out (dtx ms) d r (M' := mrows M na nn nc) HNL.out)
                    clear hba HP9 HD9 HX9 HDS
                    go_wp2_with (refine wpList_store_mid rfl 47 (.tmp 12) (.tmp 135) rfl db 0 (rmC (dtx ms) d r (mrows M na nn nc)) rfl rfl HRM.out (rmC_info (dtx ms) d r (M := mrows M na nn nc) HNL.out) (rmC_one _ _ _ _) ?_; generalize World.setCells wa db 0 _ = wc at *)
                    go_meet
                    exact ⟨⟨4, rfl, rfl⟩, gm, gl, v, M, ms, zs, d, na, nn, nc, rfl, HST.out.1, HOQ.out, HST.out.2, HSR.out⟩
                  · have hsm := HP8.out.ms.small
                    have hvv := HOQ.out.ver
                    have hid := (HOQ.out.moving hs).2.1
                    have hidI : InI M.id := ⟨by omega, by omega⟩
                    have hsz : (dtx ms).size ≤ 1048576 := by rw [dtx_size]; have := HP8.out.ms.bytes; have := HR1.out; omega
                    have HS := Lib.hid (undo_any X HP8.out.ms hs hidI)
                    have HDS := Lib.hid (fun W => rundo_any W (dtx ms) d r (mrows M na nn nc) HOL.out hs hsz hidI)
                    have HO9 := Lib.hid (HOQ.out.undo hs M.id)
                    clear hs hsm hvv hid hidI hsz
                    go_wp2_with fail
                    refine HS.out.mono ?_
                    rintro e w9 ⟨k, rfl, ⟨rfl, hfit, v9, hm9, hc9⟩ | ⟨rfl, hno, hm9, hb9⟩⟩
                    · have HP9 := Lib.hid (HP8.out.chg hm9 (RwC.none _ _) hc9)
                      have HD9 := Lib.hid (HP8.out.doc HD8.out hc9)
                      have HX9 := Lib.hid (HP8.out.ms.tab HX8.out (by decide) hc9)
                      have HFI := Lib.hid (show (dtx ms).size + (Fr.sealed (enc (mM 13 0 0 M.id 0))).length ≤ r from by rw [dtx_size]; exact hfit)
                      clear hm9 hc9 HS d0 hfit
                      skip
                      go_wp2_with (refine wpList_load_mid rfl 47 (.tmp 12) rfl db 0 rfl (rmL (dtx ms) d r (mrows M na nn nc)) _ HD9.out.all Try.underlying47 rfl (rmC_info (dtx ms) d r (M := (mrows M na nn nc)) HOL.out) ?_)
                      refine (HDS.out w9).mono ?_
                      rintro e wa ⟨⟨hfit, rfl⟩ | ⟨hno, _⟩, hba⟩
                      rotate_left
                      · exact absurd hno (by have := HFI.out; show ¬ r < _ + (Fr.sealed (enc (mM 13 0 0 M.id 0))).length; omega)
                      have hTX : dtx ms ++ strOfNums (Fr.sealed (enc (mM 13 0 0 (mrows M na nn nc).id 0))) = dtx (ms ++ [mM 13 0 0 M.id 0]) := (dtx_snoc ms (mM 13 0 0 M.id 0)).symm
                      rw [hTX]
                      clear hTX hfit
                      generalize hTT : dtx (ms ++ [mM 13 0 0 M.id 0]) = TT at *
                      have HTT := Lib.hid hTT
                      clear hTT
                      have HPA := Lib.hid (HP9.out.below hba)
                      have HDA := Lib.hid (HD9.out.below hba)
                      have HNL := Lib.hid (show (mend (mrows M na nn nc) (mrows M na nn nc).e (mrows M na nn nc).o).o.length = 16 from HOL.out)
                      have HST := Lib.hid (HPA.out.stored HDB.out HDA.out HOL.out TT TT.size (N' := mend (mrows M na nn nc) (mrows M na nn nc).e (mrows M na nn nc).o) HNL.out)
                      have HRM := Lib.hid (HDA.out.room HOL.out TT TT.size r (M' := mend (mrows M na nn nc) (mrows M na nn nc).e (mrows M na nn nc).o) HNL.out)
                      clear hba HP9 HD9 HX9 HDS
                      go_wp2_with (refine wpList_store_mid rfl 47 (.tmp 12) (.tmp 135) rfl db 0 (rmC TT TT.size r (mend (mrows M na nn nc) (mrows M na nn nc).e (mrows M na nn nc).o)) rfl rfl HRM.out (rmC_info TT TT.size r (M := mend (mrows M na nn nc) (mrows M na nn nc).e (mrows M na nn nc).o) HNL.out) (rmC_one _ _ _ _) ?_; generalize World.setCells wa db 0 _ = wc at *)
                      go_meet
                      exact ⟨⟨0, rfl, rfl⟩, gm, gl, v9, mend M M.e M.o, _, [], _, none, 0, 0, rfl, HST.out.1, HO9.out, by rw [HTT.out]; exact HST.out.2, SrcZ.none _ _⟩
                    · have HP9 := Lib.hid (HP8.out.below hb9)
                      have HD9 := Lib.hid (HD8.out.below hb9)
                      have HX9 := Lib.hid (HX8.out.kept (hb9.block _ HX8.out.lt))
                      have HFI := Lib.hid (show r < (dtx ms).size + (Fr.sealed (enc (mM 13 0 0 M.id 0))).length from by rw [dtx_size]; exact hno)
                      clear hm9 hb9 HS d0 hno
                      skip
                      go_wp2_with (refine wpList_load_mid rfl 47 (.tmp 12) rfl db 0 rfl (rmL (dtx ms) d r (mrows M na nn nc)) _ HD9.out.all Try.underlying47 rfl (rmC_info (dtx ms) d r (M := (mrows M na nn nc)) HOL.out) ?_)
                      refine (HDS.out w9).mono ?_
                      rintro e wa ⟨⟨hfit, _⟩ | ⟨hno, rfl⟩, hba⟩
                      · exact absurd hfit (by have := HFI.out; show ¬ _ + (Fr.sealed (enc (mM 13 0 0 M.id 0))).length ≤ r; omega)
                      clear hno
                      have HPA := Lib.hid (HP9.out.below hba)
                      have HDA := Lib.hid (HD9.out.below hba)
                      have HNL := Lib.hid (show (mrows M na nn nc).o.length = 16 from HOL.out)
                      have HST := Lib.hid (HPA.out.stored HDB.out HDA.out HOL.out (dtx ms) d (N' := mrows M na nn nc) HNL.out)
                      have HRM := Lib.hid (HDA.out.room HOL.out (dtx ms) d r (M' := mrows M na nn nc) HNL.out)
                      clear hba HP9 HD9 HX9 HDS
                      go_wp2_with (refine wpList_store_mid rfl 47 (.tmp 12) (.tmp 135) rfl db 0 (rmC (dtx ms) d r (mrows M na nn nc)) rfl rfl HRM.out (rmC_info (dtx ms) d r (M := mrows M na nn nc) HNL.out) (rmC_one _ _ _ _) ?_; generalize World.setCells wa db 0 _ = wc at *)
                      go_meet
                      exact ⟨⟨3, rfl, rfl⟩, gm, gl, v, M, ms, zs, d, na, nn, nc, rfl, HST.out.1, HOQ.out, HST.out.2, HSR.out⟩
              · have f3 : (kd == 3) = false := by simpa using hk3
                by_cases hk4 : kd = 4
                · skip
                  subst hk4
                  as_aux_lemma =>
                    have HCR := Lib.hid (crash_all X HP8.out.ms)
                    go_wp2_with fail
                    refine HCR.out.mono ?_
                    rintro e w9 ⟨rfl, v9, hd9, hch9, hv9⟩
                    have hc9 : Chg X w9 (SB gm gl g v) := hch9.mono fun k _ hk => .inr (.inl hk)
                    have hb9 : Below w.heap.size w w9 := HP8.out.bel.trans (HP8.out.ms.sb_below hc9)
                    have HO9 := Lib.hid (opened_tab w9 _ e0 o0 HO.out HCK.out hd9 HP8.out.ms.fine hb9.size)
                    have HF9 := Lib.hid (HP8.out.ms.tab HP8.out.ft (by decide) hc9)
                    have HC9 := Lib.hid hc9
                    have HV9 := Lib.hid hv9
                    have HB9 := Lib.hid hb9
                    have HSZ := Lib.hid (show (dtx ms).size ≤ 1048576 by rw [dtx_size]; have := HP8.out.ms.bytes; have := HR1.out; omega)
                    clear hd9 hch9 hv9 hb9 hc9 HCR d0
                    go_wp2_with (refine wpList_load_mid rfl 24 (.tmp 4) rfl w.heap.size 0 rfl (tL e0 o0) _ (whole_all_range HF9.out) Try.underlying24 rfl (tL_info _ HO.out) ?_)
                    refine HO9.out.mono ?_
                    rintro e wa (⟨gm2, gl2, va, msa, rfl, hms, hch, _, hcase⟩ | ⟨h0, hlt, rfl, ⟨va, hda⟩, hch⟩)
                    · have hca : Chg X wa (SB gm gl g v) := HC9.out.trans ⟨hch.os, hch.tape, hch.output, hch.size, fun k hk hn => hch.block k hk (by
                        rintro (e1 | e1)
                        · exact hn (.inr (.inl e1))
                        · exact hn (.inr (.inr (.inl (by rw [← HV9.out]; exact e1)))))⟩
                      have HP9 := Lib.hid (HP8.out.chg (M' := rep e0 o0 msa) (zs' := []) hms (by rw [(rep_rowsT e0 o0 msa).1, (rep_rowsT e0 o0 msa).2.1, (rep_rowsT e0 o0 msa).2.2]; exact RwC.none _ _) hca)
                      have HD9 := Lib.hid (HP8.out.doc HD8.out hca)
                      have HX9 := HX8
                      clear hms hca HO9 hch
                      rcases hcase with ⟨h0, h9⟩ | ⟨h0, h9⟩
                      · rw [h9] at HP9
                        clear h9
                        have hs : M.st = 0 := by
                          by_cases h : M.st = 0
                          · exact h
                          · exact absurd h0 (HOQ.out.boot1 h).2.1
                        obtain ⟨hq, he⟩ := HOQ.out.boot0 hs
                        have HQ := Lib.hid hq
                        have HEQ := Lib.hid he
                        have HZS := Lib.hid (HOQ.out.idle hs).2.2
                        have HDS := Lib.hid (fun W => ropen_none W (dtx ms) d r (mrows M na nn nc) HOL.out hs)
                        clear hs h0 hq he
                        go_wp2_with (refine wpList_load_mid rfl 47 (.tmp 12) rfl db 0 rfl (rmL (dtx ms) d r (mrows M na nn nc)) _ HD9.out.all Try.underlying47 rfl (rmC_info (dtx ms) d r (M := (mrows M na nn nc)) HOL.out) ?_)
                        refine (HDS.out wa).mono ?_
                        rintro e wd ⟨rfl, hba⟩
                        have HPA := Lib.hid (HP9.out.below hba)
                        have HDA := Lib.hid (HD9.out.below hba)
                        have HNL := Lib.hid (show (mrows M na nn nc).o.length = 16 from HOL.out)
                        have HST := Lib.hid (HPA.out.stored HDB.out HDA.out HOL.out (dtx ms) d (N' := mrows M na nn nc) HNL.out)
                        have HRM := Lib.hid (HDA.out.room HOL.out (dtx ms) d r (M' := mrows M na nn nc) HNL.out)
                        clear hba HP9 HD9 HX9 HDS
                        go_wp2_with (refine wpList_store_mid rfl 47 (.tmp 12) (.tmp 150) rfl db 0 (rmC (dtx ms) d r (mrows M na nn nc)) rfl rfl HRM.out (rmC_info (dtx ms) d r (M := mrows M na nn nc) HNL.out) (rmC_one _ _ _ _) ?_; generalize World.setCells wd db 0 _ = wc at *)
                        go_meet
                        exact ⟨⟨0, rfl, rfl⟩, gm2, gl2, va, _, ms, [], d, na, nn, nc, rfl, HST.out.1, HQ.out, by have h1 := HST.out.2; unfold RmAt at h1 ⊢; rw [HEQ.out]; exact h1, by have h1 := HSR.out; rw [HZS.out] at h1; exact h1⟩
                      · rw [h9] at HP9
                        clear h9
                        have hs : M.st ≠ 0 := fun h => h0 (HOQ.out.idle h).1
                        obtain ⟨h1, h2, h3⟩ := HOQ.out.boot1 hs
                        have HQ := HOQ.out.undo hs M.id
                        have hum : undoT e0 o0 ms = mM 13 0 0 M.id 0 := by unfold undoT; rw [h1]
                        rw [hum] at HP9
                        rw [h3] at HP9
                        have hsm := HP8.out.ms.small
                        have hvv := HOQ.out.ver
                        have hid := (HOQ.out.moving hs).2.1
                        have hidI : InI M.id := ⟨by omega, by omega⟩
                        have HFI := HP9.out.ms.bytes
                        rw [cat_snoc_len] at HFI
                        have HFI := Lib.hid HFI
                        have HQ := Lib.hid HQ
                        have HDS := Lib.hid (fun W => ropen_any W (dtx ms) d r (mrows M na nn nc) HOL.out hs HSZ.out hidI)
                        clear hs h0 h1 h2 h3 hum hsm hvv hid hidI
                        go_wp2_with (refine wpList_load_mid rfl 47 (.tmp 12) rfl db 0 rfl (rmL (dtx ms) d r (mrows M na nn nc)) _ HD9.out.all Try.underlying47 rfl (rmC_info (dtx ms) d r (M := (mrows M na nn nc)) HOL.out) ?_)
                        refine (HDS.out wa).mono ?_
                        rintro e wd ⟨⟨hfit, rfl⟩ | ⟨hno, _⟩, hba⟩
                        rotate_left
                        · exact absurd hno (by have := HFI.out; have e4 := dtx_size ms; show ¬ r < _ + (rcd (mM 13 0 0 M.id 0)).length; omega)
                        have hTX : dtx ms ++ strOfNums (Fr.sealed (enc (mM 13 0 0 (mrows M na nn nc).id 0))) = dtx (ms ++ [mM 13 0 0 M.id 0]) := (dtx_snoc ms (mM 13 0 0 M.id 0)).symm
                        rw [hTX]
                        clear hTX hfit
                        generalize hTT : dtx (ms ++ [mM 13 0 0 M.id 0]) = TT at *
                        have HTT := Lib.hid hTT
                        clear hTT
                        have HPA := Lib.hid (HP9.out.below hba)
                        have HDA := Lib.hid (HD9.out.below hba)
                        have HNL := Lib.hid (show (mend (mrows M na nn nc) (mrows M na nn nc).e (mrows M na nn nc).o).o.length = 16 from HOL.out)
                        have HST := Lib.hid (HPA.out.stored HDB.out HDA.out HOL.out TT TT.size (N' := mend (mrows M na nn nc) (mrows M na nn nc).e (mrows M na nn nc).o) HNL.out)
                        have HRM := Lib.hid (HDA.out.room HOL.out TT TT.size r (M' := mend (mrows M na nn nc) (mrows M na nn nc).e (mrows M na nn nc).o) HNL.out)
                        clear hba HP9 HD9 HX9 HDS
                        go_wp2_with (refine wpList_store_mid rfl 47 (.tmp 12) (.tmp 150) rfl db 0 (rmC TT TT.size r (mend (mrows M na nn nc) (mrows M na nn nc).e (mrows M na nn nc).o)) rfl rfl HRM.out (rmC_info TT TT.size r (M := mend (mrows M na nn nc) (mrows M na nn nc).e (mrows M na nn nc).o) HNL.out) (rmC_one _ _ _ _) ?_; generalize World.setCells wd db 0 _ = wc at *)
                        go_meet
                        exact ⟨⟨0, rfl, rfl⟩, gm2, gl2, va, mend M M.e M.o, _, [], _, none, 0, 0, rfl, HST.out.1, HQ.out, by rw [HTT.out]; exact HST.out.2, SrcZ.none _ _⟩
                    · have hs : M.st ≠ 0 := fun h => h0 (HOQ.out.idle h).1
                      obtain ⟨h1, h2, h3⟩ := HOQ.out.boot1 hs
                      have hum : undoT e0 o0 ms = mM 13 0 0 M.id 0 := by unfold undoT; rw [h1]
                      rw [hum] at hlt
                      have hsm := HP8.out.ms.small
                      have hvv := HOQ.out.ver
                      have hid := (HOQ.out.moving hs).2.1
                      have hidI : InI M.id := ⟨by omega, by omega⟩
                      have hca : Chg X wa (SB gm gl g v) := HC9.out.trans ⟨hch.os, hch.tape, hch.output, hch.size, fun k hk hn => hch.block k hk (by
                        rintro (e1 | e1)
                        · exact hn (.inr (.inl e1))
                        · exact hn (.inr (.inr (.inl (by rw [← HV9.out]; exact e1)))))⟩
                      have HD9 := Lib.hid (HP8.out.doc HD8.out hca)
                      have HBA := Lib.hid (HP8.out.bel.trans (HP8.out.ms.sb_below hca))
                      have HDS := Lib.hid (fun W => ropen_any W (dtx ms) d r (mrows M na nn nc) HOL.out hs HSZ.out hidI)
                      have HLT := Lib.hid hlt
                      clear hs h0 h1 h2 h3 hum hsm hvv hid hidI hca hlt hda hch HO9
                      go_wp2_with (refine wpList_load_mid rfl 47 (.tmp 12) rfl db 0 rfl (rmL (dtx ms) d r (mrows M na nn nc)) _ HD9.out.all Try.underlying47 rfl (rmC_info (dtx ms) d r (M := (mrows M na nn nc)) HOL.out) ?_)
                      refine (HDS.out wa).mono ?_
                      rintro e wd ⟨⟨hfit, _⟩ | ⟨hno, rfl⟩, hba⟩
                      · exact absurd hfit (by have := HLT.out; have e4 := dtx_size ms; show ¬ _ + (rcd (mM 13 0 0 M.id 0)).length ≤ r; omega)
                      have HRM := Lib.hid ((HD9.out.below hba).room HOL.out (dtx ms) d r (M' := mrows M na nn nc) HOL.out)
                      have HBE := Lib.hid (below_sets HDB.out (rmC (dtx ms) d r (mrows M na nn nc)).toList 0 (HBA.out.trans (hba.mono HBA.out.size)))
                      clear hno hba HDS
                      go_wp2_with (refine wpList_store_mid rfl 47 (.tmp 12) (.tmp 150) rfl db 0 (rmC (dtx ms) d r (mrows M na nn nc)) rfl rfl HRM.out (rmC_info (dtx ms) d r (M := mrows M na nn nc) HOL.out) (rmC_one _ _ _ _) ?_; generalize World.setCells wd db 0 _ = wc at *)
                      go_ret
                      exact ⟨rfl, HBE.out⟩
                · skip
                  have f4 : (kd == 4) = false := by simpa using hk4
                  clear d0 hk0 hk1 hk2 hk3 hk4
                  have d0 := HX8.out.cell 0
                  go_wp2_with fail
                  go_meet
                  exact ⟨⟨0, rfl, rfl⟩, gm, gl, v, M, ms, zs, d, na, nn, nc, rfl, HP8.out, HOQ.out, HD8.out, HSR.out⟩
      case rest =>
        as_aux_lemma =>
          clear HP8 HD8 HX8 d0 HOQ HSR HOL HDI HSO
          obtain ⟨⟨k, rfl, rfl⟩, gm5, gl5, v5, M5, ms5, zs5, d5, na5, nn5, nc5, rfl, hp5, ho5, hd5, hs5⟩ := hcut
          have HP5 := Lib.hid hp5
          have HD5 := Lib.hid hd5
          have HS5 := Lib.hid hs5
          have HTB5 := Lib.hid ho5.tb
          have HOZ := Lib.hid ho5
          have HL5 := Lib.hid (show M5.o.length = 16 from ho5.tb.2.2.1)
          have HLN := Lib.hid (show (mrows M5 na5 nn5 nc5).o.length = 16 from ho5.tb.2.2.1)
          clear hp5 ho5 hd5 hs5
          have HTA := Lib.hid (table_any wc HP5.out.ms.mv)
          go_wp2_with fail
          refine HTA.out.mono ?_
          rintro e w9 ⟨rfl, hb9⟩
          have HP9 := Lib.hid (HP5.out.below hb9)
          have HD9 := Lib.hid (HD5.out.below hb9)
          clear hb9 HTA HP5 HD5
          have HTH := Lib.hid (show (w9.alloc (.cells (tcs 0 noOwn) 24)).there w9.heap.size 0 (tcs (M5.e) (M5.o)).size from tab_there (heap_alloc_new w9 (.cells (tcs 0 noOwn) 24)) (tcs_size _ _ rfl) HL5.out)
          have HWN := Lib.hid (show Whole ((w9.alloc (.cells (tcs 0 noOwn) 24)).setCells w9.heap.size 0 (tcs (M5.e) (M5.o)).toList) w9.heap.size 24 (tcs (M5.e) (M5.o)) from tab_put (heap_alloc_new w9 (.cells (tcs 0 noOwn) 24)) (tcs_size _ _ rfl) HL5.out)
          have HBN := Lib.hid (show Below w9.heap.size w9 ((w9.alloc (.cells (tcs 0 noOwn) 24)).setCells w9.heap.size 0 (tcs (M5.e) (M5.o)).toList) from below_sets (Nat.le_refl _) _ _ (below_alloc w9 _))
          rw [zero_tab] at HTH HWN HBN
          have HTI := Lib.hid (tab_info (e := M5.e) (o := M5.o) HL5.out)
          skip
          go_upto_region 41 with (refine wpList_store_mid rfl 24 (.tmp 21) (.tmp 164) rfl w9.heap.size 0 (tcs (M5.e) (M5.o)) rfl rfl HTH.out HTI.out (tcs_one _ _) ?_)
          generalize World.setCells _ w9.heap.size 0 _ = wd at *
          clear HTH HTI
          have HPD := Lib.hid (HP9.out.below HBN.out)
          have HDD := Lib.hid (HD9.out.below HBN.out)
          have HTD := Lib.hid HWN.out
          clear HBN HWN HP9 HD9
          generalize w9.heap.size = tb at *
          have HMV := Lib.hid (moving_rows wd HPD.out.ms.mv (zs := zs5) (fun W hb => clone_rowsC W ((HPD.out.rw.below hb).src)))
          go_wp2_with fail
          refine HMV.out.mono ?_
          rintro e we ⟨ma, mn, mc, rfl, hrc, hbe⟩
          obtain rfl : nn5 = mn := HS5.out.1.1.symm.trans hrc.1
          have HPE := Lib.hid (HPD.out.below hbe)
          have HDE := Lib.hid (HDD.out.below hbe)
          have HTE := Lib.hid (HTD.out.kept (hbe.block _ HTD.out.lt))
          have HRE := Lib.hid hrc
          clear hrc hbe HMV HPD HDD HTD
          obtain ⟨mz, hmz⟩ : ∃ mz, mz = (mcs (mrows M5 ma nn5 mc)).toArray := ⟨_, rfl⟩
          rw [← hmz]
          have HMZ := Lib.hid (show mz.size = 12 ∧ mz.all (·.oneCell') = true ∧ mz[1]? = some (.int .i64 M5.fr) ∧ mz[2]? = some (.int .i64 M5.tw) ∧ mz[3]? = some (.int .i64 M5.id) ∧ mz[6]? = some (.int .i64 M5.sl) ∧ mz[11]? = some (.slice ma nn5 mc) from by rw [hmz]; exact ⟨rfl, mcs_one _, rfl, rfl, rfl, rfl, rfl⟩)
          clear hmz
          have hth := whole_all (heap_alloc_new we (.cells #[.int .i64 0, .int .i64 0, .int .i64 0, .int .i64 0, .int .i64 0, .int .i64 0, .int .i64 0, .bool false, .slice none 0 0, .slice none 0 0, .slice none 0 0, .slice none 0 0] 45) : Whole (we.alloc (.cells #[.int .i64 0, .int .i64 0, .int .i64 0, .int .i64 0, .int .i64 0, .int .i64 0, .int .i64 0, .bool false, .slice none 0 0, .slice none 0 0, .slice none 0 0, .slice none 0 0] 45)) we.heap.size 45 #[.int .i64 0, .int .i64 0, .int .i64 0, .int .i64 0, .int .i64 0, .int .i64 0, .int .i64 0, .bool false, .slice none 0 0, .slice none 0 0, .slice none 0 0, .slice none 0 0])
          have HTH := Lib.hid (show (we.alloc (.cells #[.int .i64 0, .int .i64 0, .int .i64 0, .int .i64 0, .int .i64 0, .int .i64 0, .int .i64 0, .bool false, .slice none 0 0, .slice none 0 0, .slice none 0 0, .slice none 0 0] 45)).there we.heap.size 0 mz.size from by rw [HMZ.out.1]; exact hth)
          have HTI := Lib.hid (show (Try.prog.info? 45).map (·.size) = some mz.size from by rw [HMZ.out.1]; exact Try.infoMs)
          have HWM := Lib.hid (show Whole ((we.alloc (.cells #[.int .i64 0, .int .i64 0, .int .i64 0, .int .i64 0, .int .i64 0, .int .i64 0, .int .i64 0, .bool false, .slice none 0 0, .slice none 0 0, .slice none 0 0, .slice none 0 0] 45)).setCells we.heap.size 0 mz.toList) we.heap.size 45 mz from whole_row (heap_alloc_new we (.cells #[.int .i64 0, .int .i64 0, .int .i64 0, .int .i64 0, .int .i64 0, .int .i64 0, .int .i64 0, .bool false, .slice none 0 0, .slice none 0 0, .slice none 0 0, .slice none 0 0] 45)) (by rw [Array.length_toList, HMZ.out.1]; rfl))
          have HBN := Lib.hid (show Below we.heap.size we ((we.alloc (.cells #[.int .i64 0, .int .i64 0, .int .i64 0, .int .i64 0, .int .i64 0, .int .i64 0, .int .i64 0, .bool false, .slice none 0 0, .slice none 0 0, .slice none 0 0, .slice none 0 0] 45)).setCells we.heap.size 0 mz.toList) from below_sets (Nat.le_refl _) _ _ (below_alloc we _))
          clear hth
          go_upto_region 42 with (refine wpList_store_mid rfl 45 (.tmp 23) (.tmp 169) rfl we.heap.size 0 mz rfl rfl HTH.out HTI.out HMZ.out.2.1 ?_)
          generalize World.setCells _ we.heap.size 0 _ = wf at *
          have HPF := Lib.hid (HPE.out.below HBN.out)
          have HDF := Lib.hid (HDE.out.below HBN.out)
          have HTF := Lib.hid (HTE.out.kept (HBN.out.block _ HTE.out.lt))
          have HRF := Lib.hid (HRE.out.below HBN.out)
          have HMF := Lib.hid HWM.out
          clear HBN HWM HTH HTI HPE HDE HTE HRE
          generalize we.heap.size = xb at *
          have e1 : ((strOfNums (cat ms5)).toList == (strOfNums (cat ms5)).toList) = true := by simp
          have HIN := Lib.hid HTB5.out.in64
          have hS0 : Below wf.heap.size wf wf.drew := below_drewN wf 1
          have HBY := Lib.hid (show Lg wf w.heap.size gl5 g v5 (cat ms5) (cat ms5).length r ms5.length from HPF.out.ms.log).disk.byte
          obtain ⟨wdr, hwd⟩ : ∃ wdr, wdr = wf.drew := ⟨_, rfl⟩
          rw [← hwd] at hS0
          subst hwd
          refine wp_region_held_drew (S := fun V : World => Below wf.heap.size wf V) (by kernel_rfl) (hS0) (fun hHeld => ?_)
          refine wpAnyH_take (i := 0) (oi := { dst := Option.some 171, op := Go.Op.move (Go.Operand.tmp 15), type := 28, pos := "law.go:120", after := #[], guard := Option.none }) (v := ?_) rfl (by kernel_rfl) (by kernel_rfl) (by kernel_rfl) (fun _ _ _ h => h) (Or.inl ⟨by rfl, ?_⟩) (by assumption) ?_
          rotate_left
          · intro V hV; (try dsimp only at hV); go_simp; all_goals (with_reducible rfl)
          try simp only [Act.put, List.setIfInBounds_toArray, List.set_cons_zero, List.set_cons_succ]
          refine wpAnyH_take (i := 1) (oi := { dst := Option.some 172, op := Go.Op.move (Go.Operand.tmp 11), type := 3, pos := "law.go:120", after := #[], guard := Option.none }) (v := ?_) rfl (by kernel_rfl) (by kernel_rfl) (by kernel_rfl) (fun _ _ _ h => h) (Or.inl ⟨by rfl, ?_⟩) (by assumption) ?_
          rotate_left
          · intro V hV; (try dsimp only at hV); go_simp; all_goals (with_reducible rfl)
          try simp only [Act.put, List.setIfInBounds_toArray, List.set_cons_zero, List.set_cons_succ]
          refine wpAnyH_take (i := 2) (oi := { dst := Option.some 173, op := Go.Op.binOp Go.BinOp.neq 3 (Go.Operand.tmp 171) (Go.Operand.tmp 172) 3, type := 4, pos := "law.go:120", after := #[{ on := 0, ground := Go.Ground.data }, { on := 1, ground := Go.Ground.data }], guard := Option.none }) (v := ?_) rfl (by kernel_rfl) (by kernel_rfl) (by kernel_rfl) (fun _ _ _ h => h) (Or.inl ⟨by rfl, ?_⟩) (by assumption) ?_
          rotate_left
          · intro V hV; (try dsimp only at hV); go_simp; all_goals (with_reducible rfl)
          try simp only [Act.put, List.setIfInBounds_toArray, List.set_cons_zero, List.set_cons_succ]
          refine wpAnyH_take (i := 3) (oi := { dst := Option.some 174, op := Go.Op.move (Go.Operand.tmp 173), type := 4, pos := "law.go:120", after := #[{ on := 2, ground := Go.Ground.data }], guard := Option.none }) (v := ?_) rfl (by kernel_rfl) (by kernel_rfl) (by kernel_rfl) (fun _ _ _ h => h) (Or.inl ⟨by rfl, ?_⟩) (by assumption) ?_
          rotate_left
          · intro V hV; (try dsimp only at hV); go_simp; all_goals (with_reducible rfl)
          try simp only [Act.put, List.setIfInBounds_toArray, List.set_cons_zero, List.set_cons_succ]
          refine wpAnyH_take (i := 4) (oi := { dst := Option.some 175, op := Go.Op.load 24 (Go.Operand.tmp 21), type := 24, pos := "law.go:120", after := #[{ on := 3, ground := Go.Ground.guard }], guard := Option.some (3, Bool.false) }) (v := .agg (tL M5.e M5.o).toArray) rfl (by kernel_rfl) (by kernel_rfl) (by kernel_rfl) (fun _ _ _ h => h) (Or.inl ⟨by rfl, fun V hV => exec_mid _ _ V 24 (.tmp 21) rfl tb 0 rfl (tL M5.e M5.o) _ (whole_all_range (HTF.out.kept (hV.block _ HTF.out.lt))) Try.underlying24 rfl (tL_info _ HL5.out)⟩) (by assumption) ?_
          try simp only [Act.put, List.setIfInBounds_toArray, List.set_cons_zero, List.set_cons_succ]
          refine wpAnyH_take (i := 6) (oi := { dst := Option.some 177, op := Go.Op.fieldAddr 47 (Go.Operand.tmp 12) 1, type := 0, pos := "law.go:120", after := #[{ on := 3, ground := Go.Ground.guard }], guard := Option.some (3, Bool.false) }) (v := ?_) rfl (by kernel_rfl) (by kernel_rfl) (by kernel_rfl) (fun _ _ _ h => h) (Or.inl ⟨by rfl, ?_⟩) (by assumption) ?_
          rotate_left
          · intro V hV; (try dsimp only at hV); go_simp; all_goals (with_reducible rfl)
          try simp only [Act.put, List.setIfInBounds_toArray, List.set_cons_zero, List.set_cons_succ]
          refine wpAnyH_take (i := 7) (oi := { dst := Option.some 178, op := Go.Op.load 36 (Go.Operand.tmp 177), type := 36, pos := "law.go:120", after := #[{ on := 6, ground := Go.Ground.data }, { on := 3, ground := Go.Ground.guard }], guard := Option.some (3, Bool.false) }) (v := .agg (tL M5.e M5.o).toArray) rfl (by kernel_rfl) (by kernel_rfl) (by kernel_rfl) (fun _ _ _ h => h) (Or.inl ⟨by rfl, fun V hV => exec_mid _ _ V 36 (.tmp 177) rfl db 3 rfl (tL M5.e M5.o) _ ((HDF.out.below hV).tab HLN.out).1 Try.underlying36 rfl (show (Try.prog.info? 36).map (·.size) = some (tL M5.e M5.o).length from (tL_len M5.e HL5.out).symm ▸ Try.infoRT)⟩) (by assumption) ?_
          try simp only [Act.put, List.setIfInBounds_toArray, List.set_cons_zero, List.set_cons_succ]
          refine wpAnyH_ready (rs := [5]) (by kernel_rfl) (by simp) ?_
          refine AllReadyH.cons (o := { dst := Option.some 176, op := Go.Op.call { callee := Go.Callee.value (Go.Operand.func 11), args := #[Go.Operand.tmp 175], argTypes := #[24] }, type := 36, pos := "law.go:120", after := #[{ on := 4, ground := Go.Ground.data }, { on := 3, ground := Go.Ground.chain }, { on := 3, ground := Go.Ground.guard }], guard := Option.some (3, Bool.false) }) rfl (fun K hK => ?_) (AllReadyH.nil)
          go_simp
          refine (plain_any _ M5.e M5.o HL5.out).mono ?_
          rintro x w11 ⟨rfl, hb1⟩
          have hHeld1 := hHeld.trans (hb1.mono hHeld.size)
          clear hHeld hb1
          go_wp2_with fail
          refine hK.out _ _ (hHeld1) (fun hHeld => ?_)
          clear hK K
          try simp only [Act.put, List.setIfInBounds_toArray, List.set_cons_zero, List.set_cons_succ]
          refine wpAnyH_take (i := 8) (oi := { dst := Option.some 179, op := Go.Op.binOp Go.BinOp.neq 36 (Go.Operand.tmp 176) (Go.Operand.tmp 178) 36, type := 4, pos := "law.go:120", after := #[{ on := 5, ground := Go.Ground.data }, { on := 7, ground := Go.Ground.data }, { on := 3, ground := Go.Ground.guard }], guard := Option.some (3, Bool.false) }) (v := .bool false) rfl (by kernel_rfl) (by kernel_rfl) (by kernel_rfl) (fun _ _ _ h => h) (Or.inl ⟨by rfl, fun V _ => exec_neq_self _ 36 (.tmp 176) (.tmp 178) 36 rfl (tcs M5.e M5.o) rfl rfl guardR (eq_tabR M5.e M5.o HL5.out HIN.out.1 HIN.out.2 V)⟩) (by assumption) ?_
          try simp only [Act.put, List.setIfInBounds_toArray, List.set_cons_zero, List.set_cons_succ]
          refine wpAnyH_take (i := 9) (oi := { dst := Option.some 180, op := Go.Op.pick (Go.Operand.tmp 174) (Go.Operand.const (Go.Value.bool Bool.true)) (Go.Operand.tmp 179), type := 4, pos := "law.go:120", after := #[{ on := 3, ground := Go.Ground.data }, { on := 8, ground := Go.Ground.data }], guard := Option.none }) (v := ?_) rfl (by kernel_rfl) (by kernel_rfl) (by kernel_rfl) (fun _ _ _ h => h) (Or.inl ⟨by rfl, ?_⟩) (by assumption) ?_
          rotate_left
          · intro V hV; (try dsimp only at hV); go_simp; all_goals (with_reducible rfl)
          try simp only [Act.put, List.setIfInBounds_toArray, List.set_cons_zero, List.set_cons_succ]
          refine wpAnyH_take (i := 10) (oi := { dst := Option.some 181, op := Go.Op.move (Go.Operand.tmp 180), type := 4, pos := "law.go:120", after := #[{ on := 9, ground := Go.Ground.data }, { on := 5, ground := Go.Ground.chain }], guard := Option.none }) (v := ?_) rfl (by kernel_rfl) (by kernel_rfl) (by kernel_rfl) (fun _ _ _ h => h) (Or.inl ⟨by rfl, ?_⟩) (by assumption) ?_
          rotate_left
          · intro V hV; (try dsimp only at hV); go_simp; all_goals (with_reducible rfl)
          try simp only [Act.put, List.setIfInBounds_toArray, List.set_cons_zero, List.set_cons_succ]
          refine wpAnyH_take (i := 11) (oi := { dst := Option.some 182, op := Go.Op.move (Go.Operand.tmp 22), type := 2, pos := "law.go:120", after := #[{ on := 10, ground := Go.Ground.guard }], guard := Option.some (10, Bool.false) }) (v := ?_) rfl (by kernel_rfl) (by kernel_rfl) (by kernel_rfl) (fun _ _ _ h => h) (Or.inl ⟨by rfl, ?_⟩) (by assumption) ?_
          rotate_left
          · intro V hV; (try dsimp only at hV); go_simp; all_goals (with_reducible rfl)
          try simp only [Act.put, List.setIfInBounds_toArray, List.set_cons_zero, List.set_cons_succ]
          refine wpAnyH_take (i := 12) (oi := { dst := Option.some 183, op := Go.Op.fieldAddr 47 (Go.Operand.tmp 12) 2, type := 0, pos := "law.go:120", after := #[{ on := 10, ground := Go.Ground.guard }], guard := Option.some (10, Bool.false) }) (v := ?_) rfl (by kernel_rfl) (by kernel_rfl) (by kernel_rfl) (fun _ _ _ h => h) (Or.inl ⟨by rfl, ?_⟩) (by assumption) ?_
          rotate_left
          · intro V hV; (try dsimp only at hV); go_simp; all_goals (with_reducible rfl)
          try simp only [Act.put, List.setIfInBounds_toArray, List.set_cons_zero, List.set_cons_succ]
          refine wpAnyH_take (i := 13) (oi := { dst := Option.some 184, op := Go.Op.load 2 (Go.Operand.tmp 183), type := 2, pos := "law.go:120", after := #[{ on := 12, ground := Go.Ground.data }, { on := 10, ground := Go.Ground.guard }], guard := Option.some (10, Bool.false) }) (v := ?_) rfl (by kernel_rfl) (by kernel_rfl) (by kernel_rfl) (fun _ _ _ h => h) (Or.inl ⟨by rfl, ?_⟩) (by assumption) ?_
          rotate_left
          · intro V hV; (try dsimp only at hV); have cV : V.cell? ⟨db, 20, none⟩ = some (.int .i64 M5.ver) := (HDF.out.below hV).ver HLN.out; go_simp; all_goals (with_reducible rfl)
          try simp only [Act.put, List.setIfInBounds_toArray, List.set_cons_zero, List.set_cons_succ]
          refine wpAnyH_take (i := 14) (oi := { dst := Option.some 185, op := Go.Op.binOp Go.BinOp.neq 2 (Go.Operand.tmp 182) (Go.Operand.tmp 184) 2, type := 4, pos := "law.go:120", after := #[{ on := 11, ground := Go.Ground.data }, { on := 13, ground := Go.Ground.data }, { on := 10, ground := Go.Ground.guard }], guard := Option.some (10, Bool.false) }) (v := ?_) rfl (by kernel_rfl) (by kernel_rfl) (by kernel_rfl) (fun _ _ _ h => h) (Or.inl ⟨by rfl, ?_⟩) (by assumption) ?_
          rotate_left
          · intro V hV; (try dsimp only at hV); go_simp; all_goals (with_reducible rfl)
          try simp only [Act.put, List.setIfInBounds_toArray, List.set_cons_zero, List.set_cons_succ]
          refine wpAnyH_take (i := 15) (oi := { dst := Option.some 186, op := Go.Op.pick (Go.Operand.tmp 181) (Go.Operand.const (Go.Value.bool Bool.true)) (Go.Operand.tmp 185), type := 4, pos := "law.go:120", after := #[{ on := 10, ground := Go.Ground.data }, { on := 14, ground := Go.Ground.data }], guard := Option.none }) (v := ?_) rfl (by kernel_rfl) (by kernel_rfl) (by kernel_rfl) (fun _ _ _ h => h) (Or.inl ⟨by rfl, ?_⟩) (by assumption) ?_
          rotate_left
          · intro V hV; (try dsimp only at hV); go_simp; all_goals (with_reducible rfl)
          try simp only [Act.put, List.setIfInBounds_toArray, List.set_cons_zero, List.set_cons_succ]
          refine wpAnyH_take (i := 16) (oi := { dst := Option.some 187, op := Go.Op.move (Go.Operand.tmp 186), type := 4, pos := "law.go:120", after := #[{ on := 15, ground := Go.Ground.data }, { on := 10, ground := Go.Ground.chain }], guard := Option.none }) (v := ?_) rfl (by kernel_rfl) (by kernel_rfl) (by kernel_rfl) (fun _ _ _ h => h) (Or.inl ⟨by rfl, ?_⟩) (by assumption) ?_
          rotate_left
          · intro V hV; (try dsimp only at hV); go_simp; all_goals (with_reducible rfl)
          try simp only [Act.put, List.setIfInBounds_toArray, List.set_cons_zero, List.set_cons_succ]
          refine wpAnyH_take (i := 17) (oi := { dst := Option.some 188, op := Go.Op.move (Go.Operand.tmp 24), type := 3, pos := "law.go:120", after := #[{ on := 16, ground := Go.Ground.guard }], guard := Option.some (16, Bool.false) }) (v := ?_) rfl (by kernel_rfl) (by kernel_rfl) (by kernel_rfl) (fun _ _ _ h => h) (Or.inl ⟨by rfl, ?_⟩) (by assumption) ?_
          rotate_left
          · intro V hV; (try dsimp only at hV); go_simp; all_goals (with_reducible rfl)
          try simp only [Act.put, List.setIfInBounds_toArray, List.set_cons_zero, List.set_cons_succ]
          refine wpAnyH_take (i := 18) (oi := { dst := Option.some 189, op := Go.Op.fieldAddr 47 (Go.Operand.tmp 12) 4, type := 0, pos := "law.go:120", after := #[{ on := 16, ground := Go.Ground.guard }], guard := Option.some (16, Bool.false) }) (v := ?_) rfl (by kernel_rfl) (by kernel_rfl) (by kernel_rfl) (fun _ _ _ h => h) (Or.inl ⟨by rfl, ?_⟩) (by assumption) ?_
          rotate_left
          · intro V hV; (try dsimp only at hV); go_simp; all_goals (with_reducible rfl)
          try simp only [Act.put, List.setIfInBounds_toArray, List.set_cons_zero, List.set_cons_succ]
          refine wpAnyH_take (i := 19) (oi := { dst := Option.some 190, op := Go.Op.load 3 (Go.Operand.tmp 189), type := 3, pos := "law.go:120", after := #[{ on := 18, ground := Go.Ground.data }, { on := 16, ground := Go.Ground.guard }], guard := Option.some (16, Bool.false) }) (v := ?_) rfl (by kernel_rfl) (by kernel_rfl) (by kernel_rfl) (fun _ _ _ h => h) (Or.inl ⟨by rfl, ?_⟩) (by assumption) ?_
          rotate_left
          · intro V hV; (try dsimp only at hV); have cV : V.cell? ⟨db, 33, none⟩ = some (.int .i64 M5.st) := (HDF.out.below hV).st HLN.out; go_simp; all_goals (with_reducible rfl)
          try simp only [Act.put, List.setIfInBounds_toArray, List.set_cons_zero, List.set_cons_succ]
          refine wpAnyH_take (i := 20) (oi := { dst := Option.some 191, op := Go.Op.binOp Go.BinOp.neq 3 (Go.Operand.tmp 188) (Go.Operand.tmp 190) 3, type := 4, pos := "law.go:120", after := #[{ on := 17, ground := Go.Ground.data }, { on := 19, ground := Go.Ground.data }, { on := 16, ground := Go.Ground.guard }], guard := Option.some (16, Bool.false) }) (v := ?_) rfl (by kernel_rfl) (by kernel_rfl) (by kernel_rfl) (fun _ _ _ h => h) (Or.inl ⟨by rfl, ?_⟩) (by assumption) ?_
          rotate_left
          · intro V hV; (try dsimp only at hV); go_simp; all_goals (with_reducible rfl)
          try simp only [Act.put, List.setIfInBounds_toArray, List.set_cons_zero, List.set_cons_succ]
          refine wpAnyH_take (i := 21) (oi := { dst := Option.some 192, op := Go.Op.pick (Go.Operand.tmp 187) (Go.Operand.const (Go.Value.bool Bool.true)) (Go.Operand.tmp 191), type := 4, pos := "law.go:120", after := #[{ on := 16, ground := Go.Ground.data }, { on := 20, ground := Go.Ground.data }], guard := Option.none }) (v := ?_) rfl (by kernel_rfl) (by kernel_rfl) (by kernel_rfl) (fun _ _ _ h => h) (Or.inl ⟨by rfl, ?_⟩) (by assumption) ?_
          rotate_left
          · intro V hV; (try dsimp only at hV); go_simp; all_goals (with_reducible rfl)
          try simp only [Act.put, List.setIfInBounds_toArray, List.set_cons_zero, List.set_cons_succ]
          refine wpAnyH_take (i := 22) (oi := { dst := Option.some 193, op := Go.Op.move (Go.Operand.tmp 192), type := 4, pos := "law.go:120", after := #[{ on := 21, ground := Go.Ground.data }, { on := 16, ground := Go.Ground.chain }], guard := Option.none }) (v := ?_) rfl (by kernel_rfl) (by kernel_rfl) (by kernel_rfl) (fun _ _ _ h => h) (Or.inl ⟨by rfl, ?_⟩) (by assumption) ?_
          rotate_left
          · intro V hV; (try dsimp only at hV); go_simp; all_goals (with_reducible rfl)
          try simp only [Act.put, List.setIfInBounds_toArray, List.set_cons_zero, List.set_cons_succ]
          refine wpAnyH_take (i := 23) (oi := { dst := Option.some 194, op := Go.Op.fieldAddr 45 (Go.Operand.tmp 23) 3, type := 0, pos := "law.go:120", after := #[{ on := 22, ground := Go.Ground.guard }], guard := Option.some (22, Bool.false) }) (v := ?_) rfl (by kernel_rfl) (by kernel_rfl) (by kernel_rfl) (fun _ _ _ h => h) (Or.inl ⟨by rfl, ?_⟩) (by assumption) ?_
          rotate_left
          · intro V hV; (try dsimp only at hV); go_simp; all_goals (with_reducible rfl)
          try simp only [Act.put, List.setIfInBounds_toArray, List.set_cons_zero, List.set_cons_succ]
          refine wpAnyH_take (i := 24) (oi := { dst := Option.some 195, op := Go.Op.load 2 (Go.Operand.tmp 194), type := 2, pos := "law.go:120", after := #[{ on := 23, ground := Go.Ground.data }, { on := 22, ground := Go.Ground.guard }], guard := Option.some (22, Bool.false) }) (v := ?_) rfl (by kernel_rfl) (by kernel_rfl) (by kernel_rfl) (fun _ _ _ h => h) (Or.inl ⟨by rfl, ?_⟩) (by assumption) ?_
          rotate_left
          · intro V hV; (try dsimp only at hV); have cV : V.cell? ⟨xb, 3, none⟩ = some (.int .i64 M5.id) := (by rw [(HMF.out.kept (hV.block _ HMF.out.lt)).cell]; exact HMZ.out.2.2.2.2.1); go_simp; all_goals (with_reducible rfl)
          try simp only [Act.put, List.setIfInBounds_toArray, List.set_cons_zero, List.set_cons_succ]
          refine wpAnyH_take (i := 25) (oi := { dst := Option.some 196, op := Go.Op.fieldAddr 47 (Go.Operand.tmp 12) 3, type := 0, pos := "law.go:120", after := #[{ on := 22, ground := Go.Ground.guard }], guard := Option.some (22, Bool.false) }) (v := ?_) rfl (by kernel_rfl) (by kernel_rfl) (by kernel_rfl) (fun _ _ _ h => h) (Or.inl ⟨by rfl, ?_⟩) (by assumption) ?_
          rotate_left
          · intro V hV; (try dsimp only at hV); go_simp; all_goals (with_reducible rfl)
          try simp only [Act.put, List.setIfInBounds_toArray, List.set_cons_zero, List.set_cons_succ]
          refine wpAnyH_take (i := 26) (oi := { dst := Option.some 197, op := Go.Op.fieldAddr 45 (Go.Operand.tmp 196) 3, type := 0, pos := "law.go:120", after := #[{ on := 25, ground := Go.Ground.data }, { on := 22, ground := Go.Ground.guard }], guard := Option.some (22, Bool.false) }) (v := ?_) rfl (by kernel_rfl) (by kernel_rfl) (by kernel_rfl) (fun _ _ _ h => h) (Or.inl ⟨by rfl, ?_⟩) (by assumption) ?_
          rotate_left
          · intro V hV; (try dsimp only at hV); go_simp; all_goals (with_reducible rfl)
          try simp only [Act.put, List.setIfInBounds_toArray, List.set_cons_zero, List.set_cons_succ]
          refine wpAnyH_take (i := 27) (oi := { dst := Option.some 198, op := Go.Op.load 2 (Go.Operand.tmp 197), type := 2, pos := "law.go:120", after := #[{ on := 26, ground := Go.Ground.data }, { on := 22, ground := Go.Ground.guard }], guard := Option.some (22, Bool.false) }) (v := ?_) rfl (by kernel_rfl) (by kernel_rfl) (by kernel_rfl) (fun _ _ _ h => h) (Or.inl ⟨by rfl, ?_⟩) (by assumption) ?_
          rotate_left
          · intro V hV; (try dsimp only at hV); have cV : V.cell? ⟨db, 24, none⟩ = some (.int .i64 M5.id) := (HDF.out.below hV).c24 HLN.out; go_simp; all_goals (with_reducible rfl)
          try simp only [Act.put, List.setIfInBounds_toArray, List.set_cons_zero, List.set_cons_succ]
          refine wpAnyH_take (i := 28) (oi := { dst := Option.some 199, op := Go.Op.binOp Go.BinOp.neq 2 (Go.Operand.tmp 195) (Go.Operand.tmp 198) 2, type := 4, pos := "law.go:120", after := #[{ on := 24, ground := Go.Ground.data }, { on := 27, ground := Go.Ground.data }, { on := 22, ground := Go.Ground.guard }], guard := Option.some (22, Bool.false) }) (v := ?_) rfl (by kernel_rfl) (by kernel_rfl) (by kernel_rfl) (fun _ _ _ h => h) (Or.inl ⟨by rfl, ?_⟩) (by assumption) ?_
          rotate_left
          · intro V hV; (try dsimp only at hV); go_simp; all_goals (with_reducible rfl)
          try simp only [Act.put, List.setIfInBounds_toArray, List.set_cons_zero, List.set_cons_succ]
          refine wpAnyH_take (i := 29) (oi := { dst := Option.some 200, op := Go.Op.pick (Go.Operand.tmp 193) (Go.Operand.const (Go.Value.bool Bool.true)) (Go.Operand.tmp 199), type := 4, pos := "law.go:120", after := #[{ on := 22, ground := Go.Ground.data }, { on := 28, ground := Go.Ground.data }], guard := Option.none }) (v := ?_) rfl (by kernel_rfl) (by kernel_rfl) (by kernel_rfl) (fun _ _ _ h => h) (Or.inl ⟨by rfl, ?_⟩) (by assumption) ?_
          rotate_left
          · intro V hV; (try dsimp only at hV); go_simp; all_goals (with_reducible rfl)
          try simp only [Act.put, List.setIfInBounds_toArray, List.set_cons_zero, List.set_cons_succ]
          refine wpAnyH_take (i := 30) (oi := { dst := Option.some 201, op := Go.Op.move (Go.Operand.tmp 200), type := 4, pos := "law.go:120", after := #[{ on := 29, ground := Go.Ground.data }, { on := 22, ground := Go.Ground.chain }], guard := Option.none }) (v := ?_) rfl (by kernel_rfl) (by kernel_rfl) (by kernel_rfl) (fun _ _ _ h => h) (Or.inl ⟨by rfl, ?_⟩) (by assumption) ?_
          rotate_left
          · intro V hV; (try dsimp only at hV); go_simp; all_goals (with_reducible rfl)
          try simp only [Act.put, List.setIfInBounds_toArray, List.set_cons_zero, List.set_cons_succ]
          refine wpAnyH_take (i := 31) (oi := { dst := Option.some 202, op := Go.Op.fieldAddr 45 (Go.Operand.tmp 23) 6, type := 0, pos := "law.go:120", after := #[{ on := 30, ground := Go.Ground.guard }], guard := Option.some (30, Bool.false) }) (v := ?_) rfl (by kernel_rfl) (by kernel_rfl) (by kernel_rfl) (fun _ _ _ h => h) (Or.inl ⟨by rfl, ?_⟩) (by assumption) ?_
          rotate_left
          · intro V hV; (try dsimp only at hV); go_simp; all_goals (with_reducible rfl)
          try simp only [Act.put, List.setIfInBounds_toArray, List.set_cons_zero, List.set_cons_succ]
          refine wpAnyH_take (i := 32) (oi := { dst := Option.some 203, op := Go.Op.load 3 (Go.Operand.tmp 202), type := 3, pos := "law.go:120", after := #[{ on := 31, ground := Go.Ground.data }, { on := 30, ground := Go.Ground.guard }], guard := Option.some (30, Bool.false) }) (v := ?_) rfl (by kernel_rfl) (by kernel_rfl) (by kernel_rfl) (fun _ _ _ h => h) (Or.inl ⟨by rfl, ?_⟩) (by assumption) ?_
          rotate_left
          · intro V hV; (try dsimp only at hV); have cV : V.cell? ⟨xb, 6, none⟩ = some (.int .i64 M5.sl) := (by rw [(HMF.out.kept (hV.block _ HMF.out.lt)).cell]; exact HMZ.out.2.2.2.2.2.1); go_simp; all_goals (with_reducible rfl)
          try simp only [Act.put, List.setIfInBounds_toArray, List.set_cons_zero, List.set_cons_succ]
          refine wpAnyH_take (i := 33) (oi := { dst := Option.some 204, op := Go.Op.fieldAddr 47 (Go.Operand.tmp 12) 3, type := 0, pos := "law.go:120", after := #[{ on := 30, ground := Go.Ground.guard }], guard := Option.some (30, Bool.false) }) (v := ?_) rfl (by kernel_rfl) (by kernel_rfl) (by kernel_rfl) (fun _ _ _ h => h) (Or.inl ⟨by rfl, ?_⟩) (by assumption) ?_
          rotate_left
          · intro V hV; (try dsimp only at hV); go_simp; all_goals (with_reducible rfl)
          try simp only [Act.put, List.setIfInBounds_toArray, List.set_cons_zero, List.set_cons_succ]
          refine wpAnyH_take (i := 34) (oi := { dst := Option.some 205, op := Go.Op.fieldAddr 45 (Go.Operand.tmp 204) 6, type := 0, pos := "law.go:120", after := #[{ on := 33, ground := Go.Ground.data }, { on := 30, ground := Go.Ground.guard }], guard := Option.some (30, Bool.false) }) (v := ?_) rfl (by kernel_rfl) (by kernel_rfl) (by kernel_rfl) (fun _ _ _ h => h) (Or.inl ⟨by rfl, ?_⟩) (by assumption) ?_
          rotate_left
          · intro V hV; (try dsimp only at hV); go_simp; all_goals (with_reducible rfl)
          try simp only [Act.put, List.setIfInBounds_toArray, List.set_cons_zero, List.set_cons_succ]
          refine wpAnyH_take (i := 35) (oi := { dst := Option.some 206, op := Go.Op.load 3 (Go.Operand.tmp 205), type := 3, pos := "law.go:120", after := #[{ on := 34, ground := Go.Ground.data }, { on := 30, ground := Go.Ground.guard }], guard := Option.some (30, Bool.false) }) (v := ?_) rfl (by kernel_rfl) (by kernel_rfl) (by kernel_rfl) (fun _ _ _ h => h) (Or.inl ⟨by rfl, ?_⟩) (by assumption) ?_
          rotate_left
          · intro V hV; (try dsimp only at hV); have cV : V.cell? ⟨db, 27, none⟩ = some (.int .i64 M5.sl) := (HDF.out.below hV).c27 HLN.out; go_simp; all_goals (with_reducible rfl)
          try simp only [Act.put, List.setIfInBounds_toArray, List.set_cons_zero, List.set_cons_succ]
          refine wpAnyH_take (i := 36) (oi := { dst := Option.some 207, op := Go.Op.binOp Go.BinOp.neq 3 (Go.Operand.tmp 203) (Go.Operand.tmp 206) 3, type := 4, pos := "law.go:120", after := #[{ on := 32, ground := Go.Ground.data }, { on := 35, ground := Go.Ground.data }, { on := 30, ground := Go.Ground.guard }], guard := Option.some (30, Bool.false) }) (v := ?_) rfl (by kernel_rfl) (by kernel_rfl) (by kernel_rfl) (fun _ _ _ h => h) (Or.inl ⟨by rfl, ?_⟩) (by assumption) ?_
          rotate_left
          · intro V hV; (try dsimp only at hV); go_simp; all_goals (with_reducible rfl)
          try simp only [Act.put, List.setIfInBounds_toArray, List.set_cons_zero, List.set_cons_succ]
          refine wpAnyH_take (i := 37) (oi := { dst := Option.some 208, op := Go.Op.pick (Go.Operand.tmp 201) (Go.Operand.const (Go.Value.bool Bool.true)) (Go.Operand.tmp 207), type := 4, pos := "law.go:120", after := #[{ on := 30, ground := Go.Ground.data }, { on := 36, ground := Go.Ground.data }], guard := Option.none }) (v := ?_) rfl (by kernel_rfl) (by kernel_rfl) (by kernel_rfl) (fun _ _ _ h => h) (Or.inl ⟨by rfl, ?_⟩) (by assumption) ?_
          rotate_left
          · intro V hV; (try dsimp only at hV); go_simp; all_goals (with_reducible rfl)
          try simp only [Act.put, List.setIfInBounds_toArray, List.set_cons_zero, List.set_cons_succ]
          refine wpAnyH_take (i := 38) (oi := { dst := Option.some 209, op := Go.Op.move (Go.Operand.tmp 208), type := 4, pos := "law.go:120", after := #[{ on := 37, ground := Go.Ground.data }, { on := 30, ground := Go.Ground.chain }], guard := Option.none }) (v := ?_) rfl (by kernel_rfl) (by kernel_rfl) (by kernel_rfl) (fun _ _ _ h => h) (Or.inl ⟨by rfl, ?_⟩) (by assumption) ?_
          rotate_left
          · intro V hV; (try dsimp only at hV); go_simp; all_goals (with_reducible rfl)
          try simp only [Act.put, List.setIfInBounds_toArray, List.set_cons_zero, List.set_cons_succ]
          refine wpAnyH_take (i := 39) (oi := { dst := Option.some 210, op := Go.Op.fieldAddr 45 (Go.Operand.tmp 23) 1, type := 0, pos := "law.go:120", after := #[{ on := 38, ground := Go.Ground.guard }], guard := Option.some (38, Bool.false) }) (v := ?_) rfl (by kernel_rfl) (by kernel_rfl) (by kernel_rfl) (fun _ _ _ h => h) (Or.inl ⟨by rfl, ?_⟩) (by assumption) ?_
          rotate_left
          · intro V hV; (try dsimp only at hV); go_simp; all_goals (with_reducible rfl)
          try simp only [Act.put, List.setIfInBounds_toArray, List.set_cons_zero, List.set_cons_succ]
          refine wpAnyH_take (i := 40) (oi := { dst := Option.some 211, op := Go.Op.load 3 (Go.Operand.tmp 210), type := 3, pos := "law.go:120", after := #[{ on := 39, ground := Go.Ground.data }, { on := 38, ground := Go.Ground.guard }], guard := Option.some (38, Bool.false) }) (v := ?_) rfl (by kernel_rfl) (by kernel_rfl) (by kernel_rfl) (fun _ _ _ h => h) (Or.inl ⟨by rfl, ?_⟩) (by assumption) ?_
          rotate_left
          · intro V hV; (try dsimp only at hV); have cV : V.cell? ⟨xb, 1, none⟩ = some (.int .i64 M5.fr) := (by rw [(HMF.out.kept (hV.block _ HMF.out.lt)).cell]; exact HMZ.out.2.2.1); go_simp; all_goals (with_reducible rfl)
          try simp only [Act.put, List.setIfInBounds_toArray, List.set_cons_zero, List.set_cons_succ]
          refine wpAnyH_take (i := 41) (oi := { dst := Option.some 212, op := Go.Op.fieldAddr 47 (Go.Operand.tmp 12) 3, type := 0, pos := "law.go:120", after := #[{ on := 38, ground := Go.Ground.guard }], guard := Option.some (38, Bool.false) }) (v := ?_) rfl (by kernel_rfl) (by kernel_rfl) (by kernel_rfl) (fun _ _ _ h => h) (Or.inl ⟨by rfl, ?_⟩) (by assumption) ?_
          rotate_left
          · intro V hV; (try dsimp only at hV); go_simp; all_goals (with_reducible rfl)
          try simp only [Act.put, List.setIfInBounds_toArray, List.set_cons_zero, List.set_cons_succ]
          refine wpAnyH_take (i := 42) (oi := { dst := Option.some 213, op := Go.Op.fieldAddr 45 (Go.Operand.tmp 212) 1, type := 0, pos := "law.go:120", after := #[{ on := 41, ground := Go.Ground.data }, { on := 38, ground := Go.Ground.guard }], guard := Option.some (38, Bool.false) }) (v := ?_) rfl (by kernel_rfl) (by kernel_rfl) (by kernel_rfl) (fun _ _ _ h => h) (Or.inl ⟨by rfl, ?_⟩) (by assumption) ?_
          rotate_left
          · intro V hV; (try dsimp only at hV); go_simp; all_goals (with_reducible rfl)
          try simp only [Act.put, List.setIfInBounds_toArray, List.set_cons_zero, List.set_cons_succ]
          refine wpAnyH_take (i := 43) (oi := { dst := Option.some 214, op := Go.Op.load 3 (Go.Operand.tmp 213), type := 3, pos := "law.go:120", after := #[{ on := 42, ground := Go.Ground.data }, { on := 38, ground := Go.Ground.guard }], guard := Option.some (38, Bool.false) }) (v := ?_) rfl (by kernel_rfl) (by kernel_rfl) (by kernel_rfl) (fun _ _ _ h => h) (Or.inl ⟨by rfl, ?_⟩) (by assumption) ?_
          rotate_left
          · intro V hV; (try dsimp only at hV); have cV : V.cell? ⟨db, 22, none⟩ = some (.int .i64 M5.fr) := (HDF.out.below hV).c22 HLN.out; go_simp; all_goals (with_reducible rfl)
          try simp only [Act.put, List.setIfInBounds_toArray, List.set_cons_zero, List.set_cons_succ]
          refine wpAnyH_take (i := 44) (oi := { dst := Option.some 215, op := Go.Op.binOp Go.BinOp.neq 3 (Go.Operand.tmp 211) (Go.Operand.tmp 214) 3, type := 4, pos := "law.go:120", after := #[{ on := 40, ground := Go.Ground.data }, { on := 43, ground := Go.Ground.data }, { on := 38, ground := Go.Ground.guard }], guard := Option.some (38, Bool.false) }) (v := ?_) rfl (by kernel_rfl) (by kernel_rfl) (by kernel_rfl) (fun _ _ _ h => h) (Or.inl ⟨by rfl, ?_⟩) (by assumption) ?_
          rotate_left
          · intro V hV; (try dsimp only at hV); go_simp; all_goals (with_reducible rfl)
          try simp only [Act.put, List.setIfInBounds_toArray, List.set_cons_zero, List.set_cons_succ]
          refine wpAnyH_take (i := 45) (oi := { dst := Option.some 216, op := Go.Op.pick (Go.Operand.tmp 209) (Go.Operand.const (Go.Value.bool Bool.true)) (Go.Operand.tmp 215), type := 4, pos := "law.go:120", after := #[{ on := 38, ground := Go.Ground.data }, { on := 44, ground := Go.Ground.data }], guard := Option.none }) (v := ?_) rfl (by kernel_rfl) (by kernel_rfl) (by kernel_rfl) (fun _ _ _ h => h) (Or.inl ⟨by rfl, ?_⟩) (by assumption) ?_
          rotate_left
          · intro V hV; (try dsimp only at hV); go_simp; all_goals (with_reducible rfl)
          try simp only [Act.put, List.setIfInBounds_toArray, List.set_cons_zero, List.set_cons_succ]
          refine wpAnyH_take (i := 46) (oi := { dst := Option.some 217, op := Go.Op.move (Go.Operand.tmp 216), type := 4, pos := "law.go:120", after := #[{ on := 45, ground := Go.Ground.data }, { on := 38, ground := Go.Ground.chain }], guard := Option.none }) (v := ?_) rfl (by kernel_rfl) (by kernel_rfl) (by kernel_rfl) (fun _ _ _ h => h) (Or.inl ⟨by rfl, ?_⟩) (by assumption) ?_
          rotate_left
          · intro V hV; (try dsimp only at hV); go_simp; all_goals (with_reducible rfl)
          try simp only [Act.put, List.setIfInBounds_toArray, List.set_cons_zero, List.set_cons_succ]
          refine wpAnyH_take (i := 47) (oi := { dst := Option.some 218, op := Go.Op.fieldAddr 45 (Go.Operand.tmp 23) 2, type := 0, pos := "law.go:120", after := #[{ on := 46, ground := Go.Ground.guard }], guard := Option.some (46, Bool.false) }) (v := ?_) rfl (by kernel_rfl) (by kernel_rfl) (by kernel_rfl) (fun _ _ _ h => h) (Or.inl ⟨by rfl, ?_⟩) (by assumption) ?_
          rotate_left
          · intro V hV; (try dsimp only at hV); go_simp; all_goals (with_reducible rfl)
          try simp only [Act.put, List.setIfInBounds_toArray, List.set_cons_zero, List.set_cons_succ]
          refine wpAnyH_take (i := 48) (oi := { dst := Option.some 219, op := Go.Op.load 3 (Go.Operand.tmp 218), type := 3, pos := "law.go:120", after := #[{ on := 47, ground := Go.Ground.data }, { on := 46, ground := Go.Ground.guard }], guard := Option.some (46, Bool.false) }) (v := ?_) rfl (by kernel_rfl) (by kernel_rfl) (by kernel_rfl) (fun _ _ _ h => h) (Or.inl ⟨by rfl, ?_⟩) (by assumption) ?_
          rotate_left
          · intro V hV; (try dsimp only at hV); have cV : V.cell? ⟨xb, 2, none⟩ = some (.int .i64 M5.tw) := (by rw [(HMF.out.kept (hV.block _ HMF.out.lt)).cell]; exact HMZ.out.2.2.2.1); go_simp; all_goals (with_reducible rfl)
          try simp only [Act.put, List.setIfInBounds_toArray, List.set_cons_zero, List.set_cons_succ]
          refine wpAnyH_take (i := 49) (oi := { dst := Option.some 220, op := Go.Op.fieldAddr 47 (Go.Operand.tmp 12) 3, type := 0, pos := "law.go:120", after := #[{ on := 46, ground := Go.Ground.guard }], guard := Option.some (46, Bool.false) }) (v := ?_) rfl (by kernel_rfl) (by kernel_rfl) (by kernel_rfl) (fun _ _ _ h => h) (Or.inl ⟨by rfl, ?_⟩) (by assumption) ?_
          rotate_left
          · intro V hV; (try dsimp only at hV); go_simp; all_goals (with_reducible rfl)
          try simp only [Act.put, List.setIfInBounds_toArray, List.set_cons_zero, List.set_cons_succ]
          refine wpAnyH_take (i := 50) (oi := { dst := Option.some 221, op := Go.Op.fieldAddr 45 (Go.Operand.tmp 220) 2, type := 0, pos := "law.go:120", after := #[{ on := 49, ground := Go.Ground.data }, { on := 46, ground := Go.Ground.guard }], guard := Option.some (46, Bool.false) }) (v := ?_) rfl (by kernel_rfl) (by kernel_rfl) (by kernel_rfl) (fun _ _ _ h => h) (Or.inl ⟨by rfl, ?_⟩) (by assumption) ?_
          rotate_left
          · intro V hV; (try dsimp only at hV); go_simp; all_goals (with_reducible rfl)
          try simp only [Act.put, List.setIfInBounds_toArray, List.set_cons_zero, List.set_cons_succ]
          refine wpAnyH_take (i := 51) (oi := { dst := Option.some 222, op := Go.Op.load 3 (Go.Operand.tmp 221), type := 3, pos := "law.go:120", after := #[{ on := 50, ground := Go.Ground.data }, { on := 46, ground := Go.Ground.guard }], guard := Option.some (46, Bool.false) }) (v := ?_) rfl (by kernel_rfl) (by kernel_rfl) (by kernel_rfl) (fun _ _ _ h => h) (Or.inl ⟨by rfl, ?_⟩) (by assumption) ?_
          rotate_left
          · intro V hV; (try dsimp only at hV); have cV : V.cell? ⟨db, 23, none⟩ = some (.int .i64 M5.tw) := (HDF.out.below hV).c23 HLN.out; go_simp; all_goals (with_reducible rfl)
          try simp only [Act.put, List.setIfInBounds_toArray, List.set_cons_zero, List.set_cons_succ]
          refine wpAnyH_take (i := 52) (oi := { dst := Option.some 223, op := Go.Op.binOp Go.BinOp.neq 3 (Go.Operand.tmp 219) (Go.Operand.tmp 222) 3, type := 4, pos := "law.go:120", after := #[{ on := 48, ground := Go.Ground.data }, { on := 51, ground := Go.Ground.data }, { on := 46, ground := Go.Ground.guard }], guard := Option.some (46, Bool.false) }) (v := ?_) rfl (by kernel_rfl) (by kernel_rfl) (by kernel_rfl) (fun _ _ _ h => h) (Or.inl ⟨by rfl, ?_⟩) (by assumption) ?_
          rotate_left
          · intro V hV; (try dsimp only at hV); go_simp; all_goals (with_reducible rfl)
          try simp only [Act.put, List.setIfInBounds_toArray, List.set_cons_zero, List.set_cons_succ]
          refine wpAnyH_take (i := 53) (oi := { dst := Option.some 224, op := Go.Op.pick (Go.Operand.tmp 217) (Go.Operand.const (Go.Value.bool Bool.true)) (Go.Operand.tmp 223), type := 4, pos := "law.go:120", after := #[{ on := 46, ground := Go.Ground.data }, { on := 52, ground := Go.Ground.data }], guard := Option.none }) (v := ?_) rfl (by kernel_rfl) (by kernel_rfl) (by kernel_rfl) (fun _ _ _ h => h) (Or.inl ⟨by rfl, ?_⟩) (by assumption) ?_
          rotate_left
          · intro V hV; (try dsimp only at hV); go_simp; all_goals (with_reducible rfl)
          try simp only [Act.put, List.setIfInBounds_toArray, List.set_cons_zero, List.set_cons_succ]
          refine wpAnyH_take (i := 54) (oi := { dst := Option.some 225, op := Go.Op.move (Go.Operand.tmp 224), type := 4, pos := "law.go:120", after := #[{ on := 53, ground := Go.Ground.data }, { on := 46, ground := Go.Ground.chain }], guard := Option.none }) (v := ?_) rfl (by kernel_rfl) (by kernel_rfl) (by kernel_rfl) (fun _ _ _ h => h) (Or.inl ⟨by rfl, ?_⟩) (by assumption) ?_
          rotate_left
          · intro V hV; (try dsimp only at hV); go_simp; all_goals (with_reducible rfl)
          try simp only [Act.put, List.setIfInBounds_toArray, List.set_cons_zero, List.set_cons_succ]
          refine wpAnyH_take (i := 55) (oi := { dst := Option.some 226, op := Go.Op.fieldAddr 45 (Go.Operand.tmp 23) 11, type := 0, pos := "law.go:120", after := #[{ on := 54, ground := Go.Ground.guard }], guard := Option.some (54, Bool.false) }) (v := ?_) rfl (by kernel_rfl) (by kernel_rfl) (by kernel_rfl) (fun _ _ _ h => h) (Or.inl ⟨by rfl, ?_⟩) (by assumption) ?_
          rotate_left
          · intro V hV; (try dsimp only at hV); go_simp; all_goals (with_reducible rfl)
          try simp only [Act.put, List.setIfInBounds_toArray, List.set_cons_zero, List.set_cons_succ]
          refine wpAnyH_take (i := 56) (oi := { dst := Option.some 227, op := Go.Op.load 43 (Go.Operand.tmp 226), type := 43, pos := "law.go:120", after := #[{ on := 55, ground := Go.Ground.data }, { on := 54, ground := Go.Ground.guard }], guard := Option.some (54, Bool.false) }) (v := ?_) rfl (by kernel_rfl) (by kernel_rfl) (by kernel_rfl) (fun _ _ _ h => h) (Or.inl ⟨by rfl, ?_⟩) (by assumption) ?_
          rotate_left
          · intro V hV; (try dsimp only at hV); have cV : V.cell? ⟨xb, 11, none⟩ = some (.slice ma nn5 mc) := (by rw [(HMF.out.kept (hV.block _ HMF.out.lt)).cell]; exact HMZ.out.2.2.2.2.2.2); go_simp; all_goals (with_reducible rfl)
          try simp only [Act.put, List.setIfInBounds_toArray, List.set_cons_zero, List.set_cons_succ]
          refine wpAnyH_take (i := 57) (oi := { dst := Option.some 228, op := Go.Op.fieldAddr 47 (Go.Operand.tmp 12) 3, type := 0, pos := "law.go:120", after := #[{ on := 54, ground := Go.Ground.guard }], guard := Option.some (54, Bool.false) }) (v := ?_) rfl (by kernel_rfl) (by kernel_rfl) (by kernel_rfl) (fun _ _ _ h => h) (Or.inl ⟨by rfl, ?_⟩) (by assumption) ?_
          rotate_left
          · intro V hV; (try dsimp only at hV); go_simp; all_goals (with_reducible rfl)
          try simp only [Act.put, List.setIfInBounds_toArray, List.set_cons_zero, List.set_cons_succ]
          refine wpAnyH_take (i := 58) (oi := { dst := Option.some 229, op := Go.Op.fieldAddr 45 (Go.Operand.tmp 228) 11, type := 0, pos := "law.go:120", after := #[{ on := 57, ground := Go.Ground.data }, { on := 54, ground := Go.Ground.guard }], guard := Option.some (54, Bool.false) }) (v := ?_) rfl (by kernel_rfl) (by kernel_rfl) (by kernel_rfl) (fun _ _ _ h => h) (Or.inl ⟨by rfl, ?_⟩) (by assumption) ?_
          rotate_left
          · intro V hV; (try dsimp only at hV); go_simp; all_goals (with_reducible rfl)
          try simp only [Act.put, List.setIfInBounds_toArray, List.set_cons_zero, List.set_cons_succ]
          refine wpAnyH_take (i := 59) (oi := { dst := Option.some 230, op := Go.Op.load 43 (Go.Operand.tmp 229), type := 43, pos := "law.go:120", after := #[{ on := 58, ground := Go.Ground.data }, { on := 54, ground := Go.Ground.guard }], guard := Option.some (54, Bool.false) }) (v := ?_) rfl (by kernel_rfl) (by kernel_rfl) (by kernel_rfl) (fun _ _ _ h => h) (Or.inl ⟨by rfl, ?_⟩) (by assumption) ?_
          rotate_left
          · intro V hV; (try dsimp only at hV); have cV : V.cell? ⟨db, 32, none⟩ = some (.slice na5 nn5 nc5) := (HDF.out.below hV).c32 HLN.out; go_simp; all_goals (with_reducible rfl)
          try simp only [Act.put, List.setIfInBounds_toArray, List.set_cons_zero, List.set_cons_succ]
          refine wpAnyH_ready (rs := [60]) (by kernel_rfl) (by simp) ?_
          refine AllReadyH.cons (o := { dst := Option.some 231, op := Go.Op.call { callee := Go.Callee.value (Go.Operand.func 24), args := #[Go.Operand.tmp 227, Go.Operand.tmp 230], argTypes := #[43, 43] }, type := 4, pos := "law.go:120", after := #[{ on := 56, ground := Go.Ground.data }, { on := 59, ground := Go.Ground.data }, { on := 54, ground := Go.Ground.chain }, { on := 54, ground := Go.Ground.guard }], guard := Option.some (54, Bool.false) }) rfl (fun K hK => ?_) (AllReadyH.nil)
          go_simp
          refine (same_rows _ ma na5 nn5 mc nc5 zs5 ((HRF.out.below hHeld).src) (HS5.out.up (HPF.out.bel.trans (hHeld.mono HPF.out.bel.size))).1).mono ?_
          rintro x w12 ⟨rfl, hb1⟩
          have hHeld1 := hHeld.trans (hb1.mono hHeld.size)
          clear hHeld hb1
          go_wp2_with fail
          refine hK.out _ _ (hHeld1) (fun hHeld => ?_)
          clear hK K
          try simp only [Act.put, List.setIfInBounds_toArray, List.set_cons_zero, List.set_cons_succ]
          refine wpAnyH_take (i := 61) (oi := { dst := Option.some 232, op := Go.Op.unOp Go.UnOp.not 4 (Go.Operand.tmp 231), type := 4, pos := "law.go:120", after := #[{ on := 60, ground := Go.Ground.data }, { on := 54, ground := Go.Ground.guard }], guard := Option.some (54, Bool.false) }) (v := ?_) rfl (by kernel_rfl) (by kernel_rfl) (by kernel_rfl) (fun _ _ _ h => h) (Or.inl ⟨by rfl, ?_⟩) (by assumption) ?_
          rotate_left
          · intro V hV; (try dsimp only at hV); go_simp; all_goals (with_reducible rfl)
          try simp only [Act.put, List.setIfInBounds_toArray, List.set_cons_zero, List.set_cons_succ]
          refine wpAnyH_take (i := 62) (oi := { dst := Option.some 233, op := Go.Op.pick (Go.Operand.tmp 225) (Go.Operand.const (Go.Value.bool Bool.true)) (Go.Operand.tmp 232), type := 4, pos := "law.go:120", after := #[{ on := 54, ground := Go.Ground.data }, { on := 61, ground := Go.Ground.data }], guard := Option.none }) (v := ?_) rfl (by kernel_rfl) (by kernel_rfl) (by kernel_rfl) (fun _ _ _ h => h) (Or.inl ⟨by rfl, ?_⟩) (by assumption) ?_
          rotate_left
          · intro V hV; (try dsimp only at hV); go_simp; all_goals (with_reducible rfl)
          try simp only [Act.put, List.setIfInBounds_toArray, List.set_cons_zero, List.set_cons_succ]
          refine wpAnyH_take (i := 63) (oi := { dst := Option.some 234, op := Go.Op.move (Go.Operand.tmp 233), type := 4, pos := "law.go:120", after := #[{ on := 62, ground := Go.Ground.data }, { on := 60, ground := Go.Ground.chain }], guard := Option.none }) (v := ?_) rfl (by kernel_rfl) (by kernel_rfl) (by kernel_rfl) (fun _ _ _ h => h) (Or.inl ⟨by rfl, ?_⟩) (by assumption) ?_
          rotate_left
          · intro V hV; (try dsimp only at hV); go_simp; all_goals (with_reducible rfl)
          try simp only [Act.put, List.setIfInBounds_toArray, List.set_cons_zero, List.set_cons_succ]
          refine wpAnyH_take (i := 64) (oi := { dst := Option.some 235, op := Go.Op.move (Go.Operand.tmp 7), type := 27, pos := "law.go:120", after := #[{ on := 63, ground := Go.Ground.guard }], guard := Option.some (63, Bool.false) }) (v := ?_) rfl (by kernel_rfl) (by kernel_rfl) (by kernel_rfl) (fun _ _ _ h => h) (Or.inl ⟨by rfl, ?_⟩) (by assumption) ?_
          rotate_left
          · intro V hV; (try dsimp only at hV); go_simp; all_goals (with_reducible rfl)
          try simp only [Act.put, List.setIfInBounds_toArray, List.set_cons_zero, List.set_cons_succ]
          refine wpAnyH_take (i := 65) (oi := { dst := Option.some 236, op := Go.Op.nilCheck (Go.Operand.tmp 235), type := 0, pos := "law.go:120", after := #[{ on := 64, ground := Go.Ground.data }, { on := 63, ground := Go.Ground.guard }], guard := Option.some (63, Bool.false) }) (v := ?_) rfl (by kernel_rfl) (by kernel_rfl) (by kernel_rfl) (fun _ _ _ h => h) (Or.inl ⟨by rfl, ?_⟩) (by assumption) ?_
          rotate_left
          · intro V hV; (try dsimp only at hV); go_simp; all_goals (with_reducible rfl)
          try simp only [Act.put, List.setIfInBounds_toArray, List.set_cons_zero, List.set_cons_succ]
          refine wpAnyH_take (i := 66) (oi := { dst := Option.some 237, op := Go.Op.fieldAddr 72 (Go.Operand.tmp 236) 0, type := 0, pos := "law.go:120", after := #[{ on := 65, ground := Go.Ground.data }, { on := 63, ground := Go.Ground.guard }], guard := Option.some (63, Bool.false) }) (v := ?_) rfl (by kernel_rfl) (by kernel_rfl) (by kernel_rfl) (fun _ _ _ h => h) (Or.inl ⟨by rfl, ?_⟩) (by assumption) ?_
          rotate_left
          · intro V hV; (try dsimp only at hV); go_simp; all_goals (with_reducible rfl)
          try simp only [Act.put, List.setIfInBounds_toArray, List.set_cons_zero, List.set_cons_succ]
          refine wpAnyH_take (i := 69) (oi := { dst := Option.some 240, op := Go.Op.fieldAddr 47 (Go.Operand.tmp 12) 0, type := 0, pos := "law.go:120", after := #[{ on := 63, ground := Go.Ground.guard }], guard := Option.some (63, Bool.false) }) (v := ?_) rfl (by kernel_rfl) (by kernel_rfl) (by kernel_rfl) (fun _ _ _ h => h) (Or.inl ⟨by rfl, ?_⟩) (by assumption) ?_
          rotate_left
          · intro V hV; (try dsimp only at hV); go_simp; all_goals (with_reducible rfl)
          try simp only [Act.put, List.setIfInBounds_toArray, List.set_cons_zero, List.set_cons_succ]
          refine wpAnyH_take (i := 70) (oi := { dst := Option.some 241, op := Go.Op.fieldAddr 39 (Go.Operand.tmp 240) 0, type := 0, pos := "law.go:120", after := #[{ on := 69, ground := Go.Ground.data }, { on := 63, ground := Go.Ground.guard }], guard := Option.some (63, Bool.false) }) (v := ?_) rfl (by kernel_rfl) (by kernel_rfl) (by kernel_rfl) (fun _ _ _ h => h) (Or.inl ⟨by rfl, ?_⟩) (by assumption) ?_
          rotate_left
          · intro V hV; (try dsimp only at hV); go_simp; all_goals (with_reducible rfl)
          try simp only [Act.put, List.setIfInBounds_toArray, List.set_cons_zero, List.set_cons_succ]
          refine wpAnyH_take (i := 71) (oi := { dst := Option.some 242, op := Go.Op.load 9 (Go.Operand.tmp 241), type := 9, pos := "law.go:120", after := #[{ on := 70, ground := Go.Ground.data }, { on := 63, ground := Go.Ground.guard }], guard := Option.some (63, Bool.false) }) (v := ?_) rfl (by kernel_rfl) (by kernel_rfl) (by kernel_rfl) (fun _ _ _ h => h) (Or.inl ⟨by rfl, ?_⟩) (by assumption) ?_
          rotate_left
          · intro V hV; (try dsimp only at hV); have cV : V.cell? ⟨db, 0, none⟩ = some (.string (strOfNums (cat ms5))) := (HDF.out.below hV).disk.1 0 _ rfl; go_simp; all_goals (with_reducible rfl)
          try simp only [Act.put, List.setIfInBounds_toArray, List.set_cons_zero, List.set_cons_succ]
          refine wpAnyH_ready (rs := [67]) (by kernel_rfl) (by simp) ?_
          refine AllReadyH.cons (o := { dst := Option.some 238, op := Go.Op.call { callee := Go.Callee.value (Go.Operand.func 25), args := #[Go.Operand.tmp 237], argTypes := #[70] }, type := 67, pos := "law.go:120", after := #[{ on := 66, ground := Go.Ground.data }, { on := 63, ground := Go.Ground.chain }, { on := 63, ground := Go.Ground.guard }], guard := Option.some (63, Bool.false) }) rfl (fun K hK => ?_) (AllReadyH.nil)
          go_simp
          refine (Dk.bytes_any _ (show Lg _ w.heap.size gl5 g v5 (cat ms5) (cat ms5).length r ms5.length from (HPF.out.below hHeld).ms.log).disk).mono ?_
          rintro x w13 ⟨u2, rfl, hown8, hb1⟩
          obtain ⟨ua2, uc2, rfl, hui, _⟩ := owned_slice hown8 HBY.out
          have hcu := hui.str uc2
          have hHeld1 := hHeld.trans (hb1.mono hHeld.size)
          clear hHeld hb1 hown8 hui
          go_wp2_with fail
          refine hK.out _ _ (hHeld1) (fun hHeld => ?_)
          clear hK K
          try simp only [Act.put, List.setIfInBounds_toArray, List.set_cons_zero, List.set_cons_succ]
          refine wpAnyH_ready (rs := [68]) (by kernel_rfl) (by simp) ?_
          refine AllReadyH.cons (o := { dst := Option.some 239, op := Go.Op.convert 67 9 (Go.Operand.tmp 238), type := 9, pos := "law.go:120", after := #[{ on := 67, ground := Go.Ground.data }, { on := 63, ground := Go.Ground.guard }], guard := Option.some (63, Bool.false) }) rfl (fun K hK => ?_) (AllReadyH.nil)
          go_simp
          refine hK.out _ _ (hHeld) (fun hHeld => ?_)
          clear hK K
          try simp only [Act.put, List.setIfInBounds_toArray, List.set_cons_zero, List.set_cons_succ]
          refine wpAnyH_take (i := 72) (oi := { dst := Option.some 243, op := Go.Op.binOp Go.BinOp.neq 9 (Go.Operand.tmp 239) (Go.Operand.tmp 242) 9, type := 4, pos := "law.go:120", after := #[{ on := 68, ground := Go.Ground.data }, { on := 71, ground := Go.Ground.data }, { on := 63, ground := Go.Ground.guard }], guard := Option.some (63, Bool.false) }) (v := ?_) rfl (by kernel_rfl) (by kernel_rfl) (by kernel_rfl) (fun _ _ _ h => h) (Or.inl ⟨by rfl, ?_⟩) (by assumption) ?_
          rotate_left
          · intro V hV; (try dsimp only at hV); go_simp; all_goals (with_reducible rfl)
          try simp only [Act.put, List.setIfInBounds_toArray, List.set_cons_zero, List.set_cons_succ]
          refine wpAnyH_take (i := 73) (oi := { dst := Option.some 244, op := Go.Op.pick (Go.Operand.tmp 234) (Go.Operand.const (Go.Value.bool Bool.true)) (Go.Operand.tmp 243), type := 4, pos := "law.go:120", after := #[{ on := 63, ground := Go.Ground.data }, { on := 72, ground := Go.Ground.data }], guard := Option.none }) (v := ?_) rfl (by kernel_rfl) (by kernel_rfl) (by kernel_rfl) (fun _ _ _ h => h) (Or.inl ⟨by rfl, ?_⟩) (by assumption) ?_
          rotate_left
          · intro V hV; (try dsimp only at hV); go_simp; all_goals (with_reducible rfl)
          try simp only [Act.put, List.setIfInBounds_toArray, List.set_cons_zero, List.set_cons_succ]
          refine wpAnyH_done (by kernel_rfl) ?_ _
          have HPZ := Lib.hid (HPF.out.below hHeld)
          have HDZ := Lib.hid (HDF.out.below hHeld)
          clear hHeld hcu hS0
          go_wp2_with fail
          exact ⟨⟨i + 1, by omega, by go_num, gm5, gl5, v5, M5, ms5, zs5, d5, na5, nn5, nc5, rfl, HPZ.out, HOZ.out, HDZ.out, HS5.out⟩, by simp [intOf]; omega⟩
    · obtain rfl : i = n := by omega
      clear HDC HSR HOQ HX HOL
      go_wp2_with fail
      go_ret
      exact ⟨rfl, HP.out.bel⟩
end Go.Proofs.Ytbmmgmdjhhnkfaa
