/- CoordOnce: the walk. -/
import Derived.Test.YtkailiifgdjgmaaGreatWj
import Derived.Deep.DeepCutAuto
import Derived.Deep.CutBlock
namespace Go.Proofs.YtkailiifgdjgmaaGreat
open Go.RowKit
open Go.Maps (Keyed)

theorem Tryz.info_i64 : (Tryz.prog.info? 2).map (fun i => (i.zero, i.size, i.bytes)) = some (some (.int .i64 0), 1, 8) := by kernel_rfl
set_option maxRecDepth 100000 in
set_option maxHeartbeats 64000000 in
theorem once_walk (a : Option Addr) (n cp : Nat) (Ls : List OpE) (w : World) (hx : CepsL w w.heap.size a n Ls) (hn : n ≤ 2199023255552) :
    Calls Tryz.prog 3 #[.slice a n cp] w fun e w' => e = .returned (.bool true) ∧ Below w.heap.size w w' := by
  have HX := Lib.hid hx
  obtain ⟨i0, hi0, hz0, hz1, hz2⟩ := info_of Tryz.info_i64
  have HLEN := Lib.hid (And.intro hn hx.1)
  have hmk := @run_makeMap Tryz.prog
  clear hx
  go_enter Tryz.func3, Tryz.ntmps3
  go_wp2_with fail
  refine (awake_any _).mono ?_
  rintro e w1 ⟨rfl, hb1⟩
  have HN := Lib.hid (Dk.new_good w.heap.size 100000 w1 (by decide) hb1.size)
  have HB1 := Lib.hid hb1
  clear hb1
  go_wp2_with fail
  refine HN.out.mono ?_
  rintro e w2 ⟨rfl, hd2, hb2⟩
  have HB2 := Lib.hid (bell_up HB1.out hb2)
  have HGE := Lib.hid HB1.out.size
  have HO2 := Lib.hid (opened_any (ms := []) w2 0 hd2 (by simp) HB2.out.size 3 ⟨by omega, by omega⟩)
  clear hd2 hb2 HN
  generalize w1.heap.size = g at *
  go_wp2_with fail
  refine HO2.out.mono ?_
  rintro e w3 (⟨_, gc, gl, b1, b2, b3, v3, rfl, hcs, hch, hm1, hm2, hm3⟩ | ⟨hlt, _⟩)
  rotate_left
  · exfalso
    have h1 : (rcd (bootM (rep 3 []))).length ≤ 29 := boot_len (by simp)
    have h2 : (cat []).length = 0 := rfl
    omega
  have hb3 : Below w.heap.size w w3 := HB2.out.trans (hch.below (fun k hk => by
    rcases hk with e | e
    · rw [e]; exact HGE.out
    · cases e) HB2.out.size)
  have hst : SW w (((w3.alloc (.map #[] 0)).alloc (.map #[] 0)).alloc (.map #[] 0)) g w3.heap.size (w3.heap.size + 1) (w3.heap.size + 1 + 1) 0 (.pointer (some ⟨gc, 0, none⟩)) (.slice none 0 0) := by
    have q1 := (hcs.ge (k := b1) (.inr (.inr (.inr (.inr (.inl rfl)))))).2
    have q2 := (hcs.ge (k := b2) (.inr (.inr (.inr (.inr (.inr (.inl rfl))))))).2
    have q3 := (hcs.ge (k := b3) (.inr (.inr (.inr (.inr (.inr (.inr rfl))))))).2
    have hbe := bell_alloc (bell_alloc (below_alloc w3 (.map #[] 0)) (.map #[] 0)) (.map #[] 0)
    have hs1 : (w3.alloc (.map #[] 0)).heap.size = w3.heap.size + 1 := Array.size_push _
    have hs2 : ((w3.alloc (.map #[] 0)).alloc (.map #[] 0)).heap.size = w3.heap.size + 1 + 1 := by
      rw [show ((w3.alloc (.map #[] 0)).alloc (.map #[] 0)).heap.size = (w3.alloc (.map #[] 0)).heap.size + 1 from Array.size_push _, hs1]
    have f1 := (FMap.made w3).kept ((below_alloc (w3.alloc (.map #[] 0)) (.map #[] 0)).block _ (by omega))
    have f1' := f1.kept ((below_alloc ((w3.alloc (.map #[] 0)).alloc (.map #[] 0)) (.map #[] 0)).block _ (by omega))
    have f2 := FMap.made (w3.alloc (.map #[] 0))
    have f2' := f2.kept ((below_alloc ((w3.alloc (.map #[] 0)).alloc (.map #[] 0)) (.map #[] 0)).block _ (by omega))
    have f3 := FMap.made ((w3.alloc (.map #[] 0)).alloc (.map #[] 0))
    rw [hs1] at f2'
    rw [hs2] at f3
    have hop := OP.start hcs.co.ok
    have hs3 := hb3.size
    refine ⟨gc, gl, b1, b2, b3, v3, _, _, 0, 0, 0, [], fun _ => 0, fun _ => 0, fun _ => 0, rfl, ⟨hcs.below hbe, hb3.trans (hbe.mono hb3.size), ⟨rfl, .inl ⟨rfl, rfl⟩⟩, f1', f2', f3.ext fun k _ => ?_, fun k hk => by simp at hk, ⟨by omega, by omega, by omega⟩, ⟨by omega, by omega, by omega⟩, ⟨by omega, by omega, by omega⟩, ⟨by omega, by omega, by omega⟩, fun k hk => by simp at hk, fun k hk => by simp at hk, ⟨by omega, by omega, by omega⟩, fun k hk => by simp at hk⟩, hop, by omega, by omega, by omega, by simp⟩
    unfold rF
    rw [hop.rv_out (k := k) (by simp), if_pos rfl]
  have HS3 := Lib.hid hst
  clear hst hcs hch hm1 hm2 hm3 hb3 HO2
  go_wp2_with fail
  go_loopw [5, 7, 41] (fun cv kv iv wr => ∃ i : Nat, i ≤ n ∧ iv = .int .i64 (i : Int) ∧ SW w wr g w3.heap.size (w3.heap.size + 1) (w3.heap.size + 1 + 1) i cv kv) (fun _ _ iv _ => n - (intOf iv).toNat)
  case atStart => exact ⟨0, by omega, rfl, HS3.out⟩
  case round =>
    generalize w3.heap.size = yb at *
    generalize hwb : yb + 1 = wb at *
    generalize hrb : wb + 1 = rb at *
    clear hwb hrb
    obtain ⟨i, hin, rfl, gc, gl, b1, b2, b3, v, c, ms, n1, n2, n3, L, S, Y, yf, rfl, hoy, hop, hi1, hi2, hi3, hil2⟩ := hrel
    have HOY := Lib.hid hoy
    have HOP := Lib.hid hop
    have HI := Lib.hid (And.intro hi1 (And.intro hi2 (And.intro hi3 hil2)))
    clear hoy hop HS3
    by_cases hil : i < n
    · obtain ⟨b, off, rfl, hbl, hcc⟩ := HX.out.2.resolve_left (by omega)
      obtain ⟨kd, td, nd, na, nn, nc, ns, yes, rev, hd⟩ : ∃ kd td nd na nn nc ns yes rev, Ls[i]? = some (⟨kd, td, nd, na, nn, nc, ns, yes, rev⟩ : OpE) := ⟨_, _, _, _, _, _, _, _, _, List.getElem?_eq_getElem (by have := HLEN.out.2; omega)⟩
      have hq := hcc i _ hd
      dsimp only [OpEAt] at hq
      obtain ⟨q0, q1, q2, q3, q4, q5, g1, g2, g3, g4, g5⟩ := hq
      have p0 := (HOY.out.bel.cell (p := ⟨b, _, none⟩) hbl).trans q0
      have p1 := (HOY.out.bel.cell (p := ⟨b, _, none⟩) hbl).trans q1
      have p2 := (HOY.out.bel.cell (p := ⟨b, _, none⟩) hbl).trans q2
      have p3 := (HOY.out.bel.cell (p := ⟨b, _, none⟩) hbl).trans q3
      have p4 := (HOY.out.bel.cell (p := ⟨b, _, none⟩) hbl).trans q4
      have p5 := (HOY.out.bel.cell (p := ⟨b, _, none⟩) hbl).trans q5
      obtain ⟨X, hX, hwx, hbx⟩ := box_new wr 37 #[.int .i64 kd, .int .i64 td, .int .i64 nd, .slice na nn nc, .bool yes, .int .i64 rev]
      have HSX := Lib.hid (HOY.out.below hbx)
      have HWX := Lib.hid hwx
      have HD := Lib.hid (And.intro g1 (And.intro g2 (And.intro g3 (And.intro g4 g5))))
      have hij : (0:Int) ≤ (i:Int) ∧ (i:Int) < (n:Int) := by omega
      clear hcc hd q0 q1 q2 q3 q4 q5 g1 g2 g3 g4 g5
      go_upto_region 14 with fail
      rw [← hX]
      have d0 := hwx.cell 0
      have d1 := hwx.cell 1
      clear hX hwx hbx p0 p1 p2 p3 p4 p5
      generalize wr.heap.size = xb at *
      obtain ⟨ka, kc, rfl, hka, hkc⟩ := owned_anyE HSX.out.row
      have HNM := Lib.hid (number_any X HSX.out.row td HD.out.1 (by have := HI.out.2.2.2; omega))
      have HID := Lib.hid (HOP.out.numb_in HD.out.1)
      generalize hid : numb L td = id at *
      clear hid hka hkc
      go_wp2_with fail
      refine HNM.out.mono ?_
      rintro e X ⟨rfl, rfl⟩
      clear HNM
      go_upto_block 2 with fail
      go_cut [5, 7] (fun cv kv wx => SW w wx g yb wb rb (i + 1) cv kv)
      case first J KK hJR hMK =>
        by_cases hk0 : kd = 0
        · subst hk0
          as_aux_lemma =>
            have HNS := Lib.hid (ints_kept HD.out.2.2.2.1 HSX.out.bel)
            have hnn : nn ≤ 9223372036854775807 := by have := HD.out.2.2.2.2; unfold maxLen at this; omega
            by_cases hg : beginOk c ns
            · have HG := Lib.hid hg
              have HBG := Lib.hid (begin_cs X HSX.out.cs na nn nc ns w.heap.size HNS.out (Nat.le_refl _) hnn hg HOP.out.free)
              have d3 := HWX.out.cell 3
              have HNI := Lib.hid (newId_in HOP.out.ok)
              have HFR := Lib.hid HOP.out.fresh
              have HOP5 := Lib.hid (HOP.out.begin hg)
              have HRV := Lib.hid (rF_eq (fun k => HOP.out.rv_begin (l := ns) k))
              have hLl : L.length ≤ 2199023255552 := by have := HI.out.2.2.2; omega
              clear hg
              go_wp2_with fail
              refine HBG.out.mono ?_
              rintro e w5 ⟨rfl, hc5, hch5⟩
              have HX5 := Lib.hid (HSX.out.chg hc5 hch5)
              have HW5 := Lib.hid (HWX.out.kept (hch5.block _ HWX.out.lt (HSX.out.box HWX.out).1))
              clear hc5 hch5 HBG d0 d1 d3
              generalize cbegin c ns = c5 at *
              generalize newId c = nid at *
              have hlw := HX5.out.wm.lookW HNI.out
              rw [wF, if_neg HFR.out] at hlw
              simp only [Option.getD_none] at hlw
              have HRW := Lib.hid HX5.out.row
              have hbz := HX5.out.bel.size
              go_upto_region 22 with (at_builtin; (refine wpList_append_at_any _ rfl _ _ 31 rfl w.heap.size 2 i0 (Value.int .i64 0) 1 8 Tryz.underlying31 hi0 hz0 hz1 hz2 rfl (by decide) _ L.length _ rfl (HRW.out.alloc _) (some ⟨w5.heap.size, 0, none⟩) 1 1 [Value.int .i64 nid] rfl rfl (by intro h; cases h) (by rintro ad he; injection he with he; subst he; exact cell_one_new _ _ _) (by intro q hq; simp at hq; subst hq; rfl) (by unfold maxLen; omega) (by omega) (by simp; omega) ?_; intro kv2 wc hown2 hgrow2 hat2; have HXC := Lib.hid ((HX5.out.below (below_alloc w5 (.cells #[Value.int .i64 nid] 2))).app (L' := L ++ [nid]) (by rw [List.length_append, List.map_append]; exact hown2) hgrow2); have HWC := Lib.hid ((HW5.out.kept ((below_alloc w5 (.cells #[Value.int .i64 nid] 2)).block _ HW5.out.lt)).kept (hgrow2.block _ (Nat.lt_of_lt_of_le HW5.out.lt (below_alloc w5 _).size) (fun e => (HX5.out.box HW5.out).2.1 _ e.symm rfl))); clear hown2 hgrow2 hat2))
              have HXD := Lib.hid (HXC.out.newI HFR.out)
              have HWD := Lib.hid (HWC.out.kept ((below_alloc wc (.map #[] 0)).block _ HWC.out.lt))
              obtain ⟨mm, N, hmp, hN, hf⟩ := HXD.out.ym
              have HMP := Lib.hid hmp
              have HNN := Lib.hid hN
              have HF := Lib.hid hf
              have hNm : N < maxLen := by have := HI.out.1; unfold maxLen; omega
              clear hmp hN hf hlw HRW
              go_upto_region 23 with (at_mapUpdate; refine wpList_store_map _ rfl _ _ _ 32 rfl 2 41 Tryz.keyL Tryz.underlying32 _ (Tryz.zeroMp _) yb N mm rfl HMP.out hNm (.int .i64 nid) (.map (some wc.heap.size)) (.int .i64 nid) rfl rfl (key_long _ HNI.out) ?_; intro w6 hm6 hg6 hs6; have HX6 := Lib.hid (HXD.out.putY (FMap.put HNI.out HNN.out HF.out hm6) hg6); have HW6 := Lib.hid (HWD.out.kept (hg6.block _ HWD.out.lt (fun e => by injection e with e; exact (HXD.out.box HWD.out).2.2.1 e))); clear hm6 hg6 hs6)
              have hb7 := below_alloc w6 (.map #[] 0)
              have hls7 := LSet.made w6
              have HW7 := HW6.out.kept (hb7.block _ HW6.out.lt)
              have d3 := HW7.cell 3
              obtain ⟨w7, hw7⟩ : ∃ w7, w7 = w6.alloc (.map #[] 0) := ⟨_, rfl⟩
              go_upto_region 24 with fail
              rw [← hw7] at hb7 hls7 d3 ⊢
              have HB7 := Lib.hid hb7
              have HL7 := Lib.hid hls7
              clear hb7 hls7 HW7 hw7
              go_wp2_with fail
              go_loopw [77] (fun jv wj => ∃ j : Nat, j ≤ nn ∧ jv = .int .i64 (j : Int) ∧ Below w6.heap.size w6 wj ∧ LSet wj w6.heap.size (sset (ns.take j))) (fun jv _ => nn - (intOf jv).toNat)
              case atStart => exact ⟨0, by omega, rfl, HB7.out, HL7.out⟩
              case round =>
                obtain ⟨j, hj, rfl, hbj, hls⟩ := hrel
                obtain ⟨h0, mm2, hm2, hf2⟩ := hls
                have HH0 := Lib.hid h0
                have HM2 := Lib.hid hm2
                have HF2 := Lib.hid hf2
                have HBJ := Lib.hid hbj
                by_cases hjl : j < nn
                · obtain ⟨nb, noff, z, rfl, e2, hz, hcell, hzi⟩ := IntsAt.cellp (ints_kept HD.out.2.2.2.1 (HX6.out.bel.trans (hbj.mono HX6.out.bel.size))) hjl
                  have HZN := Lib.hid (HG.out.2.1 z (List.mem_of_getElem? hz))
                  have HZI := Lib.hid hzi
                  have hcd : card (sset (ns.take j)) < maxLen := by
                    have := slist_len (sset (ns.take j))
                    unfold card maxLen
                    omega
                  have HTK := Lib.hid (show sset (ns.take (j + 1)) = sadd (sset (ns.take j)) z from by
                    have hjn : j < ns.length := (List.getElem?_eq_some_iff.1 hz).1
                    have hzz : ns[j] = z := (List.getElem?_eq_some_iff.1 hz).2
                    rw [List.take_succ_eq_append_getElem hjn, hzz]
                    unfold sset
                    rw [List.foldl_append]
                    rfl)
                  have hij2 : (0:Int) ≤ (j:Int) ∧ (j:Int) < (nn:Int) := by omega
                  clear h0 hm2 hf2 hbj hz hzi
                  go_wp2_with (at_mapUpdate; refine wpList_store_map _ rfl _ _ _ 41 rfl 3 4 Tryz.keyI Tryz.underlying41 _ (Tryz.zeroBo _) w6.heap.size _ mm2 rfl HM2.out hcd (.int .i64 z) (.bool true) (.int .i64 z) rfl rfl (key_int z HZI.out) ?_; intro w8 hm8 hg8 hs8; have HL8 := Lib.hid (LSet.put HH0.out HF2.out HZN.out hm8 rfl); have HB8 := Lib.hid (HBJ.out.grown hg8 HBJ.out.size (fun k hk => by injection hk with hk; omega)); clear hm8 hg8 hs8)
                  go_roundw
                  case rel => exact ⟨j + 1, by omega, by go_num, HB8.out, by rw [HTK.out]; exact HL8.out⟩
                  case measure => simp [intOf]; omega
                · obtain rfl : j = nn := by omega
                  have htk : ns.take j = ns := List.take_of_length_le (by have := HNS.out.1; omega)
                  rw [htk] at hm2
                  have hml := hm2.len Tryz.underlying41 3
                  have HX8 := Lib.hid (HX6.out.below hbj)
                  obtain ⟨m3, N3, hm3, hN3, hf3⟩ := HX8.out.wm
                  have HM3 := Lib.hid hm3
                  have HN3 := Lib.hid hN3
                  have HF3 := Lib.hid hf3
                  have hN3m : N3 < maxLen := by have := HI.out.2.1; unfold maxLen; omega
                  clear h0 hm2 hf2 hbj hm3 hN3 hf3 htk
                  go_wp2_with (at_mapUpdate; refine wpList_store_map _ rfl _ _ _ 33 rfl 2 3 Tryz.keyL Tryz.underlying33 _ (Tryz.zeroIn _) wb N3 m3 rfl HM3.out hN3m (.int .i64 nid) (.int .i64 ((card (sset ns) : Nat) : Int)) (.int .i64 nid) rfl rfl (key_long _ HNI.out) ?_; intro w9 hm9 hg9 hs9; have HX9 := Lib.hid (HX8.out.putW (FMap.put HNI.out HN3.out HF3.out hm9) hg9); clear hm9 hg9 hs9)
                  go_meet
                  have hx9 := HX9.out
                  rw [yF_put, wF_put, ← HRV.out] at hx9
                  exact ⟨gc, gl, b1, b2, b3, v, c5, ms, n1 + 1, n2 + 1, n3, L ++ [nid], _, _, _, rfl, hx9, HOP5.out, by have := HI.out; omega, by have := HI.out; omega, by have := HI.out; omega, by have := HI.out; rw [List.length_append, List.length_singleton]; omega⟩
            · have HBG := Lib.hid (begin_bad X HSX.out.cs.co na nn nc ns w.heap.size HNS.out hnn hg)
              clear hnn hg
              have d3 := HWX.out.cell 3
              go_wp2_with fail
              refine HBG.out.mono ?_
              rintro e w5 ⟨rfl, rfl⟩
              go_wp2_with fail
              exact ⟨⟨i + 1, by omega, by go_num, gc, gl, b1, b2, b3, v, c, ms, n1, n2, n3, L, S, Y, yf, rfl, HSX.out, HOP.out, by have := HI.out; omega, by have := HI.out; omega, by have := HI.out; omega, by have := HI.out; omega⟩, by simp [intOf]; omega⟩
        · have f0 : (kd == 0) = false := by simpa using hk0
          by_cases hk1 : kd = 1
          · subst hk1
            as_aux_lemma =>
              have d2 := HWX.out.cell 2
              have d4 := HWX.out.cell 4
              have HVO := Lib.hid (vote_cs X HSX.out.cs id nd yes HID.out HD.out.2.1)
              go_wp2_with fail
              refine HVO.out.mono ?_
              rintro e w5 ⟨rfl, hc5, hch5⟩
              have HX5 := Lib.hid (HSX.out.chg hc5 hch5)
              have HW5 := Lib.hid (HWX.out.kept (hch5.block _ HWX.out.lt (HSX.out.box HWX.out).1))
              have HRV := Lib.hid (rF_eq (rv_vote HOP.out.ok id nd yes))
              have HOK := Lib.hid hc5.co.ok
              clear hc5 hch5 HVO d0 d1 d2 d4
              have d2 := HW5.out.cell 2
              have d4 := HW5.out.cell 4
              by_cases hq0 : (cvote c id nd yes).1 = 0
              · cases yes with
                | true =>
                  obtain ⟨hop5, hidL, hnd⟩ := HOP.out.vote_yes HOK.out hq0
                  have HOP5 := Lib.hid hop5
                  have hly := HX5.out.ym.lookY HID.out
                  rw [yF, if_pos hidL] at hly
                  simp only [Option.getD_some] at hly
                  obtain ⟨hY0, mm, hmp, hf⟩ := HX5.out.inn id hidL
                  have HMP := Lib.hid hmp
                  have HF := Lib.hid hf
                  have HND := Lib.hid hnd
                  have HIL := Lib.hid hidL
                  have hcd : card (Y id) < maxLen := by
                    have := slist_len (Y id)
                    unfold card maxLen
                    omega
                  rw [hq0]
                  clear hop5 hidL hnd hmp hf
                  generalize (cvote c id nd true).2 = c5 at *
                  go_wp2_with (at_mapUpdate; refine wpList_store_map _ rfl _ _ _ 41 rfl 3 4 Tryz.keyI Tryz.underlying41 _ (Tryz.zeroBo _) (yf id) _ mm rfl HMP.out hcd (.int .i64 nd) (.bool true) (.int .i64 nd) rfl rfl (key_int nd HD.out.2.1) ?_; intro w6 hm6 hg6 hs6; have HX6 := Lib.hid (HX5.out.putI HIL.out (LSet.put hY0 HF.out HND.out hm6 rfl) hg6 (Y' := fun k => if k = id then sadd (Y k) nd else Y k) ⟨by simp, fun k hk => by simp [hk]⟩); clear hm6 hg6 hs6)
                  go_meet
                  exact ⟨gc, gl, b1, b2, b3, v, c5, ms, n1, n2, n3, L, S, _, yf, rfl, by rw [HRV.out]; exact HX6.out, HOP5.out, by have := HI.out; omega, by have := HI.out; omega, by have := HI.out; omega, by have := HI.out; omega⟩
                | false =>
                  have HOP5 := Lib.hid (HOP.out.vote_not HOK.out (.inr rfl))
                  rw [hq0]
                  generalize (cvote c id nd false).2 = c5 at *
                  go_wp2_with fail
                  go_meet
                  exact ⟨gc, gl, b1, b2, b3, v, c5, ms, n1, n2, n3, L, S, _, yf, rfl, by rw [HRV.out]; exact HX5.out, HOP5.out, by have := HI.out; omega, by have := HI.out; omega, by have := HI.out; omega, by have := HI.out; omega⟩
              · have HOP5 := Lib.hid (HOP.out.vote_not HOK.out (.inl hq0))
                generalize (cvote c id nd yes).2 = c5 at *
                generalize (cvote c id nd yes).1 = q at *
                have e1 : (q == 0) = false := by simpa using hq0
                go_wp2_with fail
                go_meet
                exact ⟨gc, gl, b1, b2, b3, v, c5, ms, n1, n2, n3, L, S, _, yf, rfl, by rw [HRV.out]; exact HX5.out, HOP5.out, by have := HI.out; omega, by have := HI.out; omega, by have := HI.out; omega, by have := HI.out; omega⟩
          · have f1 : (kd == 1) = false := by simpa using hk1
            by_cases hk2 : kd = 2
            · subst hk2
              as_aux_lemma =>
                have d5 := HWX.out.cell 5
                have HCM := Lib.hid (commit_any X HSX.out.cs id rev HID.out HD.out.2.2.1)
                go_wp2_with fail
                refine HCM.out.mono ?_
                rintro e w5 ⟨k, rfl, ⟨hk, _, hc5, hb5⟩ | ⟨s, hbs, hr1, hr2, ⟨rfl, _, v5, hc5, hch5⟩ | ⟨rfl, _, hc5, hb5⟩⟩⟩
                · have HX5 := Lib.hid (HSX.out.below hb5)
                  have e1 : (k == 0) = false := by simpa using hk
                  clear hc5 hb5 HCM d0 d1 d5
                  go_wp2_with fail
                  go_meet
                  exact ⟨gc, gl, b1, b2, b3, v, c, ms, n1, n2, n3, L, S, Y, yf, rfl, HX5.out, HOP.out, by have := HI.out; omega, by have := HI.out; omega, by have := HI.out; omega, by have := HI.out; omega⟩
                · obtain ⟨hidL, hsS, hY, hrv0, hop5, hrv5⟩ := HOP.out.commit hbs ⟨hr1, hr2⟩ hc5.co.ok
                  have HX5 := Lib.hid (HSX.out.chg hc5 hch5)
                  have HW5 := Lib.hid (HWX.out.kept (hch5.block _ HWX.out.lt (HSX.out.box HWX.out).1))
                  have HOP5 := Lib.hid hop5
                  have HRF := Lib.hid (rF_put hr1 hrv5)
                  have hlr := HX5.out.rm.lookR HID.out
                  rw [rF_get, hrv0] at hlr
                  have hly := HX5.out.ym.lookY HID.out
                  rw [yF, if_pos hidL] at hly
                  simp only [Option.getD_some] at hly
                  have hlw := HX5.out.wm.lookW HID.out
                  rw [wF, if_pos hidL] at hlw
                  simp only [Option.getD_some] at hlw
                  obtain ⟨hY0, mm, hmp, _⟩ := HX5.out.inn id hidL
                  rw [hY] at hmp
                  have hml := hmp.len Tryz.underlying41 3
                  have hz := HOP.out.zero hidL
                  have ez : (((card (S id) : Nat) : Int) == 0) = false := by simpa using hz
                  obtain ⟨m3, N3, hm3, hN3, hf3⟩ := HX5.out.rm
                  have HM3 := Lib.hid hm3
                  have HN3 := Lib.hid hN3
                  have HF3 := Lib.hid hf3
                  have hN3m : N3 < maxLen := by have := HI.out.2.2.1; unfold maxLen; omega
                  clear hc5 hch5 HCM d0 d1 d5 hidL hsS hY hrv0 hop5 hrv5 hmp hm3 hN3 hf3 hbs hr1 hr2
                  generalize ((card (S id) : Nat) : Int) = cd at *
                  generalize ctake c (oC 6 id rev (slist s)) = c5 at *
                  have d5 := HW5.out.cell 5
                  go_wp2_with (at_mapUpdate; refine wpList_store_map _ rfl _ _ _ 34 rfl 2 2 Tryz.keyL Tryz.underlying34 _ (Tryz.zeroDon _) rb N3 m3 rfl HM3.out hN3m (.int .i64 id) (.int .i64 rev) (.int .i64 id) rfl rfl (key_long _ HID.out) ?_; intro w6 hm6 hg6 hs6; have HX6 := Lib.hid (HX5.out.putR (FMap.put HID.out HN3.out HF3.out hm6) hg6); clear hm6 hg6 hs6)
                  go_meet
                  exact ⟨gc, gl, b1, b2, b3, v5, c5, _, n1, n2, n3 + 1, L, S, Y, yf, rfl, by rw [← HRF.out]; exact HX6.out, HOP5.out, by have := HI.out; omega, by have := HI.out; omega, by have := HI.out; omega, by have := HI.out; omega⟩
                · have HX5 := Lib.hid (HSX.out.below hb5)
                  clear hc5 hb5 HCM d0 d1 d5
                  go_wp2_with fail
                  go_meet
                  exact ⟨gc, gl, b1, b2, b3, v, c, ms, n1, n2, n3, L, S, Y, yf, rfl, HX5.out, HOP.out, by have := HI.out; omega, by have := HI.out; omega, by have := HI.out; omega, by have := HI.out; omega⟩
            · have f2 : (kd == 2) = false := by simpa using hk2
              by_cases hk3 : kd = 3
              · subst hk3
                as_aux_lemma =>
                  have HAB := Lib.hid (abort_cs X HSX.out.cs id HID.out)
                  go_wp2_with fail
                  refine HAB.out.mono ?_
                  rintro e w5 ⟨rfl, hc5, hch5⟩
                  have HX5 := Lib.hid (HSX.out.chg hc5 hch5)
                  have HRV := Lib.hid (rF_eq (rv_abort HOP.out.ok id))
                  obtain ⟨hop5, hz⟩ := HOP.out.abort hc5.co.ok
                  have HOP5 := Lib.hid hop5
                  have hlr := HX5.out.rm.lookR HID.out
                  rw [rF_get] at hlr
                  clear hc5 hch5 HAB d0 d1 hop5
                  generalize (cabort c id).2 = c5 at *
                  by_cases hq0 : (cabort c id).1 = 0
                  · rw [hz hq0] at hlr
                    rw [hq0]
                    clear hz hq0
                    go_wp2_with fail
                    go_meet
                    exact ⟨gc, gl, b1, b2, b3, v, c5, ms, n1, n2, n3, L, S, _, yf, rfl, by rw [HRV.out]; exact HX5.out, HOP5.out, by have := HI.out; omega, by have := HI.out; omega, by have := HI.out; omega, by have := HI.out; omega⟩
                  · clear hz
                    generalize (cabort c id).1 = q at *
                    have e1 : (q == 0) = false := by simpa using hq0
                    go_wp2_with fail
                    go_meet
                    exact ⟨gc, gl, b1, b2, b3, v, c5, ms, n1, n2, n3, L, S, _, yf, rfl, by rw [HRV.out]; exact HX5.out, HOP5.out, by have := HI.out; omega, by have := HI.out; omega, by have := HI.out; omega, by have := HI.out; omega⟩
              · have f3 : (kd == 3) = false := by simpa using hk3
                by_cases hk4 : kd = 4
                · subst hk4
                  as_aux_lemma =>
                    have d2 := HWX.out.cell 2
                    have HAK := Lib.hid (ack_any X HSX.out.cs id nd HID.out HD.out.2.1)
                    go_wp2_with fail
                    refine HAK.out.mono ?_
                    rintro e w5 ⟨k, rfl, ⟨hcase, hc5, hb5⟩ | ⟨dd, hdn, hdd, hsh, ⟨hlf, rfl, hc5, hch5⟩ | ⟨hlf, ⟨rfl, _, v5, hc5, hch5⟩ | ⟨rfl, _, hc5, hch5⟩⟩⟩⟩
                    · have HX5 := Lib.hid (HSX.out.below hb5)
                      have hlr := HX5.out.rm.lookR HID.out
                      rw [rF_get] at hlr
                      clear hc5 hb5 HAK d0 d1 d2
                      rcases hcase with ⟨h1, rfl⟩ | ⟨_, h2, _⟩
                      · have hne := HOP.out.done_rv h1
                        have e1 : (rv c id == 0) = false := by simpa using hne
                        clear h1
                        generalize rv c id = r at *
                        go_wp2_with fail
                        go_meet
                        exact ⟨gc, gl, b1, b2, b3, v, c, ms, n1, n2, n3, L, S, Y, yf, rfl, HX5.out, HOP.out, by have := HI.out; omega, by have := HI.out; omega, by have := HI.out; omega, by have := HI.out; omega⟩
                      · have e1 : (k == 0) = false := by simpa using h2
                        go_wp2_with fail
                        go_meet
                        exact ⟨gc, gl, b1, b2, b3, v, c, ms, n1, n2, n3, L, S, Y, yf, rfl, HX5.out, HOP.out, by have := HI.out; omega, by have := HI.out; omega, by have := HI.out; omega, by have := HI.out; omega⟩
                    · have HX5 := Lib.hid (HSX.out.chg hc5 hch5)
                      have hlr := HX5.out.rm.lookR HID.out
                      rw [rF_get] at hlr
                      have hne := HOP.out.debt_rv hdd
                      obtain ⟨hop5, hrv5⟩ := HOP.out.ack hdd _ hc5.co.ok
                      have HOP5 := Lib.hid hop5
                      have HRV := Lib.hid (rF_eq hrv5)
                      have e1 : (rv c id == 0) = false := by simpa using hne
                      clear hc5 hch5 HAK d0 d1 d2 hop5 hrv5 hdd hsh hlf hdn
                      generalize cack c id (swo dd.lf nd) = c5 at *
                      generalize rv c id = r at *
                      go_wp2_with fail
                      go_meet
                      exact ⟨gc, gl, b1, b2, b3, v, c5, ms, n1, n2, n3, L, S, Y, yf, rfl, by rw [HRV.out]; exact HX5.out, HOP5.out, by have := HI.out; omega, by have := HI.out; omega, by have := HI.out; omega, by have := HI.out; omega⟩
                    · have HX5 := Lib.hid (HSX.out.chg hc5 hch5)
                      have hlr := HX5.out.rm.lookR HID.out
                      rw [rF_get] at hlr
                      have hne := HOP.out.debt_rv hdd
                      obtain ⟨hop5, hrv5⟩ := HOP.out.ack_done hdd hc5.co.ok
                      have HOP5 := Lib.hid hop5
                      have HRV := Lib.hid (rF_eq hrv5)
                      have e1 : (rv c id == 0) = false := by simpa using hne
                      clear hc5 hch5 HAK d0 d1 d2 hop5 hrv5 hdd hsh hlf hdn
                      generalize ctake (cack c id 0) (oC 7 id 0 []) = c5 at *
                      generalize rv c id = r at *
                      go_wp2_with fail
                      go_meet
                      exact ⟨gc, gl, b1, b2, b3, v5, c5, _, n1, n2, n3, L, S, Y, yf, rfl, by rw [HRV.out]; exact HX5.out, HOP5.out, by have := HI.out; omega, by have := HI.out; omega, by have := HI.out; omega, by have := HI.out; omega⟩
                    · have HX5 := Lib.hid (HSX.out.chg hc5 hch5)
                      obtain ⟨hop5, hrv5⟩ := HOP.out.ack hdd 0 hc5.co.ok
                      have HOP5 := Lib.hid hop5
                      have HRV := Lib.hid (rF_eq hrv5)
                      clear hc5 hch5 HAK d0 d1 d2 hop5 hrv5 hdd hsh hlf hdn
                      generalize cack c id 0 = c5 at *
                      go_wp2_with fail
                      go_meet
                      exact ⟨gc, gl, b1, b2, b3, v, c5, ms, n1, n2, n3, L, S, Y, yf, rfl, by rw [HRV.out]; exact HX5.out, HOP5.out, by have := HI.out; omega, by have := HI.out; omega, by have := HI.out; omega, by have := HI.out; omega⟩
                · have f4 : (kd == 4) = false := by simpa using hk4
                  by_cases hk5 : kd = 5
                  · subst hk5
                    as_aux_lemma =>
                      have HCR := Lib.hid (crash_all X HSX.out.cs)
                      go_wp2_with fail
                      refine HCR.out.mono ?_
                      rintro e w7 ⟨rfl, v7, hd7, hch7, hv7⟩
                      have hb7 : Below w.heap.size w w7 := HSX.out.bel.trans (hch7.below (fun k hk => by rw [hk]; exact HGE.out) HSX.out.bel.size)
                      have HB7 := Lib.hid hb7
                      have HON := Lib.hid (opened_any w7 _ hd7 HSX.out.cs.fine hb7.size 3 ⟨by omega, by omega⟩)
                      have HC7 := Lib.hid hch7
                      have HV7 := Lib.hid hv7
                      clear hd7 hch7 hv7 hb7 HCR d0 d1
                      go_wp2_with fail
                      refine HON.out.mono ?_
                      rintro e w8 (⟨_, gc2, gl2, e1, e2, e3, v8, rfl, hcs8, hch8, hm1, hm2, hm3⟩ | ⟨hlt, rfl, ⟨v8, hd8⟩, hch8⟩)
                      · have HX8 := Lib.hid (HSX.out.again HC7.out HV7.out hcs8 hch8 ⟨hm1, hm2, hm3⟩)
                        obtain ⟨hop8, hrv8⟩ := HOP.out.boot hcs8.co.ok
                        have HOP8 := Lib.hid hop8
                        have HRV := Lib.hid (rF_eq hrv8)
                        clear hcs8 hch8 hm1 hm2 hm3 HON hop8 hrv8
                        generalize ctake (rep 3 ms) (bootM (rep 3 ms)) = c5 at *
                        go_wp2_with fail
                        go_meet
                        exact ⟨gc2, gl2, e1, e2, e3, v8, c5, _, n1, n2, n3, L, S, Y, yf, rfl, by rw [HRV.out]; exact HX8.out, HOP8.out, by have := HI.out; omega, by have := HI.out; omega, by have := HI.out; omega, by have := HI.out; omega⟩
                      · have h1 : (rcd (bootM (rep 3 ms))).length ≤ 29 := boot_len (by have := HSX.out.cs.small; omega)
                        have HLF := Lib.hid (Dk.left_any w8 hd8)
                        have hdec : decide (((100000 - (cat ms).length : Nat) : Int) < 100) = true := decide_eq_true (by omega)
                        have HB8 := Lib.hid (HB7.out.trans (hch8.below (fun k hk => by
                          rcases hk with e | e
                          · rw [e]; exact HGE.out
                          · exact (HSX.out.cs.ge (k := k) (.inr (.inr (.inl (by rw [← HV7.out]; exact e))))).1) HB7.out.size))
                        clear hlt h1 hd8 hch8 HON
                        go_wp2_with fail
                        refine HLF.out.mono ?_
                        rintro e w9 ⟨rfl, n9, rfl⟩
                        go_wp2
                        go_ret
                        exact ⟨rfl, HB8.out.trans ((below_drewN w8 n9).mono HB8.out.size)⟩
                  · have f5 : (kd == 5) = false := by simpa using hk5
                    go_wp2_with fail
                    go_meet
                    exact ⟨gc, gl, b1, b2, b3, v, c, ms, n1, n2, n3, L, S, Y, yf, rfl, HSX.out, HOP.out, by have := HI.out; omega, by have := HI.out; omega, by have := HI.out; omega, by have := HI.out; omega⟩
      case rest =>
        as_aux_lemma =>
          clear HSX HWX HOY HOP d0 d1 HI HID HD
          obtain ⟨gc5, gl5, e1, e2, e3, v5, c5, ms5, m1, m2, m3, L5, S5, Y5, yf5, rfl, hoy5, hop5, hi1, hi2, hi3, hi4⟩ := hcut
          have HX5 := Lib.hid hoy5
          have HOP5 := Lib.hid hop5
          have HI5 := Lib.hid (And.intro hi1 (And.intro hi2 (And.intro hi3 hi4)))
          obtain ⟨ka5, kc5, rfl, _, _⟩ := owned_anyE HX5.out.row
          have hL5 : L5.length ≤ 2199023255553 := by omega
          clear hoy5 hop5 hi1 hi2 hi3 hi4
          go_wp2_with fail
          go_loopw [181] (fun jv wj => ∃ j : Nat, j ≤ L5.length ∧ jv = .int .i64 (j : Int) ∧ Below wc.heap.size wc wj) (fun jv _ => L5.length - (intOf jv).toNat)
          case atStart => exact ⟨0, by omega, rfl, Below.refl _ _⟩
          case round =>
            obtain ⟨j, hjn, rfl, hbj⟩ := hrel
            by_cases hjl : j < L5.length
            · obtain ⟨ub, uc, hv, hL⟩ := Lies.owned (HX5.out.below hbj).row
              injection hv with f1 f2 f3
              subst f1 f3
              obtain ⟨kb, koff, rfl, hkb, _⟩ := hL.addr (by omega)
              obtain ⟨z, hz⟩ : ∃ z, L5[j]? = some z := ⟨_, List.getElem?_eq_getElem hjl⟩
              have hzi := HOP5.out.in_ (List.mem_of_getElem? hz)
              have p2 : wr.cell? ⟨kb, koff + j, none⟩ = some (.int .i64 z) := hL.cell (by rw [List.getElem?_map, hz]; rfl)
              have HSA := Lib.hid (status_any wr (HX5.out.below hbj).cs.co z hzi)
              have HZI := Lib.hid hzi
              have HBJ := Lib.hid hbj
              have hij2 : (0:Int) ≤ (j:Int) ∧ (j:Int) < (L5.length:Int) := by omega
              clear hL hz hzi hbj
              go_wp2_with fail
              refine HSA.out.mono ?_
              rintro e w6 ⟨rfl, hb6⟩
              have HB6 := Lib.hid (bell_up HBJ.out hb6)
              have hlr := (HX5.out.below HB6.out).rm.lookR HZI.out
              rw [rF_get] at hlr
              have hrz := HOP5.out.rv_zero z
              rw [show (stat c5 z).2 = rv c5 z from rfl]
              generalize (stat c5 z).1 = s at *
              generalize rv c5 z = r at *
              clear HSA hb6
              by_cases h2 : s = 2
              · subst h2
                have hr0 : ¬ r = 0 := hrz.1 (.inl rfl)
                have e0 : (r == 0) = false := by simpa using hr0
                have e0n : (!(r != 0)) = false := by simpa using hr0
                clear hrz
                go_wp2_with fail
                exact ⟨⟨j + 1, by omega, by go_num, HB6.out⟩, by simp [intOf]; omega⟩
              · have e2' : (s == 2) = false := by simpa using h2
                by_cases h3 : s = 3
                · subst h3
                  have hr0 : ¬ r = 0 := hrz.1 (.inr rfl)
                  have e0 : (r == 0) = false := by simpa using hr0
                  have e0n : (!(r != 0)) = false := by simpa using hr0
                  clear hrz
                  go_wp2_with fail
                  exact ⟨⟨j + 1, by omega, by go_num, HB6.out⟩, by simp [intOf]; omega⟩
                · have e3' : (s == 3) = false := by simpa using h3
                  obtain rfl : r = 0 := by
                    by_cases h0 : r = 0
                    · exact h0
                    · rcases hrz.2 h0 with h4 | h4
                      · exact absurd h4 h2
                      · exact absurd h4 h3
                  go_wp2_with fail
                  exact ⟨⟨j + 1, by omega, by go_num, HB6.out⟩, by simp [intOf]; omega⟩
            · obtain rfl : j = L5.length := by omega
              have HX6 := Lib.hid (HX5.out.below hbj)
              clear hbj
              go_wp2_with fail
              exact ⟨⟨i + 1, by omega, by go_num, gc5, gl5, e1, e2, e3, v5, c5, ms5, m1, m2, m3, L5, S5, Y5, yf5, rfl, HX6.out, HOP5.out, HI5.out⟩, by simp [intOf]; omega⟩
    · obtain rfl : i = n := by omega
      have hbel := HOY.out.bel
      have HBL := Lib.hid hbel
      clear hbel
      go_wp2
      go_ret
      exact ⟨rfl, HBL.out⟩
end Go.Proofs.YtkailiifgdjgmaaGreat
