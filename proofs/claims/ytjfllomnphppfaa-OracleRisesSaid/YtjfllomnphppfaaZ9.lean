/- OracleRises: the law. -/
import Derived.Test.YtjfllomnphppfaaZ8
namespace Go.Proofs.Ytjfllomnphppfaa
open Go.RowKit

section
variable {w w' wr : World} {B go gl mb g o r rb : Nat} {v row : Value} {L : List Iss} {ms : List MsgD} {cl : Int}
set_option maxRecDepth 100000 in
set_option maxHeartbeats 4000000 in
theorem rises_bad (a : Option Addr) (n c : Nat) (q : Int) (w : World) (h : q < 0 ∨ 1048576 < q) :
    Calls Try.prog 3 #[.slice a n c, .int .i64 q] w fun e w' => e = .returned (.bool true) ∧ Below w.heap.size w w' := by
  have HW := Lib.hid (fun w => rwrong_any q w)
  simp only [if_pos h] at HW
  have H := Lib.hid h
  clear h
  go_enter Try.func3, Try.ntmps3
  go_wp2_with fail
  refine (awake_any _).mono ?_
  rintro e w1 ⟨rfl, hb⟩
  have HB := Lib.hid hb
  have HN := Lib.hid (Dk.new_bad q w1 H.out)
  clear hb
  go_wp2_with fail
  refine HN.out.mono ?_
  rintro e w2 ⟨rfl, rfl⟩
  go_wp2_with fail
  refine (HW.out _).mono ?_
  rintro e w3 ⟨rfl, rfl⟩
  go_wp2
  go_ret
  exact ⟨rfl, HB.out⟩
theorem StR.start {g q : Nat} {w3 : World} (h : StF w w3 go gl mb g v row [] q) : StR w (w3.alloc (.map #[] 0)) go gl mb g v row [] q w3.heap.size 0 := by
  have hb := below_alloc w3 (.map #[] 0)
  refine ⟨h.below hb, ⟨_, 0, MapAt.made w3 Try.prog 2, Nat.le_refl _, fun k _ => rfl⟩, ?_, h.2.1.size, Int.le_refl _, by decide⟩
  have := (h.1.ge (k := mb) (.inr (.inr (.inr (.inr (.inl rfl)))))).2
  omega
/-- Where the switch has been. -/
def StT (w wx : World) (g r rb : Nat) (cl : Int) (ov lv : Value) : Prop := ∃ go gl mb v row ms, ov = .pointer (some ⟨go, 0, none⟩) ∧ lv = .int .i64 (lastR (rep ms)) ∧ StR w wx go gl mb g v row ms r rb cl
set_option maxRecDepth 100000 in
set_option maxHeartbeats 16000000 in
theorem rises_good (a : Option Addr) (n c : Nat) (q : Nat) (w : World) (hx : OpsR w a n) (hn : n ≤ 140737488355328) (hq : q ≤ 1048576) :
    Calls Try.prog 3 #[.slice a n c, .int .i64 (q : Int)] w fun e w' => e = .returned (.bool true) ∧ Below w.heap.size w w' := by
  have HX := Lib.hid hx
  have HQ := Lib.hid hq
  have hmm := @run_makeMap Try.prog
  clear hx hq
  go_enter Try.func3, Try.ntmps3
  go_wp2_with fail
  refine (awake_any _).mono ?_
  rintro e w1 ⟨rfl, hb1⟩
  have HN := Lib.hid (Dk.new_good w.heap.size q w1 HQ.out hb1.size)
  have HB1 := Lib.hid hb1
  clear hb1
  go_wp2_with fail
  refine HN.out.mono ?_
  rintro e w2 ⟨rfl, hd2, hb2⟩
  have HB2 := Lib.hid (bell_up HB1.out hb2)
  have HGE := Lib.hid HB1.out.size
  have HO2 := Lib.hid (opened_any (ms := []) w2 0 hd2 (by simp) HB2.out.size)
  clear hd2 hb2 HN
  generalize w1.heap.size = g at *
  go_wp2_with fail
  refine HO2.out.mono ?_
  rintro e w3 ⟨go, gl, mb, v3, row3, rfl, hos, hch, _⟩
  have HS3 := Lib.hid (StR.start (show StF w w3 go gl mb g v3 row3 [] q from ⟨hos, HB2.out.trans (hch.below (fun k hk => by rw [hk]; exact HGE.out) HB2.out.size), Own.nil⟩))
  clear hos hch HO2
  go_wp2_with fail
  generalize w3.heap.size = rb at *
  generalize w3.alloc (.map #[] 0) = w4 at *
  go_loopw [7, 9, 10, 35] (fun ov lv cv iv wr => ∃ (i : Nat) (cl : Int), i ≤ n ∧ iv = .int .i64 i ∧ cv = .int .i64 cl ∧ StT w wr g q rb cl ov lv) (fun _ _ _ iv _ => n - (intOf iv).toNat)
  case atStart => exact ⟨0, 0, by omega, rfl, rfl, go, gl, mb, v3, row3, [], rfl, rfl, HS3.out⟩
  case round =>
    obtain ⟨i, cl, hin, rfl, rfl, go, gl, mb, v, row, ms, rfl, rfl, hst⟩ := hrel
    have HST := Lib.hid hst
    clear hst HS3
    by_cases hil : i < n
    · obtain ⟨b, off, rfl, hbl, hcc⟩ := HX.out.resolve_left (by omega)
      obtain ⟨kd, fr, id, m, s8, s9, s10, s11, hop, hkd, hfr, hid, hmin⟩ := hcc i hil
      have hshape : ∃ a8 n8 c8 a9 n9 c9 a10 n10 c10 a11 n11 c11, s8 = .slice a8 n8 c8 ∧ s9 = .slice a9 n9 c9 ∧ s10 = .slice a10 n10 c10 ∧ s11 = .slice a11 n11 c11 := by
        obtain ⟨na, ma, pa, ra, nn, nc, mn, mc, pn, pc, rn, rc, h⟩ := hmin
        have hv := h.val
        injection hv with hv
        injection hv with hv
        simp only [List.cons.injEq, and_true] at hv
        obtain ⟨_, _, _, _, _, _, _, _, rfl, rfl, rfl, rfl⟩ := hv
        exact ⟨_, _, _, _, _, _, _, _, _, _, _, _, rfl, rfl, rfl, rfl⟩
      obtain ⟨a8, n8, c8, a9, n9, c9, a10, n10, c10, a11, n11, c11, rfl, rfl, rfl, rfl⟩ := hshape
      obtain ⟨q0, q1, q2, q3, q4, q5, q6, q7, q8, q9, q10, q11, q12, q13, q14⟩ := hop
      have p0 := (HST.out.st.2.1.cell (p := ⟨b, off + i * 15, none⟩) hbl).trans q0
      have p1 := (HST.out.st.2.1.cell (p := ⟨b, off + i * 15 + 1, none⟩) hbl).trans q1
      have p2 := (HST.out.st.2.1.cell (p := ⟨b, off + i * 15 + 2, none⟩) hbl).trans q2
      have p3 := (HST.out.st.2.1.cell (p := ⟨b, off + i * 15 + 3, none⟩) hbl).trans q3
      have p4 := (HST.out.st.2.1.cell (p := ⟨b, off + i * 15 + 4, none⟩) hbl).trans q4
      have p5 := (HST.out.st.2.1.cell (p := ⟨b, off + i * 15 + 5, none⟩) hbl).trans q5
      have p6 := (HST.out.st.2.1.cell (p := ⟨b, off + i * 15 + 6, none⟩) hbl).trans q6
      have p7 := (HST.out.st.2.1.cell (p := ⟨b, off + i * 15 + 7, none⟩) hbl).trans q7
      have p8 := (HST.out.st.2.1.cell (p := ⟨b, off + i * 15 + 8, none⟩) hbl).trans q8
      have p9 := (HST.out.st.2.1.cell (p := ⟨b, off + i * 15 + 9, none⟩) hbl).trans q9
      have p10 := (HST.out.st.2.1.cell (p := ⟨b, off + i * 15 + 10, none⟩) hbl).trans q10
      have p11 := (HST.out.st.2.1.cell (p := ⟨b, off + i * 15 + 11, none⟩) hbl).trans q11
      have p12 := (HST.out.st.2.1.cell (p := ⟨b, off + i * 15 + 12, none⟩) hbl).trans q12
      have p13 := (HST.out.st.2.1.cell (p := ⟨b, off + i * 15 + 13, none⟩) hbl).trans q13
      have p14 := (HST.out.st.2.1.cell (p := ⟨b, off + i * 15 + 14, none⟩) hbl).trans q14
      obtain ⟨X, hX, hwx, hbx⟩ : ∃ X, X = wr.alloc (.cells #[.int .i64 kd, .int .i64 fr, .int .i64 id, .int .i64 m.kind, .int .i64 m.from_, .int .i64 m.«to», .int .i64 m.id, .int .i64 m.rev, .int .i64 m.epoch, .int .i64 m.slot, .bool m.flag, .slice a8 n8 c8, .slice a9 n9 c9, .slice a10 n10 c10, .slice a11 n11 c11] 39) ∧ Whole X wr.heap.size 39 #[.int .i64 kd, .int .i64 fr, .int .i64 id, .int .i64 m.kind, .int .i64 m.from_, .int .i64 m.«to», .int .i64 m.id, .int .i64 m.rev, .int .i64 m.epoch, .int .i64 m.slot, .bool m.flag, .slice a8 n8 c8, .slice a9 n9 c9, .slice a10 n10 c10, .slice a11 n11 c11] ∧ Below wr.heap.size wr X := ⟨_, rfl, heap_alloc_new _ _, below_alloc _ _⟩
      have HSX := Lib.hid (HST.out.below hbx)
      have HWX := Lib.hid hwx
      have HFR := Lib.hid hfr
      have HID := Lib.hid hid
      have hij : (0:Int) ≤ (i:Int) ∧ (i:Int) < (n:Int) := by omega
      clear hcc hmin q0 q1 q2 q3 q4 q5 q6 q7 q8 q9 q10 q11 q12 q13 q14
      go_upto_region 12 with fail
      rw [← hX]
      have d0 := hwx.cell 0
      have d1 := hwx.cell 1
      have d2 := hwx.cell 2
      clear hX hwx hbx p0 p1 p2 p3 p4 p5 p6 p7 p8 p9 p10 p11 p12 p13 p14 hfr hid
      generalize wr.heap.size = xb at *
      go_upto_block 2 with fail
      go_cut [7, 9] (fun ov lv wx => StT w wx g q rb cl ov lv)
      case first J KK hJR hMK =>
        by_cases hk0 : kd = 0
        · subst hk0
          have HIS := Lib.hid (HSX.out.issue id fr HID.out HFR.out)
          go_wp2_with fail
          refine HIS.out.mono ?_
          rintro e w5 ⟨q1, c1, rfl, ⟨rfl, hok, hmp⟩ | ⟨rfl, rfl, hrn, hs5, hb5⟩⟩
          · have hlk := hmp.look HID.out
            obtain ⟨h1, hrc, v5, row5, ms5, hf5, hc5, hrest⟩ := hok
            have hx5 := HWX.out.kept (hc5.block _ HWX.out.lt (HSX.out.st.1.other HWX.out (by decide) (by decide) (by decide) (by decide) (by decide)))
            have HOK := Lib.hid (show IssOk w X w5 go gl mb g v row ms q cl id q1 from ⟨h1, hrc, v5, row5, ms5, hf5, hc5, hrest⟩)
            clear d0 d1 d2
            have d2 := hx5.cell 2
            obtain ⟨rm, N, hm5, hN5, hf5'⟩ := hmp
            have HM5 := Lib.hid hm5
            have HN5 := Lib.hid hN5
            have HF5 := Lib.hid hf5'
            have hN6 : N < maxLen := by have := HST.out.st.1.few; unfold maxLen; omega
            have e1 : (q1 == 0) = false := by simp; omega
            have e2 : (q1 != 0) = true := by simp; omega
            have e3 : ¬ q1 = 0 := by omega
            clear hf5 hc5 hrest hx5 hm5 hN5 hf5'
            rcases hrc with ⟨hrv, hle⟩ | ⟨hrv, hlt⟩
            · rw [hrv] at hlk
              simp only [Option.getD_some] at hlk
              have HMX := Lib.hid (show max (lastR (rep ms)) q1 = lastR (rep ms) by omega)
              generalize hla : lastR (rep ms) = la at *
              have HLA := Lib.hid hla
              clear hla hrv
              have hnl : ¬ q1 > la := by omega
              go_wp2_with (at_mapUpdate; refine wpList_store_map _ rfl _ _ _ 31 rfl 2 2 Try.keyL Try.underlying31 _ (Try.zeroL _) rb N rm rfl HM5.out hN6 (.int .i64 id) (.int .i64 q1) (.int .i64 id) rfl rfl (key_long id HID.out) ?_; intro w6 hm6 hg6 hs6)
              obtain ⟨v6, row6, ms6, hs6', hl6⟩ := HOK.out.next HSX.out HM5.out HN5.out HF5.out HID.out hm6 hg6
              rw [HLA.out, HMX.out] at hl6
              have HT := Lib.hid (show StT w w6 g q rb cl (.pointer (some ⟨go, 0, none⟩)) (.int .i64 la) from ⟨go, gl, mb, v6, row6, ms6, rfl, by rw [hl6], hs6'⟩)
              clear hm6 hg6 hs6 hs6' hl6
              go_wp2_with fail
              go_meet
              exact HT.out
            · rw [hrv] at hlk
              simp only [Option.getD_none] at hlk
              have HMX := Lib.hid (show max (lastR (rep ms)) q1 = q1 by omega)
              generalize hla : lastR (rep ms) = la at *
              have HLA := Lib.hid hla
              clear hla hrv
              have hnl : q1 > la := by omega
              have e5 : decide (q1 ≤ la) = false := by simp; omega
              go_wp2_with (at_mapUpdate; refine wpList_store_map _ rfl _ _ _ 31 rfl 2 2 Try.keyL Try.underlying31 _ (Try.zeroL _) rb N rm rfl HM5.out hN6 (.int .i64 id) (.int .i64 q1) (.int .i64 id) rfl rfl (key_long id HID.out) ?_; intro w6 hm6 hg6 hs6)
              obtain ⟨v6, row6, ms6, hs6', hl6⟩ := HOK.out.next HSX.out HM5.out HN5.out HF5.out HID.out hm6 hg6
              rw [HLA.out, HMX.out] at hl6
              have HT := Lib.hid (show StT w w6 g q rb cl (.pointer (some ⟨go, 0, none⟩)) (.int .i64 q1) from ⟨go, gl, mb, v6, row6, ms6, rfl, by rw [hl6], hs6'⟩)
              clear hm6 hg6 hs6 hs6' hl6
              go_wp2_with fail
              go_meet
              exact HT.out
          · have hlk := hs5.map.look HID.out
            rw [hrn] at hlk
            simp only [Option.getD_none] at hlk
            have hx5 := HWX.out.kept (hb5.block _ HWX.out.lt)
            clear d0 d1 d2
            have d2 := hx5.cell 2
            have HS5 := Lib.hid hs5
            clear hs5 hb5 hrn hx5
            go_wp2_with fail
            exact ⟨⟨i + 1, cl, by omega, by go_num, rfl, go, gl, mb, v, row, ms, rfl, rfl, HS5.out⟩, by simp [intOf]; omega⟩
        · by_cases hk1 : kd = 1
          · subst hk1
            have HRE := Lib.hid (HSX.out.resolve id HID.out)
            go_wp2_with fail
            refine HRE.out.mono ?_
            rintro e w5 ⟨c5, rfl, hdec, v5, row5, ms5, hs5, hc5, hl5, hr5⟩
            have hlk := hs5.map.look HID.out
            rw [hr5] at hlk
            have hx5 := HWX.out.kept (hc5.block _ HWX.out.lt (HSX.out.st.1.other HWX.out (by decide) (by decide) (by decide) (by decide) (by decide)))
            clear d0 d1 d2
            have d2 := hx5.cell 2
            have HT := Lib.hid (show StT w w5 g q rb cl (.pointer (some ⟨go, 0, none⟩)) (.int .i64 (lastR (rep ms))) from ⟨go, gl, mb, v5, row5, ms5, rfl, by rw [hl5], hs5⟩)
            generalize (revOf (rep ms) id).getD 0 = R0 at *
            clear hs5 hc5 hl5 hr5 hx5
            by_cases h4 : c5 = 4
            · subst h4
              obtain rfl : R0 = 0 := by simpa using hdec
              clear hdec
              go_wp2_with fail
              go_meet
              exact HT.out
            · have e4 : (c5 == 4) = false := by simpa using h4
              have hR : ¬ R0 = 0 := by intro h; rw [h] at hdec; simp at hdec; exact h4 hdec
              have e5 : (R0 == 0) = false := by simpa using hR
              clear hdec
              go_wp2_with fail
              go_meet
              exact HT.out
          · by_cases hk2 : kd = 2
            · subst hk2
              have HCR := Lib.hid HSX.out.crash
              go_wp2_with fail
              refine HCR.out.mono ?_
              rintro e w5 ⟨rfl, ⟨v5, hd5⟩, hc5⟩
              have HO5 := Lib.hid (opened_any w5 _ hd5 HSX.out.st.1.fine (Nat.le_trans HSX.out.st.2.1.size hc5.size))
              have HC5 := Lib.hid hc5
              clear hd5 hc5
              go_wp2_with fail
              refine HO5.out.mono ?_
              rintro e w6 ⟨go6, gl6, mb6, v6, row6, rfl, hos, hch, hmb⟩
              have HT := Lib.hid (show StT w w6 g q rb cl (.pointer (some ⟨go6, 0, none⟩)) (.int .i64 (lastR (rep ms))) from ⟨go6, gl6, mb6, v6, row6, ms, rfl, rfl, HSX.out.again HC5.out hos hch hmb⟩)
              clear hos hch hmb
              go_wp2_with fail
              go_meet
              exact HT.out
            · have HT := Lib.hid (show StT w X g q rb cl (.pointer (some ⟨go, 0, none⟩)) (.int .i64 (lastR (rep ms))) from ⟨go, gl, mb, v, row, ms, rfl, rfl, HSX.out⟩)
              have f0 : (kd == 0) = false := by simpa using hk0
              have f1 : (kd == 1) = false := by simpa using hk1
              have f2 : (kd == 2) = false := by simpa using hk2
              go_wp2_with fail
              go_meet
              exact HT.out
      case rest =>
        clear HSX HWX HST d0 d1 d2
        obtain ⟨go5, gl5, mb5, v5, row5, ms5, rfl, rfl, hs5⟩ := hcut
        have HS5 := Lib.hid hs5
        have HOA := Lib.hid hs5.st.1.ora
        have HCL := Lib.hid hs5.hi
        have hcl0 := hs5.lo
        have HR := Lib.hid hs5.st.1.ora.rise
        have HFEW := Lib.hid hs5.st.1.few
        have hc1 := hs5.st.1.ora.rise.closed_le
        have hc2 := hs5.hi
        clear hs5
        go_wp2_with fail
        refine (closed_any _ HOA.out).mono ?_
        rintro e w6 ⟨rfl, n6, hw6⟩
        have hb6 : Below wc.heap.size wc w6 := by rw [hw6]; exact below_drewN _ _
        have HB6 := Lib.hid hb6
        clear hw6 hb6
        have e1 : decide (closedR (rep ms5) < cl) = false := by simp; omega
        go_wp2_with fail
        refine (closed_any _ (HOA.out.below HB6.out)).mono ?_
        rintro e w7 ⟨rfl, n7, hw7⟩
        have HB7 := Lib.hid (bell_up HB6.out (show Below w6.heap.size w6 w7 by rw [hw7]; exact below_drewN _ _))
        clear hw7
        have e2 : decide (closedR (rep ms5) > lastR (rep ms5)) = false := by simp; omega
        go_wp2_with fail
        refine (last_any _ (HOA.out.below HB7.out)).mono ?_
        rintro e w8 ⟨rfl, n8, hw8⟩
        have HB8 := Lib.hid (bell_up HB7.out (show Below w7.heap.size w7 w8 by rw [hw8]; exact below_drewN _ _))
        clear hw8
        go_wp2_with fail
        refine (closed_any _ (HOA.out.below HB8.out)).mono ?_
        rintro e w9 ⟨rfl, n9, hw9⟩
        have HB9 := Lib.hid (bell_up HB8.out (show Below w8.heap.size w8 w9 by rw [hw9]; exact below_drewN _ _))
        clear hw9 e1 e2
        go_wp2_with fail
        refine (pending_any _ (HOA.out.below HB9.out)).mono ?_
        rintro e w10 ⟨pa, pc, rfl, hall, hb10⟩
        have HP := Lib.hid (hall.msgs hb10.size)
        have HB10 := Lib.hid (bell_up HB9.out hb10)
        have HPA := Lib.hid (fun (j : Nat) (mm : MsgD) (hm : (pend (rep ms5))[j]? = some mm) => HR.out.pend_at hm)
        have hpl := pend_le (rep ms5)
        have hpl2 : (pend (rep ms5)).length ≤ 52429 := by have := HFEW.out; omega
        have HS10 := Lib.hid (HS5.out.below HB10.out)
        have HCLR := Lib.hid (show 0 ≤ closedR (rep ms5) from HR.out.closed_nonneg)
        have HT10 := Lib.hid (fun W (hb : Below w10.heap.size w10 W) => (show StT w W g q rb (closedR (rep ms5)) (.pointer (some ⟨go5, 0, none⟩)) (.int .i64 (lastR (rep ms5))) from by
          have h := HS10.out.below hb
          exact ⟨go5, gl5, mb5, v5, row5, ms5, rfl, rfl, ⟨h.st, h.map, h.ne, h.ge, HCLR.out, Int.le_refl _⟩⟩))
        clear hall hb10 hpl hc1 hc2
        generalize hN : (pend (rep ms5)).length = N at *
        have HN := Lib.hid hN
        clear hN
        generalize lastR (rep ms5) = la at *
        generalize hcr : closedR (rep ms5) = cr at *
        clear hcr
        go_wp2_with fail
        go_loopw [144] (fun jv wj => ∃ j : Nat, j ≤ N ∧ jv = .int .i64 j ∧ Below w10.heap.size w10 wj) (fun jv _ => N - (intOf jv).toNat)
        case atStart => exact ⟨0, by omega, rfl, Below.refl _ _⟩
        case round =>
          obtain ⟨j, hjn, rfl, hbj⟩ := hrel
          by_cases hjl : j < N
          · obtain ⟨pb, poff, rfl, hpb, hpp⟩ := HP.out.2.resolve_left (by have := HN.out; omega)
            obtain ⟨mm, hmm2⟩ : ∃ mm, (pend (rep ms5))[j]? = some mm := ⟨_, List.getElem?_eq_getElem (by have := HN.out; omega)⟩
            obtain ⟨hc, hrv, hmid⟩ := HPA.out j mm hmm2
            obtain ⟨s8, s9, s10, s11, hbx, hmin⟩ := hpp j mm hmm2
            have hshape : ∃ a8 n8 c8 a9 n9 c9 a10 n10 c10 a11 n11 c11, s8 = .slice a8 n8 c8 ∧ s9 = .slice a9 n9 c9 ∧ s10 = .slice a10 n10 c10 ∧ s11 = .slice a11 n11 c11 := by
              obtain ⟨na, ma, pa, ra, nn, nc, mn, mc, pn, pc, rn, rc, h⟩ := hmin
              have hv := h.val
              injection hv with hv
              injection hv with hv
              simp only [List.cons.injEq, and_true] at hv
              obtain ⟨_, _, _, _, _, _, _, _, rfl, rfl, rfl, rfl⟩ := hv
              exact ⟨_, _, _, _, _, _, _, _, _, _, _, _, rfl, rfl, rfl, rfl⟩
            obtain ⟨b8, k8, l8, b9, k9, l9, b10, k10, l10, b11, k11, l11, rfl, rfl, rfl, rfl⟩ := hshape
            obtain ⟨q0, q1, q2, q3, q4, q5, q6, q7, q8, q9, q10, q11⟩ := hbx
            have p0 := (hbj.cell (p := ⟨pb, poff + j * 12, none⟩) hpb).trans q0
            have p1 := (hbj.cell (p := ⟨pb, poff + j * 12 + 1, none⟩) hpb).trans q1
            have p2 := (hbj.cell (p := ⟨pb, poff + j * 12 + 2, none⟩) hpb).trans q2
            have p3 := (hbj.cell (p := ⟨pb, poff + j * 12 + 3, none⟩) hpb).trans q3
            have p4 := (hbj.cell (p := ⟨pb, poff + j * 12 + 4, none⟩) hpb).trans q4
            have p5 := (hbj.cell (p := ⟨pb, poff + j * 12 + 5, none⟩) hpb).trans q5
            have p6 := (hbj.cell (p := ⟨pb, poff + j * 12 + 6, none⟩) hpb).trans q6
            have p7 := (hbj.cell (p := ⟨pb, poff + j * 12 + 7, none⟩) hpb).trans q7
            have p8 := (hbj.cell (p := ⟨pb, poff + j * 12 + 8, none⟩) hpb).trans q8
            have p9 := (hbj.cell (p := ⟨pb, poff + j * 12 + 9, none⟩) hpb).trans q9
            have p10 := (hbj.cell (p := ⟨pb, poff + j * 12 + 10, none⟩) hpb).trans q10
            have p11 := (hbj.cell (p := ⟨pb, poff + j * 12 + 11, none⟩) hpb).trans q11
            obtain ⟨Y, hY, hwy, hby⟩ := alloc_box wr #[.int .i64 mm.kind, .int .i64 mm.from_, .int .i64 mm.«to», .int .i64 mm.id, .int .i64 mm.rev, .int .i64 mm.epoch, .int .i64 mm.slot, .bool mm.flag, .slice b8 k8 l8, .slice b9 k9 l9, .slice b10 k10 l10, .slice b11 k11 l11]
            have hlk := ((HS10.out.below hbj).map.below hby).look hmid
            rw [hrv] at hlk
            simp only [Option.getD_some] at hlk
            have e1 : decide (mm.rev ≤ cr) = false := by simp; omega
            have e2 : ¬ mm.rev ≤ cr := by omega
            have HBY := Lib.hid (bell_up hbj hby)
            have hij2 : (0:Int) ≤ (j:Int) ∧ (j:Int) < (N:Int) := by omega
            clear hmm2 hc hrv hmid hmin q0 q1 q2 q3 q4 q5 q6 q7 q8 q9 q10 q11
            go_upto_region 35 with fail
            rw [← hY]
            have d3 := hwy.cell 3
            have d4 := hwy.cell 4
            clear hY hwy hby p0 p1 p2 p3 p4 p5 p6 p7 p8 p9 p10 p11 hbj
            go_wp2_with fail
            exact ⟨⟨j + 1, by omega, by go_num, HBY.out⟩, by simp [intOf]; omega⟩
          · have HTT := Lib.hid (HT10.out wr hbj)
            clear hbj
            go_wp2_with fail
            exact ⟨⟨i + 1, cr, by omega, by go_num, rfl, HTT.out⟩, by simp [intOf]; omega⟩
    · obtain rfl : i = n := by omega
      go_wp2
      go_ret
      exact ⟨rfl, HST.out.st.2.1⟩
theorem rises_walk (a : Option Addr) (n c : Nat) (q : Int) (w : World) (hx : OpsR w a n) (hn : n ≤ 140737488355328) :
    Calls Try.prog 3 #[.slice a n c, .int .i64 q] w fun e w' => e = .returned (.bool true) ∧ Below w.heap.size w w' := by
  by_cases h : q < 0 ∨ 1048576 < q
  · exact rises_bad a n c q w h
  · obtain ⟨m, rfl⟩ : ∃ m : Nat, q = (m : Int) := ⟨q.toNat, by omega⟩
    exact rises_good a n c m w hx hn (by omega)
end
end Go.Proofs.Ytjfllomnphppfaa
