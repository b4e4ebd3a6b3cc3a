/- The document's Check of mutations. -/
import Derived.Test.YtmjdngomjjhhiaaGreatE66
namespace Go.Proofs.YtmjdngomjjhhiaaGreat
open Go.RowKit
open Go.Maps (Keyed)

theorem MutsAt.cells {w : World} {a : Option Addr} {n : Nat} {l : List Mu} (h : MutsAt w a n l) {i : Nat} {m : Mu} (hi : l[i]? = some m) : ∃ b off, a = some ⟨b, off, none⟩ ∧ b < w.heap.size ∧
    w.cell? ⟨b, off + i * 4, none⟩ = some (.bool m.d) ∧ w.cell? ⟨b, off + i * 4 + 1, none⟩ = some (.string m.t.o) ∧ w.cell? ⟨b, off + i * 4 + 2, none⟩ = some (.string m.t.r) ∧ w.cell? ⟨b, off + i * 4 + 3, none⟩ = some (.string m.t.u) := by
  have hl := (List.getElem?_eq_some_iff.1 hi).1
  rcases h.at_ with h0 | ⟨b, off, ha, hb, hc⟩
  · have := h.len; omega
  · exact ⟨b, off, ha, hb, hc i m hi⟩
set_option maxHeartbeats 8000000 in
set_option maxRecDepth 100000 in
theorem rcheck7_any {a ra : Option Addr} {n c rn rc : Nat} {R : List Rw} {l : List Mu} {M : SM} {w : World} (hR : RowsAt w ra rn R) (hrn : rn ≤ 1099511627776) (hp : Rep ltT M R) (hM : SMOk M) (hl : MutsAt w a n l) (hn : n ≤ 1099511627776) (wm rev : Int) :
    Calls Tryz.prog 42 #[stV (.slice ra rn rc) wm, .int .i64 rev, .slice a n c] w fun e w' => e = .returned (.int .i64 (chkE M wm rev l)) ∧ Below w.heap.size w w' := by
  obtain ⟨w0, hw0⟩ : ∃ w0, w0 = w.alloc (.cells #[.slice ra rn rc, .int .i64 wm] 28) := ⟨_, rfl⟩
  have hb0 : Below w.heap.size w w0 := by rw [hw0]; exact below_alloc _ _
  obtain ⟨q0, hq0⟩ : ∃ q0, q0 = w.heap.size := ⟨_, rfl⟩
  have h0 : Whole w0 q0 28 #[.slice ra rn rc, .int .i64 wm] := by rw [hw0, hq0]; exact heap_alloc_new _ _
  have HX0 := Lib.hid h0
  have HR := Lib.hid (hR.below hb0)
  have HL := Lib.hid (hl.below hb0)
  have HB0 := Lib.hid hb0
  have HLN := Lib.hid hl.len
  have HLA := Lib.hid (fun t => hp.last hM t)
  clear hR hb0 h0 hp hM
  by_cases hr : rev < 1 ∨ maxRev < rev
  · have he : chkE M wm rev l = 1 := if_pos hr
    rw [he]
    unfold maxRev at hr
    clear he
    rcases hr with hr | hr
    · go_enter Tryz.func42, Tryz.ntmps42
      go_upto_region 1 with fail
      rw [← hw0]
      clear hw0 hq0
      go_wp2
      go_ret
      exact ⟨rfl, HB0.out⟩
    · have hr2 : ¬ rev < 1 := by omega
      go_enter Tryz.func42, Tryz.ntmps42
      go_upto_region 1 with fail
      rw [← hw0]
      clear hw0 hq0
      go_wp2
      go_ret
      exact ⟨rfl, HB0.out⟩
  · have he : chkE M wm rev l = chkGo (M.lat wm) rev [] l := if_neg hr
    rw [he]
    unfold maxRev at hr
    have h1 : ¬ rev < 1 := by omega
    have h2 : ¬ 1125899906842624 < rev := by omega
    generalize hte : chkGo (M.lat wm) rev [] l = te
    have HTE := Lib.hid hte
    clear hte he hr
    go_enter Tryz.func42, Tryz.ntmps42
    go_upto_region 1 with fail
    rw [← hw0, ← hq0]
    clear hw0 hq0
    go_wp2_with fail
    go_loopw [7] (fun iv wr => ∃ i : Nat, i ≤ n ∧ iv = .int .i64 i ∧ chkGo (M.lat wm) rev ((l.take i).map Mu.t) (l.drop i) = te ∧ Below w0.heap.size w0 wr) (fun iv _ => n - (intOf iv).toNat)
    case atStart => exact ⟨0, by omega, rfl, HTE.out, Below.refl _ _⟩
    case round =>
      obtain ⟨i, hin, rfl, hgo, hbr⟩ := hrel
      by_cases hil : i < n
      · obtain ⟨m, hmi⟩ : ∃ m, l[i]? = some m := ⟨_, List.getElem?_eq_getElem (show i < l.length by rw [HLN.out]; exact hil)⟩
        obtain ⟨b, off, rfl, hbB, k0, k1, k2, k3⟩ := (HL.out.below hbr).cells hmi
        have htk : l.take (i + 1) = l.take i ++ [m] := by rw [List.take_add_one, hmi]; rfl
        rw [drop_get hmi, chkGo] at hgo
        obtain ⟨w1, hw1⟩ : ∃ w1, w1 = wr.alloc (.cells #[.string m.t.o, .string m.t.r, .string m.t.u] 32) := ⟨_, rfl⟩
        have hb1 : Below wr.heap.size wr w1 := by rw [hw1]; exact below_alloc _ _
        have h3 : Whole w1 wr.heap.size 32 #[.string m.t.o, .string m.t.r, .string m.t.u] := by rw [hw1]; exact heap_alloc_new _ _
        obtain ⟨q1, hq1⟩ : ∃ q1, q1 = wr.heap.size := ⟨_, rfl⟩
        rw [← hq1] at h3
        have z0 : w1.cell? ⟨q1, 0, none⟩ = some (.string m.t.o) := by rw [h3.cell]; rfl
        have z1 : w1.cell? ⟨q1, 1, none⟩ = some (.string m.t.r) := by rw [h3.cell]; rfl
        have z2 : w1.cell? ⟨q1, 2, none⟩ = some (.string m.t.u) := by rw [h3.cell]; rfl
        have hmf := HL.out.fits m (List.mem_of_getElem? hmi)
        have HCK := Lib.hid (checkR_any m.t.o m.t.r m.t.u w1 (by have := hmf.1; omega) (by have := hmf.2.2; omega))
        have HX1 := Lib.hid h3
        have HB1 := Lib.hid (bell_up hbr hb1)
        have HTK := Lib.hid htk
        have HGO := Lib.hid hgo
        have hil2 : (i : Int) < (n : Int) := by omega
        have hi4 : i ≤ 1099511627776 := by omega
        clear hb1 h3 htk hgo hmi hbB k0 hmf
        go_upto_region 7 with fail
        rw [← hw1, ← hq1]
        clear hw1 hq1 k1 k2 k3 hbr
        go_wp2_with fail
        refine HCK.out.mono ?_
        rintro _ w2 ⟨rfl, hb2⟩
        have HB2 := Lib.hid (bell_up HB1.out hb2)
        have HX2 := Lib.hid (HX1.out.kept (hb2.block _ HX1.out.lt))
        have hte : tupE m.t.o m.t.r m.t.u = m.t.e := rfl
        rw [hte]
        clear hb2 HCK hte z0 z1 z2
        generalize hme : m.t.e = me at *
        by_cases h0 : me = 0
        · subst h0
          have HGB := Lib.hid (show (if m.t ∈ (l.take i).map Mu.t then 5 else if rev ≤ M.lat wm m.t then 70 else chkGo (M.lat wm) rev ((l.take i).map Mu.t ++ [m.t]) (l.drop (i + 1))) = te from by
            have := HGO.out
            rw [if_neg (by simp)] at this
            exact this)
          clear HGO HTE
          go_wp2_with fail
          go_loopw [10] (fun kv wr => ∃ k : Nat, k ≤ i ∧ kv = .int .i64 k ∧ m.t ∉ (l.take k).map Mu.t ∧ Below w2.heap.size w2 wr) (fun kv _ => i - (intOf kv).toNat)
          case atStart => exact ⟨0, by omega, rfl, by simp, Below.refl _ _⟩
          case round =>
            obtain ⟨k, hk, rfl, hni, hbk⟩ := hrel
            have HBK := Lib.hid (bell_up HB2.out hbk)
            have hx := HX2.out.kept (hbk.block _ HX2.out.lt)
            have z0 : wr.cell? ⟨q1, 0, none⟩ = some (.string m.t.o) := by rw [hx.cell]; rfl
            have z1 : wr.cell? ⟨q1, 1, none⟩ = some (.string m.t.r) := by rw [hx.cell]; rfl
            have z2 : wr.cell? ⟨q1, 2, none⟩ = some (.string m.t.u) := by rw [hx.cell]; rfl
            by_cases hki : k < i
            · obtain ⟨m2, hm2⟩ : ∃ m2, l[k]? = some m2 := ⟨_, List.getElem?_eq_getElem (show k < l.length by rw [HLN.out]; omega)⟩
              obtain ⟨b2, off2, e2, hbB2, k0, k1, k2, k3⟩ := (HL.out.below HBK.out).cells hm2
              injection e2 with e2
              injection e2 with e3 e4 _
              subst e3 e4
              have htk2 : (l.take (k + 1)).map Mu.t = (l.take k).map Mu.t ++ [m2.t] := by rw [List.take_add_one, hm2]; simp
              have hin2 : m2.t ∈ (l.take i).map Mu.t := List.mem_map.2 ⟨m2, by
                refine List.mem_iff_getElem?.2 ⟨k, ?_⟩
                rw [List.getElem?_take_of_lt hki]; exact hm2, rfl⟩
              have HT2 := Lib.hid htk2
              have HI2 := Lib.hid hin2
              have HNI := Lib.hid hni
              have HTC := Lib.hid (tp_cases m2.t m.t)
              have HBQ0 := Lib.hid hbk
              have hkz : (k : Int) < (i : Int) := by omega
              have hkn : (k : Int) < (n : Int) := by omega
              clear htk2 hin2 hni hbk hx hbB2 k0 hm2
              rcases HTC.out with ⟨he, h5, h6, h7⟩ | ⟨he, h5⟩ | ⟨he, h5, h6⟩ | ⟨he, h5, h6, h7⟩
              · have hgo : te = 5 := by
                  rw [← HGB.out, if_pos (by rw [← he]; exact HI2.out)]
                subst hgo
                clear HTC he HGB
                go_wp2_with fail
                go_quiet (fail)
                have HBE := Lib.hid (HB0.out.trans ((HBK.out.trans ((below_drewN wr nq).mono HBK.out.size)).mono HB0.out.size))
                go_wp2
                go_ret
                exact ⟨rfl, HBE.out⟩
              all_goals
                have hnn : m.t ∉ (l.take (k + 1)).map Mu.t := by
                  rw [HT2.out, List.mem_append, List.mem_singleton]
                  exact fun e => e.elim HNI.out (fun e => he e.symm)
                have HNN := Lib.hid hnn
                clear HTC he hnn
                go_wp2_with fail
                go_quiet (fail)
                have HBQ := Lib.hid (HBQ0.out.trans ((below_drewN wr nq).mono HBQ0.out.size))
                go_wp2
                go_roundw
                case rel => exact ⟨k + 1, by omega, by go_num, HNN.out, HBQ.out⟩
                case measure => simp [intOf]; omega
            · obtain rfl : k = i := by omega
              have hg2 : (if rev ≤ M.lat wm m.t then 70 else chkGo (M.lat wm) rev ((l.take (k + 1)).map Mu.t) (l.drop (k + 1))) = te := by
                have := HGB.out
                rw [if_neg hni] at this
                rw [HTK.out, List.map_append]
                exact this
              have HG2 := Lib.hid hg2
              have hk0 := (HX0.out.kept (HBK.out.block _ HX0.out.lt))
              have s0 : wr.cell? ⟨q0, 0, none⟩ = some (.slice ra rn rc) := by rw [hk0.cell]; rfl
              have s1 : wr.cell? ⟨q0, 1, none⟩ = some (.int .i64 wm) := by rw [hk0.cell]; rfl
              have hla := rlast_any (c := rc) (HR.out.below HBK.out) hrn wm m.t
              rw [HLA.out] at hla
              have HLS := Lib.hid hla
              have hlat : M.lat wm m.t = max wm (latestB (M.sp m.t)) := rfl
              have HLT := Lib.hid hlat
              have HXQ := Lib.hid hk0
              generalize latestB (M.sp m.t) = la at *
              clear hg2 hk0 hla hlat hni hbk hx HGB
              by_cases c1 : rev ≤ la
              · have hgo : te = 70 := by rw [← HG2.out, if_pos (by rw [HLT.out]; omega)]
                subst hgo
                clear HG2
                go_wp2_with fail
                refine HLS.out.mono ?_
                rintro _ w4 ⟨rfl, hb4⟩
                have HB4 := Lib.hid (bell_up HBK.out hb4)
                have HBE := Lib.hid (HB0.out.trans (HB4.out.mono HB0.out.size))
                clear hb4
                go_wp2
                go_ret
                exact ⟨rfl, HBE.out⟩
              · by_cases c2 : rev ≤ wm
                · have hgo : te = 70 := by rw [← HG2.out, if_pos (by rw [HLT.out]; omega)]
                  subst hgo
                  clear HG2
                  go_wp2_with fail
                  refine HLS.out.mono ?_
                  rintro _ w4 ⟨rfl, hb4⟩
                  have HB4 := Lib.hid (bell_up HBK.out hb4)
                  have hk4 := HXQ.out.kept (hb4.block _ HXQ.out.lt)
                  have s1 : w4.cell? ⟨q0, 1, none⟩ = some (.int .i64 wm) := by rw [hk4.cell]; rfl
                  have HBE := Lib.hid (HB0.out.trans (HB4.out.mono HB0.out.size))
                  clear hb4 hk4
                  go_wp2
                  go_ret
                  exact ⟨rfl, HBE.out⟩
                · have HG3 := Lib.hid (show chkGo (M.lat wm) rev ((l.take (k + 1)).map Mu.t) (l.drop (k + 1)) = te by
                    have := HG2.out
                    rw [if_neg (by rw [HLT.out]; omega)] at this
                    exact this)
                  clear HG2
                  go_wp2_with fail
                  refine HLS.out.mono ?_
                  rintro _ w4 ⟨rfl, hb4⟩
                  have HB4 := Lib.hid (bell_up HBK.out hb4)
                  have hk4 := HXQ.out.kept (hb4.block _ HXQ.out.lt)
                  have s1 : w4.cell? ⟨q0, 1, none⟩ = some (.int .i64 wm) := by rw [hk4.cell]; rfl
                  clear hb4 hk4
                  go_wp2
                  go_roundw
                  case rel => exact ⟨k + 1, by omega, by go_num, HG3.out, HB4.out⟩
                  case measure => simp [intOf]; omega
        · have hgo := HGO.out
          rw [if_pos h0] at hgo
          subst hgo
          have HBE := Lib.hid (HB0.out.trans (HB2.out.mono HB0.out.size))
          clear HGO HTE
          go_wp2
          go_ret
          exact ⟨rfl, HBE.out⟩
      · obtain rfl : i = n := by omega
        have hgo2 : te = 0 := by
          rw [← hgo, List.drop_eq_nil_of_le (by rw [HLN.out]; exact Nat.le_refl _)]; rfl
        subst hgo2
        have HBE := Lib.hid (HB0.out.trans (hbr.mono HB0.out.size))
        clear hgo hbr
        go_wp2
        go_ret
        exact ⟨rfl, HBE.out⟩
end Go.Proofs.YtmjdngomjjhhiaaGreat
