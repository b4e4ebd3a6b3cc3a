/- CodeBack: a message that is written is read again as the same; bytes that are read are just those that the message is written as. -/
import Derived.Test.YtbckccgcjmanlaaCErr
namespace Go.Proofs.Ytbckccgcjmanlaa
open Go.RowKit

theorem alloc_box (w : World) (cs : Array Value) : ∃ X, X = w.alloc (.cells cs 37) ∧ Whole X w.heap.size 37 cs ∧ Below w.heap.size w X :=
  ⟨_, rfl, heap_alloc_new w _, below_alloc w _⟩

set_option maxRecDepth 100000 in
set_option maxHeartbeats 4000000 in
theorem back_walk (V : Value) (m : MsgD) (a : Option Addr) (n c : Nat) (ys : List Int) (w : World) (hm : MsgIn w V m) (hy : IsB w a n ys) (hnc : n ≤ c) (hc : c ≤ maxLen) :
    Calls Try.prog 5 #[V, .slice a n c] w fun e w' => e = .returned (.bool true) ∧ Below w.heap.size w w' := by
  obtain ⟨na, ma, pa, ra, nn, nc, mn, mc, pn, pc, rn, rc, hm⟩ := hm
  have hv := hm.val
  subst hv
  have HM := Lib.hid hm
  have HY := Lib.hid hy
  have HC := Lib.hid hc
  clear hm hy hc
  go_enter Try.func5, Try.ntmps5
  go_wp2_with fail
  refine (awake_any _).mono ?_
  rintro e w1 ⟨rfl, hb1⟩
  have hw0 : Whole (w.alloc (.cells #[.int .i64 m.kind, .int .i64 m.from_, .int .i64 m.«to», .int .i64 m.id, .int .i64 m.rev, .int .i64 m.epoch, .int .i64 m.slot, .bool m.flag, .slice na nn nc, .slice ma mn mc, .slice pa pn pc, .slice ra rn rc] 37)) w.heap.size 37 #[.int .i64 m.kind, .int .i64 m.from_, .int .i64 m.«to», .int .i64 m.id, .int .i64 m.rev, .int .i64 m.epoch, .int .i64 m.slot, .bool m.flag, .slice na nn nc, .slice ma mn mc, .slice pa pn pc, .slice ra rn rc] := heap_alloc_new w _
  have hwa := hw0.kept (hb1.block _ hw0.lt)
  have HB1 := Lib.hid ((below_alloc w _).trans (hb1.mono (by simp)))
  have HM1 := Lib.hid (HM.out.up HB1.out HB1.out.size)
  have HY1 := Lib.hid (HY.out.below HB1.out)
  have HWA := Lib.hid hwa
  have k0 := hwa.cell 0
  have k1 := hwa.cell 1
  have k2 := hwa.cell 2
  have k3 := hwa.cell 3
  have k4 := hwa.cell 4
  have k5 := hwa.cell 5
  have k6 := hwa.cell 6
  have k7 := hwa.cell 7
  have k8 := hwa.cell 8
  have k9 := hwa.cell 9
  have k10 := hwa.cell 10
  have k11 := hwa.cell 11
  clear hb1 hwa hw0 HM HY
  by_cases hok : m.ok ∧ (enc m).length ≤ 16384
  rotate_left
  · have HE := Lib.hid (enc_no HM1.out hok)
    clear hok
    go_wp2_with fail
    refine HE.out.mono ?_
    rintro e w2 ⟨rfl, hb2⟩
    have HB2 := Lib.hid (HB1.out.trans (hb2.mono HB1.out.size))
    have HY2 := Lib.hid (HY1.out.below hb2)
    clear hb2 HE HM1 HB1 HY1 HWA k0 k1 k2 k3 k4 k5 k6 k7 k8 k9 k10 k11
    go_wp2_with fail
    refine (decode_isb (IsB.empty w2 none) (Nat.le_refl 0) (by unfold maxLen; omega)).mono ?_
    rintro e w3 ⟨V3, d3, c3, rfl, hin3, hb3, hr3⟩
    obtain ⟨na3, ma3, pa3, ra3, nn3, nc3, mn3, mc3, pn3, pc3, rn3, rc3, hin3⟩ := hin3
    have hv3 := hin3.val
    subst hv3
    obtain ⟨X3, hX3, hwx3, hbx3⟩ := alloc_box w3 #[.int .i64 d3.kind, .int .i64 d3.from_, .int .i64 d3.«to», .int .i64 d3.id, .int .i64 d3.rev, .int .i64 d3.epoch, .int .i64 d3.slot, .bool d3.flag, .slice na3 nn3 nc3, .slice ma3 mn3 mc3, .slice pa3 pn3 pc3, .slice ra3 rn3 rc3]
    have HB3 := Lib.hid (HB2.out.trans ((hb3.trans (hbx3.mono hb3.size)).mono HB2.out.size))
    have HY3 := Lib.hid (HY2.out.below (hb3.trans (hbx3.mono hb3.size)))
    go_upto_region 5 with fail
    rw [← hX3]
    clear hin3 hb3 hbx3 hX3 hwx3 hr3
    go_wp2_with fail
    refine (decode_isb HY3.out hnc HC.out).mono ?_
    rintro e w5 ⟨V5, d5, c5, rfl, hin5, hb5, hr5⟩
    obtain ⟨na5, ma5, pa5, ra5, nn5, nc5, mn5, mc5, pn5, pc5, rn5, rc5, hin5⟩ := hin5
    have hv5 := hin5.val
    subst hv5
    obtain ⟨X5, hX5, hwx5, hbx5⟩ := alloc_box w5 #[.int .i64 d5.kind, .int .i64 d5.from_, .int .i64 d5.«to», .int .i64 d5.id, .int .i64 d5.rev, .int .i64 d5.epoch, .int .i64 d5.slot, .bool d5.flag, .slice na5 nn5 nc5, .slice ma5 mn5 mc5, .slice pa5 pn5 pc5, .slice ra5 rn5 rc5]
    have HB5 := Lib.hid (HB3.out.trans ((hb5.trans (hbx5.mono hb5.size)).mono HB3.out.size))
    have HI5 := Lib.hid (hin5.up hbx5 hbx5.size)
    have HY5 := Lib.hid (HY3.out.below (hb5.trans (hbx5.mono hb5.size)))
    have HR5 := Lib.hid hr5
    go_upto_region 8 with fail
    rw [← hX5]
    have p0 := hwx5.cell 0
    have p1 := hwx5.cell 1
    have p2 := hwx5.cell 2
    have p3 := hwx5.cell 3
    have p4 := hwx5.cell 4
    have p5 := hwx5.cell 5
    have p6 := hwx5.cell 6
    have p7 := hwx5.cell 7
    have p8 := hwx5.cell 8
    have p9 := hwx5.cell 9
    have p10 := hwx5.cell 10
    have p11 := hwx5.cell 11
    clear hin5 hb5 hbx5 hX5 hwx5 hr5
    rcases HR5.out with ⟨m5, hm5, hd5, rfl⟩ | ⟨hm5, rfl⟩
    rotate_left
    · have hc5 := dec_err hm5
      have hce : (c5 != 0) = true := by simpa using hc5
      clear hm5 HR5
      have HS := Lib.hid (same_bool _ _ zeroD zeroD X5 ⟨_, _, _, _, _, _, _, _, _, _, _, _, HI5.out⟩ (zero_in X5) true (by simp))
      go_wp2_with fail
      refine HS.out.mono ?_
      rintro e w6 ⟨rfl, hb6⟩
      have HB6 := Lib.hid (HB5.out.trans (hb6.mono HB5.out.size))
      clear hb6
      go_wp2
      go_ret
      exact ⟨rfl, HB6.out⟩
    · obtain ⟨hy5, hf5, hl5⟩ := dec_inv HY5.out.2.1 hm5
      rw [← hd5] at hy5
      have hok5 : d5.ok ∧ (enc d5).length ≤ 16384 := ⟨by rw [hd5]; exact hf5.ok, by rw [← hy5]; exact hl5⟩
      have HE5 := Lib.hid (encode_fits _ d5 _ _ _ _ _ _ _ _ _ _ _ _ X5 HI5.out hok5.1 hok5.2)
      rw [← hy5] at HE5
      clear hd5 hy5 hf5 hl5 hok5 hm5 HR5
      go_wp2_with fail
      refine HE5.out.mono ?_
      rintro e w6 ⟨v6, rfl, hown6, hb6⟩
      obtain ⟨a6, c6, rfl, h61, h62⟩ := owned_any hown6
      have hs1 := (IsB.owned hown6 HY5.out.2.1).str c6
      have hs2 := (HY5.out.below hb6).str c
      have HB6 := Lib.hid (HB5.out.trans (hb6.mono HB5.out.size))
      have hcmp : ((strOfNums ys).toList == (strOfNums ys).toList) = true := by simp
      clear hown6 hb6
      go_wp2
      go_ret
      exact ⟨rfl, HB6.out⟩
  · have hpos := enc_pos m
    have HD := Lib.hid (dec_enc hok.1 HM1.out.in64 hok.2)
    have HE := Lib.hid (encode_fits _ m na ma pa ra nn nc mn mc pn pc rn rc w1 HM1.out hok.1 hok.2)
    clear hok
    go_wp2_with fail
    refine HE.out.mono ?_
    rintro e w2 ⟨v', rfl, hown, hb2⟩
    have hdr := decode_row hown (enc_byte m)
    rw [HD.out] at hdr
    have HDR := Lib.hid hdr
    obtain ⟨g, cap, rfl, _, _⟩ := owns_shape hown hpos
    have HB2 := Lib.hid (HB1.out.trans (hb2.mono HB1.out.size))
    have HY2 := Lib.hid (HY1.out.below hb2)
    have HM2 := Lib.hid (HM1.out.up hb2 hb2.size)
    have HWA2 := Lib.hid (HWA.out.kept (hb2.block _ HWA.out.lt))
    clear hb2 HE HM1 HB1 HY1 HWA HD hown hpos hdr k0 k1 k2 k3 k4 k5 k6 k7 k8 k9 k10 k11
    go_wp2_with fail
    refine HDR.out.mono ?_
    rintro e w3 ⟨V3, d3, c3, rfl, hin3, hb3, hr3⟩
    obtain ⟨rfl, rfl⟩ : d3 = m ∧ c3 = 0 := by
      rcases hr3 with ⟨m3, h1, h2, h3⟩ | ⟨h1, _⟩
      · injection h1 with h1
        subst h1
        exact ⟨by rw [h2, unR_toR], h3⟩
      · cases h1
    obtain ⟨na3, ma3, pa3, ra3, nn3, nc3, mn3, mc3, pn3, pc3, rn3, rc3, hin3⟩ := hin3
    have hv3 := hin3.val
    subst hv3
    obtain ⟨X3, hX3, hwx3, hbx3⟩ := alloc_box w3 #[.int .i64 d3.kind, .int .i64 d3.from_, .int .i64 d3.«to», .int .i64 d3.id, .int .i64 d3.rev, .int .i64 d3.epoch, .int .i64 d3.slot, .bool d3.flag, .slice na3 nn3 nc3, .slice ma3 mn3 mc3, .slice pa3 pn3 pc3, .slice ra3 rn3 rc3]
    have hb3x := hb3.trans (hbx3.mono hb3.size)
    have HB3 := Lib.hid (HB2.out.trans (hb3x.mono HB2.out.size))
    have HY3 := Lib.hid (HY2.out.below hb3x)
    have hwa3 := HWA2.out.kept (hb3x.block _ HWA2.out.lt)
    have HS3 := Lib.hid (same_bool _ _ d3 d3 X3 ⟨_, _, _, _, _, _, _, _, _, _, _, _, hin3.up hbx3 hbx3.size⟩ ⟨_, _, _, _, _, _, _, _, _, _, _, _, HM2.out.up hb3x hb3x.size⟩ true (by simp))
    go_upto_region 5 with fail
    rw [← hX3]
    have k0 := hwa3.cell 0
    have k1 := hwa3.cell 1
    have k2 := hwa3.cell 2
    have k3 := hwa3.cell 3
    have k4 := hwa3.cell 4
    have k5 := hwa3.cell 5
    have k6 := hwa3.cell 6
    have k7 := hwa3.cell 7
    have k8 := hwa3.cell 8
    have k9 := hwa3.cell 9
    have k10 := hwa3.cell 10
    have k11 := hwa3.cell 11
    have j0 := hwx3.cell 0
    have j1 := hwx3.cell 1
    have j2 := hwx3.cell 2
    have j3 := hwx3.cell 3
    have j4 := hwx3.cell 4
    have j5 := hwx3.cell 5
    have j6 := hwx3.cell 6
    have j7 := hwx3.cell 7
    have j8 := hwx3.cell 8
    have j9 := hwx3.cell 9
    have j10 := hwx3.cell 10
    have j11 := hwx3.cell 11
    clear hin3 hb3 hbx3 hX3 hwx3 hr3 hwa3 hb3x
    go_wp2_with fail
    refine HS3.out.mono ?_
    rintro e w4 ⟨rfl, hb4⟩
    have HB4 := Lib.hid (HB3.out.trans (hb4.mono HB3.out.size))
    have HY4 := Lib.hid (HY3.out.below hb4)
    clear hb4 k0 k1 k2 k3 k4 k5 k6 k7 k8 k9 k10 k11 j0 j1 j2 j3 j4 j5 j6 j7 j8 j9 j10 j11
    go_wp2_with fail
    refine (decode_isb HY4.out hnc HC.out).mono ?_
    rintro e w5 ⟨V5, d5, c5, rfl, hin5, hb5, hr5⟩
    obtain ⟨na5, ma5, pa5, ra5, nn5, nc5, mn5, mc5, pn5, pc5, rn5, rc5, hin5⟩ := hin5
    have hv5 := hin5.val
    subst hv5
    obtain ⟨X5, hX5, hwx5, hbx5⟩ := alloc_box w5 #[.int .i64 d5.kind, .int .i64 d5.from_, .int .i64 d5.«to», .int .i64 d5.id, .int .i64 d5.rev, .int .i64 d5.epoch, .int .i64 d5.slot, .bool d5.flag, .slice na5 nn5 nc5, .slice ma5 mn5 mc5, .slice pa5 pn5 pc5, .slice ra5 rn5 rc5]
    have HB5 := Lib.hid (HB4.out.trans ((hb5.trans (hbx5.mono hb5.size)).mono HB4.out.size))
    have HI5 := Lib.hid (hin5.up hbx5 hbx5.size)
    have HY5 := Lib.hid (HY4.out.below (hb5.trans (hbx5.mono hb5.size)))
    have HR5 := Lib.hid hr5
    go_upto_region 8 with fail
    rw [← hX5]
    have p0 := hwx5.cell 0
    have p1 := hwx5.cell 1
    have p2 := hwx5.cell 2
    have p3 := hwx5.cell 3
    have p4 := hwx5.cell 4
    have p5 := hwx5.cell 5
    have p6 := hwx5.cell 6
    have p7 := hwx5.cell 7
    have p8 := hwx5.cell 8
    have p9 := hwx5.cell 9
    have p10 := hwx5.cell 10
    have p11 := hwx5.cell 11
    clear hin5 hb5 hbx5 hX5 hwx5 hr5
    rcases HR5.out with ⟨m5, hm5, hd5, rfl⟩ | ⟨hm5, rfl⟩
    rotate_left
    · have hc5 := dec_err hm5
      have hce : (c5 != 0) = true := by simpa using hc5
      clear hm5 HR5
      have HS := Lib.hid (same_bool _ _ zeroD zeroD X5 ⟨_, _, _, _, _, _, _, _, _, _, _, _, HI5.out⟩ (zero_in X5) true (by simp))
      go_wp2_with fail
      refine HS.out.mono ?_
      rintro e w6 ⟨rfl, hb6⟩
      have HB6 := Lib.hid (HB5.out.trans (hb6.mono HB5.out.size))
      clear hb6
      go_wp2
      go_ret
      exact ⟨rfl, HB6.out⟩
    · obtain ⟨hy5, hf5, hl5⟩ := dec_inv HY5.out.2.1 hm5
      rw [← hd5] at hy5
      have hok5 : d5.ok ∧ (enc d5).length ≤ 16384 := ⟨by rw [hd5]; exact hf5.ok, by rw [← hy5]; exact hl5⟩
      have HE5 := Lib.hid (encode_fits _ d5 _ _ _ _ _ _ _ _ _ _ _ _ X5 HI5.out hok5.1 hok5.2)
      rw [← hy5] at HE5
      clear hd5 hy5 hf5 hl5 hok5 hm5 HR5
      go_wp2_with fail
      refine HE5.out.mono ?_
      rintro e w6 ⟨v6, rfl, hown6, hb6⟩
      obtain ⟨a6, c6, rfl, h61, h62⟩ := owned_any hown6
      have hs1 := (IsB.owned hown6 HY5.out.2.1).str c6
      have hs2 := (HY5.out.below hb6).str c
      have HB6 := Lib.hid (HB5.out.trans (hb6.mono HB5.out.size))
      have hcmp : ((strOfNums ys).toList == (strOfNums ys).toList) = true := by simp
      clear hown6 hb6
      go_wp2
      go_ret
      exact ⟨rfl, HB6.out⟩
end Go.Proofs.Ytbckccgcjmanlaa
