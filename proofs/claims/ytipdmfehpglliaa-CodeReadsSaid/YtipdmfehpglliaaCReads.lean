/- CodeReads: the walk. -/
import Derived.Test.YtipdmfehpglliaaCRefEnc
import Derived.Test.YtipdmfehpglliaaCD4
import Derived.Test.YtipdmfehpglliaaCApart
namespace Go.Proofs.Ytipdmfehpglliaa
open Go.RowKit

set_option maxRecDepth 100000 in
set_option maxHeartbeats 8000000 in
theorem reads_walk (V : Value) (m : MsgD) (a : Option Addr) (n c : Nat) (ys : List Int) (w : World) (hm : MsgIn w V m) (hs : m.small) (hy : IsB w a n ys) (hnc : n ≤ c) (hc : c ≤ maxLen) :
    Calls Try.prog 3 #[V, .slice a n c] w fun e w' => e = .returned (.bool true) ∧ Below w.heap.size w w' := by
  obtain ⟨na, ma, pa, ra, nn, nc, mn, mc, pn, pc, rn, rc, hm⟩ := hm
  have hv := hm.val
  subst hv
  obtain ⟨X, hX, hwX, hbX⟩ := boxc w 27 #[.int .i64 m.kind, .int .i64 m.from_, .int .i64 m.«to», .int .i64 m.id, .int .i64 m.rev, .int .i64 m.epoch, .int .i64 m.slot, .bool m.flag, .slice na nn nc, .slice ma mn mc, .slice pa pn pc, .slice ra rn rc]
  have HM := Lib.hid hm
  have HY := Lib.hid hy
  have HC := Lib.hid hc
  have HS := Lib.hid hs
  have HW := Lib.hid hwX
  have HB := Lib.hid hbX
  clear hm hy hc hs hwX hbX
  go_enter Try.func3, Try.ntmps3
  go_upto_region 1 with fail
  rw [← hX]
  clear hX
  go_wp2_with fail
  refine (awake_any _).mono ?_
  rintro e w1 ⟨rfl, hb1⟩
  have HB1 := Lib.hid (bell_upc HB.out hb1)
  have HW1 := Lib.hid (HW.out.kept (hb1.block _ HW.out.lt))
  have HM1 := Lib.hid (HM.out.up HB1.out HB1.out.size)
  have HY1 := Lib.hid (HY.out.below HB1.out)
  have k0 := HW1.out.cell 0
  have k1 := HW1.out.cell 1
  have k2 := HW1.out.cell 2
  have k3 := HW1.out.cell 3
  have k4 := HW1.out.cell 4
  have k5 := HW1.out.cell 5
  have k6 := HW1.out.cell 6
  have k7 := HW1.out.cell 7
  have k8 := HW1.out.cell 8
  have k9 := HW1.out.cell 9
  have k10 := HW1.out.cell 10
  have k11 := HW1.out.cell 11
  clear hb1 HB HW HM HY
  have hE : ∃ (xs : List Int) (ce : Int), (∀ y ∈ xs, 0 ≤ y ∧ y < 256) ∧ (Calls Try.prog 5 #[.agg #[.int .i64 m.kind, .int .i64 m.from_, .int .i64 m.«to», .int .i64 m.id, .int .i64 m.rev, .int .i64 m.epoch, .int .i64 m.slot, .bool m.flag, .slice na nn nc, .slice ma mn mc, .slice pa pn pc, .slice ra rn rc]] w1 fun e w' => ∃ x cp, e = .returned (.tuple #[.slice x xs.length cp, .int .i64 ce]) ∧ IsB w' x xs.length xs ∧ Below w1.heap.size w1 w') ∧ (∀ W, Below w1.heap.size w1 W → Calls Try.prog 6 #[.agg #[.int .i64 m.kind, .int .i64 m.from_, .int .i64 m.«to», .int .i64 m.id, .int .i64 m.rev, .int .i64 m.epoch, .int .i64 m.slot, .bool m.flag, .slice na nn nc, .slice ma mn mc, .slice pa pn pc, .slice ra rn rc]] W fun e w' => e = .returned (.tuple #[.string (strOfNums xs), .int .i64 ce]) ∧ Below W.heap.size W w') := by
    have hin : ∀ W, Below w1.heap.size w1 W → MsgIn W _ m := fun W hb => ⟨_, _, _, _, _, _, _, _, _, _, _, _, HM1.out.up hb hb.size⟩
    by_cases hok : m.ok ∧ (enc m).length ≤ 16384
    · refine ⟨enc m, 0, enc_byte m, (encode_fits _ m na ma pa ra nn nc mn mc pn pc rn rc w1 HM1.out hok.1 hok.2).mono ?_, fun W hb => (refenc_any _ m W (hin W hb) HS.out).mono ?_⟩
      · rintro e w' ⟨v', rfl, hown, hb⟩
        obtain ⟨x, cp, rfl, _, _⟩ := owned_any hown
        exact ⟨x, cp, rfl, IsB.owned hown (enc_byte m), hb⟩
      · rintro e w' ⟨⟨_, rfl⟩ | ⟨hn, _⟩, hb⟩
        · exact ⟨rfl, hb⟩
        · exact absurd hok hn
    · refine ⟨[], 2, by simp, (enc_no HM1.out hok).mono ?_, fun W hb => (refenc_any _ m W (hin W hb) HS.out).mono ?_⟩
      · rintro e w' ⟨rfl, hb⟩
        exact ⟨none, 0, rfl, IsB.empty w' none, hb⟩
      · rintro e w' ⟨⟨hn, _⟩ | ⟨_, rfl⟩, hb⟩
        · exact absurd hn hok
        · exact ⟨rfl, hb⟩
  obtain ⟨xs, ce, hxb, h1, h2⟩ := hE
  have HE1 := Lib.hid h1
  have HE2 := Lib.hid h2
  clear h1 h2
  go_wp2_with fail
  refine HE1.out.mono ?_
  rintro e w2 ⟨x, cp, rfl, hxs, hb2⟩
  have HE3 := Lib.hid (HE2.out w2 hb2)
  have HX2 := Lib.hid hxs
  have HB2 := Lib.hid (HB1.out.trans (hb2.mono HB1.out.size))
  have HY2 := Lib.hid (HY1.out.below hb2)
  have hw2 := HW1.out.kept (hb2.block _ HW1.out.lt)
  clear hb2 hxs HE1 HE2 k0 k1 k2 k3 k4 k5 k6 k7 k8 k9 k10 k11 HM1 HB1 HY1 HW1
  have k0 := hw2.cell 0
  have k1 := hw2.cell 1
  have k2 := hw2.cell 2
  have k3 := hw2.cell 3
  have k4 := hw2.cell 4
  have k5 := hw2.cell 5
  have k6 := hw2.cell 6
  have k7 := hw2.cell 7
  have k8 := hw2.cell 8
  have k9 := hw2.cell 9
  have k10 := hw2.cell 10
  have k11 := hw2.cell 11
  go_wp2_with fail
  refine HE3.out.mono ?_
  rintro e w3 ⟨rfl, hb3⟩
  have HX3 := Lib.hid (HX2.out.below hb3)
  have HB3 := Lib.hid (HB2.out.trans (hb3.mono HB2.out.size))
  have HY3 := Lib.hid (HY2.out.below hb3)
  clear hb3 hw2 HE3 HX2 HB2 HY2 k0 k1 k2 k3 k4 k5 k6 k7 k8 k9 k10 k11 HS
  have HDP := Lib.hid (decode_isb HY3.out hnc HC.out)
  go_wp2_with fail
  refine HDP.out.mono ?_
  rintro e w4 hd4
  have HRB := Lib.hid HY3.out.2.1
  have hf : ∀ mm, dec ys = .ok mm → mm.fine := fun mm hmm => (dec_inv HRB.out hmm).2.1
  have HF := Lib.hid hf
  obtain ⟨V4, d4, c4, rfl, hi4, hb4, hr4⟩ := hd4
  have HR4 := Lib.hid hr4
  obtain ⟨na4, ma4, pa4, ra4, nn4, nc4, mn4, mc4, pn4, pc4, rn4, rc4, hi4⟩ := hi4
  have hv4 := hi4.val
  subst hv4
  obtain ⟨X4, hX4, hwX4, hbX4⟩ := boxc w4 27 #[.int .i64 d4.kind, .int .i64 d4.from_, .int .i64 d4.«to», .int .i64 d4.id, .int .i64 d4.rev, .int .i64 d4.epoch, .int .i64 d4.slot, .bool d4.flag, .slice na4 nn4 nc4, .slice ma4 mn4 mc4, .slice pa4 pn4 pc4, .slice ra4 rn4 rc4]
  have HI4 := Lib.hid (hi4.up hbX4 hbX4.size)
  have HW4 := Lib.hid hwX4
  have hb4x := hb4.trans (hbX4.mono hb4.size)
  have HB4 := Lib.hid (HB3.out.trans (hb4x.mono HB3.out.size))
  have HX4 := Lib.hid (HX3.out.below hb4x)
  have hs4 := (HY3.out.below hb4x).str c
  have HRD := Lib.hid ((refdec_any ys X4 HRB.out).mono fun e w' hd => dmsg_of hd HF.out)
  go_upto_region 6 with fail
  rw [← hX4]
  clear hX4 hwX4 hbX4 hi4 hb4 hb4x hr4 hf HDP HX3 HB3 HY3
  generalize w4.heap.size = q4 at *
  go_wp2_with fail
  refine HRD.out.mono ?_
  rintro e w5 ⟨V5, d5, c5, rfl, hi5, hb5, hr5⟩
  have hdc : d5 = d4 ∧ c5 = c4 := by
    rcases HR4.out with ⟨m1, h5, h6, h7⟩ | ⟨h5, h6⟩
    · rcases hr5 with ⟨m2, h8, h9, h10⟩ | ⟨h8, _⟩
      · rw [h5] at h8
        injection h8 with h8
        exact ⟨by rw [h9, h6, h8], by rw [h10, h7]⟩
      · rw [h5] at h8
        cases h8
    · rcases hr5 with ⟨m2, h8, _, _⟩ | ⟨h8, h9⟩
      · rw [h5] at h8
        cases h8
      · rw [h5] at h8
        injection h8 with h8
        exact ⟨by rw [h9, h6], h8.symm⟩
  obtain ⟨rfl, rfl⟩ := hdc
  obtain ⟨na5, ma5, pa5, ra5, nn5, nc5, mn5, mc5, pn5, pc5, rn5, rc5, hi5⟩ := hi5
  have hv5 := hi5.val
  subst hv5
  obtain ⟨X5, hX5, hwX5, hbX5⟩ := boxc w5 27 #[.int .i64 d5.kind, .int .i64 d5.from_, .int .i64 d5.«to», .int .i64 d5.id, .int .i64 d5.rev, .int .i64 d5.epoch, .int .i64 d5.slot, .bool d5.flag, .slice na5 nn5 nc5, .slice ma5 mn5 mc5, .slice pa5 pn5 pc5, .slice ra5 rn5 rc5]
  have hb5x := hb5.trans (hbX5.mono hb5.size)
  have HB5 := Lib.hid (HB4.out.trans (hb5x.mono HB4.out.size))
  have hs5 := (HX4.out.below hb5x).str cp
  have hw45 := HW4.out.kept (hb5x.block _ HW4.out.lt)
  have HSM := Lib.hid (same_bool _ _ d5 d5 X5 ⟨_, _, _, _, _, _, _, _, _, _, _, _, HI4.out.up hb5x hb5x.size⟩ ⟨_, _, _, _, _, _, _, _, _, _, _, _, hi5.up hbX5 hbX5.size⟩ true (by simp))
  have p0 := hw45.cell 0
  have p1 := hw45.cell 1
  have p2 := hw45.cell 2
  have p3 := hw45.cell 3
  have p4 := hw45.cell 4
  have p5 := hw45.cell 5
  have p6 := hw45.cell 6
  have p7 := hw45.cell 7
  have p8 := hw45.cell 8
  have p9 := hw45.cell 9
  have p10 := hw45.cell 10
  have p11 := hw45.cell 11
  have r0 := hwX5.cell 0
  have r1 := hwX5.cell 1
  have r2 := hwX5.cell 2
  have r3 := hwX5.cell 3
  have r4 := hwX5.cell 4
  have r5 := hwX5.cell 5
  have r6 := hwX5.cell 6
  have r7 := hwX5.cell 7
  have r8 := hwX5.cell 8
  have r9 := hwX5.cell 9
  have r10 := hwX5.cell 10
  have r11 := hwX5.cell 11
  have hcmp : ((strOfNums xs).toList == (strOfNums xs).toList) = true := by simp
  go_upto_region 7 with fail
  rw [← hX5]
  clear hX5 hwX5 hbX5 hi5 hb5 hb5x hr5 hw45 hs4 HRD HI4 HR4
  generalize w5.heap.size = q5 at *
  go_wp2_with fail
  refine HSM.out.mono ?_
  rintro e w6 ⟨rfl, hb6⟩
  have HB6 := Lib.hid (HB5.out.trans (hb6.mono HB5.out.size))
  clear hb6
  go_wp2
  go_ret
  exact ⟨rfl, HB6.out⟩
end Go.Proofs.Ytipdmfehpglliaa
