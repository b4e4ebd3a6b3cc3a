/- WholeLogged: what a log tells is what is cut from its disk's bytes, frame by frame, and read, message by message. -/
import Derived.Test.YtjilhmidgebfbaaFCut
namespace Go.Proofs.Ytjilhmidgebfbaa
open Go.RowKit

theorem cutAll_cat : ∀ (P : List MsgD), (∀ m ∈ P, m.good) → cutAll (cat P) = (P.map enc, (cat P).length, 0)
  | [], _ => cutAll_nil rfl
  | m :: P, h => by
    have hm := h m (by simp)
    have he := Fr.err_sealed (enc m) hm.2 (cat P)
    have hw := Fr.wd_sealed (enc m) hm.2 (cat P)
    have hp := Fr.pay_sealed (enc m) hm.2 (cat P)
    rw [cat_cons]
    unfold rcd
    rw [cutAll_step he, hw, hp, ← Fr.sealed_length (enc m), List.drop_left, cutAll_cat P (fun x hx => h x (List.mem_cons_of_mem _ hx))]
    simp
theorem in1 : In64 1 := ⟨by decide, by decide⟩
theorem fine_snocW {ams : List MsgD} {m : MsgD} (h : ∀ m ∈ ams, m.fine) (hm : m.fine) : ∀ x ∈ ams ++ [m], x.fine := by
  intro x hx
  rcases List.mem_append.1 hx with hx | hx
  · exact h x hx
  · obtain rfl : x = m := by simpa using hx
    exact hm
abbrev HeldW (w V : World) (b b2 o2 : Nat) (v0 v1 v2 v3 v4 v5 v6 v7 v8 v9 v10 v11 u0 u1 u2 u3 u4 u5 u6 u7 u8 u9 u10 u11 : Value) (m m2 : MsgD) : Prop := Box V b v0 v1 v2 v3 v4 v5 v6 v7 v8 v9 v10 v11 ∧ BoxAt V b2 o2 u0 u1 u2 u3 u4 u5 u6 u7 u8 u9 u10 u11 ∧ KeptS w V b b2 #[v0, v1, v2, v3, v4, v5, v6, v7, v8, v9, v10, v11] #[u0, u1, u2, u3, u4, u5, u6, u7, u8, u9, u10, u11] m m2
theorem box_below {w w' : World} {b : Nat} {v0 v1 v2 v3 v4 v5 v6 v7 v8 v9 v10 v11 : Value} (h : Box w b v0 v1 v2 v3 v4 v5 v6 v7 v8 v9 v10 v11) (hb : Below w.heap.size w w') (hlt : b < w.heap.size) : Box w' b v0 v1 v2 v3 v4 v5 v6 v7 v8 v9 v10 v11 := by
  obtain ⟨h0, h1, h2, h3, h4, h5, h6, h7, h8, h9, h10, h11⟩ := h
  exact ⟨(hb.cell (p := ⟨b, 0, none⟩) hlt).trans h0, (hb.cell (p := ⟨b, 1, none⟩) hlt).trans h1, (hb.cell (p := ⟨b, 2, none⟩) hlt).trans h2, (hb.cell (p := ⟨b, 3, none⟩) hlt).trans h3, (hb.cell (p := ⟨b, 4, none⟩) hlt).trans h4, (hb.cell (p := ⟨b, 5, none⟩) hlt).trans h5, (hb.cell (p := ⟨b, 6, none⟩) hlt).trans h6, (hb.cell (p := ⟨b, 7, none⟩) hlt).trans h7, (hb.cell (p := ⟨b, 8, none⟩) hlt).trans h8, (hb.cell (p := ⟨b, 9, none⟩) hlt).trans h9, (hb.cell (p := ⟨b, 10, none⟩) hlt).trans h10, (hb.cell (p := ⟨b, 11, none⟩) hlt).trans h11⟩
theorem heldW_keep {w V : World} {b b2 o2 : Nat} {v0 v1 v2 v3 v4 v5 v6 v7 v8 v9 v10 v11 u0 u1 u2 u3 u4 u5 u6 u7 u8 u9 u10 u11 : Value} {m m2 : MsgD} {V' : World} (h : HeldW w V b b2 o2 v0 v1 v2 v3 v4 v5 v6 v7 v8 v9 v10 v11 u0 u1 u2 u3 u4 u5 u6 u7 u8 u9 u10 u11 m m2) (hb : Below V.heap.size V V') : HeldW w V' b b2 o2 v0 v1 v2 v3 v4 v5 v6 v7 v8 v9 v10 v11 u0 u1 u2 u3 u4 u5 u6 u7 u8 u9 u10 u11 m m2 := ⟨box_below h.1 hb h.2.2.2.1, h.2.1.below hb h.2.2.2.2.1, keptS_keep h.2.2 hb⟩
/-- How far the law's first loop has come. -/
def StW (w wr : World) (gl g : Nat) (v : Value) (ams : List MsgD) (d sure : Nat) : Prop :=
  Ls wr w.heap.size gl g v ams d 1048576 ∧ Below w.heap.size w wr ∧ 1 ≤ sure ∧ sure ≤ ams.length ∧ d = (cat (ams.take sure)).length ∧ ∀ m ∈ ams, m.fine
theorem StW.snoc {w wr : World} {gl g d sure : Nat} {v : Value} {ams : List MsgD} {m : MsgD} (h1 : Ls wr w.heap.size gl g v (ams ++ [m]) d 1048576) (h3 : Below w.heap.size w wr) (h0 : 1 ≤ sure) (h4 : sure ≤ ams.length) (h5 : d = (cat (ams.take sure)).length) (h6 : ∀ m ∈ ams, m.fine) (h7 : m.fine) : StW w wr gl g v (ams ++ [m]) d sure :=
  ⟨h1, h3, h0, by simp; omega, by rw [List.take_append_of_le_length h4]; exact h5, fine_snocW h6 h7⟩
/-- How far its second loop has come. -/
def StX (w8 wr : World) (P : List MsgD) (i : Nat) (av : Value) : Prop := Below w8.heap.size w8 wr ∧ wr.ownsRow w8.heap.size 5 1 av (cat (P.take i)).length ((cat (P.take i)).map (Value.int .u8))

set_option maxRecDepth 100000 in
set_option maxHeartbeats 8000000 in
theorem whole_walk (a : Option Addr) (n c : Nat) (ms : List MsgD) (durable keep : Int) (w : World) (hx : MsgsIn w a n ms) (hn : n ≤ 9223372036854775807) (hk : -9223372036854775808 ≤ keep ∧ keep ≤ 9223372036854775807) :
    Calls Try.prog 8 #[.slice a n c, .int .i64 durable, .int .i64 keep] w fun e w' => e = .returned (.bool true) ∧ Below w.heap.size w w' := by
  obtain ⟨i0, hi, hz0, hz1, hz2⟩ := info_parts Try.infoB
  have HX := Lib.hid hx
  have HKP := Lib.hid hk
  clear hx hk
  go_enter Try.func8, Try.ntmps8
  go_wp2_with fail
  refine (Dk.new_good w.heap.size 1048576 w (Nat.le_refl _) (Nat.le_refl _)).mono ?_
  rintro e w2 ⟨rfl, hd2, hb2⟩
  have HB2 := Lib.hid hb2
  have HGW := Lib.hid (Nat.le_refl w.heap.size)
  obtain ⟨g, hg⟩ : ∃ g, g = w.heap.size := ⟨_, rfl⟩
  have HG := Lib.hid hg
  have hd2' : Dk.DAt w2 w.heap.size g (.slice none 0 0) [] 0 1048576 := by rw [hg]; exact hd2
  have hge : w.heap.size ≤ g := by omega
  have HGE := Lib.hid hge
  have HO := Lib.hid (lopen_cat w.heap.size g (.slice none 0 0) [] 0 1048576 w2 hd2' (by simp))
  clear hd2 hd2' hb2 hge
  rw [← hg]
  clear hg
  go_wp2_with fail
  refine HO.out.mono ?_
  rintro e w3 ⟨gl, ra0, rc0, v3, rfl, _, _, _, hl3, _, _, _, ht3⟩
  have HL3 := Lib.hid hl3
  have HB3 := Lib.hid (HB2.out.trans (ht3.below HGE.out (by simp) HB2.out.size))
  have HW3 := Lib.hid (lwrite_any w.heap.size gl g v3 [] _ 1048576 _ (kindD 1) w3 hl3 (kind_in w3 in1))
  clear hl3 ht3 HO
  go_wp2_with fail
  refine HW3.out.mono ?_
  rintro e w4 ⟨c4, rfl, ⟨rfl, _, _, v4, hl4, hk4, _⟩ | ⟨h4, _⟩⟩
  rotate_left
  · exfalso
    rcases h4 with ⟨_, _, h4⟩ | ⟨_, h4⟩
    · rw [kind_len (by decide)] at h4
      simp [cat] at h4
    · exact h4 (kind_good in1)
  have HS4 := Lib.hid (show StW w w4 gl g v4 [kindD 1] (cat [kindD 1]).length 1 from ⟨hl4, HB3.out.trans (HL3.out.below hk4 HB3.out.size), Nat.le_refl _, Nat.le_refl _, rfl, by
    intro m hm
    obtain rfl : m = kindD 1 := by simpa using hm
    exact kind_fine in1⟩)
  clear hl4 hk4 HW3
  go_wp2_with fail
  go_loopw [46] (fun iv wr => ∃ (i sure : Nat) (ams : List MsgD) (v : Value) (d : Nat), i ≤ n ∧ iv = .int .i64 i ∧ StW w wr gl g v ams d sure) (fun iv _ => n - (intOf iv).toNat)
  case atStart => exact ⟨0, 1, [kindD 1], v4, _, by omega, rfl, HS4.out⟩
  case round =>
    obtain ⟨i, sure, ams, v, d, hin, rfl, hst⟩ := hrel
    have HST := Lib.hid hst
    have HLS := Lib.hid hst.1
    have HBR := Lib.hid hst.2.1
    clear hst
    by_cases hil : i < n
    · obtain ⟨b, off, rfl, hbl, hcc⟩ := HX.out.2.resolve_left (by omega)
      obtain ⟨m, hmi⟩ := get_some HX.out.1 hil
      obtain ⟨s8, s9, s10, s11, hbx, hmin⟩ := (hcc i m hmi)
      obtain ⟨q0, q1, q2, q3, q4, q5, q6, q7, q8, q9, q10, q11⟩ := hbx
      have p0 := (HBR.out.cell (p := ⟨b, off + i * 12, none⟩) hbl).trans q0
      have p1 := (HBR.out.cell (p := ⟨b, off + i * 12 + 1, none⟩) hbl).trans q1
      have p2 := (HBR.out.cell (p := ⟨b, off + i * 12 + 2, none⟩) hbl).trans q2
      have p3 := (HBR.out.cell (p := ⟨b, off + i * 12 + 3, none⟩) hbl).trans q3
      have p4 := (HBR.out.cell (p := ⟨b, off + i * 12 + 4, none⟩) hbl).trans q4
      have p5 := (HBR.out.cell (p := ⟨b, off + i * 12 + 5, none⟩) hbl).trans q5
      have p6 := (HBR.out.cell (p := ⟨b, off + i * 12 + 6, none⟩) hbl).trans q6
      have p7 := (HBR.out.cell (p := ⟨b, off + i * 12 + 7, none⟩) hbl).trans q7
      have p8 := (HBR.out.cell (p := ⟨b, off + i * 12 + 8, none⟩) hbl).trans q8
      have p9 := (HBR.out.cell (p := ⟨b, off + i * 12 + 9, none⟩) hbl).trans q9
      have p10 := (HBR.out.cell (p := ⟨b, off + i * 12 + 10, none⟩) hbl).trans q10
      have p11 := (HBR.out.cell (p := ⟨b, off + i * 12 + 11, none⟩) hbl).trans q11
      have hmb : MsgB w w.heap.size (.agg #[.int .i64 m.kind, .int .i64 m.from_, .int .i64 m.«to», .int .i64 m.id, .int .i64 m.rev, .int .i64 m.epoch, .int .i64 m.slot, .bool m.flag, s8, s9, s10, s11]) m := hmin
      have hmB : ∀ w', Below w.heap.size w w' → MsgB w' w.heap.size (.agg #[.int .i64 m.kind, .int .i64 m.from_, .int .i64 m.«to», .int .i64 m.id, .int .i64 m.rev, .int .i64 m.epoch, .int .i64 m.slot, .bool m.flag, s8, s9, s10, s11]) m := fun w' hb => hmb.below hb
      have HMB := Lib.hid hmB
      have HIN := Lib.hid (show m.in64 from (by obtain ⟨_, _, _, _, _, _, _, _, _, _, _, _, h⟩ := hmin; exact h.in64))
      have hshape : ∃ a8 n8 c8 a9 n9 c9 a10 n10 c10 a11 n11 c11, s8 = .slice a8 n8 c8 ∧ s9 = .slice a9 n9 c9 ∧ s10 = .slice a10 n10 c10 ∧ s11 = .slice a11 n11 c11 := by
        obtain ⟨na, ma, pa, ra, nn, nc, mn, mc, pn, pc, rn, rc, h⟩ := hmin
        have hv := h.val
        injection hv with hv
        injection hv with hv
        simp only [List.cons.injEq, and_true] at hv
        obtain ⟨_, _, _, _, _, _, _, _, rfl, rfl, rfl, rfl⟩ := hv
        exact ⟨_, _, _, _, _, _, _, _, _, _, _, _, rfl, rfl, rfl, rfl⟩
      obtain ⟨a8, n8, c8, a9, n9, c9, a10, n10, c10, a11, n11, c11, rfl, rfl, rfl, rfl⟩ := hshape
      clear hcc hmi hmin hmb hmB q0 q1 q2 q3 q4 q5 q6 q7 q8 q9 q10 q11
      obtain ⟨X, hX, hwx, hbx⟩ := alloc_box wr #[.int .i64 m.kind, .int .i64 m.from_, .int .i64 m.«to», .int .i64 m.id, .int .i64 m.rev, .int .i64 m.epoch, .int .i64 m.slot, .bool m.flag, .slice a8 n8 c8, .slice a9 n9 c9, .slice a10 n10 c10, .slice a11 n11 c11]
      have hbX : Below w.heap.size w X := HBR.out.trans (hbx.mono HBR.out.size)
      have HLX := Lib.hid (HLS.out.keep hbx)
      have HBX := Lib.hid hbX
      have HWX := Lib.hid hwx
      have HBW0 := Lib.hid hbx
      have hij : (0:Int) ≤ (i:Int) ∧ (i:Int) < (n:Int) := by omega
      go_upto_region 10 with fail
      rw [← hX]
      have k0 := hwx.cell 0
      have k1 := hwx.cell 1
      have k2 := hwx.cell 2
      have k3 := hwx.cell 3
      have k4 := hwx.cell 4
      have k5 := hwx.cell 5
      have k6 := hwx.cell 6
      have k7 := hwx.cell 7
      have k8 := hwx.cell 8
      have k9 := hwx.cell 9
      have k10 := hwx.cell 10
      have k11 := hwx.cell 11
      clear hX hwx hbx hbX p0 p1 p2 p3 p4 p5 p6 p7 p8 p9 p10 p11
      have HAD := Lib.hid (ladd_any w.heap.size gl g v ams d 1048576 _ m X HLX.out ((HMB.out X HBX.out).msg HBX.out.size))
      go_wp2_with fail
      refine HAD.out.mono ?_
      rintro e w4 ⟨c4, rfl, ⟨rfl, hg4, hf4, v4, hl4, hk4, ho4⟩ | ⟨hc4, hl4, hb4⟩⟩
      · obtain ⟨AM, hAM⟩ : ∃ AM, AM = ams ++ [m] := ⟨_, rfl⟩
        have hS := StW.snoc hl4 (HBX.out.trans (HLX.out.below hk4 HBX.out.size)) HST.out.2.2.1 HST.out.2.2.2.1 HST.out.2.2.2.2.1 HST.out.2.2.2.2.2 ⟨hg4, HIN.out⟩
        rw [← hAM] at hS
        have HSTP := Lib.hid hS
        clear hS hAM hg4 hf4 hl4 hk4 ho4 k0 k1 k2 k3 k4 k5 k6 k7 k8 k9 k10 k11
        by_cases hdu : (i : Int) = durable
        · have hde : ((i : Int) == durable) = true := by simpa using hdu
          clear hdu
          have HSY := Lib.hid (lsync_any w.heap.size gl g v4 (cat AM) d 1048576 AM.length w4 HSTP.out.1)
          go_wp2_with fail
          refine HSY.out.mono ?_
          rintro e w6 ⟨rfl, hl6, hk6⟩
          have HS6 := Lib.hid (show StW w w6 gl g v4 AM (cat AM).length AM.length from ⟨hl6, HSTP.out.2.1.trans (Lg.below HSTP.out.1 hk6 HSTP.out.2.1.size), Nat.le_trans HSTP.out.2.2.1 HSTP.out.2.2.2.1, Nat.le_refl _, by rw [List.take_length], HSTP.out.2.2.2.2.2⟩)
          clear hl6 hk6
          go_wp2_with fail
          exact ⟨⟨i + 1, AM.length, AM, v4, (cat AM).length, by omega, by go_num, HS6.out⟩, by simp [intOf]; omega⟩
        · have hde : ((i : Int) == durable) = false := by simpa using hdu
          clear hdu
          go_wp2_with fail
          exact ⟨⟨i + 1, sure, AM, v4, d, by omega, by go_num, HSTP.out⟩, by simp [intOf]; omega⟩
      · have HSTP := Lib.hid (show StW w w4 gl g v ams d sure from ⟨hl4, HBX.out.trans (hb4.mono HBX.out.size), HST.out.2.2⟩)
        clear hc4 hl4 hb4 k0 k1 k2 k3 k4 k5 k6 k7 k8 k9 k10 k11
        by_cases hdu : (i : Int) = durable
        · have hde : ((i : Int) == durable) = true := by simpa using hdu
          clear hdu
          have HSY := Lib.hid (lsync_any w.heap.size gl g v (cat ams) d 1048576 ams.length w4 HSTP.out.1)
          go_wp2_with fail
          refine HSY.out.mono ?_
          rintro e w6 ⟨rfl, hl6, hk6⟩
          have HS6 := Lib.hid (show StW w w6 gl g v ams (cat ams).length ams.length from ⟨hl6, HSTP.out.2.1.trans (Lg.below HSTP.out.1 hk6 HSTP.out.2.1.size), Nat.le_trans HSTP.out.2.2.1 HSTP.out.2.2.2.1, Nat.le_refl _, by rw [List.take_length], HSTP.out.2.2.2.2.2⟩)
          clear hl6 hk6
          go_wp2_with fail
          exact ⟨⟨i + 1, ams.length, ams, v, (cat ams).length, by omega, by go_num, HS6.out⟩, by simp [intOf]; omega⟩
        · have hde : ((i : Int) == durable) = false := by simpa using hdu
          clear hdu
          go_wp2_with fail
          exact ⟨⟨i + 1, sure, ams, v, d, by omega, by go_num, HSTP.out⟩, by simp [intOf]; omega⟩
    · obtain rfl : i = n := by omega
      have HCR := Lib.hid (Dk.crash_any keep wr HLS.out.disk (by have := HKP.out; omega))
      go_wp2_with fail
      refine HCR.out.mono ?_
      rintro e w7 ⟨rfl, v7, hd7, ht7, ho7⟩
      have hld : d ≤ Dk.left (cat ams).length d keep := by unfold Dk.left; omega
      obtain ⟨L, hL⟩ : ∃ L, L = Dk.left (cat ams).length d keep := ⟨_, rfl⟩
      rw [← hL] at hd7 hld
      have HL7 := Lib.hid (HLS.out.ofTurned ht7 hd7)
      have HB7 := Lib.hid (HBR.out.trans (Lg.turned0 HLS.out ht7 HBR.out.size))
      have HO7 := Lib.hid (lopen_cut w.heap.size g v7 ams L L 1048576 w7 hd7 HST.out.2.2.2.2.2)
      have hc2 := le_cnt ams L sure HST.out.2.2.2.1 (by rw [← HST.out.2.2.2.2.1]; exact hld)
      have hc1 := cnt_le ams L
      have hs1 := HST.out.2.2.1
      obtain ⟨P, hP⟩ : ∃ P, P = ams.take (cnt ams L) := ⟨_, rfl⟩
      have hPl : 1 ≤ P.length := by rw [hP, List.length_take]; omega
      have hfP : ∀ m ∈ P, m.fine := fun m hm => HST.out.2.2.2.2.2 m (List.mem_of_mem_take (by rw [← hP]; exact hm))
      rw [← hP] at HO7
      have HFP := Lib.hid hfP
      clear hd7 ht7 ho7 hld hL hP hfP hc1 hc2 hs1
      go_wp2_with fail
      refine HO7.out.mono ?_
      rintro e w8 ⟨gl8, ra8, rc8, v8, rfl, hr8, hm8, hgl8, hl8, ho8, _, hin8, ht8⟩
      have HB8 := Lib.hid (HB7.out.trans (HL7.out.turned0 ht8 HB7.out.size))
      have HL8 := Lib.hid hl8
      have HI8 := Lib.hid hin8
      have hsmall := hl8.small
      have hlen8 : (cat P).length ≤ 1048576 := hl8.disk.hr
      have HBY := Lib.hid (Dk.bytes_any w8 hl8.disk)
      clear hgl8 hl8 ho8 hin8 ht8 HO7
      go_wp2_with fail
      refine HBY.out.mono ?_
      rintro e w9 ⟨u9, rfl, hown9, hb9⟩
      obtain ⟨a9, c9, rfl, h91, h92⟩ := owned_any hown9
      have HCT := Lib.hid (cut_any a9 (cat P).length c9 (cat P) w9 (IsB.owned hown9 HL8.out.disk.byte) h91 h92 (by omega))
      have HB9 := Lib.hid hb9
      clear hown9 h91 h92 hb9
      go_wp2_with fail
      refine HCT.out.mono ?_
      rintro e w10 ⟨hb10, v10, rfl, hp10⟩
      rw [cutAll_cat P (fun m hm => (HFP.out m hm).1)] at hp10 ⊢
      have hb8 := HB9.out.trans (hb10.mono HB9.out.size)
      have HB10 := Lib.hid hb8
      have HZ10 := Lib.hid (Dk.size_any w10 (HL8.out.keep hb8).disk)
      obtain ⟨vs, hvo, hvs⟩ := hp10
      rw [List.length_map] at hvo hvs
      obtain ⟨pa, pc, rfl, hpc, hpm⟩ := owned_any hvo
      have hpb : ∃ pb, pa = some ⟨pb, 0, none⟩ ∧ pb < w10.heap.size ∧ ∀ j u, vs[j]? = some u → w10.cell? ⟨pb, j, none⟩ = some u := by
        rcases own_cases hvo with ⟨_, h0⟩ | ⟨pb, c', e, _, _, hlt, hc⟩
        · omega
        · injection e with e _ _
          exact ⟨pb, e, hlt, hc⟩
      obtain ⟨pb, rfl, hpl, hpcell⟩ := hpb
      have hvl : vs.length = P.length := by simpa using hvo.1
      have HPC := Lib.hid (show ∀ (j : Nat) (m : MsgD), P[j]? = some m → ∃ u, w10.cell? ⟨pb, j, none⟩ = some u ∧ OwnV w10 u (enc m) from fun j m hj => by
        have hjl : j < P.length := (List.getElem?_eq_some_iff.1 hj).1
        refine ⟨vs[j]'(by omega), hpcell j _ (List.getElem?_eq_getElem (by omega)), ?_⟩
        have h1 := hvs j hjl
        have h2 : (P.map enc).getD j [] = enc m := by rw [List.getD_eq_getElem?_getD, List.getElem?_map, hj]; rfl
        have h3 : vs.getD j undef = vs[j]'(by omega) := by rw [List.getD_eq_getElem?_getD, List.getElem?_eq_getElem (by omega)]; rfl
        rwa [h2, h3] at h1)
      have HPL := Lib.hid hpl
      obtain ⟨T, hT⟩ : ∃ T, T = (cat P).length := ⟨_, rfl⟩
      have HT := Lib.hid hT
      rw [← hT] at HZ10 ⊢
      rw [← hT] at hlen8
      obtain ⟨K, hK⟩ : ∃ K, K = P.length := ⟨_, rfl⟩
      have HK := Lib.hid hK
      rw [← hK] at hPl hsmall hpc ⊢
      have hnn : ((T : Int) != (T : Int)) = false := by simp
      have hnk : ((K : Int) != (K : Int)) = false := by simp
      have hk1 : decide ((K : Int) < 1) = false := by simp; omega
      clear hb10 hb8 hvo hvs hpl hpcell hvl hT hK HCT hpc hpm
      go_wp2_with fail
      refine HZ10.out.mono ?_
      rintro e w11 ⟨rfl, rfl⟩
      go_wp2_with fail
      go_loopw [18, 101] (fun av iv wr => ∃ (i : Nat) (xa : Option Addr) (xc : Nat), i ≤ K ∧ iv = .int .i64 i ∧ av = .slice xa (cat (P.take i)).length xc ∧ StX w10 wr P i (.slice xa (cat (P.take i)).length xc)) (fun _ iv _ => K - (intOf iv).toNat)
      case atStart => exact ⟨0, none, 0, by omega, rfl, rfl, Below.refl _ _, ⟨rfl, .inl ⟨rfl, rfl⟩⟩⟩
      case round =>
        obtain ⟨i, xa, xc, hiK, rfl, rfl, hst⟩ := hrel
        have HBX := Lib.hid hst.1
        have HAO := Lib.hid hst.2
        clear hst
        by_cases hil : i < K
        · obtain ⟨m, hmi⟩ := get_some HK.out.symm hil
          obtain ⟨u, hu, huo⟩ := HPC.out i m hmi
          have hmf := HFP.out m (List.mem_of_getElem? hmi)
          have hpcell := (HBX.out.cell (p := ⟨pb, i, none⟩) HPL.out).trans hu
          obtain ⟨ub, huow, huby⟩ := huo.below HBX.out
          obtain ⟨uq, uc, rfl, hu1, hu2⟩ := owns_shape huow (enc_pos m)
          have hdr := decode_row huow (enc_byte m)
          rw [dec_enc hmf.1.1 hmf.2 hmf.1.2] at hdr
          have HDR := Lib.hid hdr
          have HUO := Lib.hid huow
          have HMF := Lib.hid hmf
          have HMI := Lib.hid hmi
          have hij : (0:Int) ≤ (i:Int) ∧ (i:Int) < (K:Int) := by omega
          clear hu huo hmf huby hdr huow hmi
          go_wp2_with fail
          refine HDR.out.mono ?_
          rintro e w12 ⟨V12, d12, c12, rfl, hin12, hb12, hr12⟩
          obtain ⟨rfl, rfl⟩ : d12 = m ∧ c12 = 0 := by
            rcases hr12 with ⟨m3, h1, h2, h3⟩ | ⟨h1, _⟩
            · injection h1 with h1
              subst h1
              exact ⟨by rw [h2, unR_toR], h3⟩
            · cases h1
          obtain ⟨na, ma, pa_, ra, nn, nc, mn, mc, pn, pc_, rn, rc, hin12⟩ := hin12
          have hv12 := hin12.val
          subst hv12
          obtain ⟨X, hX, hwx, hbx⟩ := alloc_box w12 #[.int .i64 d12.kind, .int .i64 d12.from_, .int .i64 d12.«to», .int .i64 d12.id, .int .i64 d12.rev, .int .i64 d12.epoch, .int .i64 d12.slot, .bool d12.flag, .slice na nn nc, .slice ma mn mc, .slice pa_ pn pc_, .slice ra rn rc]
          have hbX := hb12.trans (hbx.mono hb12.size)
          have HSL := Lib.hid (Fr.seal_fits (some ⟨uq, 0, none⟩) (enc d12).length uc (enc d12) X HMF.out.1.2 (by intro h; cases h) (IsB.owned (owns_below HUO.out hbX) (enc_byte d12)))
          have HAX := Lib.hid (owns_below HAO.out hbX)
          have HBX2 := Lib.hid (HBX.out.trans (hbX.mono HBX.out.size))
          have HIX := Lib.hid (show MsgIn X _ d12 from ⟨_, _, _, _, _, _, _, _, _, _, _, _, hin12.up hbx hbx.size⟩)
          have HWX := Lib.hid hwx
          have hmle := HMF.out.1.2
          go_upto_region 24 with fail
          rw [← hX]
          clear hX hwx hbx hbX hin12 hb12 hr12
          go_wp2_with fail
          refine HSL.out.mono ?_
          rintro e w13 ⟨g13, rfl, hown13, hb13⟩
          rw [← rcd_len d12] at hown13 ⊢
          obtain ⟨b8, o8, rfl, hb8l, hc8⟩ := HI8.out.2.resolve_left (by rw [← HK.out]; omega)
          obtain ⟨s8, s9, s10, s11, hbx8, hmin8⟩ := hc8 i d12 HMI.out
          have hb8x : Below w8.heap.size w8 w13 := (HB10.out.trans (HBX2.out.mono HB10.out.size)).trans (hb13.mono (Nat.le_trans HB10.out.size HBX2.out.size))
          obtain ⟨gx, hgx⟩ : ∃ gx, gx = w12.heap.size := ⟨_, rfl⟩
          rw [← hgx] at HWX ⊢
          have hbox := box_below (box_mk HWX.out) hb13 HWX.out.lt
          have HS0 := Lib.hid (show HeldW w13 w13 gx b8 (o8 + i * 12) (.int .i64 d12.kind) (.int .i64 d12.from_) (.int .i64 d12.«to») (.int .i64 d12.id) (.int .i64 d12.rev) (.int .i64 d12.epoch) (.int .i64 d12.slot) (.bool d12.flag) (.slice na nn nc) (.slice ma mn mc) (.slice pa_ pn pc_) (.slice ra rn rc) (.int .i64 d12.kind) (.int .i64 d12.from_) (.int .i64 d12.«to») (.int .i64 d12.id) (.int .i64 d12.rev) (.int .i64 d12.epoch) (.int .i64 d12.slot) (.bool d12.flag) (s8) (s9) (s10) (s11) d12 d12 from ⟨hbox, hbx8.below hb8x hb8l, Below.refl _ _, Nat.lt_of_lt_of_le HWX.out.lt hb13.size, Nat.lt_of_lt_of_le hb8l hb8x.size, HIX.out.below hb13, hmin8.below hb8x⟩)
          have HO13 := Lib.hid hown13
          have HA13 := Lib.hid (owns_below HAX.out hb13)
          have HB13 := Lib.hid (HBX2.out.trans (hb13.mono HBX2.out.size))
          clear hown13 hb13 hb8x hbox hbx8 hmin8 hc8 hb8l hgx
          go_wp2_with fail
          go_region_held3 (fun V => HeldW w13 V gx b8 (o8 + i * 12) (.int .i64 d12.kind) (.int .i64 d12.from_) (.int .i64 d12.«to») (.int .i64 d12.id) (.int .i64 d12.rev) (.int .i64 d12.epoch) (.int .i64 d12.slot) (.bool d12.flag) (.slice na nn nc) (.slice ma mn mc) (.slice pa_ pn pc_) (.slice ra rn rc) (.int .i64 d12.kind) (.int .i64 d12.from_) (.int .i64 d12.«to») (.int .i64 d12.id) (.int .i64 d12.rev) (.int .i64 d12.epoch) (.int .i64 d12.slot) (.bool d12.flag) (s8) (s9) (s10) (s11) d12 d12) (first
              | exact heldW_keep HS0.out (below_drewN _ 1)
              | assumption
              | exact heldW_keep (by assumption) (by assumption)) (first
            | (go_at_call 33; (with_reducible refine (same_bool _ _ d12 d12 _ (keptS_in1 (And.right (And.right (by assumption)))) (keptS_in2 (And.right (And.right (by assumption)))) true (by simp)).mono ?_); rintro e w' ⟨rfl, hbn⟩))
          have hbw : Below w13.heap.size w13 w' := (show HeldW w13 w' gx b8 (o8 + i * 12) (.int .i64 d12.kind) (.int .i64 d12.from_) (.int .i64 d12.«to») (.int .i64 d12.id) (.int .i64 d12.rev) (.int .i64 d12.epoch) (.int .i64 d12.slot) (.bool d12.flag) (.slice na nn nc) (.slice ma mn mc) (.slice pa_ pn pc_) (.slice ra rn rc) (.int .i64 d12.kind) (.int .i64 d12.from_) (.int .i64 d12.«to») (.int .i64 d12.id) (.int .i64 d12.rev) (.int .i64 d12.epoch) (.int .i64 d12.slot) (.bool d12.flag) (s8) (s9) (s10) (s11) d12 d12 by assumption).2.2.1
          have HAW := Lib.hid (owns_below HA13.out hbw)
          have HOW := Lib.hid (owns_below HO13.out hbw)
          have HBW := Lib.hid (HB13.out.trans (hbw.mono HB13.out.size))
          have hsum : (cat (P.take (i + 1))).length = (cat (P.take i)).length + (rcd d12).length := by
            rw [take_snoc HMI.out, cat_snoc, List.length_append]
          have htot : (cat (P.take (i + 1))).length ≤ T := by
            have := cat_pre P (i + 1) P.length (by rw [← HK.out]; omega)
            rw [List.take_length, ← HT.out] at this
            exact this
          obtain ⟨R, hR⟩ : ∃ R, R = (rcd d12).length := ⟨_, rfl⟩
          obtain ⟨Z, hZ⟩ : ∃ Z, Z = (cat (P.take i)).length := ⟨_, rfl⟩
          have HR := Lib.hid hR
          have HZ := Lib.hid hZ
          have hRT : Z + R ≤ T := by rw [hR, hZ, ← hsum]; exact htot
          have HSUM := Lib.hid hsum
          have HNW := Lib.hid (IsB.owned HOW.out (rcd_byt HMF.out.1)).news
          rw [← hR] at HOW ⊢
          rw [← hZ] at HAW ⊢
          have HLN := Lib.hid (show ((rcd d12).map (Value.int .u8)).length = R * 1 by simp [hR])
          clear hbw hR hZ hsum htot
          go_wp2_with (at_builtin; refine wpList_append_at_any _ rfl _ _ 41 rfl w10.heap.size 5 i0 (.int .u8 0) 1 1 Try.underlying41 hi hz0 hz1 hz2 rfl (by decide) _ Z _ rfl HAW.out (some ⟨g13, 0, none⟩) R R ((rcd d12).map (Value.int .u8)) rfl HLN.out (by intro h; cases h) HNW.out (oneCell_map _) (by unfold maxLen; omega) (by omega) HBW.out.size ?_; intro v2 w14 hown14 hgrow14 hat14)
          obtain ⟨xa2, xc2, rfl, _, _⟩ := owned_some hown14
          have hb14 : Below w10.heap.size w10 w14 := HBW.out.grown hgrow14 HBW.out.size (fun j hj => (HAW.out.lt j hj).1)
          refine ⟨⟨i + 1, xa2, xc2, by omega, by go_num, by rw [HSUM.out, ← HR.out, ← HZ.out], hb14, ?_⟩, by simp [intOf]; omega⟩
          have e1 : cat (P.take (i + 1)) = cat (P.take i) ++ rcd d12 := by rw [take_snoc HMI.out, cat_snoc]
          rw [e1, List.map_append, List.length_append, ← HR.out, ← HZ.out]
          exact hown14
        · obtain rfl : i = K := by omega
          have htk : P.take i = P := List.take_of_length_le (by rw [← HK.out]; exact Nat.le_refl _)
          rw [htk] at HAO ⊢
          have hbr := HB10.out.trans (HBX.out.mono HB10.out.size)
          have hia := IsB.owned HAO.out HL8.out.disk.byte
          have hda := (HL8.out.keep hbr).disk
          obtain ⟨AS, hAS⟩ : ∃ AS, AS = strOfNums (cat P) := ⟨_, rfl⟩
          have HAS := Lib.hid hAS
          have HIA := Lib.hid hia
          have HDA := Lib.hid hda
          have HCV := Lib.hid (show ∀ W, IsB W xa (cat P).length (cat P) → (convert 41 9 (.slice xa (cat P).length xc)).run Try.prog W = .ok (.string AS) W from fun W h => by rw [hAS]; exact h.str xc)
          have HBR2 := Lib.hid (HB8.out.trans (hbr.mono HB8.out.size))
          have hcmp : (AS.toList == AS.toList) = true := by simp
          clear hbr hia hda hAS htk
          go_wp2_with fail
          refine wp_region_held_drew (S := fun W => Dk.DAt W w.heap.size g v8 (cat P) (cat P).length 1048576 ∧ (convert 41 9 (.slice xa (cat P).length xc)).run Try.prog W = .ok (.string AS) W ∧ IsB W xa (cat P).length (cat P) ∧ Below wr.heap.size wr W) (by kernel_rfl) ⟨HDA.out.below (below_drewN wr 1), HCV.out _ (HIA.out.below (below_drewN wr 1)), HIA.out.below (below_drewN wr 1), below_drewN wr 1⟩ (fun hHeld => ?_)
          refine wpAnyH_take (i := 0) (oi := { dst := Option.some 135, op := Go.Op.move (Go.Operand.tmp 18), type := 41, pos := "top02.go:43", after := #[], guard := Option.none }) (v := ?_) rfl (by kernel_rfl) (by kernel_rfl) (by kernel_rfl) (fun _ _ _ h => h) (Or.inl ⟨by rfl, ?_⟩) (by assumption) ?_
          rotate_left
          · intro w hSw; (try dsimp only at hSw); go_simp; all_goals (with_reducible rfl)
          try simp only [Act.put, List.setIfInBounds_toArray, List.set_cons_zero, List.set_cons_succ]
          refine wpAnyH_take (i := 1) (oi := { dst := Option.some 136, op := Go.Op.convert 41 9 (Go.Operand.tmp 135), type := 9, pos := "top02.go:43", after := #[{ on := 0, ground := Go.Ground.data }], guard := Option.none }) (v := ?_) rfl (by kernel_rfl) (by kernel_rfl) (by kernel_rfl) (fun _ _ _ h => h) (Or.inl ⟨by rfl, ?_⟩) (by assumption) ?_
          rotate_left
          · intro w hSw; (try dsimp only at hSw); go_simp; all_goals (with_reducible rfl)
          try simp only [Act.put, List.setIfInBounds_toArray, List.set_cons_zero, List.set_cons_succ]
          refine wpAnyH_take (i := 2) (oi := { dst := Option.some 137, op := Go.Op.move (Go.Operand.tmp 7), type := 24, pos := "top02.go:43", after := #[], guard := Option.none }) (v := ?_) rfl (by kernel_rfl) (by kernel_rfl) (by kernel_rfl) (fun _ _ _ h => h) (Or.inl ⟨by rfl, ?_⟩) (by assumption) ?_
          rotate_left
          · intro w hSw; (try dsimp only at hSw); go_simp; all_goals (with_reducible rfl)
          try simp only [Act.put, List.setIfInBounds_toArray, List.set_cons_zero, List.set_cons_succ]
          refine wpAnyH_take (i := 3) (oi := { dst := Option.some 138, op := Go.Op.nilCheck (Go.Operand.tmp 137), type := 0, pos := "top02.go:43", after := #[{ on := 2, ground := Go.Ground.data }], guard := Option.none }) (v := ?_) rfl (by kernel_rfl) (by kernel_rfl) (by kernel_rfl) (fun _ _ _ h => h) (Or.inl ⟨by rfl, ?_⟩) (by assumption) ?_
          rotate_left
          · intro w hSw; (try dsimp only at hSw); go_simp; all_goals (with_reducible rfl)
          try simp only [Act.put, List.setIfInBounds_toArray, List.set_cons_zero, List.set_cons_succ]
          refine wpAnyH_take (i := 4) (oi := { dst := Option.some 139, op := Go.Op.fieldAddr 60 (Go.Operand.tmp 138) 0, type := 0, pos := "top02.go:43", after := #[{ on := 3, ground := Go.Ground.data }], guard := Option.none }) (v := ?_) rfl (by kernel_rfl) (by kernel_rfl) (by kernel_rfl) (fun _ _ _ h => h) (Or.inl ⟨by rfl, ?_⟩) (by assumption) ?_
          rotate_left
          · intro w hSw; (try dsimp only at hSw); go_simp; all_goals (with_reducible rfl)
          try simp only [Act.put, List.setIfInBounds_toArray, List.set_cons_zero, List.set_cons_succ]
          refine wpAnyH_ready (rs := [5]) (by kernel_rfl) (by simp) ?_
          refine AllReadyH.cons (o := { dst := Option.some 140, op := Go.Op.call { callee := Go.Callee.value (Go.Operand.func 25), args := #[Go.Operand.tmp 139], argTypes := #[58] }, type := 41, pos := "top02.go:43", after := #[{ on := 4, ground := Go.Ground.data }], guard := Option.none }) rfl (fun K hK => ?_) AllReadyH.nil
          go_simp
          refine (Dk.bytes_any (B := w.heap.size) (g := g) (d := (cat P).length) (r := 1048576) (v := v8) (xs := cat P) _ hHeld.1).mono ?_
          rintro e w20 ⟨u2, rfl, hown20, hb20⟩
          obtain ⟨ua, uc2, rfl, hui, _⟩ := owned_slice hown20 hHeld.1.byte
          have hcu := hui.str uc2
          rw [← HAS.out] at hcu
          have hD20 := Lib.hid (hHeld.1.below hb20)
          have hI20 := Lib.hid (hHeld.2.2.1.below hb20)
          have hB20 := Lib.hid (hHeld.2.2.2.trans (hb20.mono hHeld.2.2.2.size))
          clear hown20 hb20 hui hHeld
          go_wp2_with fail
          refine hK.out _ _ (⟨hD20.out, HCV.out _ hI20.out, hI20.out, hB20.out⟩) (fun hHeld => ?_)
          clear hK K
          try simp only [Act.put, List.setIfInBounds_toArray, List.set_cons_zero, List.set_cons_succ]
          refine wpAnyH_ready (rs := [6]) (by kernel_rfl) (by simp) ?_
          refine AllReadyH.cons (o := { dst := Option.some 141, op := Go.Op.convert 41 9 (Go.Operand.tmp 140), type := 9, pos := "top02.go:43", after := #[{ on := 5, ground := Go.Ground.data }], guard := Option.none }) rfl (fun K hK => ?_) AllReadyH.nil
          go_simp
          refine hK.out _ _ (hHeld) (fun hHeld => ?_)
          clear hK K
          try simp only [Act.put, List.setIfInBounds_toArray, List.set_cons_zero, List.set_cons_succ]
          refine wpAnyH_take (i := 7) (oi := { dst := Option.some 142, op := Go.Op.binOp Go.BinOp.eql 9 (Go.Operand.tmp 136) (Go.Operand.tmp 141) 9, type := 4, pos := "top02.go:43", after := #[{ on := 1, ground := Go.Ground.data }, { on := 6, ground := Go.Ground.data }], guard := Option.none }) (v := ?_) rfl (by kernel_rfl) (by kernel_rfl) (by kernel_rfl) (fun _ _ _ h => h) (Or.inl ⟨by rfl, ?_⟩) (by assumption) ?_
          rotate_left
          · intro w hSw; (try dsimp only at hSw); go_simp; all_goals (with_reducible rfl)
          try simp only [Act.put, List.setIfInBounds_toArray, List.set_cons_zero, List.set_cons_succ]
          refine wpAnyH_take (i := 8) (oi := { dst := Option.some 6, op := Go.Op.assign (Go.Operand.tmp 142), type := 4, pos := "top02.go:43", after := #[{ on := 7, ground := Go.Ground.data }, { on := 5, ground := Go.Ground.chain }, { on := 0, ground := Go.Ground.phase }, { on := 1, ground := Go.Ground.phase }, { on := 2, ground := Go.Ground.phase }, { on := 3, ground := Go.Ground.phase }, { on := 4, ground := Go.Ground.phase }, { on := 5, ground := Go.Ground.phase }, { on := 6, ground := Go.Ground.phase }, { on := 7, ground := Go.Ground.phase }], guard := Option.none }) (v := ?_) rfl (by kernel_rfl) (by kernel_rfl) (by kernel_rfl) (fun _ _ _ h => h) (Or.inl ⟨by rfl, ?_⟩) (by assumption) ?_
          rotate_left
          · intro w hSw; (try dsimp only at hSw); go_simp; all_goals (with_reducible rfl)
          try simp only [Act.put, List.setIfInBounds_toArray, List.set_cons_zero, List.set_cons_succ]
          refine wpAnyH_done (by kernel_rfl) ?_ _
          have HF := Lib.hid (HBR2.out.trans (Below.mono hHeld.2.2.2 HBR2.out.size))
          clear hHeld
          go_wp2
          go_ret
          exact ⟨rfl, HF.out⟩
end Go.Proofs.Ytjilhmidgebfbaa
