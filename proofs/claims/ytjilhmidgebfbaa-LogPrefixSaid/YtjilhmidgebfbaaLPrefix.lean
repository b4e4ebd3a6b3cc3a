/- LogPrefix: behind any crash the records are a beginning of those that were added, with all that were durable. -/
import Derived.Test.YtjilhmidgebfbaaL9
namespace Go.Proofs.Ytjilhmidgebfbaa
open Go.RowKit

/-- How far the law's first loop has come. -/
def StP (w wr : World) (gl g : Nat) (v : Value) (ams : List MsgD) (d sure : Nat) (av : Value) : Prop :=
  Ls wr w.heap.size gl g v ams d 100000 ∧ AllAt wr w.heap.size av ams ∧ Below w.heap.size w wr ∧ sure ≤ ams.length ∧ d = (cat (ams.take sure)).length ∧ ∀ m ∈ ams, m.fine
theorem StP.snoc {w wr : World} {gl g d sure : Nat} {v av : Value} {ams : List MsgD} {m : MsgD} (h1 : Ls wr w.heap.size gl g v (ams ++ [m]) d 100000) (h2 : AllAt wr w.heap.size av (ams ++ [m])) (h3 : Below w.heap.size w wr) (h4 : sure ≤ ams.length) (h5 : d = (cat (ams.take sure)).length) (h6 : ∀ m ∈ ams, m.fine) (h7 : m.fine) : StP w wr gl g v (ams ++ [m]) d sure av := by
  refine ⟨h1, h2, h3, by simp; omega, by rw [List.take_append_of_le_length h4]; exact h5, ?_⟩
  intro x hx
  rcases List.mem_append.1 hx with hx | hx
  · exact h6 x hx
  · obtain rfl : x = m := by simpa using hx
    exact h7
theorem AllAt.cap {w : World} {B n c : Nat} {a : Option Addr} {ms : List MsgD} (h : AllAt w B (.slice a n c) ms) : n ≤ c ∧ c ≤ maxLen := by
  obtain ⟨a', c', e, h1, h2⟩ := h.slice
  injection e with e1 e2 e3
  subst e1 e2 e3
  exact ⟨h1, h2⟩
theorem in99 : In64 99 := ⟨by decide, by decide⟩

set_option maxRecDepth 100000 in
set_option maxHeartbeats 8000000 in
theorem prefix_walk (a : Option Addr) (n c : Nat) (ms : List MsgD) (durable keep : Int) (w : World) (hx : MsgsIn w a n ms) (hn : n ≤ 9223372036854775807) (hk : -9223372036854775808 ≤ keep ∧ keep ≤ 9223372036854775807) :
    Calls Try.prog 4 #[.slice a n c, .int .i64 durable, .int .i64 keep] w fun e w' => e = .returned (.bool true) ∧ Below w.heap.size w w' := by
  obtain ⟨i0, hi, hz0, hz1, hz2⟩ := info_parts Try.infoG
  have HX := Lib.hid hx
  have HKP := Lib.hid hk
  clear hx hk
  go_enter Try.func4, Try.ntmps4
  go_wp2_with fail
  refine (lawake_any _).mono ?_
  rintro e w1 ⟨rfl, hb1⟩
  have HN := Lib.hid (Dk.new_good w.heap.size 100000 w1 (by decide) hb1.size)
  have HB1 := Lib.hid hb1
  clear hb1
  go_wp2_with fail
  refine HN.out.mono ?_
  rintro e w2 ⟨rfl, hd2, hb2⟩
  have HB2 := Lib.hid (HB1.out.trans (hb2.mono HB1.out.size))
  have hgw : w.heap.size ≤ w1.heap.size := HB1.out.size
  have HGW := Lib.hid hgw
  clear hgw hb2
  generalize w1.heap.size = g at *
  have HO := Lib.hid (lopen_cat w.heap.size g (.slice none 0 0) [] 0 100000 w2 hd2 (by simp))
  clear hd2
  go_wp2_with fail
  refine HO.out.mono ?_
  rintro e w3 ⟨gl, ra0, rc0, v3, rfl, _, _, _, hl3, _, _, _, ht3⟩
  have HS3 := Lib.hid (show StP w w3 gl g v3 [] 0 0 (.slice none 0 0) from ⟨hl3, AllAt.nil _ _, HB2.out.trans (ht3.below HGW.out (by simp) HB2.out.size), Nat.le_refl _, rfl, by simp⟩)
  clear hl3 ht3 HN HO
  go_wp2_with fail
  go_loopw [11, 12, 34] (fun av sv iv wr => ∃ (i sure : Nat) (ams : List MsgD) (v : Value) (d : Nat) (ra : Option Addr) (rc : Nat), i ≤ n ∧ iv = .int .i64 i ∧ sv = .int .i64 sure ∧ av = .slice ra ams.length rc ∧ StP w wr gl g v ams d sure (.slice ra ams.length rc)) (fun _ _ iv _ => n - (intOf iv).toNat)
  case atStart => exact ⟨0, 0, [], v3, 0, none, 0, by omega, rfl, rfl, rfl, HS3.out⟩
  case round =>
    obtain ⟨i, sure, ams, v, d, ra, rc, hin, rfl, rfl, rfl, hst⟩ := hrel
    have HST := Lib.hid hst
    clear hst
    by_cases hil : i < n
    · obtain ⟨b, off, rfl, hbl, hcc⟩ := HX.out.2.resolve_left (by omega)
      obtain ⟨m, hmi⟩ := get_some HX.out.1 hil
      obtain ⟨s8, s9, s10, s11, hbx, hmin⟩ := (hcc i m hmi)
      obtain ⟨q0, q1, q2, q3, q4, q5, q6, q7, q8, q9, q10, q11⟩ := hbx
      have p0 := (HST.out.2.2.1.cell (p := ⟨b, off + i * 12, none⟩) hbl).trans q0
      have p1 := (HST.out.2.2.1.cell (p := ⟨b, off + i * 12 + 1, none⟩) hbl).trans q1
      have p2 := (HST.out.2.2.1.cell (p := ⟨b, off + i * 12 + 2, none⟩) hbl).trans q2
      have p3 := (HST.out.2.2.1.cell (p := ⟨b, off + i * 12 + 3, none⟩) hbl).trans q3
      have p4 := (HST.out.2.2.1.cell (p := ⟨b, off + i * 12 + 4, none⟩) hbl).trans q4
      have p5 := (HST.out.2.2.1.cell (p := ⟨b, off + i * 12 + 5, none⟩) hbl).trans q5
      have p6 := (HST.out.2.2.1.cell (p := ⟨b, off + i * 12 + 6, none⟩) hbl).trans q6
      have p7 := (HST.out.2.2.1.cell (p := ⟨b, off + i * 12 + 7, none⟩) hbl).trans q7
      have p8 := (HST.out.2.2.1.cell (p := ⟨b, off + i * 12 + 8, none⟩) hbl).trans q8
      have p9 := (HST.out.2.2.1.cell (p := ⟨b, off + i * 12 + 9, none⟩) hbl).trans q9
      have p10 := (HST.out.2.2.1.cell (p := ⟨b, off + i * 12 + 10, none⟩) hbl).trans q10
      have p11 := (HST.out.2.2.1.cell (p := ⟨b, off + i * 12 + 11, none⟩) hbl).trans q11
      have hmb : MsgB w w.heap.size (.agg #[.int .i64 m.kind, .int .i64 m.from_, .int .i64 m.«to», .int .i64 m.id, .int .i64 m.rev, .int .i64 m.epoch, .int .i64 m.slot, .bool m.flag, s8, s9, s10, s11]) m := hmin
      have hmB : ∀ w', Below w.heap.size w w' → MsgB w' w.heap.size (.agg #[.int .i64 m.kind, .int .i64 m.from_, .int .i64 m.«to», .int .i64 m.id, .int .i64 m.rev, .int .i64 m.epoch, .int .i64 m.slot, .bool m.flag, s8, s9, s10, s11]) m := fun w' hb => hmb.below hb
      have HMB := Lib.hid hmB
      have HIN := Lib.hid (show m.in64 from (by obtain ⟨_, _, _, _, _, _, _, _, _, _, _, _, h⟩ := hmin; exact h.in64))
      have hshape : ∃ a8 n8 c8 a9 n9 c9 a10 n10 c10 a11 n11 c11, s8 = .slice a8 n8 c8 ∧ s9 = .slice a9 n9 c9 ∧ s10 = .slice a10 n10 c10 ∧ s11 = .slice a11 n11 c11 := by
        obtain ⟨na, ma, pa, ra, nn, nc, mn, mc, pn, pc, rn, rc, h⟩ := hmin
        have hv := h.val
        injection hv with hv
        injection hv with hv
        simp only [List.cons.injEq, and_true] at hv
        obtain ⟨_, _, _, _, _, _, _, _, rfl, rfl, rfl, rfl⟩ := hv
        exact ⟨_, _, _, _, _, _, _, _, _, _, _, _, rfl, rfl, rfl, rfl⟩
      obtain ⟨a8, n8, c8, a9, n9, c9, a10, n10, c10, a11, n11, c11, rfl, rfl, rfl, rfl⟩ := hshape
      clear hcc hmi hmin hmb hmB q0 q1 q2 q3 q4 q5 q6 q7 q8 q9 q10 q11
      obtain ⟨X, hX, hwx, hbx⟩ := alloc_box wr #[.int .i64 m.kind, .int .i64 m.from_, .int .i64 m.«to», .int .i64 m.id, .int .i64 m.rev, .int .i64 m.epoch, .int .i64 m.slot, .bool m.flag, .slice a8 n8 c8, .slice a9 n9 c9, .slice a10 n10 c10, .slice a11 n11 c11]
      have hbX : Below w.heap.size w X := HST.out.2.2.1.trans (hbx.mono HST.out.2.2.1.size)
      have HAD := Lib.hid (ladd_any w.heap.size gl g v ams d 100000 _ m X (HST.out.1.keep hbx) ((HMB.out X hbX).msg hbX.size))
      have HLX := Lib.hid (HST.out.1.keep hbx)
      have HAX := Lib.hid (HST.out.2.1.below hbx HST.out.2.2.1.size)
      have HBX := Lib.hid hbX
      have HWX := Lib.hid hwx
      have hij : (0:Int) ≤ (i:Int) ∧ (i:Int) < (n:Int) := by omega
      have hsm : ams.length * 20 ≤ 100000 := HST.out.1.small.1
      go_upto_region 12 with fail
      rw [← hX]
      have k0 := hwx.cell 0
      have k1 := hwx.cell 1
      have k2 := hwx.cell 2
      have k3 := hwx.cell 3
      have k4 := hwx.cell 4
      have k5 := hwx.cell 5
      have k6 := hwx.cell 6
      have k7 := hwx.cell 7
      have k8 := hwx.cell 8
      have k9 := hwx.cell 9
      have k10 := hwx.cell 10
      have k11 := hwx.cell 11
      clear hX hwx hbx hbX p0 p1 p2 p3 p4 p5 p6 p7 p8 p9 p10 p11
      go_wp2_with fail
      refine HAD.out.mono ?_
      rintro e w4 ⟨c4, rfl, ⟨rfl, hg4, hf4, v4, hl4, hk4, ho4⟩ | ⟨hc4, hl4, hb4⟩⟩
      · have hwx4 := HWX.out.past HLX.out hk4 (by decide) (by decide) (by decide)
        have ha4 := HAX.out.kept HLX.out hk4 (Nat.le_refl _) HBX.out.size
        have hb4 := HBX.out.trans (HLX.out.below hk4 HBX.out.size)
        obtain ⟨ss, hss, hrow, hall⟩ := ha4
        have HROW := Lib.hid hrow
        have HA4 := Lib.hid (show AllAt w4 w.heap.size (.slice ra ams.length rc) ams from ⟨ss, hss, hrow, hall⟩)
        have HB4 := Lib.hid hb4
        have HL4 := Lib.hid hl4
        have HF4 := Lib.hid (show m.fine from ⟨hg4, HIN.out⟩)
        have HSZ4 := Lib.hid hb4.size
        have j0 := hwx4.cell 0
        have j1 := hwx4.cell 1
        have j2 := hwx4.cell 2
        have j3 := hwx4.cell 3
        have j4 := hwx4.cell 4
        have j5 := hwx4.cell 5
        have j6 := hwx4.cell 6
        have j7 := hwx4.cell 7
        have j8 := hwx4.cell 8
        have j9 := hwx4.cell 9
        have j10 := hwx4.cell 10
        have j11 := hwx4.cell 11
        clear hwx4 hb4 hrow hall hss hl4 hk4 ho4 hg4 hf4 k0 k1 k2 k3 k4 k5 k6 k7 k8 k9 k10 k11
        by_cases hdu : (i : Int) = durable
        · have hde : ((i : Int) == durable) = true := by simpa using hdu
          clear hdu
          go_wp2_with (at_builtin; refine wpList_append_at_any _ rfl _ _ 30 rfl w.heap.size 40 i0 (.agg MsgZ) 12 160 Try.underlying30 hi hz0 hz1 hz2 rfl (by decide) _ ams.length _ rfl (HROW.out.alloc _) (some ⟨w4.heap.size, 0, none⟩) 1 1 [.int .i64 m.kind, .int .i64 m.from_, .int .i64 m.«to», .int .i64 m.id, .int .i64 m.rev, .int .i64 m.epoch, .int .i64 m.slot, .bool m.flag, .slice a8 n8 c8, .slice a9 n9 c9, .slice a10 n10 c10, .slice a11 n11 c11] rfl rfl (by intro h; cases h) (by rintro ad he; injection he with he; subst he; exact cells_new _ [.int .i64 m.kind, .int .i64 m.from_, .int .i64 m.«to», .int .i64 m.id, .int .i64 m.rev, .int .i64 m.epoch, .int .i64 m.slot, .bool m.flag, .slice a8 n8 c8, .slice a9 n9 c9, .slice a10 n10 c10, .slice a11 n11 c11] _) (by intro q hq; simp at hq; rcases hq with rfl | rfl | rfl | rfl | rfl | rfl | rfl | rfl | rfl | rfl | rfl | rfl <;> rfl) (by unfold maxLen; omega) (by omega) (by have := HSZ4.out; simp; omega) ?_; intro v2 w5 hown5 hgrow5 hat5)
          have hbe := below_alloc w4 (.cells #[.int .i64 m.kind, .int .i64 m.from_, .int .i64 m.«to», .int .i64 m.id, .int .i64 m.rev, .int .i64 m.epoch, .int .i64 m.slot, .bool m.flag, .slice a8 n8 c8, .slice a9 n9 c9, .slice a10 n10 c10, .slice a11 n11 c11] 40)
          have hA5 := (HA4.out.below hbe HSZ4.out).step (w' := w5) (v' := v2) (m := m) (s := (.slice a8 n8 c8, .slice a9 n9 c9, .slice a10 n10 c10, .slice a11 n11 c11)) (Nat.le_trans HSZ4.out hbe.size) (HMB.out _ (HB4.out.trans (hbe.mono HSZ4.out))) (fun l hl => by rw [row_one hl (HROW.out.alloc _)]; exact hown5) hgrow5
          have hL5 := (HL4.out.keep hbe).grown (HROW.out.alloc _) hgrow5
          obtain ⟨ra5, rc5, rfl, _, _⟩ := owned_some hown5
          rw [show ams.length + 1 = (ams ++ [m]).length by simp] at hA5 ⊢
          have HSTP := Lib.hid (StP.snoc hL5 hA5.1 ((HB4.out.trans (hbe.mono HSZ4.out)).trans hA5.2) HST.out.2.2.2.1 HST.out.2.2.2.2.1 HST.out.2.2.2.2.2 HF4.out)
          clear hown5 hgrow5 hat5 hbe hA5 hL5 j0 j1 j2 j3 j4 j5 j6 j7 j8 j9 j10 j11
          obtain ⟨AM, hAM⟩ : ∃ AM, AM = ams ++ [m] := ⟨_, rfl⟩
          rw [← hAM] at HSTP ⊢
          clear hAM
          have HSY := Lib.hid (lsync_any w.heap.size gl g v4 (cat AM) d 100000 AM.length w5 HSTP.out.1)
          go_wp2_with fail
          refine HSY.out.mono ?_
          rintro e w6 ⟨rfl, hl6, hk6⟩
          have HS6 := Lib.hid (show StP w w6 gl g v4 AM (cat AM).length AM.length (.slice ra5 AM.length rc5) from ⟨hl6, HSTP.out.2.1.kept HSTP.out.1 hk6 (Nat.le_refl _) HSTP.out.2.2.1.size, HSTP.out.2.2.1.trans (Lg.below HSTP.out.1 hk6 HSTP.out.2.2.1.size), Nat.le_refl _, by rw [List.take_length], HSTP.out.2.2.2.2.2⟩)
          clear hl6 hk6
          go_wp2_with fail
          exact ⟨⟨i + 1, AM.length, AM, v4, (cat AM).length, ra5, rc5, by omega, by go_num, rfl, rfl, HS6.out⟩, by simp [intOf]; omega⟩
        · have hde : ((i : Int) == durable) = false := by simpa using hdu
          clear hdu
          go_wp2_with (at_builtin; refine wpList_append_at_any _ rfl _ _ 30 rfl w.heap.size 40 i0 (.agg MsgZ) 12 160 Try.underlying30 hi hz0 hz1 hz2 rfl (by decide) _ ams.length _ rfl (HROW.out.alloc _) (some ⟨w4.heap.size, 0, none⟩) 1 1 [.int .i64 m.kind, .int .i64 m.from_, .int .i64 m.«to», .int .i64 m.id, .int .i64 m.rev, .int .i64 m.epoch, .int .i64 m.slot, .bool m.flag, .slice a8 n8 c8, .slice a9 n9 c9, .slice a10 n10 c10, .slice a11 n11 c11] rfl rfl (by intro h; cases h) (by rintro ad he; injection he with he; subst he; exact cells_new _ [.int .i64 m.kind, .int .i64 m.from_, .int .i64 m.«to», .int .i64 m.id, .int .i64 m.rev, .int .i64 m.epoch, .int .i64 m.slot, .bool m.flag, .slice a8 n8 c8, .slice a9 n9 c9, .slice a10 n10 c10, .slice a11 n11 c11] _) (by intro q hq; simp at hq; rcases hq with rfl | rfl | rfl | rfl | rfl | rfl | rfl | rfl | rfl | rfl | rfl | rfl <;> rfl) (by unfold maxLen; omega) (by omega) (by have := HSZ4.out; simp; omega) ?_; intro v2 w5 hown5 hgrow5 hat5)
          have hbe := below_alloc w4 (.cells #[.int .i64 m.kind, .int .i64 m.from_, .int .i64 m.«to», .int .i64 m.id, .int .i64 m.rev, .int .i64 m.epoch, .int .i64 m.slot, .bool m.flag, .slice a8 n8 c8, .slice a9 n9 c9, .slice a10 n10 c10, .slice a11 n11 c11] 40)
          have hA5 := (HA4.out.below hbe HSZ4.out).step (w' := w5) (v' := v2) (m := m) (s := (.slice a8 n8 c8, .slice a9 n9 c9, .slice a10 n10 c10, .slice a11 n11 c11)) (Nat.le_trans HSZ4.out hbe.size) (HMB.out _ (HB4.out.trans (hbe.mono HSZ4.out))) (fun l hl => by rw [row_one hl (HROW.out.alloc _)]; exact hown5) hgrow5
          have hL5 := (HL4.out.keep hbe).grown (HROW.out.alloc _) hgrow5
          obtain ⟨ra5, rc5, rfl, _, _⟩ := owned_some hown5
          rw [show ams.length + 1 = (ams ++ [m]).length by simp] at hA5 ⊢
          have HSTP := Lib.hid (StP.snoc hL5 hA5.1 ((HB4.out.trans (hbe.mono HSZ4.out)).trans hA5.2) HST.out.2.2.2.1 HST.out.2.2.2.2.1 HST.out.2.2.2.2.2 HF4.out)
          clear hown5 hgrow5 hat5 hbe hA5 hL5 j0 j1 j2 j3 j4 j5 j6 j7 j8 j9 j10 j11
          obtain ⟨AM, hAM⟩ : ∃ AM, AM = ams ++ [m] := ⟨_, rfl⟩
          rw [← hAM] at HSTP ⊢
          clear hAM
          exact ⟨⟨i + 1, sure, AM, v4, d, ra5, rc5, by omega, by go_num, rfl, rfl, HSTP.out⟩, by simp [intOf]; omega⟩
      · have hce : (c4 == 0) = false := by
          rcases hc4 with ⟨rfl, _⟩ | ⟨rfl, _⟩ <;> decide
        have HSTP := Lib.hid (show StP w w4 gl g v ams d sure (.slice ra ams.length rc) from ⟨hl4, HAX.out.below hb4 HBX.out.size, HBX.out.trans (hb4.mono HBX.out.size), HST.out.2.2.2.1, HST.out.2.2.2.2.1, HST.out.2.2.2.2.2⟩)
        clear hc4 hl4 hb4 k0 k1 k2 k3 k4 k5 k6 k7 k8 k9 k10 k11
        by_cases hdu : (i : Int) = durable
        · have hde : ((i : Int) == durable) = true := by simpa using hdu
          clear hdu
          have HSY := Lib.hid (lsync_any w.heap.size gl g v (cat ams) d 100000 ams.length w4 HSTP.out.1)
          go_wp2_with fail
          refine HSY.out.mono ?_
          rintro e w6 ⟨rfl, hl6, hk6⟩
          have HS6 := Lib.hid (show StP w w6 gl g v ams (cat ams).length ams.length (.slice ra ams.length rc) from ⟨hl6, HSTP.out.2.1.kept HSTP.out.1 hk6 (Nat.le_refl _) HSTP.out.2.2.1.size, HSTP.out.2.2.1.trans (Lg.below HSTP.out.1 hk6 HSTP.out.2.2.1.size), Nat.le_refl _, by rw [List.take_length], HSTP.out.2.2.2.2.2⟩)
          clear hl6 hk6
          go_wp2_with fail
          exact ⟨⟨i + 1, ams.length, ams, v, (cat ams).length, ra, rc, by omega, by go_num, rfl, rfl, HS6.out⟩, by simp [intOf]; omega⟩
        · have hde : ((i : Int) == durable) = false := by simpa using hdu
          clear hdu
          go_wp2_with fail
          exact ⟨⟨i + 1, sure, ams, v, d, ra, rc, by omega, by go_num, rfl, rfl, HSTP.out⟩, by simp [intOf]; omega⟩
    · obtain rfl : i = n := by omega
      have HCR := Lib.hid (Dk.crash_any keep wr HST.out.1.disk (by have := HKP.out; omega))
      have hcap := HST.out.2.1.cap
      have hsm : ams.length * 20 ≤ 100000 := HST.out.1.small.1
      go_wp2_with fail
      refine HCR.out.mono ?_
      rintro e w7 ⟨rfl, v7, hd7, ht7, ho7⟩
      have hld : d ≤ Dk.left (cat ams).length d keep := by unfold Dk.left; omega
      obtain ⟨L, hL⟩ : ∃ L, L = Dk.left (cat ams).length d keep := ⟨_, rfl⟩
      rw [← hL] at hd7 hld
      have HL7 := Lib.hid (HST.out.1.ofTurned ht7 hd7)
      have HA7 := Lib.hid (HST.out.2.1.kept HST.out.1 (Kept.ofTurned ht7 (.inr rfl)) (Nat.le_refl _) HST.out.2.2.1.size)
      have HB7 := Lib.hid (HST.out.2.2.1.trans (Lg.turned0 HST.out.1 ht7 HST.out.2.2.1.size))
      have HO7 := Lib.hid (lopen_cut w.heap.size g v7 ams L L 100000 w7 hd7 HST.out.2.2.2.2.2)
      have hc1 := cnt_le ams L
      have hc2 := le_cnt ams L sure HST.out.2.2.2.1 (by rw [← HST.out.2.2.2.2.1]; exact hld)
      obtain ⟨P, hP⟩ : ∃ P, P = ams.take (cnt ams L) := ⟨_, rfl⟩
      have hPl : P.length = cnt ams L := by rw [hP, List.length_take]; omega
      have hPe : P = ams.take P.length := by rw [hPl]; exact hP
      have hfP : ∀ m ∈ P, m.fine := fun m hm => HST.out.2.2.2.2.2 m (List.mem_of_mem_take (by rw [← hP]; exact hm))
      rw [← hPl] at hc1 hc2
      rw [← hP] at HO7
      have HPE := Lib.hid hPe
      have HFP := Lib.hid hfP
      clear hd7 ht7 ho7 hld hL hP hPl hPe hfP
      go_wp2_with fail
      refine HO7.out.mono ?_
      rintro e w8 ⟨gl8, ra8, rc8, v8, rfl, hr8, hm8, hgl8, hl8, ho8, _, hin8, ht8⟩
      have HA8 := Lib.hid (HA7.out.kept HL7.out (Kept.ofTurned ht8 (.inr rfl)) (Nat.le_refl _) HB7.out.size)
      have HB8 := Lib.hid (HB7.out.trans (HL7.out.turned0 ht8 HB7.out.size))
      have HL8 := Lib.hid hl8
      have HSM := Lib.hid (same_msgs ra8 P.length rc8 P ra P.length rc (ams.take P.length) w8 hin8 ((HA8.out.msgs HB8.out.size).head P.length hc1) (by omega) (by omega))
      have hst := fun w => slice_headM ra ams.length rc P.length (by omega) w
      have hcm1 : decide (P.length < sure) = false := by simp; omega
      have hcm2 : decide (ams.length < P.length) = false := by simp; omega
      obtain ⟨N, hN⟩ : ∃ N, N = P.length := ⟨_, rfl⟩
      have HN := Lib.hid hN
      rw [← hN] at hst hcm1 hcm2 HSM hc1 hc2 hr8 ⊢
      clear hl8 hin8 ht8 ho8 hgl8 HCR HO7 hN
      go_wp2_with fail
      refine HSM.out.mono ?_
      rintro e w9 ⟨r9, rfl, hr9, hb9⟩
      obtain rfl : r9 = true := hr9.2 (by rw [HN.out]; exact HPE.out)
      have hl9 : Ls w9 w.heap.size gl8 g v8 P (cat P).length 100000 := Lg.keep HL8.out hb9
      have HL9 := Lib.hid hl9
      have hcn := count_any w.heap.size gl8 g v8 (cat P) (cat P).length 100000 P.length w9 hl9
      rw [← HN.out] at hcn
      have HC9 := Lib.hid hcn
      have HB9 := Lib.hid (HB8.out.trans (hb9.mono HB8.out.size))
      have HW9 := Lib.hid (lwrite_any w.heap.size gl8 g v8 P (cat P).length 100000 _ (kindD 99) w9 hl9 (kind_in w9 in99))
      clear hb9 hl9 hr9 hst hcm1 hcm2 hcn
      go_wp2_with fail
      refine HC9.out.mono ?_
      rintro e w10 ⟨rfl, rfl⟩
      have hnn : ((N : Int) != (N : Int)) = false := by simp
      go_wp2_with fail
      refine HW9.out.mono ?_
      rintro e w10 ⟨c10, rfl, ⟨rfl, hg10, hf10, v10, hl10, hk10, ho10⟩ | ⟨hc10, hl10, hb10⟩⟩
      · have HB10 := Lib.hid (HB9.out.trans (HL9.out.below hk10 HB9.out.size))
        have HO10 := Lib.hid (lopen_cat w.heap.size g v10 (P ++ [kindD 99]) _ 100000 w10 hl10.disk (by
          intro m hm
          rcases List.mem_append.1 hm with hm | hm
          · exact HFP.out m hm
          · obtain rfl : m = kindD 99 := by simpa using hm
            exact kind_fine in99))
        clear hg10 hf10 hl10 hk10 ho10
        go_wp2_with fail
        refine HO10.out.mono ?_
        rintro e w11 ⟨gl11, ra11, rc11, v11, rfl, hr11, hm11, _, hl11, _, _, hin11, ht11⟩
        have HB11 := Lib.hid (HB10.out.trans (ht11.below HGW.out (by simp) HB10.out.size))
        have hlen : (P ++ [kindD 99]).length = N + 1 := by rw [HN.out]; simp
        rw [hlen] at hin11 hr11 ⊢
        obtain ⟨b11, o11, rfl, _, hc11⟩ := hin11.2.resolve_left (by omega)
        obtain ⟨s8, s9, s10, s11, hbx, _⟩ := hc11 N (kindD 99) (by rw [HN.out]; simp)
        have k0 : w11.cell? ⟨b11, o11 + N * 12, none⟩ = some (.int .i64 99) := hbx.1
        have hw1 : IntKind.i64.wrap ((N : Int) + 1) = (N : Int) + 1 := IntWalk.i64_in _ (by omega)
        have e1 : (((N + 1 : Nat) : Int) == (N : Int) + 1) = true := by simp
        have e2 : ((N : Int) + 1 == (N : Int) + 1) = true := by simp
        have hnn2 : (0:Int) ≤ (N:Int) ∧ (N:Int) < (N:Int) + 1 := by omega
        clear hl11 hin11 ht11 hc11 hbx hlen
        go_wp2
        go_ret
        exact ⟨rfl, HB11.out⟩
      · obtain rfl : c10 = 3 := by
          rcases hc10 with ⟨h, _⟩ | ⟨_, h⟩
          · exact h
          · exact absurd (kind_good in99) h
        have HB10 := Lib.hid (HB9.out.trans (hb10.mono HB9.out.size))
        have HO10 := Lib.hid (lopen_cat w.heap.size g v8 P _ 100000 w10 hl10.disk HFP.out)
        clear hc10 hl10 hb10
        go_wp2_with fail
        refine HO10.out.mono ?_
        rintro e w11 ⟨gl11, ra11, rc11, v11, rfl, hr11, hm11, _, hl11, _, _, hin11, ht11⟩
        have HB11 := Lib.hid (HB10.out.trans (ht11.below HGW.out (by simp) HB10.out.size))
        rw [← HN.out]
        have e2 : ((N : Int) == (N : Int)) = true := by simp
        clear hl11 hin11 ht11
        go_wp2
        go_ret
        exact ⟨rfl, HB11.out⟩
end Go.Proofs.Ytjilhmidgebfbaa
