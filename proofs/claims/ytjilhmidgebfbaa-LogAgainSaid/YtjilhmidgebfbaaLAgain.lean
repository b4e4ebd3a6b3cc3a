/- LogAgain: a log opened twice is the same twice; records that are too long, or for which there is no room, leave it as it was. -/
import Derived.Test.YtjilhmidgebfbaaL9
namespace Go.Proofs.Ytjilhmidgebfbaa
open Go.RowKit

theorem AllAt.capA {w : World} {B n c : Nat} {a : Option Addr} {ms : List MsgD} (h : AllAt w B (.slice a n c) ms) : n ≤ c ∧ c ≤ maxLen := by
  obtain ⟨a', c', e, h1, h2⟩ := h.slice
  injection e with e1 e2 e3
  subst e1 e2 e3
  exact ⟨h1, h2⟩
theorem fine_snoc {ams : List MsgD} {m : MsgD} (h : ∀ m ∈ ams, m.fine) (hm : m.fine) : ∀ x ∈ ams ++ [m], x.fine := by
  intro x hx
  rcases List.mem_append.1 hx with hx | hx
  · exact h x hx
  · obtain rfl : x = m := by simpa using hx
    exact hm
set_option maxRecDepth 100000 in
theorem wrong_any (r : Int) (w : World) (h : r < 0 ∨ 1048576 < r) : Calls Try.prog 11 #[.int .i64 r] w fun e w' => e = .returned (.int .i64 1) ∧ w = w' := by
  rcases h with h | h
  · go_enter Try.func11, Try.ntmps11
    go_wp2
    go_ret
    exact ⟨rfl, rfl⟩
  · have h0 : ¬ r < 0 := by omega
    have hd : decide (r < 0) = false := by simpa using h0
    go_enter Try.func11, Try.ntmps11
    go_wp2
    go_ret
    exact ⟨rfl, rfl⟩
/-- How far the law's loop has come. -/
def StA (w wr : World) (gl g : Nat) (v : Value) (ams : List MsgD) (r : Nat) (av : Value) : Prop :=
  Ls wr w.heap.size gl g v ams (cat ams).length r ∧ AllAt wr w.heap.size av ams ∧ Below w.heap.size w wr ∧ ∀ m ∈ ams, m.fine

set_option maxRecDepth 100000 in
set_option maxHeartbeats 8000000 in
theorem again_walk (a : Option Addr) (n c : Nat) (ms : List MsgD) (room : Int) (w : World) (hx : MsgsIn w a n ms) (hn : n ≤ 9223372036854775807) :
    Calls Try.prog 5 #[.slice a n c, .int .i64 room] w fun e w' => e = .returned (.bool true) ∧ Below w.heap.size w w' := by
  obtain ⟨i0, hi, hz0, hz1, hz2⟩ := info_parts Try.infoG
  have HX := Lib.hid hx
  clear hx
  go_enter Try.func5, Try.ntmps5
  go_wp2_with fail
  refine (lawake_any _).mono ?_
  rintro e w1 ⟨rfl, hb1⟩
  have HB1 := Lib.hid hb1
  clear hb1
  by_cases hroom : room < 0 ∨ 1048576 < room
  · have HN := Lib.hid (Dk.new_bad room w1 hroom)
    have HW := Lib.hid (wrong_any room w1 hroom)
    clear hroom
    go_wp2_with fail
    refine HN.out.mono ?_
    rintro e w2 ⟨rfl, rfl⟩
    go_wp2_with fail
    refine HW.out.mono ?_
    rintro e w2 ⟨rfl, rfl⟩
    go_wp2
    go_ret
    exact ⟨rfl, HB1.out⟩
  obtain ⟨r, rfl⟩ : ∃ r : Nat, room = (r : Int) := ⟨room.toNat, by omega⟩
  have hr : r ≤ 1048576 := by omega
  have HN := Lib.hid (Dk.new_good w.heap.size r w1 hr HB1.out.size)
  clear hroom
  go_wp2_with fail
  refine HN.out.mono ?_
  rintro e w2 ⟨rfl, hd2, hb2⟩
  have HB2 := Lib.hid (HB1.out.trans (hb2.mono HB1.out.size))
  have HGW := Lib.hid (show w.heap.size ≤ w1.heap.size from HB1.out.size)
  clear hb2
  generalize w1.heap.size = g at *
  have HO := Lib.hid (lopen_cat w.heap.size g (.slice none 0 0) [] 0 r w2 hd2 (by simp))
  clear hd2
  go_wp2_with fail
  refine HO.out.mono ?_
  rintro e w3 ⟨gl, ra0, rc0, v3, rfl, _, _, _, hl3, _, _, _, ht3⟩
  have HS3 := Lib.hid (show StA w w3 gl g v3 [] r (.slice none 0 0) from ⟨hl3, AllAt.nil _ _, HB2.out.trans (ht3.below HGW.out (by simp) HB2.out.size), by simp⟩)
  clear hl3 ht3 HN HO
  go_wp2_with fail
  go_loopw [9, 38] (fun av iv wr => ∃ (i : Nat) (ams : List MsgD) (v : Value) (ra : Option Addr) (rc : Nat), i ≤ n ∧ iv = .int .i64 i ∧ av = .slice ra ams.length rc ∧ StA w wr gl g v ams r (.slice ra ams.length rc)) (fun _ iv _ => n - (intOf iv).toNat)
  case atStart => exact ⟨0, [], v3, none, 0, by omega, rfl, rfl, HS3.out⟩
  case round =>
    obtain ⟨i, ams, v, ra, rc, hin, rfl, rfl, hst⟩ := hrel
    have HLS := Lib.hid hst.1
    have HAL := Lib.hid hst.2.1
    have HBR := Lib.hid hst.2.2.1
    have HFI := Lib.hid hst.2.2.2
    have hsm := hst.1.small
    clear hst
    by_cases hil : i < n
    · obtain ⟨b, off, rfl, hbl, hcc⟩ := HX.out.2.resolve_left (by omega)
      obtain ⟨m, hmi⟩ := get_some HX.out.1 hil
      obtain ⟨s8, s9, s10, s11, hbx, hmin⟩ := (hcc i m hmi)
      obtain ⟨q0, q1, q2, q3, q4, q5, q6, q7, q8, q9, q10, q11⟩ := hbx
      have p0 := (HBR.out.cell (p := ⟨b, off + i * 12, none⟩) hbl).trans q0
      have p1 := (HBR.out.cell (p := ⟨b, off + i * 12 + 1, none⟩) hbl).trans q1
      have p2 := (HBR.out.cell (p := ⟨b, off + i * 12 + 2, none⟩) hbl).trans q2
      have p3 := (HBR.out.cell (p := ⟨b, off + i * 12 + 3, none⟩) hbl).trans q3
      have p4 := (HBR.out.cell (p := ⟨b, off + i * 12 + 4, none⟩) hbl).trans q4
      have p5 := (HBR.out.cell (p := ⟨b, off + i * 12 + 5, none⟩) hbl).trans q5
      have p6 := (HBR.out.cell (p := ⟨b, off + i * 12 + 6, none⟩) hbl).trans q6
      have p7 := (HBR.out.cell (p := ⟨b, off + i * 12 + 7, none⟩) hbl).trans q7
      have p8 := (HBR.out.cell (p := ⟨b, off + i * 12 + 8, none⟩) hbl).trans q8
      have p9 := (HBR.out.cell (p := ⟨b, off + i * 12 + 9, none⟩) hbl).trans q9
      have p10 := (HBR.out.cell (p := ⟨b, off + i * 12 + 10, none⟩) hbl).trans q10
      have p11 := (HBR.out.cell (p := ⟨b, off + i * 12 + 11, none⟩) hbl).trans q11
      have hmb : MsgB w w.heap.size (.agg #[.int .i64 m.kind, .int .i64 m.from_, .int .i64 m.«to», .int .i64 m.id, .int .i64 m.rev, .int .i64 m.epoch, .int .i64 m.slot, .bool m.flag, s8, s9, s10, s11]) m := hmin
      have hmB : ∀ w', Below w.heap.size w w' → MsgB w' w.heap.size (.agg #[.int .i64 m.kind, .int .i64 m.from_, .int .i64 m.«to», .int .i64 m.id, .int .i64 m.rev, .int .i64 m.epoch, .int .i64 m.slot, .bool m.flag, s8, s9, s10, s11]) m := fun w' hb => hmb.below hb
      have HMB := Lib.hid hmB
      have HIN := Lib.hid (show m.in64 from (by obtain ⟨_, _, _, _, _, _, _, _, _, _, _, _, h⟩ := hmin; exact h.in64))
      have hshape : ∃ a8 n8 c8 a9 n9 c9 a10 n10 c10 a11 n11 c11, s8 = .slice a8 n8 c8 ∧ s9 = .slice a9 n9 c9 ∧ s10 = .slice a10 n10 c10 ∧ s11 = .slice a11 n11 c11 := by
        obtain ⟨na, ma, pa, ra, nn, nc, mn, mc, pn, pc, rn, rc, h⟩ := hmin
        have hv := h.val
        injection hv with hv
        injection hv with hv
        simp only [List.cons.injEq, and_true] at hv
        obtain ⟨_, _, _, _, _, _, _, _, rfl, rfl, rfl, rfl⟩ := hv
        exact ⟨_, _, _, _, _, _, _, _, _, _, _, _, rfl, rfl, rfl, rfl⟩
      obtain ⟨a8, n8, c8, a9, n9, c9, a10, n10, c10, a11, n11, c11, rfl, rfl, rfl, rfl⟩ := hshape
      clear hcc hmi hmin hmb hmB q0 q1 q2 q3 q4 q5 q6 q7 q8 q9 q10 q11
      obtain ⟨X, hX, hwx, hbx⟩ := alloc_box wr #[.int .i64 m.kind, .int .i64 m.from_, .int .i64 m.«to», .int .i64 m.id, .int .i64 m.rev, .int .i64 m.epoch, .int .i64 m.slot, .bool m.flag, .slice a8 n8 c8, .slice a9 n9 c9, .slice a10 n10 c10, .slice a11 n11 c11]
      have hbX : Below w.heap.size w X := HBR.out.trans (hbx.mono HBR.out.size)
      have HLX := Lib.hid (HLS.out.keep hbx)
      have HAX := Lib.hid (HAL.out.below hbx HBR.out.size)
      have HBX := Lib.hid hbX
      have HWX := Lib.hid hwx
      have hij : (0:Int) ≤ (i:Int) ∧ (i:Int) < (n:Int) := by omega
      go_upto_region 11 with fail
      rw [← hX]
      have k0 := hwx.cell 0
      have k1 := hwx.cell 1
      have k2 := hwx.cell 2
      have k3 := hwx.cell 3
      have k4 := hwx.cell 4
      have k5 := hwx.cell 5
      have k6 := hwx.cell 6
      have k7 := hwx.cell 7
      have k8 := hwx.cell 8
      have k9 := hwx.cell 9
      have k10 := hwx.cell 10
      have k11 := hwx.cell 11
      clear hX hwx hbx hbX p0 p1 p2 p3 p4 p5 p6 p7 p8 p9 p10 p11
      have HSI := Lib.hid (Dk.size_any X HLX.out.disk)
      have HWR := Lib.hid (lwrite_any w.heap.size gl g v ams (cat ams).length r _ m X HLX.out ((HMB.out X HBX.out).msg HBX.out.size))
      obtain ⟨T, hT⟩ : ∃ T, T = (cat ams).length := ⟨_, rfl⟩
      have HT := Lib.hid hT
      rw [← hT] at HSI
      clear hT
      go_wp2_with fail
      refine HSI.out.mono ?_
      rintro e w4 ⟨rfl, rfl⟩
      go_wp2_with fail
      refine HWR.out.mono ?_
      rintro e w4 ⟨c4, rfl, ⟨rfl, hg4, hf4, v4, hl4, hk4, ho4⟩ | ⟨hc4, hl4, hb4⟩⟩
      · have hwx4 := HWX.out.past HLX.out hk4 (by decide) (by decide) (by decide)
        have ha4 := HAX.out.kept HLX.out hk4 (Nat.le_refl _) HBX.out.size
        have hb4 := HBX.out.trans (HLX.out.below hk4 HBX.out.size)
        obtain ⟨ss, hss, hrow, hall⟩ := ha4
        have HROW := Lib.hid hrow
        have HA4 := Lib.hid (show AllAt w4 w.heap.size (.slice ra ams.length rc) ams from ⟨ss, hss, hrow, hall⟩)
        have HB4 := Lib.hid hb4
        have HL4 := Lib.hid hl4
        have HF4 := Lib.hid (show m.fine from ⟨hg4, HIN.out⟩)
        have HSZ4 := Lib.hid hb4.size
        have j0 := hwx4.cell 0
        have j1 := hwx4.cell 1
        have j2 := hwx4.cell 2
        have j3 := hwx4.cell 3
        have j4 := hwx4.cell 4
        have j5 := hwx4.cell 5
        have j6 := hwx4.cell 6
        have j7 := hwx4.cell 7
        have j8 := hwx4.cell 8
        have j9 := hwx4.cell 9
        have j10 := hwx4.cell 10
        have j11 := hwx4.cell 11
        clear hwx4 hb4 hrow hall hss hl4 hk4 ho4 hg4 hf4 k0 k1 k2 k3 k4 k5 k6 k7 k8 k9 k10 k11
        go_wp2_with (at_builtin; refine wpList_append_at_any _ rfl _ _ 30 rfl w.heap.size 40 i0 (.agg MsgZ) 12 160 Try.underlying30 hi hz0 hz1 hz2 rfl (by decide) _ ams.length _ rfl (HROW.out.alloc _) (some ⟨w4.heap.size, 0, none⟩) 1 1 [.int .i64 m.kind, .int .i64 m.from_, .int .i64 m.«to», .int .i64 m.id, .int .i64 m.rev, .int .i64 m.epoch, .int .i64 m.slot, .bool m.flag, .slice a8 n8 c8, .slice a9 n9 c9, .slice a10 n10 c10, .slice a11 n11 c11] rfl rfl (by intro h; cases h) (by rintro ad he; injection he with he; subst he; exact cells_new _ [.int .i64 m.kind, .int .i64 m.from_, .int .i64 m.«to», .int .i64 m.id, .int .i64 m.rev, .int .i64 m.epoch, .int .i64 m.slot, .bool m.flag, .slice a8 n8 c8, .slice a9 n9 c9, .slice a10 n10 c10, .slice a11 n11 c11] _) (by intro q hq; simp at hq; rcases hq with rfl | rfl | rfl | rfl | rfl | rfl | rfl | rfl | rfl | rfl | rfl | rfl <;> rfl) (by unfold maxLen; omega) (by omega) (by have := HSZ4.out; simp; omega) ?_; intro v2 w5 hown5 hgrow5 hat5)
        have hbe := below_alloc w4 (.cells #[.int .i64 m.kind, .int .i64 m.from_, .int .i64 m.«to», .int .i64 m.id, .int .i64 m.rev, .int .i64 m.epoch, .int .i64 m.slot, .bool m.flag, .slice a8 n8 c8, .slice a9 n9 c9, .slice a10 n10 c10, .slice a11 n11 c11] 40)
        have hA5 := (HA4.out.below hbe HSZ4.out).step (w' := w5) (v' := v2) (m := m) (s := (.slice a8 n8 c8, .slice a9 n9 c9, .slice a10 n10 c10, .slice a11 n11 c11)) (Nat.le_trans HSZ4.out hbe.size) (HMB.out _ (HB4.out.trans (hbe.mono HSZ4.out))) (fun l hl => by rw [row_one hl (HROW.out.alloc _)]; exact hown5) hgrow5
        have HL5 := Lib.hid ((HL4.out.keep hbe).grown (HROW.out.alloc _) hgrow5)
        obtain ⟨ra5, rc5, rfl, _, _⟩ := owned_some hown5
        rw [show ams.length + 1 = (ams ++ [m]).length by simp] at hA5 ⊢
        have HA5 := Lib.hid hA5.1
        have HB5 := Lib.hid ((HB4.out.trans (hbe.mono HSZ4.out)).trans hA5.2)
        clear hown5 hgrow5 hat5 hbe hA5 j0 j1 j2 j3 j4 j5 j6 j7 j8 j9 j10 j11
        exact ⟨⟨i + 1, ams ++ [m], v4, ra5, rc5, by omega, by go_num, rfl, Ls.snoc (by have := HL5.out; simpa [cat_snoc] using this), HA5.out, HB5.out, fine_snoc HFI.out HF4.out⟩, by simp [intOf]; omega⟩
      · have hsz4 := Dk.size_any w4 hl4.disk
        rw [← HT.out] at hsz4
        have HSZ4 := Lib.hid hsz4
        have hnn : ((T : Int) != (T : Int)) = false := by simp
        have HST4 := Lib.hid (show StA w w4 gl g v ams r (.slice ra ams.length rc) from ⟨hl4, HAX.out.below hb4 HBX.out.size, HBX.out.trans (hb4.mono HBX.out.size), HFI.out⟩)
        have hcc : c4 = 3 ∨ c4 = 2 := by
          rcases hc4 with ⟨h, _⟩ | ⟨h, _⟩
          · exact .inl h
          · exact .inr h
        clear hc4 hl4 hb4 hsz4 k0 k1 k2 k3 k4 k5 k6 k7 k8 k9 k10 k11
        rcases hcc with rfl | rfl
        all_goals
          go_wp2_with fail
          refine HSZ4.out.mono ?_
          rintro e w5 ⟨rfl, rfl⟩
          go_wp2_with fail
          exact ⟨⟨i + 1, ams, v, ra, rc, by omega, by go_num, rfl, HST4.out⟩, by simp [intOf]; omega⟩
    · obtain rfl : i = n := by omega
      have HO7 := Lib.hid (lopen_cat w.heap.size g v ams _ r wr HLS.out.disk HFI.out)
      have hcap := HAL.out.capA
      go_wp2_with fail
      refine HO7.out.mono ?_
      rintro e w7 ⟨gl7, ra7, rc7, v7, rfl, hr7, hm7, hgl7, hl7, ho7, hro7, hin7, ht7⟩
      have HB7 := Lib.hid (HBR.out.trans (HLS.out.turned0 ht7 HBR.out.size))
      have HA7 := Lib.hid (HAL.out.kept HLS.out (Kept.ofTurned ht7 (.inr rfl)) (Nat.le_refl _) HBR.out.size)
      have HL7 := Lib.hid hl7
      have HR7 := Lib.hid hro7
      have HSI := Lib.hid (Dk.size_any w7 hl7.disk)
      have HO8 := Lib.hid (lopen_cat w.heap.size g v7 ams _ r w7 hl7.disk HFI.out)
      clear hgl7 hl7 ho7 hro7 hin7 ht7
      go_wp2_with fail
      refine HSI.out.mono ?_
      rintro e w8 ⟨rfl, rfl⟩
      go_wp2_with fail
      refine HO8.out.mono ?_
      rintro e w8 ⟨gl8, ra8, rc8, v8, rfl, hr8, hm8, hgl8, hl8, ho8, hro8, hin8, ht8⟩
      have HB8 := Lib.hid (HB7.out.trans (HL7.out.turned0 ht8 HB7.out.size))
      have ha8 := (HA7.out.kept HL7.out (Kept.ofTurned ht8 (.inr rfl)) (Nat.le_refl _) HB7.out.size).msgs HB8.out.size
      have hr8' := rows_msgs (HL7.out.rows (Kept.ofTurned ht8 (.inr rfl)) HR7.out)
      rw [map_unR] at hr8'
      have HSA := Lib.hid (same_msgs ra7 ams.length rc7 ams ra ams.length rc ams w8 hr8' ha8 (by omega) (by omega))
      have HA8 := Lib.hid ha8
      have HI8 := Lib.hid hin8
      have HL8 := Lib.hid hl8
      clear hgl8 hl8 ho8 hro8 hin8 ht8 ha8 hr8'
      go_wp2_with fail
      refine HSA.out.mono ?_
      rintro e w9 ⟨r9, rfl, hr9, hb9⟩
      obtain rfl : r9 = true := hr9.2 rfl
      have HSB := Lib.hid (same_msgs ra8 ams.length rc8 ams ra ams.length rc ams w9 (HI8.out.below hb9) (HA8.out.below hb9) (by omega) (by omega))
      have HL9 := Lib.hid (show Ls w9 w.heap.size gl8 g v8 ams _ r from Lg.keep HL8.out hb9)
      have HB9 := Lib.hid (HB8.out.trans (hb9.mono HB8.out.size))
      clear hb9 hr9
      go_wp2_with fail
      refine HSB.out.mono ?_
      rintro e w10 ⟨r10, rfl, hr10, hb10⟩
      obtain rfl : r10 = true := hr10.2 rfl
      have hl10 : Ls w10 w.heap.size gl8 g v8 ams (cat ams).length r := Lg.keep HL9.out hb10
      have HS10 := Lib.hid (Dk.size_any w10 hl10.disk)
      have HD10 := Lib.hid (Dk.durable_any w10 hl10.disk)
      have HB10 := Lib.hid (HB9.out.trans (hb10.mono HB9.out.size))
      clear hb10 hr10 hl10
      go_wp2_with fail
      refine HS10.out.mono ?_
      rintro e w11 ⟨rfl, rfl⟩
      have hnn : (((cat ams).length : Int) == ((cat ams).length : Int)) = true := by simp
      go_wp2_with fail
      refine HD10.out.mono ?_
      rintro e w11 ⟨rfl, rfl⟩
      go_wp2
      go_ret
      exact ⟨rfl, HB10.out⟩
end Go.Proofs.Ytjilhmidgebfbaa
