/- LogTwo: records written by a log and then by one that was opened behind it stand one behind the other. -/
import Derived.Test.YtjilhmidgebfbaaL9
namespace Go.Proofs.Ytjilhmidgebfbaa
open Go.RowKit

theorem fine_snocT {ams : List MsgD} {m : MsgD} (h : ∀ m ∈ ams, m.fine) (hm : m.fine) : ∀ x ∈ ams ++ [m], x.fine := by
  intro x hx
  rcases List.mem_append.1 hx with hx | hx
  · exact h x hx
  · obtain rfl : x = m := by simpa using hx
    exact hm
theorem row_whole_ne {w : World} {base k s q : Nat} {u : Value} {e t : TypeId} {l : List Value} {cs : Array Value} (hu : w.ownsRow base e s u k l) (hq : Whole w q t cs) (ht : e ≠ t) {j : Nat} (hj : u.ownBlock = some j) : j ≠ q := by
  rintro rfl
  rcases hu.2 with ⟨rfl, _⟩ | ⟨b, cap, cur, rfl, _, h4, _⟩
  · cases hj
  · have e1 : b = j := by simpa [Value.ownBlock] using hj
    subst e1
    unfold Whole at hq
    rw [hq] at h4
    injection h4 with h4
    injection h4 with _ h4
    exact ht h4.symm
theorem AllAt.turned {w w' : World} {B g d r : Nat} {u v : Value} {xs : List Int} {ms : List MsgD} (h : AllAt w B v ms) (hd : Dk.DAt w B g u xs d r) (ht : Dk.Turned w w' g none) (hB : B ≤ w.heap.size) : AllAt w' B v ms := by
  obtain ⟨ss, h1, h2, h3⟩ := h
  refine ⟨ss, h1, owns_keep h2 fun j hj => ht.block j (h2.lt j hj).2 (row_whole_ne h2 (show Whole w g 60 _ from hd.blk) (by decide) hj) (by simp), fun q hq => (h3 q hq).below (ht.below hd.ge (by simp) hB)⟩
theorem Whole.grownE {w w' : World} {base k s q : Nat} {u : Value} {l : List Value} {e t : TypeId} {cs : Array Value} (h : Whole w q t cs) (hu : w.ownsRow base e s u k l) (ht : e ≠ t) (hg : w.grownBy w' u.ownBlock) : Whole w' q t cs :=
  h.kept (hg.block q h.lt fun e => row_whole_ne hu h ht e.symm rfl)
theorem Whole.turned {w w' : World} {B g d r q : Nat} {u : Value} {xs : List Int} {t : TypeId} {cs : Array Value} (h : Whole w q t cs) (hd : Dk.DAt w B g u xs d r) (ht : Dk.Turned w w' g none) (hn : t ≠ 60) : Whole w' q t cs := by
  refine h.kept (ht.block q h.lt ?_ (by simp))
  rintro rfl
  have h2 : Whole w q 60 _ := hd.blk
  unfold Whole at h h2
  rw [h] at h2
  injection h2 with h2
  injection h2 with _ h2
  exact hn h2
/-- How far the law's outer loop has come. -/
def StT (w wr : World) (g : Nat) (v : Value) (ams : List MsgD) (av : Value) (q : Nat) (l1 l2 : Value) : Prop :=
  Dk.DAt wr w.heap.size g v (cat ams) (cat ams).length 1048576 ∧ AllAt wr w.heap.size av ams ∧ Below w.heap.size w wr ∧ (∀ m ∈ ams, m.fine) ∧ Whole wr q 30 #[l1, l2]
/-- How far its inner loop has come. -/
def StI (w wr : World) (gl g : Nat) (v : Value) (ams : List MsgD) (d : Nat) (av : Value) (q : Nat) (l1 l2 : Value) : Prop :=
  Ls wr w.heap.size gl g v ams d 1048576 ∧ AllAt wr w.heap.size av ams ∧ Below w.heap.size w wr ∧ (∀ m ∈ ams, m.fine) ∧ Whole wr q 30 #[l1, l2]

set_option maxRecDepth 100000 in
set_option maxHeartbeats 8000000 in
theorem two_walk (a : Option Addr) (n c : Nat) (ms : List MsgD) (a2 : Option Addr) (n2 c2 : Nat) (ms2 : List MsgD) (w : World) (hx : MsgsIn w a n ms) (hx2 : MsgsIn w a2 n2 ms2) (hn : n ≤ 9223372036854775807) (hn2 : n2 ≤ 9223372036854775807) :
    Calls Try.prog 7 #[.slice a n c, .slice a2 n2 c2] w fun e w' => e = .returned (.bool true) ∧ Below w.heap.size w w' := by
  obtain ⟨i0, hi, hz0, hz1, hz2⟩ := info_parts Try.infoG
  have HX1 := Lib.hid hx
  have HX2 := Lib.hid hx2
  clear hx hx2
  go_enter Try.func7, Try.ntmps7
  go_wp2_with fail
  refine (lawake_any _).mono ?_
  rintro e w1 ⟨rfl, hb1⟩
  have HB1 := Lib.hid hb1
  have HN := Lib.hid (Dk.new_good w.heap.size 1048576 w1 (Nat.le_refl _) hb1.size)
  clear hb1
  go_wp2_with fail
  refine HN.out.mono ?_
  rintro e w2 ⟨rfl, hd2, hb2⟩
  have HB2 := Lib.hid (HB1.out.trans (hb2.mono HB1.out.size))
  have HGW := Lib.hid (show w.heap.size ≤ w1.heap.size from HB1.out.size)
  clear hb2
  generalize w1.heap.size = g at *
  have hbl := below_alloc w2 (.cells #[.slice a n c, .slice a2 n2 c2] 30)
  obtain ⟨q, hq⟩ : ∃ q, q = w2.heap.size := ⟨_, rfl⟩
  have HS3 := Lib.hid (show StT w (w2.alloc (.cells #[.slice a n c, .slice a2 n2 c2] 30)) g (.slice none 0 0) [] (.slice none 0 0) q (.slice a n c) (.slice a2 n2 c2) from ⟨hd2.below hbl, AllAt.nil _ _, HB2.out.trans (hbl.mono HB2.out.size), by simp, by rw [hq]; exact heap_alloc_new w2 _⟩)
  clear hd2 hbl HN
  go_wp2_with fail
  rw [← hq]
  clear hq
  go_loopw [7, 28] (fun av iv wr => ∃ (k : Nat) (ams : List MsgD) (v : Value) (ra : Option Addr) (rc : Nat), k ≤ 2 ∧ iv = .int .i64 k ∧ av = .slice ra ams.length rc ∧ StT w wr g v ams (.slice ra ams.length rc) q (.slice a n c) (.slice a2 n2 c2)) (fun _ iv _ => 2 - (intOf iv).toNat)
  case atStart => exact ⟨0, [], .slice none 0 0, none, 0, by omega, rfl, rfl, HS3.out⟩
  case round =>
    obtain ⟨k, ams, v, ra, rc, hk2, rfl, rfl, hst⟩ := hrel
    have HDA := Lib.hid hst.1
    have HAL := Lib.hid hst.2.1
    have HBR := Lib.hid hst.2.2.1
    have HFI := Lib.hid hst.2.2.2.1
    have HQW := Lib.hid hst.2.2.2.2
    have hsm : ams.length * 20 ≤ 1048576 := by
      have h1 := cat_len ams
      have h2 := hst.1.hr
      omega
    clear hst
    by_cases hk : k < 2
    · obtain ⟨la, ln, lc, lms, hcell, hlx, hln⟩ : ∃ la ln lc lms, wr.cell? ⟨q, k, none⟩ = some (.slice la ln lc) ∧ MsgsIn w la ln lms ∧ ln ≤ 9223372036854775807 := by
        have h := HQW.out.cell k
        rcases Nat.lt_or_ge k 1 with h0 | h0
        · obtain rfl : k = 0 := by omega
          exact ⟨a, n, c, ms, h, HX1.out, hn⟩
        · obtain rfl : k = 1 := by omega
          exact ⟨a2, n2, c2, ms2, h, HX2.out, hn2⟩
      have HX := Lib.hid hlx
      have hk3 : (0:Int) ≤ (k:Int) ∧ (k:Int) < 2 := by omega
      have HO := Lib.hid (lopen_cat w.heap.size g v ams _ 1048576 wr HDA.out HFI.out)
      clear hlx
      go_wp2_with fail
      refine HO.out.mono ?_
      rintro e w4 ⟨gl, r4, c4, v4, rfl, hr4, hm4, hgl4, hl4, ho4, _, hin4, ht4⟩
      have hb4 := HBR.out.trans (ht4.below HDA.out.ge (by simp) HBR.out.size)
      have ha4 := HAL.out.turned HDA.out ht4 HBR.out.size
      have hq4 := HQW.out.turned HDA.out ht4 (by decide)
      have HSM := Lib.hid (same_msgs r4 ams.length c4 ams ra ams.length rc ams w4 hin4 (ha4.msgs hb4.size) (by omega) (by omega))
      have HST4 := Lib.hid (show StI w w4 gl g v4 ams (cat ams).length (.slice ra ams.length rc) q (.slice a n c) (.slice a2 n2 c2) from ⟨hl4, ha4, hb4, HFI.out, hq4⟩)
      clear hgl4 hl4 ho4 hin4 ht4 hb4 ha4 hq4 HO hcell
      go_wp2_with fail
      refine HSM.out.mono ?_
      rintro e w5 ⟨r5, rfl, hr5, hb5⟩
      obtain rfl : r5 = true := hr5.2 rfl
      have HST5 := Lib.hid (show StI w w5 gl g v4 ams (cat ams).length (.slice ra ams.length rc) q (.slice a n c) (.slice a2 n2 c2) from ⟨HST4.out.1.keep hb5, HST4.out.2.1.below hb5 HST4.out.2.2.1.size, HST4.out.2.2.1.trans (hb5.mono HST4.out.2.2.1.size), HFI.out, HST4.out.2.2.2.2.kept (hb5.block _ HST4.out.2.2.2.2.lt)⟩)
      clear hb5 hr5 HSM HST4 HDA HAL HBR HFI HQW hsm
      go_wp2_with fail
      go_loopw [7, 47] (fun av iv wr => ∃ (i : Nat) (ams : List MsgD) (v : Value) (d : Nat) (ra : Option Addr) (rc : Nat), i ≤ ln ∧ iv = .int .i64 i ∧ av = .slice ra ams.length rc ∧ StI w wr gl g v ams d (.slice ra ams.length rc) q (.slice a n c) (.slice a2 n2 c2)) (fun _ iv _ => ln - (intOf iv).toNat)
      case atStart => exact ⟨0, ams, v4, _, ra, rc, by omega, rfl, rfl, HST5.out⟩
      case round =>
        clear HST5
        obtain ⟨i, ams, v, d, ra, rc, hin, rfl, rfl, hst⟩ := hrel
        have HLS := Lib.hid hst.1
        have HAL := Lib.hid hst.2.1
        have HBR := Lib.hid hst.2.2.1
        have HFI := Lib.hid hst.2.2.2.1
        have HQW := Lib.hid hst.2.2.2.2
        have hsm := hst.1.small
        clear hst
        by_cases hil : i < ln
        · obtain ⟨b, off, rfl, hbl, hcc⟩ := HX.out.2.resolve_left (by omega)
          obtain ⟨m, hmi⟩ := get_some HX.out.1 hil
          obtain ⟨s8, s9, s10, s11, hbx, hmin⟩ := (hcc i m hmi)
          obtain ⟨q0, q1, q2, q3, q4, q5, q6, q7, q8, q9, q10, q11⟩ := hbx
          have p0 := (HBR.out.cell (p := ⟨b, off + i * 12, none⟩) hbl).trans q0
          have p1 := (HBR.out.cell (p := ⟨b, off + i * 12 + 1, none⟩) hbl).trans q1
          have p2 := (HBR.out.cell (p := ⟨b, off + i * 12 + 2, none⟩) hbl).trans q2
          have p3 := (HBR.out.cell (p := ⟨b, off + i * 12 + 3, none⟩) hbl).trans q3
          have p4 := (HBR.out.cell (p := ⟨b, off + i * 12 + 4, none⟩) hbl).trans q4
          have p5 := (HBR.out.cell (p := ⟨b, off + i * 12 + 5, none⟩) hbl).trans q5
          have p6 := (HBR.out.cell (p := ⟨b, off + i * 12 + 6, none⟩) hbl).trans q6
          have p7 := (HBR.out.cell (p := ⟨b, off + i * 12 + 7, none⟩) hbl).trans q7
          have p8 := (HBR.out.cell (p := ⟨b, off + i * 12 + 8, none⟩) hbl).trans q8
          have p9 := (HBR.out.cell (p := ⟨b, off + i * 12 + 9, none⟩) hbl).trans q9
          have p10 := (HBR.out.cell (p := ⟨b, off + i * 12 + 10, none⟩) hbl).trans q10
          have p11 := (HBR.out.cell (p := ⟨b, off + i * 12 + 11, none⟩) hbl).trans q11
          have hmb : MsgB w w.heap.size (.agg #[.int .i64 m.kind, .int .i64 m.from_, .int .i64 m.«to», .int .i64 m.id, .int .i64 m.rev, .int .i64 m.epoch, .int .i64 m.slot, .bool m.flag, s8, s9, s10, s11]) m := hmin
          have hmB : ∀ w', Below w.heap.size w w' → MsgB w' w.heap.size (.agg #[.int .i64 m.kind, .int .i64 m.from_, .int .i64 m.«to», .int .i64 m.id, .int .i64 m.rev, .int .i64 m.epoch, .int .i64 m.slot, .bool m.flag, s8, s9, s10, s11]) m := fun w' hb => hmb.below hb
          have HMB := Lib.hid hmB
          have HIN := Lib.hid (show m.in64 from (by obtain ⟨_, _, _, _, _, _, _, _, _, _, _, _, h⟩ := hmin; exact h.in64))
          have hshape : ∃ a8 n8 c8 a9 n9 c9 a10 n10 c10 a11 n11 c11, s8 = .slice a8 n8 c8 ∧ s9 = .slice a9 n9 c9 ∧ s10 = .slice a10 n10 c10 ∧ s11 = .slice a11 n11 c11 := by
            obtain ⟨na, ma, pa, ra, nn, nc, mn, mc, pn, pc, rn, rc, h⟩ := hmin
            have hv := h.val
            injection hv with hv
            injection hv with hv
            simp only [List.cons.injEq, and_true] at hv
            obtain ⟨_, _, _, _, _, _, _, _, rfl, rfl, rfl, rfl⟩ := hv
            exact ⟨_, _, _, _, _, _, _, _, _, _, _, _, rfl, rfl, rfl, rfl⟩
          obtain ⟨a8, n8, c8, a9, n9, c9, a10, n10, c10, a11, n11, c11, rfl, rfl, rfl, rfl⟩ := hshape
          clear hcc hmi hmin hmb hmB q0 q1 q2 q3 q4 q5 q6 q7 q8 q9 q10 q11
          obtain ⟨X, hX, hwx, hbx⟩ := alloc_box wr #[.int .i64 m.kind, .int .i64 m.from_, .int .i64 m.«to», .int .i64 m.id, .int .i64 m.rev, .int .i64 m.epoch, .int .i64 m.slot, .bool m.flag, .slice a8 n8 c8, .slice a9 n9 c9, .slice a10 n10 c10, .slice a11 n11 c11]
          have hbX : Below w.heap.size w X := HBR.out.trans (hbx.mono HBR.out.size)
          have HLX := Lib.hid (HLS.out.keep hbx)
          have HAX := Lib.hid (HAL.out.below hbx HBR.out.size)
          have HBX := Lib.hid hbX
          have HWX := Lib.hid hwx
          have HBW0 := Lib.hid hbx
          have hij : (0:Int) ≤ (i:Int) ∧ (i:Int) < (ln:Int) := by omega
          go_upto_region 16 with fail
          rw [← hX]
          have k0 := hwx.cell 0
          have k1 := hwx.cell 1
          have k2 := hwx.cell 2
          have k3 := hwx.cell 3
          have k4 := hwx.cell 4
          have k5 := hwx.cell 5
          have k6 := hwx.cell 6
          have k7 := hwx.cell 7
          have k8 := hwx.cell 8
          have k9 := hwx.cell 9
          have k10 := hwx.cell 10
          have k11 := hwx.cell 11
          clear hX hwx hbx hbX p0 p1 p2 p3 p4 p5 p6 p7 p8 p9 p10 p11
          have HQX := Lib.hid (HQW.out.kept (HBW0.out.block _ HQW.out.lt))
          have HAD := Lib.hid (ladd_any w.heap.size gl g v ams d 1048576 _ m X HLX.out ((HMB.out X HBX.out).msg HBX.out.size))
          go_wp2_with fail
          refine HAD.out.mono ?_
          rintro e w4 ⟨c4, rfl, ⟨rfl, hg4, hf4, v4, hl4, hk4, ho4⟩ | ⟨hc4, hl4, hb4⟩⟩
          · have HQ4 := Lib.hid (HQX.out.past HLX.out hk4 (by decide) (by decide) (by decide))
            have hwx4 := HWX.out.past HLX.out hk4 (by decide) (by decide) (by decide)
            have ha4 := HAX.out.kept HLX.out hk4 (Nat.le_refl _) HBX.out.size
            have hb4 := HBX.out.trans (HLX.out.below hk4 HBX.out.size)
            obtain ⟨ss, hss, hrow, hall⟩ := ha4
            have HROW := Lib.hid hrow
            have HA4 := Lib.hid (show AllAt w4 w.heap.size (.slice ra ams.length rc) ams from ⟨ss, hss, hrow, hall⟩)
            have HB4 := Lib.hid hb4
            have HL4 := Lib.hid hl4
            have HF4 := Lib.hid (show m.fine from ⟨hg4, HIN.out⟩)
            have HSZ4 := Lib.hid hb4.size
            have j0 := hwx4.cell 0
            have j1 := hwx4.cell 1
            have j2 := hwx4.cell 2
            have j3 := hwx4.cell 3
            have j4 := hwx4.cell 4
            have j5 := hwx4.cell 5
            have j6 := hwx4.cell 6
            have j7 := hwx4.cell 7
            have j8 := hwx4.cell 8
            have j9 := hwx4.cell 9
            have j10 := hwx4.cell 10
            have j11 := hwx4.cell 11
            clear hwx4 hb4 hrow hall hss hl4 hk4 ho4 hg4 hf4 k0 k1 k2 k3 k4 k5 k6 k7 k8 k9 k10 k11
            go_wp2_with (at_builtin; refine wpList_append_at_any _ rfl _ _ 30 rfl w.heap.size 40 i0 (.agg MsgZ) 12 160 Try.underlying30 hi hz0 hz1 hz2 rfl (by decide) _ ams.length _ rfl (HROW.out.alloc _) (some ⟨w4.heap.size, 0, none⟩) 1 1 [.int .i64 m.kind, .int .i64 m.from_, .int .i64 m.«to», .int .i64 m.id, .int .i64 m.rev, .int .i64 m.epoch, .int .i64 m.slot, .bool m.flag, .slice a8 n8 c8, .slice a9 n9 c9, .slice a10 n10 c10, .slice a11 n11 c11] rfl rfl (by intro h; cases h) (by rintro ad he; injection he with he; subst he; exact cells_new _ [.int .i64 m.kind, .int .i64 m.from_, .int .i64 m.«to», .int .i64 m.id, .int .i64 m.rev, .int .i64 m.epoch, .int .i64 m.slot, .bool m.flag, .slice a8 n8 c8, .slice a9 n9 c9, .slice a10 n10 c10, .slice a11 n11 c11] _) (by intro q hq; simp at hq; rcases hq with rfl | rfl | rfl | rfl | rfl | rfl | rfl | rfl | rfl | rfl | rfl | rfl <;> rfl) (by unfold maxLen; omega) (by omega) (by have := HSZ4.out; simp; omega) ?_; intro v2 w5 hown5 hgrow5 hat5)
            have hbe := below_alloc w4 (.cells #[.int .i64 m.kind, .int .i64 m.from_, .int .i64 m.«to», .int .i64 m.id, .int .i64 m.rev, .int .i64 m.epoch, .int .i64 m.slot, .bool m.flag, .slice a8 n8 c8, .slice a9 n9 c9, .slice a10 n10 c10, .slice a11 n11 c11] 40)
            have hA5 := (HA4.out.below hbe HSZ4.out).step (w' := w5) (v' := v2) (m := m) (s := (.slice a8 n8 c8, .slice a9 n9 c9, .slice a10 n10 c10, .slice a11 n11 c11)) (Nat.le_trans HSZ4.out hbe.size) (HMB.out _ (HB4.out.trans (hbe.mono HSZ4.out))) (fun l hl => by rw [row_one hl (HROW.out.alloc _)]; exact hown5) hgrow5
            have HL5 := Lib.hid ((HL4.out.keep hbe).grown (HROW.out.alloc _) hgrow5)
            obtain ⟨ra5, rc5, rfl, _, _⟩ := owned_some hown5
            have HQ5 := Lib.hid (Whole.grownE (HQ4.out.kept (hbe.block _ HQ4.out.lt)) (HROW.out.alloc _) (by decide) hgrow5)
            rw [show ams.length + 1 = (ams ++ [m]).length by simp] at hA5 ⊢
            have HA5 := Lib.hid hA5.1
            have HB5 := Lib.hid ((HB4.out.trans (hbe.mono HSZ4.out)).trans hA5.2)
            clear hown5 hgrow5 hat5 hbe hA5 j0 j1 j2 j3 j4 j5 j6 j7 j8 j9 j10 j11
            exact ⟨⟨i + 1, ams ++ [m], v4, d, ra5, rc5, by omega, by go_num, rfl, Ls.snoc (by have := HL5.out; simpa [cat_snoc, Ls] using this), HA5.out, HB5.out, fine_snocT HFI.out HF4.out, HQ5.out⟩, by simp [intOf]; omega⟩
          · have hce : (c4 == 0) = false := by
              rcases hc4 with ⟨rfl, _⟩ | ⟨rfl, _⟩ <;> decide
            have HST6 := Lib.hid (show StI w w4 gl g v ams d (.slice ra ams.length rc) q (.slice a n c) (.slice a2 n2 c2) from ⟨hl4, HAX.out.below hb4 HBX.out.size, HBX.out.trans (hb4.mono HBX.out.size), HFI.out, HQX.out.kept (hb4.block _ HQX.out.lt)⟩)
            clear hc4 hl4 hb4 k0 k1 k2 k3 k4 k5 k6 k7 k8 k9 k10 k11
            go_wp2_with fail
            exact ⟨⟨i + 1, ams, v, d, ra, rc, by omega, by go_num, rfl, HST6.out⟩, by simp [intOf]; omega⟩
        · obtain rfl : i = ln := by omega
          have HSY := Lib.hid (lsync_any w.heap.size gl g v (cat ams) d 1048576 ams.length wr HLS.out)
          go_wp2_with fail
          refine HSY.out.mono ?_
          rintro e w6 ⟨rfl, hl6, hk6⟩
          have HS6 := Lib.hid (show StT w w6 g v ams (.slice ra ams.length rc) q (.slice a n c) (.slice a2 n2 c2) from ⟨hl6.disk, HAL.out.kept HLS.out hk6 (Nat.le_refl _) HBR.out.size, HBR.out.trans (HLS.out.below hk6 HBR.out.size), HFI.out, HQW.out.past HLS.out hk6 (by decide) (by decide) (by decide)⟩)
          clear hl6 hk6
          go_wp2_with fail
          exact ⟨⟨k + 1, ams, v, ra, rc, by omega, by go_num, rfl, HS6.out⟩, by simp [intOf]; omega⟩
    · obtain rfl : k = 2 := by omega
      have HO := Lib.hid (lopen_cat w.heap.size g v ams _ 1048576 wr HDA.out HFI.out)
      go_wp2_with fail
      refine HO.out.mono ?_
      rintro e w8 ⟨gl8, r8, c8, v8, rfl, hr8, hm8, hgl8, hl8, ho8, _, hin8, ht8⟩
      have HB8 := Lib.hid (HBR.out.trans (ht8.below HDA.out.ge (by simp) HBR.out.size))
      have HA8 := Lib.hid ((HAL.out.turned HDA.out ht8 HBR.out.size).msgs HB8.out.size)
      have HI8 := Lib.hid hin8
      have HL8 := Lib.hid hl8
      have HLN := Lib.hid (show ams.length ≤ 9223372036854775806 by omega)
      obtain ⟨T, hT⟩ : ∃ T, T = (cat ams).length := ⟨_, rfl⟩
      have HTT := Lib.hid hT
      have hnn : ((T : Int) == (T : Int)) = true := by simp
      have HZ := Lib.hid (fun V (h : Below w8.heap.size w8 V) => Dk.size_any V (HL8.out.keep h).disk)
      have HD := Lib.hid (fun V (h : Below w8.heap.size w8 V) => Dk.durable_any V (HL8.out.keep h).disk)
      rw [← hT] at HZ HD
      have HSS := Lib.hid (fun V (h : Below w8.heap.size w8 V) => same_msgs r8 ams.length c8 ams ra ams.length rc ams V (HI8.out.below h) (HA8.out.below h) HLN.out HLN.out)
      clear hgl8 hl8 ho8 hin8 ht8 HO hT
      go_wp2_with fail
      go_region_held3 (fun V => Below w8.heap.size w8 V) (first | exact below_drewN w8 1 | assumption | exact Below.trans (by assumption) (Below.mono (by assumption) (Below.size (by assumption)))) (first
        | (go_at_call 23; (with_reducible refine (HSS.out _ (by assumption)).mono ?_); rintro e w' ⟨r9, rfl, hr9, hb9⟩; obtain rfl : r9 = true := hr9.2 rfl; clear hr9)
        | (go_at_call 26; (with_reducible refine (HD.out _ (by assumption)).mono ?_); rintro e w' ⟨rfl, rfl⟩)
        | (go_at_call 28; (with_reducible refine (HZ.out _ (by assumption)).mono ?_); rintro e w' ⟨rfl, rfl⟩))
      have HBF := Lib.hid (HB8.out.trans (Below.mono (show Below w8.heap.size w8 w' by assumption) HB8.out.size))
      go_wp2
      go_ret
      exact ⟨rfl, HBF.out⟩
end Go.Proofs.Ytjilhmidgebfbaa
