/- LogCut: a log whose disk was cut off anywhere has just the records that lie whole ahead of the cut. -/
import Derived.Test.YtjilhmidgebfbaaL9
namespace Go.Proofs.Ytjilhmidgebfbaa
open Go.RowKit

theorem AllAt.capC {w : World} {B n c : Nat} {a : Option Addr} {ms : List MsgD} (h : AllAt w B (.slice a n c) ms) : n ≤ c ∧ c ≤ maxLen := by
  obtain ⟨a', c', e, h1, h2⟩ := h.slice
  injection e with e1 e2 e3
  subst e1 e2 e3
  exact ⟨h1, h2⟩
theorem fine_snocC {ams : List MsgD} {m : MsgD} (h : ∀ m ∈ ams, m.fine) (hm : m.fine) : ∀ x ∈ ams ++ [m], x.fine := by
  intro x hx
  rcases List.mem_append.1 hx with hx | hx
  · exact h x hx
  · obtain rfl : x = m := by simpa using hx
    exact hm
/-- Where the records end. -/
def endsL (ams : List MsgD) : List Int := (List.range ams.length).map fun i => ((cat (ams.take (i + 1))).length : Int)
theorem endsL_snoc (ams : List MsgD) (m : MsgD) : endsL (ams ++ [m]) = endsL ams ++ [((cat (ams ++ [m])).length : Int)] := by
  unfold endsL
  rw [List.length_append, List.length_singleton, List.range_succ, List.map_append, List.map_singleton]
  congr 1
  · refine List.map_congr_left fun i hi => ?_
    have hi := List.mem_range.1 hi
    rw [List.take_append_of_le_length (by omega)]
  · rw [List.take_of_length_le (by simp)]
theorem endsL_length (ams : List MsgD) : (endsL ams).length = ams.length := by simp [endsL]
theorem endsL_at (ams : List MsgD) (j : Nat) (h : j < ams.length) : (endsL ams)[j]? = some ((cat (ams.take (j + 1))).length : Int) := by
  simp [endsL, List.getElem?_range h]
def EndsAt (w : World) (B : Nat) (v : Value) (ams : List MsgD) : Prop := w.ownsRow B 3 1 v ams.length ((endsL ams).map (Value.int .i64))
theorem EndsAt.cell {w : World} {B n c : Nat} {a : Option Addr} {ams : List MsgD} (h : EndsAt w B (.slice a n c) ams) (h0 : 0 < ams.length) : ∃ q, a = some ⟨q, 0, none⟩ ∧ ∀ j, j < ams.length → w.cell? ⟨q, j, none⟩ = some (.int .i64 ((cat (ams.take (j + 1))).length : Nat)) := by
  rcases own_cases h with ⟨_, h1⟩ | ⟨q, c', e, _, _, _, hcell⟩
  · omega
  · injection e with e1 e2 e3
    exact ⟨q, e1, fun j hj => hcell j _ (by rw [List.getElem?_map, endsL_at ams j hj]; rfl)⟩
theorem Lg.grownI {w w' : World} {B gl g d r n base k : Nat} {v u : Value} {xs : List Int} {l : List Value} (h : Lg w B gl g v xs d r n) (hu : w.ownsRow base 3 1 u k l) (hg : w.grownBy w' u.ownBlock) : Lg w' B gl g v xs d r n := by
  have hne : ∀ j, u.ownBlock = some j → j ≠ gl ∧ j ≠ g ∧ some j ≠ v.ownBlock := fun j hj => h.apart hu (by decide) (by decide) (by decide) hj
  have hd : Whole w g 60 _ := h.disk.blk
  refine ⟨h.lg.kept (hg.block gl h.lg.lt fun e => (hne gl e.symm).1 rfl), h.ge, ⟨?_, h.disk.ge, ?_, h.disk.byte, h.disk.hd, h.disk.hr, h.disk.hm⟩⟩
  · exact hd.kept (hg.block g hd.lt fun e => (hne g e.symm).2.1 rfl)
  · exact owns_keep h.disk.own fun j hj => hg.block j (h.disk.own.lt j hj).2 fun e => (hne j e.symm).2.2 hj.symm
theorem AllAt.grownI {w w' : World} {B base k : Nat} {v u : Value} {l : List Value} {ms : List MsgD} (h : AllAt w B v ms) (hu : w.ownsRow base 3 1 u k l) (hb : Below B w w') (hg : w.grownBy w' u.ownBlock) : AllAt w' B v ms := by
  obtain ⟨ss, h1, h2, h3⟩ := h
  exact ⟨ss, h1, owns_grown h2 hu (by decide) hg, fun q hq => (h3 q hq).below hb⟩
theorem Whole.grownI {w w' : World} {base k q : Nat} {u : Value} {l : List Value} {t : TypeId} {cs : Array Value} (h : Whole w q t cs) (hu : w.ownsRow base 3 1 u k l) (ht : t ≠ 3) (hg : w.grownBy w' u.ownBlock) : Whole w' q t cs := by
  refine h.kept (hg.block q h.lt fun e => ?_)
  rcases hu.2 with ⟨e2, _⟩ | ⟨b, cap, cur, e2, _, h4, _⟩
  · rw [e2] at e; cases e
  · rw [e2] at e
    have e1 : q = b := by simpa [Value.ownBlock] using e
    subst e1
    unfold Whole at h
    rw [h] at h4
    injection h4 with h4
    injection h4 with _ h4
    exact ht h4
/-- How far the law's loop has come. -/
def StC (w wr : World) (gl g : Nat) (v : Value) (ams : List MsgD) (av ev : Value) : Prop :=
  Ls wr w.heap.size gl g v ams (cat ams).length 1048576 ∧ AllAt wr w.heap.size av ams ∧ EndsAt wr w.heap.size ev ams ∧ Below w.heap.size w wr ∧ ∀ m ∈ ams, m.fine
theorem cnt_iff (ams : List MsgD) (k j : Nat) (h : j < ams.length) : (cat (ams.take (j + 1))).length ≤ k ↔ j < cnt ams k := by
  constructor
  · intro h1
    have := le_cnt ams k (j + 1) h h1
    omega
  · intro h1
    have h2 := cat_pre ams (j + 1) (cnt ams k) h1
    have h3 := cnt_cat ams k
    omega

set_option maxRecDepth 100000 in
set_option maxHeartbeats 8000000 in
theorem cut_walk (a : Option Addr) (n c : Nat) (ms : List MsgD) (cut : Int) (w : World) (hx : MsgsIn w a n ms) (hn : n ≤ 9223372036854775807) :
    Calls Try.prog 6 #[.slice a n c, .int .i64 cut] w fun e w' => e = .returned (.bool true) ∧ Below w.heap.size w w' := by
  obtain ⟨i0, hi, hz0, hz1, hz2⟩ := info_parts Try.infoG
  obtain ⟨i1, hi1, hy0, hy1, hy2⟩ := info_parts Try.infoI
  have HX := Lib.hid hx
  clear hx
  go_enter Try.func6, Try.ntmps6
  go_wp2_with fail
  refine (lawake_any _).mono ?_
  rintro e w1 ⟨rfl, hb1⟩
  have HB1 := Lib.hid hb1
  have HN := Lib.hid (Dk.new_good w.heap.size 1048576 w1 (Nat.le_refl _) hb1.size)
  clear hb1
  go_wp2_with fail
  refine HN.out.mono ?_
  rintro e w2 ⟨rfl, hd2, hb2⟩
  have HB2 := Lib.hid (HB1.out.trans (hb2.mono HB1.out.size))
  have HGW := Lib.hid (show w.heap.size ≤ w1.heap.size from HB1.out.size)
  clear hb2
  generalize w1.heap.size = g at *
  have HO := Lib.hid (lopen_cat w.heap.size g (.slice none 0 0) [] 0 1048576 w2 hd2 (by simp))
  clear hd2
  go_wp2_with fail
  refine HO.out.mono ?_
  rintro e w3 ⟨gl, ra0, rc0, v3, rfl, _, _, _, hl3, _, _, _, ht3⟩
  have HS3 := Lib.hid (show StC w w3 gl g v3 [] (.slice none 0 0) (.slice none 0 0) from ⟨hl3, AllAt.nil _ _, ⟨rfl, .inl ⟨rfl, rfl⟩⟩, HB2.out.trans (ht3.below HGW.out (by simp) HB2.out.size), by simp⟩)
  clear hl3 ht3 HN HO
  go_wp2_with fail
  go_loopw [9, 10, 31] (fun ev av iv wr => ∃ (i : Nat) (ams : List MsgD) (v : Value) (ra : Option Addr) (rc : Nat) (ea : Option Addr) (ec : Nat), i ≤ n ∧ iv = .int .i64 i ∧ av = .slice ra ams.length rc ∧ ev = .slice ea ams.length ec ∧ StC w wr gl g v ams (.slice ra ams.length rc) (.slice ea ams.length ec)) (fun _ _ iv _ => n - (intOf iv).toNat)
  case atStart => exact ⟨0, [], v3, none, 0, none, 0, by omega, rfl, rfl, rfl, HS3.out⟩
  case round =>
    obtain ⟨i, ams, v, ra, rc, ea, ec, hin, rfl, rfl, rfl, hst⟩ := hrel
    have HLS := Lib.hid hst.1
    have HAL := Lib.hid hst.2.1
    have HEN := Lib.hid hst.2.2.1
    have HBR := Lib.hid hst.2.2.2.1
    have HFI := Lib.hid hst.2.2.2.2
    have hsm := hst.1.small
    clear hst
    by_cases hil : i < n
    · obtain ⟨b, off, rfl, hbl, hcc⟩ := HX.out.2.resolve_left (by omega)
      obtain ⟨m, hmi⟩ := get_some HX.out.1 hil
      obtain ⟨s8, s9, s10, s11, hbx, hmin⟩ := (hcc i m hmi)
      obtain ⟨q0, q1, q2, q3, q4, q5, q6, q7, q8, q9, q10, q11⟩ := hbx
      have p0 := (HBR.out.cell (p := ⟨b, off + i * 12, none⟩) hbl).trans q0
      have p1 := (HBR.out.cell (p := ⟨b, off + i * 12 + 1, none⟩) hbl).trans q1
      have p2 := (HBR.out.cell (p := ⟨b, off + i * 12 + 2, none⟩) hbl).trans q2
      have p3 := (HBR.out.cell (p := ⟨b, off + i * 12 + 3, none⟩) hbl).trans q3
      have p4 := (HBR.out.cell (p := ⟨b, off + i * 12 + 4, none⟩) hbl).trans q4
      have p5 := (HBR.out.cell (p := ⟨b, off + i * 12 + 5, none⟩) hbl).trans q5
      have p6 := (HBR.out.cell (p := ⟨b, off + i * 12 + 6, none⟩) hbl).trans q6
      have p7 := (HBR.out.cell (p := ⟨b, off + i * 12 + 7, none⟩) hbl).trans q7
      have p8 := (HBR.out.cell (p := ⟨b, off + i * 12 + 8, none⟩) hbl).trans q8
      have p9 := (HBR.out.cell (p := ⟨b, off + i * 12 + 9, none⟩) hbl).trans q9
      have p10 := (HBR.out.cell (p := ⟨b, off + i * 12 + 10, none⟩) hbl).trans q10
      have p11 := (HBR.out.cell (p := ⟨b, off + i * 12 + 11, none⟩) hbl).trans q11
      have hmb : MsgB w w.heap.size (.agg #[.int .i64 m.kind, .int .i64 m.from_, .int .i64 m.«to», .int .i64 m.id, .int .i64 m.rev, .int .i64 m.epoch, .int .i64 m.slot, .bool m.flag, s8, s9, s10, s11]) m := hmin
      have hmB : ∀ w', Below w.heap.size w w' → MsgB w' w.heap.size (.agg #[.int .i64 m.kind, .int .i64 m.from_, .int .i64 m.«to», .int .i64 m.id, .int .i64 m.rev, .int .i64 m.epoch, .int .i64 m.slot, .bool m.flag, s8, s9, s10, s11]) m := fun w' hb => hmb.below hb
      have HMB := Lib.hid hmB
      have HIN := Lib.hid (show m.in64 from (by obtain ⟨_, _, _, _, _, _, _, _, _, _, _, _, h⟩ := hmin; exact h.in64))
      have hshape : ∃ a8 n8 c8 a9 n9 c9 a10 n10 c10 a11 n11 c11, s8 = .slice a8 n8 c8 ∧ s9 = .slice a9 n9 c9 ∧ s10 = .slice a10 n10 c10 ∧ s11 = .slice a11 n11 c11 := by
        obtain ⟨na, ma, pa, ra, nn, nc, mn, mc, pn, pc, rn, rc, h⟩ := hmin
        have hv := h.val
        injection hv with hv
        injection hv with hv
        simp only [List.cons.injEq, and_true] at hv
        obtain ⟨_, _, _, _, _, _, _, _, rfl, rfl, rfl, rfl⟩ := hv
        exact ⟨_, _, _, _, _, _, _, _, _, _, _, _, rfl, rfl, rfl, rfl⟩
      obtain ⟨a8, n8, c8, a9, n9, c9, a10, n10, c10, a11, n11, c11, rfl, rfl, rfl, rfl⟩ := hshape
      clear hcc hmi hmin hmb hmB q0 q1 q2 q3 q4 q5 q6 q7 q8 q9 q10 q11
      obtain ⟨X, hX, hwx, hbx⟩ := alloc_box wr #[.int .i64 m.kind, .int .i64 m.from_, .int .i64 m.«to», .int .i64 m.id, .int .i64 m.rev, .int .i64 m.epoch, .int .i64 m.slot, .bool m.flag, .slice a8 n8 c8, .slice a9 n9 c9, .slice a10 n10 c10, .slice a11 n11 c11]
      have hbX : Below w.heap.size w X := HBR.out.trans (hbx.mono HBR.out.size)
      have HLX := Lib.hid (HLS.out.keep hbx)
      have HAX := Lib.hid (HAL.out.below hbx HBR.out.size)
      have HBX := Lib.hid hbX
      have HWX := Lib.hid hwx
      have HBW0 := Lib.hid hbx
      have hij : (0:Int) ≤ (i:Int) ∧ (i:Int) < (n:Int) := by omega
      go_upto_region 12 with fail
      rw [← hX]
      have k0 := hwx.cell 0
      have k1 := hwx.cell 1
      have k2 := hwx.cell 2
      have k3 := hwx.cell 3
      have k4 := hwx.cell 4
      have k5 := hwx.cell 5
      have k6 := hwx.cell 6
      have k7 := hwx.cell 7
      have k8 := hwx.cell 8
      have k9 := hwx.cell 9
      have k10 := hwx.cell 10
      have k11 := hwx.cell 11
      clear hX hwx hbx hbX p0 p1 p2 p3 p4 p5 p6 p7 p8 p9 p10 p11
      have HEX := Lib.hid (owns_below HEN.out HBW0.out)
      have HWR := Lib.hid (lwrite_any w.heap.size gl g v ams (cat ams).length 1048576 _ m X HLX.out ((HMB.out X HBX.out).msg HBX.out.size))
      go_wp2_with fail
      refine HWR.out.mono ?_
      rintro e w4 ⟨c4, rfl, ⟨rfl, hg4, hf4, v4, hl4, hk4, ho4⟩ | ⟨hc4, hl4, hb4⟩⟩
      · have he4 := HLX.out.row hk4 HEX.out (by decide) (by decide) (by decide)
        have hs4 := Dk.size_any w4 hl4.disk
        have HE4 := Lib.hid he4
        have HS4 := Lib.hid hs4
        have HWX4 := Lib.hid (HWX.out.past HLX.out hk4 (by decide) (by decide) (by decide))
        clear he4 hs4
        have hwx4 := HWX.out.past HLX.out hk4 (by decide) (by decide) (by decide)
        have ha4 := HAX.out.kept HLX.out hk4 (Nat.le_refl _) HBX.out.size
        have hb4 := HBX.out.trans (HLX.out.below hk4 HBX.out.size)
        obtain ⟨ss, hss, hrow, hall⟩ := ha4
        have HROW := Lib.hid hrow
        have HA4 := Lib.hid (show AllAt w4 w.heap.size (.slice ra ams.length rc) ams from ⟨ss, hss, hrow, hall⟩)
        have HB4 := Lib.hid hb4
        have HL4 := Lib.hid hl4
        have HF4 := Lib.hid (show m.fine from ⟨hg4, HIN.out⟩)
        have HSZ4 := Lib.hid hb4.size
        have j0 := hwx4.cell 0
        have j1 := hwx4.cell 1
        have j2 := hwx4.cell 2
        have j3 := hwx4.cell 3
        have j4 := hwx4.cell 4
        have j5 := hwx4.cell 5
        have j6 := hwx4.cell 6
        have j7 := hwx4.cell 7
        have j8 := hwx4.cell 8
        have j9 := hwx4.cell 9
        have j10 := hwx4.cell 10
        have j11 := hwx4.cell 11
        clear hwx4 hb4 hrow hall hss hl4 hk4 ho4 hg4 hf4 k0 k1 k2 k3 k4 k5 k6 k7 k8 k9 k10 k11
        obtain ⟨T, hT⟩ : ∃ T, T = (cat (ams ++ [m])).length := ⟨_, rfl⟩
        have HT := Lib.hid hT
        rw [← hT] at HS4
        clear hT j0 j1 j2 j3 j4 j5 j6 j7 j8 j9 j10 j11
        go_wp2_with fail
        refine HS4.out.mono ?_
        rintro e w4' ⟨rfl, rfl⟩

        go_wp2_with (first
          | (at_builtin; refine wpList_append_at_any _ rfl _ _ 35 rfl w.heap.size 3 i1 (.int .i64 0) 1 8 Try.underlying35 hi1 hy0 hy1 hy2 rfl (by decide) _ ams.length _ rfl (HE4.out.alloc _) (some ⟨w4.heap.size, 0, none⟩) 1 1 [.int .i64 (T : Nat)] rfl rfl (by intro h; cases h) (by rintro ad he; injection he with he; subst he; exact cells_new _ [.int .i64 (T : Nat)] _) (by intro q hq; simp at hq; subst hq; rfl) (by unfold maxLen; omega) (by omega) (by have := HSZ4.out; simp; omega) ?_; intro ve we howne hgrowe hate; obtain ⟨ea5, ec5, rfl, _, _⟩ := owned_some howne; have hXe := Whole.grownI (HWX4.out.kept ((below_alloc w4 (.cells #[.int .i64 (T : Nat)] 3)).block _ HWX4.out.lt)) (HE4.out.alloc _) (by decide) hgrowe; have j0 := hXe.cell 0; have j1 := hXe.cell 1; have j2 := hXe.cell 2; have j3 := hXe.cell 3; have j4 := hXe.cell 4; have j5 := hXe.cell 5; have j6 := hXe.cell 6; have j7 := hXe.cell 7; have j8 := hXe.cell 8; have j9 := hXe.cell 9; have j10 := hXe.cell 10; have j11 := hXe.cell 11; have HGE := Lib.hid hgrowe; have HOE := Lib.hid howne; clear hXe hgrowe howne hate; have hbe4 := below_alloc w4 (.cells #[.int .i64 (T : Nat)] 3); have hbB : Below w.heap.size (w4.alloc (.cells #[.int .i64 (T : Nat)] 3)) we := (Below.refl _ _).grown HGE.out (Nat.le_trans HSZ4.out hbe4.size) (fun j hj => ((HE4.out.alloc (.cells #[.int .i64 (T : Nat)] 3)).lt j hj).1); have hAe := (HA4.out.below hbe4 HSZ4.out).grownI (HE4.out.alloc _) hbB HGE.out; have HAe := Lib.hid hAe; have HLe := Lib.hid ((HL4.out.keep hbe4).grownI (HE4.out.alloc _) HGE.out); have HBe := Lib.hid ((HB4.out.trans (hbe4.mono HSZ4.out)).trans hbB); have HSZe := Lib.hid HBe.out.size; obtain ⟨sse, hsse, hrowe, halle⟩ := hAe; have HROWe := Lib.hid hrowe; clear hbe4 hbB hsse hrowe halle)
          | (at_builtin; refine wpList_append_at_any _ rfl _ _ 30 rfl w.heap.size 40 i0 (.agg MsgZ) 12 160 Try.underlying30 hi hz0 hz1 hz2 rfl (by decide) _ ams.length _ rfl (HROWe.out.alloc _) (some ⟨we.heap.size, 0, none⟩) 1 1 [.int .i64 m.kind, .int .i64 m.from_, .int .i64 m.«to», .int .i64 m.id, .int .i64 m.rev, .int .i64 m.epoch, .int .i64 m.slot, .bool m.flag, .slice a8 n8 c8, .slice a9 n9 c9, .slice a10 n10 c10, .slice a11 n11 c11] rfl rfl (by intro h; cases h) (by rintro ad he; injection he with he; subst he; exact cells_new _ [.int .i64 m.kind, .int .i64 m.from_, .int .i64 m.«to», .int .i64 m.id, .int .i64 m.rev, .int .i64 m.epoch, .int .i64 m.slot, .bool m.flag, .slice a8 n8 c8, .slice a9 n9 c9, .slice a10 n10 c10, .slice a11 n11 c11] _) (by intro q hq; simp at hq; rcases hq with rfl | rfl | rfl | rfl | rfl | rfl | rfl | rfl | rfl | rfl | rfl | rfl <;> rfl) (by unfold maxLen; omega) (by omega) (by have := HSZe.out; simp; omega) ?_; intro v2 w5 hown5 hgrow5 hat5))
        have hbe := below_alloc we (.cells #[.int .i64 m.kind, .int .i64 m.from_, .int .i64 m.«to», .int .i64 m.id, .int .i64 m.rev, .int .i64 m.epoch, .int .i64 m.slot, .bool m.flag, .slice a8 n8 c8, .slice a9 n9 c9, .slice a10 n10 c10, .slice a11 n11 c11] 40)
        have hA5 := (HAe.out.below hbe HSZe.out).step (w' := w5) (v' := v2) (m := m) (s := (.slice a8 n8 c8, .slice a9 n9 c9, .slice a10 n10 c10, .slice a11 n11 c11)) (Nat.le_trans HSZe.out hbe.size) (HMB.out _ (HBe.out.trans (hbe.mono HSZe.out))) (fun l hl => by rw [row_one hl (HROWe.out.alloc _)]; exact hown5) hgrow5
        have HL5 := Lib.hid ((HLe.out.keep hbe).grown (HROWe.out.alloc _) hgrow5)
        obtain ⟨ra5, rc5, rfl, _, _⟩ := owned_some hown5
        have HEN5 := Lib.hid (owns_grown (HOE.out.alloc (.cells #[.int .i64 m.kind, .int .i64 m.from_, .int .i64 m.«to», .int .i64 m.id, .int .i64 m.rev, .int .i64 m.epoch, .int .i64 m.slot, .bool m.flag, .slice a8 n8 c8, .slice a9 n9 c9, .slice a10 n10 c10, .slice a11 n11 c11] 40)) (HROWe.out.alloc _) (by decide) hgrow5)
        rw [show ams.length + 1 = (ams ++ [m]).length by simp] at hA5 ⊢
        have HA5 := Lib.hid hA5.1
        have HB5 := Lib.hid ((HBe.out.trans (hbe.mono HSZe.out)).trans hA5.2)
        clear hown5 hgrow5 hat5 hbe hA5 j0 j1 j2 j3 j4 j5 j6 j7 j8 j9 j10 j11
        have he5 : EndsAt w5 w.heap.size (.slice ea5 (ams ++ [m]).length ec5) (ams ++ [m]) := by
          have := HEN5.out
          unfold EndsAt
          rw [endsL_snoc, List.map_append, ← HT.out]
          simpa using this
        have hl5 : Ls w5 w.heap.size gl g v4 (ams ++ [m]) (cat (ams ++ [m])).length 1048576 := HL5.out
        exact ⟨⟨i + 1, ams ++ [m], v4, ra5, rc5, ea5, ec5, by omega, by go_num, rfl, rfl, hl5, HA5.out, he5, HB5.out, fine_snocC HFI.out HF4.out⟩, by simp [intOf]; omega⟩
      · have hce : (c4 == 0) = false := by
          rcases hc4 with ⟨rfl, _⟩ | ⟨rfl, _⟩ <;> decide
        have HST4 := Lib.hid (show StC w w4 gl g v ams (.slice ra ams.length rc) (.slice ea ams.length ec) from ⟨hl4, HAX.out.below hb4 HBX.out.size, owns_below HEX.out hb4, HBX.out.trans (hb4.mono HBX.out.size), HFI.out⟩)
        clear hc4 hl4 hb4 k0 k1 k2 k3 k4 k5 k6 k7 k8 k9 k10 k11
        go_wp2_with fail
        exact ⟨⟨i + 1, ams, v, ra, rc, ea, ec, by omega, by go_num, rfl, rfl, HST4.out⟩, by simp [intOf]; omega⟩
    · obtain rfl : i = n := by omega
      have hcap := HAL.out.capC
      have hlen : (cat ams).length ≤ 1048576 := HLS.out.disk.hr
      by_cases hcut : cut < 0 ∨ ((cat ams).length : Int) < cut
      · have HTB := Lib.hid (Dk.trunc_bad cut wr HLS.out.disk hcut)
        have HSI := Lib.hid (Dk.size_any wr HLS.out.disk)
        go_wp2_with fail
        refine HTB.out.mono ?_
        rintro e w7 ⟨rfl, rfl⟩
        by_cases h0 : cut < 0
        · clear hcut
          go_wp2
          go_ret
          exact ⟨rfl, HBR.out⟩
        · have h1 : ((cat ams).length : Int) < cut := by omega
          have hd0 : decide (cut < 0) = false := by simpa using h0
          clear hcut
          go_wp2_with fail
          refine HSI.out.mono ?_
          rintro e w8 ⟨rfl, rfl⟩
          go_wp2
          go_ret
          exact ⟨rfl, HBR.out⟩
      obtain ⟨k, rfl⟩ : ∃ k : Nat, cut = (k : Int) := ⟨cut.toNat, by omega⟩
      have hk : k ≤ (cat ams).length := by omega
      have HTG := Lib.hid (Dk.trunc_good k wr HLS.out.disk hk)
      clear hcut
      go_wp2_with fail
      refine HTG.out.mono ?_
      rintro e w7 ⟨rfl, v7, hd7, ht7, ho7⟩
      have HL7 := Lib.hid (HLS.out.ofTurned ht7 hd7)
      have HA7 := Lib.hid (HAL.out.kept HLS.out (Kept.ofTurned ht7 (.inr rfl)) (Nat.le_refl _) HBR.out.size)
      have HE7 := Lib.hid (show EndsAt w7 w.heap.size (.slice ea ams.length ec) ams from HLS.out.row (Kept.ofTurned ht7 (.inr rfl)) HEN.out (by decide) (by decide) (by decide))
      have HB7 := Lib.hid (HBR.out.trans (HLS.out.turned0 ht7 HBR.out.size))
      have HO7 := Lib.hid (lopen_cut w.heap.size g v7 ams k k 1048576 w7 hd7 HFI.out)
      have hc1 := cnt_le ams k
      have HIF := Lib.hid (cnt_iff ams k)
      obtain ⟨C, hC⟩ : ∃ C, C = cnt ams k := ⟨_, rfl⟩
      have HC := Lib.hid hC
      rw [← hC] at hc1 HO7 HIF
      clear hd7 ht7 ho7 hC
      go_wp2_with fail
      go_loop [13] (fun jv => ∃ j : Nat, j ≤ C ∧ jv = .int .i64 j) (fun jv => C - (intOf jv).toNat)
      case atStart => exact ⟨0, by omega, rfl⟩
      case round =>
        obtain ⟨j, hj, rfl⟩ := hrel
        by_cases hja : j < ams.length
        · obtain ⟨q, rfl, hcell⟩ := HE7.out.cell (by omega)
          have e0 := hcell j hja
          have hif := HIF.out j hja
          have hle2 : (cat (ams.take (j + 1))).length ≤ 1048576 := by
            have := cat_pre ams (j + 1) ams.length hja
            rw [List.take_length] at this
            omega
          obtain ⟨E, hE⟩ : ∃ E, E = (cat (ams.take (j + 1))).length := ⟨_, rfl⟩
          rw [← hE] at e0 hif hle2
          have hjj : (0:Int) ≤ (j:Int) ∧ (j:Int) < (ams.length:Int) := by omega
          have hd1 : decide (j < ams.length) = true := by simpa using hja
          clear hcell hE
          by_cases hjc : j < C
          · have hd2 : decide (E ≤ k) = true := by simpa using hif.2 hjc
            clear hif
            go_wp2
            exact ⟨⟨j + 1, by omega, by go_num⟩, by simp [intOf]; omega⟩
          · have hd2 : decide (E ≤ k) = false := by simpa using fun h => hjc (hif.1 h)
            obtain rfl : j = C := by omega
            clear hif
            go_wp2_with fail
            refine HO7.out.mono ?_
            rintro e w8 ⟨gl8, ra8, rc8, v8, rfl, hr8, hm8, hgl8, hl8, ho8, _, hin8, ht8⟩
            have hPl : (ams.take j).length = j := by rw [List.length_take]; omega
            have hl8' : Lg w8 w.heap.size gl8 g v8 (cat (ams.take j)) (cat (ams.take j)).length 1048576 j := by
              have := hl8
              unfold Ls at this
              rwa [hPl] at this
            have HA8 := Lib.hid (HA7.out.kept HL7.out (Kept.ofTurned ht8 (.inr rfl)) (Nat.le_refl _) HB7.out.size)
            have HE8 := Lib.hid (show EndsAt w8 w.heap.size _ ams from HL7.out.row (Kept.ofTurned ht8 (.inr rfl)) HE7.out (by decide) (by decide) (by decide))
            have HB8 := Lib.hid (HB7.out.trans (HL7.out.turned0 ht8 HB7.out.size))
            have HL8 := Lib.hid hl8'
            rw [hPl] at hin8 hr8 ⊢
            have HSM := Lib.hid (same_msgs ra8 j rc8 (ams.take j) ra j rc (ams.take j) w8 hin8 ((HA8.out.msgs HB8.out.size).head j hc1) (by omega) (by omega))
            have hst := fun w => slice_headM ra ams.length rc j (by omega) w
            obtain ⟨D, hD⟩ : ∃ D, D = (cat (ams.take j)).length := ⟨_, rfl⟩
            have HD := Lib.hid hD
            have hD0 : j = 0 → D = 0 := by rintro rfl; rw [hD]; rfl
            clear hl8 hl8' hin8 ht8 ho8 hgl8 hPl HO7 hD
            by_cases hj0 : 0 < j
            · obtain ⟨q8, hq8, hcell8⟩ := HE8.out.cell (by omega)
              have e8 := hcell8 (j - 1) (by omega)
              rw [show j - 1 + 1 = j by omega, ← HD.out] at e8
              have hw1 : IntKind.i64.wrap ((j : Int) - 1) = (j : Int) - 1 := IntWalk.i64_in _ (by omega)
              have hw2 : ((j : Int) - 1).toNat = j - 1 := by omega
              have hb8 : 0 ≤ (j : Int) - 1 ∧ (j : Int) - 1 < (ams.length : Int) := by omega
              injection hq8 with hq8
              injection hq8 with hq8 _ _
              subst hq8
              clear hcell8
              go_wp2_with fail
              refine HSM.out.mono ?_
              rintro e w9 ⟨r9, rfl, hr9, hb9⟩
              obtain rfl : r9 = true := hr9.2 rfl
              have hl9 := HL8.out.keep hb9
              have hs9 := Dk.size_any w9 hl9.disk
              rw [← HD.out] at hs9
              have HS9 := Lib.hid hs9
              have HC9 := Lib.hid (count_any w.heap.size gl8 g v8 _ _ 1048576 j w9 hl9)
              have HB9 := Lib.hid (HB8.out.trans (hb9.mono HB8.out.size))
              have hnn : ((D : Int) == (D : Int)) = true := by simp
              clear hb9 hr9 hl9 hs9
              go_wp2_with fail
              refine HS9.out.mono ?_
              rintro e w10 ⟨rfl, rfl⟩
              go_wp2_with fail
              refine HC9.out.mono ?_
              rintro e w10 ⟨rfl, rfl⟩
              go_wp2
              go_ret
              exact ⟨rfl, HB9.out⟩
            · obtain rfl : j = 0 := by omega
              obtain rfl := hD0 rfl
              go_wp2_with fail
              refine HSM.out.mono ?_
              rintro e w9 ⟨r9, rfl, hr9, hb9⟩
              obtain rfl : r9 = true := hr9.2 rfl
              have hl9 := HL8.out.keep hb9
              have hs9 := Dk.size_any w9 hl9.disk
              rw [← HD.out] at hs9
              have HS9 := Lib.hid hs9
              have HC9 := Lib.hid (count_any w.heap.size gl8 g v8 _ _ 1048576 0 w9 hl9)
              have HB9 := Lib.hid (HB8.out.trans (hb9.mono HB8.out.size))
              clear hb9 hr9 hl9 hs9
              go_wp2_with fail
              refine HS9.out.mono ?_
              rintro e w10 ⟨rfl, rfl⟩
              go_wp2_with fail
              refine HC9.out.mono ?_
              rintro e w10 ⟨rfl, rfl⟩
              go_wp2
              go_ret
              exact ⟨rfl, HB9.out⟩
        · obtain rfl : j = C := by omega
          have hd1 : decide (j < ams.length) = false := by simpa using hja
          go_wp2_with fail
          refine HO7.out.mono ?_
          rintro e w8 ⟨gl8, ra8, rc8, v8, rfl, hr8, hm8, hgl8, hl8, ho8, _, hin8, ht8⟩
          have hPl : (ams.take j).length = j := by rw [List.length_take]; omega
          have hl8' : Lg w8 w.heap.size gl8 g v8 (cat (ams.take j)) (cat (ams.take j)).length 1048576 j := by
            have := hl8
            unfold Ls at this
            rwa [hPl] at this
          have HA8 := Lib.hid (HA7.out.kept HL7.out (Kept.ofTurned ht8 (.inr rfl)) (Nat.le_refl _) HB7.out.size)
          have HE8 := Lib.hid (show EndsAt w8 w.heap.size _ ams from HL7.out.row (Kept.ofTurned ht8 (.inr rfl)) HE7.out (by decide) (by decide) (by decide))
          have HB8 := Lib.hid (HB7.out.trans (HL7.out.turned0 ht8 HB7.out.size))
          have HL8 := Lib.hid hl8'
          rw [hPl] at hin8 hr8 ⊢
          have HSM := Lib.hid (same_msgs ra8 j rc8 (ams.take j) ra j rc (ams.take j) w8 hin8 ((HA8.out.msgs HB8.out.size).head j hc1) (by omega) (by omega))
          have hst := fun w => slice_headM ra ams.length rc j (by omega) w
          obtain ⟨D, hD⟩ : ∃ D, D = (cat (ams.take j)).length := ⟨_, rfl⟩
          have HD := Lib.hid hD
          have hD0 : j = 0 → D = 0 := by rintro rfl; rw [hD]; rfl
          clear hl8 hl8' hin8 ht8 ho8 hgl8 hPl HO7 hD
          by_cases hj0 : 0 < j
          · obtain ⟨q8, hq8, hcell8⟩ := HE8.out.cell (by omega)
            have e8 := hcell8 (j - 1) (by omega)
            rw [show j - 1 + 1 = j by omega, ← HD.out] at e8
            have hw1 : IntKind.i64.wrap ((j : Int) - 1) = (j : Int) - 1 := IntWalk.i64_in _ (by omega)
            have hw2 : ((j : Int) - 1).toNat = j - 1 := by omega
            have hb8 : 0 ≤ (j : Int) - 1 ∧ (j : Int) - 1 < (ams.length : Int) := by omega
            subst hq8
            clear hcell8
            go_wp2_with fail
            refine HSM.out.mono ?_
            rintro e w9 ⟨r9, rfl, hr9, hb9⟩
            obtain rfl : r9 = true := hr9.2 rfl
            have hl9 := HL8.out.keep hb9
            have hs9 := Dk.size_any w9 hl9.disk
            rw [← HD.out] at hs9
            have HS9 := Lib.hid hs9
            have HC9 := Lib.hid (count_any w.heap.size gl8 g v8 _ _ 1048576 j w9 hl9)
            have HB9 := Lib.hid (HB8.out.trans (hb9.mono HB8.out.size))
            have hnn : ((D : Int) == (D : Int)) = true := by simp
            clear hb9 hr9 hl9 hs9
            go_wp2_with fail
            refine HS9.out.mono ?_
            rintro e w10 ⟨rfl, rfl⟩
            go_wp2_with fail
            refine HC9.out.mono ?_
            rintro e w10 ⟨rfl, rfl⟩
            go_wp2
            go_ret
            exact ⟨rfl, HB9.out⟩
          · obtain rfl : j = 0 := by omega
            obtain rfl := hD0 rfl
            go_wp2_with fail
            refine HSM.out.mono ?_
            rintro e w9 ⟨r9, rfl, hr9, hb9⟩
            obtain rfl : r9 = true := hr9.2 rfl
            have hl9 := HL8.out.keep hb9
            have hs9 := Dk.size_any w9 hl9.disk
            rw [← HD.out] at hs9
            have HS9 := Lib.hid hs9
            have HC9 := Lib.hid (count_any w.heap.size gl8 g v8 _ _ 1048576 0 w9 hl9)
            have HB9 := Lib.hid (HB8.out.trans (hb9.mono HB8.out.size))
            clear hb9 hr9 hl9 hs9
            go_wp2_with fail
            refine HS9.out.mono ?_
            rintro e w10 ⟨rfl, rfl⟩
            go_wp2_with fail
            refine HC9.out.mono ?_
            rintro e w10 ⟨rfl, rfl⟩
            go_wp2
            go_ret
            exact ⟨rfl, HB9.out⟩
end Go.Proofs.Ytjilhmidgebfbaa
