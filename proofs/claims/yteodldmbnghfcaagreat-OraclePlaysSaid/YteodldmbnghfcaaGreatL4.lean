/- log: the calls. log: Write, Sync, Open, Count, Left. -/
import Derived.Test.YteodldmbnghfcaaGreatL2
namespace Go.Proofs.YteodldmbnghfcaaGreat
open Go.RowKit

/-- Can the message be written? -/
def MsgD.good (m : MsgD) : Prop := m.ok ∧ (enc m).length ≤ 16384
/-- The record of a message. -/
def rcd (m : MsgD) : List Int := Fr.sealed (enc m)
theorem rcd_byt {m : MsgD} (h : m.good) : Byt (rcd m) := Fr.sealed_byte _ (enc_byte m) h.2
theorem rcd_len (m : MsgD) : (rcd m).length = 8 + (enc m).length := Fr.sealed_length _
/-- A log lies in block gl, its disk in block g. -/
structure Lg (w : World) (B gl g : Nat) (v : Value) (xs : List Int) (d r n : Nat) : Prop where
  lg : Whole w gl 91 #[.pointer (some ⟨g, 0, none⟩), .int .i64 (n : Nat)]
  ge : B ≤ gl
  disk : Dk.DAt w B g v xs d r
/-- Nothing but the log, its disk, and the disk's row. -/
structure Kept (w w' : World) (gl g : Nat) (v : Value) : Prop where
  os : w'.os = w.os
  tape : w'.tape = w.tape
  output : w'.output = w.output
  size : w.heap.size ≤ w'.heap.size
  block : ∀ k, k < w.heap.size → k ≠ gl → k ≠ g → some k ≠ v.ownBlock → w'.heap[k]? = w.heap[k]?
theorem Kept.refl (w : World) (gl g : Nat) (v : Value) : Kept w w gl g v := ⟨rfl, rfl, rfl, Nat.le_refl _, fun _ _ _ _ _ => rfl⟩
theorem Kept.ofBelow {w w' : World} (gl g : Nat) (v : Value) (h : Below w.heap.size w w') : Kept w w' gl g v := ⟨h.os, h.tape, h.output, h.size, fun k hk _ _ _ => h.block k hk⟩
theorem Kept.ofTurned {w w' : World} {gl g : Nat} {v : Value} {o : Option Nat} (h : Dk.Turned w w' g o) (ho : o = v.ownBlock ∨ o = none) : Kept w w' gl g v := ⟨h.os, h.tape, h.output, h.size, fun k hk _ h2 h3 => h.block k hk h2 (by rcases ho with rfl | rfl; exact h3; simp)⟩
theorem Kept.trans {a b c : World} {gl g : Nat} {v v' : Value} (h : Kept a b gl g v) (k : Kept b c gl g v') (ho : v'.ownBlock = v.ownBlock ∨ ∃ q, v'.ownBlock = some q ∧ a.heap.size ≤ q) : Kept a c gl g v :=
  ⟨k.os.trans h.os, k.tape.trans h.tape, k.output.trans h.output, Nat.le_trans h.size k.size, fun i hi h1 h2 h3 => (k.block i (Nat.lt_of_lt_of_le hi h.size) h1 h2 (by
    rcases ho with ho | ⟨q, ho, hq⟩
    · rw [ho]; exact h3
    · rw [ho]; intro e; injection e with e; omega)).trans (h.block i hi h1 h2 h3)⟩
theorem Lg.off {w : World} {B gl g d r n : Nat} {v : Value} {xs : List Int} (h : Lg w B gl g v xs d r n) : gl ≠ g ∧ v.ownBlock ≠ some gl ∧ v.ownBlock ≠ some g := by
  have h1 := h.lg
  have h2 : Whole w g 73 _ := h.disk.blk
  refine ⟨?_, whole_apart h1 (by decide) h.disk.own, whole_apart h2 (by decide) h.disk.own⟩
  rintro rfl
  unfold Whole at h1 h2
  rw [h1] at h2
  injection h2 with h2
  injection h2 with _ h2
  exact absurd h2 (by decide)
/-- A block of another kind is none of the log's. -/
theorem Lg.apart {w : World} {B gl g d r n : Nat} {v : Value} {xs : List Int} (h : Lg w B gl g v xs d r n) {base k s : Nat} {u : Value} {e : TypeId} {l : List Value} (hu : w.ownsRow base e s u k l) (h1 : e ≠ 91) (h2 : e ≠ 73) (h3 : e ≠ 5) {j : Nat} (hj : u.ownBlock = some j) : j ≠ gl ∧ j ≠ g ∧ some j ≠ v.ownBlock := by
  have hw : ∀ (q : Nat) (t : TypeId) (cs : Array Value), Whole w q t cs → e ≠ t → j ≠ q := by
    rintro q t cs hq ht rfl
    rcases hu.2 with ⟨rfl, _⟩ | ⟨b, cap, cur, rfl, _, h4, _⟩
    · cases hj
    · have e1 : b = j := by simpa [Value.ownBlock] using hj
      subst e1
      unfold Whole at hq
      rw [hq] at h4
      injection h4 with h4
      injection h4 with _ h4
      exact ht h4.symm
  exact ⟨hw _ _ _ h.lg h1, hw _ _ _ (show Whole w g 73 _ from h.disk.blk) h2, fun hv => owns_apart hu h.disk.own h3 hj hv.symm⟩
theorem Lg.row {w w' : World} {B gl g d r n : Nat} {v : Value} {xs : List Int} (h : Lg w B gl g v xs d r n) (hk : Kept w w' gl g v) {base k s : Nat} {u : Value} {e : TypeId} {l : List Value} (hu : w.ownsRow base e s u k l) (h1 : e ≠ 91) (h2 : e ≠ 73) (h3 : e ≠ 5) : w'.ownsRow base e s u k l :=
  owns_keep hu fun j hj => by
    obtain ⟨a1, a2, a3⟩ := h.apart hu h1 h2 h3 hj
    exact hk.block j (hu.lt j hj).2 a1 a2 a3
theorem Lg.below {w w' : World} {B gl g d r n : Nat} {v : Value} {xs : List Int} (h : Lg w B gl g v xs d r n) (hk : Kept w w' gl g v) (hB : B ≤ w.heap.size) : Below B w w' :=
  ⟨hk.os, hk.tape, hk.output, hk.size, fun k hk' => hk.block k (by omega) (by have := h.ge; omega) (by have := h.disk.ge; omega) (fun e => by have := (h.disk.own.lt k e.symm).1; omega)⟩
theorem Lg.rows {w w' : World} {B gl g d r n base : Nat} {v u : Value} {xs : List Int} {ms : List MsgR} (h : Lg w B gl g v xs d r n) (hk : Kept w w' gl g v) (hu : RowsOwn w base u ms) : RowsOwn w' base u ms := by
  obtain ⟨qs, h1, h2, h3⟩ := hu
  refine ⟨qs, h1, h.row hk h2 (by decide) (by decide) (by decide), fun q hq => ⟨?_, (h3 q hq).2⟩⟩
  obtain ⟨⟨a1, a2, a3, a4⟩, _⟩ := h3 q hq
  exact ⟨h.row hk a1 (by decide) (by decide) (by decide), h.row hk a2 (by decide) (by decide) (by decide), h.row hk a3 (by decide) (by decide) (by decide), h.row hk a4 (by decide) (by decide) (by decide)⟩
theorem Lg.keep {w w' : World} {B gl g d r n : Nat} {v : Value} {xs : List Int} (h : Lg w B gl g v xs d r n) (hb : Below w.heap.size w w') : Lg w' B gl g v xs d r n :=
  ⟨h.lg.kept (hb.block _ h.lg.lt), h.ge, h.disk.below hb⟩
theorem Lg.cells {w : World} {B gl g d r n : Nat} {v : Value} {xs : List Int} (h : Lg w B gl g v xs d r n) : w.cell? ⟨gl, 0, none⟩ = some (.pointer (some ⟨g, 0, none⟩)) ∧ w.cell? ⟨gl, 1, none⟩ = some (.int .i64 (n : Nat)) ∧ w.frozen? ⟨gl, 1, none⟩ = false :=
  ⟨h.lg.cell 0, h.lg.cell 1, h.lg.free 1⟩

/-- What pack comes to. -/
def PkDone (w : World) (m : MsgD) (e : Ending) (w' : World) : Prop :=
  (m.good ∧ ∃ g, e = .returned (.tuple #[.slice (some ⟨g, 0, none⟩) (rcd m).length (rcd m).length, .int .i64 0]) ∧ w'.ownsRow w.heap.size 5 1 (.slice (some ⟨g, 0, none⟩) (rcd m).length (rcd m).length) (rcd m).length ((rcd m).map (Value.int .u8)) ∧ Below w.heap.size w w') ∨
  (¬ m.good ∧ e = .returned (.tuple #[.slice none 0 0, .int .i64 2]) ∧ Below w.heap.size w w')
set_option maxRecDepth 100000 in
set_option maxHeartbeats 2000000 in
theorem pack_any (V : Value) (m : MsgD) (w : World) (hm : MsgIn w V m) :
    Calls Tryz.prog 49 #[V] w (PkDone w m) := by
  obtain ⟨na, ma, pa, ra, nn, nc, mn, mc, pn, pc, rn, rc, hm⟩ := hm
  have hv := hm.val
  subst hv
  obtain ⟨W0, hW0, hw0, hb0⟩ := alloc_box w #[.int .i64 m.kind, .int .i64 m.from_, .int .i64 m.«to», .int .i64 m.id, .int .i64 m.rev, .int .i64 m.epoch, .int .i64 m.slot, .bool m.flag, .slice na nn nc, .slice ma mn mc, .slice pa pn pc, .slice ra rn rc]
  have HB0 := Lib.hid hb0
  have HM := Lib.hid (hm.up hb0 hb0.size)
  have k0 := hw0.cell 0
  have k1 := hw0.cell 1
  have k2 := hw0.cell 2
  have k3 := hw0.cell 3
  have k4 := hw0.cell 4
  have k5 := hw0.cell 5
  have k6 := hw0.cell 6
  have k7 := hw0.cell 7
  have k8 := hw0.cell 8
  have k9 := hw0.cell 9
  have k10 := hw0.cell 10
  have k11 := hw0.cell 11
  clear hm hb0 hw0
  by_cases hg : m.good
  rotate_left
  · have HE := Lib.hid (enc_no HM.out hg)
    have HG := Lib.hid hg
    clear hg
    go_enter Tryz.func49, Tryz.ntmps49
    go_upto_region 1 with fail
    rw [← hW0]
    clear hW0
    go_wp2_with fail
    refine HE.out.mono ?_
    rintro e w1 ⟨rfl, hb1⟩
    have HB1 := Lib.hid (HB0.out.trans (hb1.mono HB0.out.size))
    clear hb1
    go_wp2
    go_ret2
    exact .inr ⟨HG.out, rfl, HB1.out⟩
  · have HE := Lib.hid (encode_fits _ m na ma pa ra nn nc mn mc pn pc rn rc W0 HM.out hg.1 hg.2)
    have HG := Lib.hid hg
    have hpos := enc_pos m
    have hle := hg.2
    clear hg
    go_enter Tryz.func49, Tryz.ntmps49
    go_upto_region 1 with fail
    rw [← hW0]
    clear hW0
    go_wp2_with fail
    refine HE.out.mono ?_
    rintro e w1 ⟨v', rfl, hown, hb1⟩
    obtain ⟨g, cap, rfl, hc1, hc2⟩ := owns_shape hown hpos
    have HS := Lib.hid (Fr.seal_fits (some ⟨g, 0, none⟩) (enc m).length cap (enc m) w1 hle (by intro h; cases h) (IsB.owned hown (enc_byte m)))
    have HB1 := Lib.hid (HB0.out.trans (hb1.mono HB0.out.size))
    have HSZ := Lib.hid (Nat.le_trans HB0.out.size hb1.size)
    clear hb1 hown
    go_wp2_with fail
    refine HS.out.mono ?_
    rintro e w2 ⟨g2, rfl, hown2, hb2⟩
    rw [← rcd_len m] at hown2 ⊢
    have HB2 := Lib.hid (HB1.out.trans (hb2.mono HB1.out.size))
    have HO := Lib.hid (owns_lower hown2 HSZ.out)
    clear hb2 hown2
    go_wp2
    go_ret2
    exact .inl ⟨HG.out, g2, rfl, HO.out, HB2.out⟩

/-- What Add comes to. -/
def AdDone (w : World) (B gl g : Nat) (v : Value) (xs : List Int) (d r n : Nat) (m : MsgD) (e : Ending) (w' : World) : Prop :=
  (m.good ∧ xs.length + (rcd m).length ≤ r ∧ e = .returned (.int .i64 0) ∧ ∃ v', Lg w' B gl g v' (xs ++ rcd m) d r (n + 1) ∧ Kept w w' gl g v ∧ (v'.ownBlock = v.ownBlock ∨ ∃ q, v'.ownBlock = some q ∧ w.heap.size ≤ q)) ∨
  ((m.good ∧ r < xs.length + (rcd m).length) ∧ e = .returned (.int .i64 3) ∧ Lg w' B gl g v xs d r n ∧ Below w.heap.size w w') ∨
  (¬ m.good ∧ e = .returned (.int .i64 2) ∧ Lg w' B gl g v xs d r n ∧ Below w.heap.size w w')
set_option maxRecDepth 100000 in
set_option maxHeartbeats 4000000 in
theorem add_any (B gl g : Nat) (v : Value) (xs : List Int) (d r n : Nat) (V : Value) (m : MsgD) (w : World) (h : Lg w B gl g v xs d r n) (hm : MsgIn w V m) (hn : n ≤ 1048576) :
    Calls Tryz.prog 35 #[.pointer (some ⟨gl, 0, none⟩), V] w (AdDone w B gl g v xs d r n m) := by
  obtain ⟨na, ma, pa, ra, nn, nc, mn, mc, pn, pc, rn, rc, hm⟩ := hm
  have hv := hm.val
  subst hv
  obtain ⟨W0, hW0, hw0, hb0⟩ := alloc_box w #[.int .i64 m.kind, .int .i64 m.from_, .int .i64 m.«to», .int .i64 m.id, .int .i64 m.rev, .int .i64 m.epoch, .int .i64 m.slot, .bool m.flag, .slice na nn nc, .slice ma mn mc, .slice pa pn pc, .slice ra rn rc]
  have HB0 := Lib.hid hb0
  have HL0 := Lib.hid (h.keep hb0)
  have HP := Lib.hid (pack_any _ m W0 ⟨_, _, _, _, _, _, _, _, _, _, _, _, hm.up hb0 hb0.size⟩)
  have k0 := hw0.cell 0
  have k1 := hw0.cell 1
  have k2 := hw0.cell 2
  have k3 := hw0.cell 3
  have k4 := hw0.cell 4
  have k5 := hw0.cell 5
  have k6 := hw0.cell 6
  have k7 := hw0.cell 7
  have k8 := hw0.cell 8
  have k9 := hw0.cell 9
  have k10 := hw0.cell 10
  have k11 := hw0.cell 11
  clear hm hb0 hw0 h
  go_enter Tryz.func35, Tryz.ntmps35
  go_upto_region 1 with fail
  rw [← hW0]
  clear hW0
  go_wp2_with fail
  refine HP.out.mono ?_
  rintro e w1 (⟨hg, q, rfl, hown, hb1⟩ | ⟨hg, rfl, hb1⟩)
  rotate_left
  · have HL1 := Lib.hid (HL0.out.keep hb1)
    have HB1 := Lib.hid (HB0.out.trans (hb1.mono HB0.out.size))
    have HG := Lib.hid hg
    clear hg hb1 k0 k1 k2 k3 k4 k5 k6 k7 k8 k9 k10 k11
    go_wp2
    go_ret
    exact .inr (.inr ⟨HG.out, rfl, HL1.out, HB1.out⟩)
  have HL1 := Lib.hid (HL0.out.keep hb1)
  have HB1 := Lib.hid (HB0.out.trans (hb1.mono HB0.out.size))
  have HG := Lib.hid hg
  obtain ⟨c0, c1, _⟩ := HL1.out.cells
  have hx := IsB.owned hown (rcd_byt hg)
  obtain ⟨W2, hW2⟩ : ∃ W2, W2 = w1.alloc (.cells #[.slice (some ⟨q, 0, none⟩) (rcd m).length (rcd m).length] 68) := ⟨_, rfl⟩
  have hb2 : Below w1.heap.size w1 W2 := by rw [hW2]; exact below_alloc _ _
  have hL2 := HL1.out.keep hb2
  have hq := hown.lt q rfl
  have hqd : ¬ (q = g ∨ some q = v.ownBlock) := by
    have h1 := HL0.out.disk.blk
    have h2 : Whole W0 g 73 _ := h1
    rintro (rfl | e)
    · have := h2.lt; omega
    · have := (HL0.out.disk.own.lt q e.symm).2; omega
  have hp2 : Dk.PartsIn W2 (fun k => k = g ∨ some k = v.ownBlock) (some ⟨w1.heap.size, 0, none⟩) 1 [rcd m] := by
    refine ⟨rfl, by simp [maxLen], fun i hi => ?_⟩
    obtain rfl : i = 0 := by omega
    refine ⟨w1.heap.size, 0, _, _, _, rfl, ?_, by rw [hW2, Nat.zero_add, new_cell]; rfl, ?_, (by intro h; cases h), hx.below hb2, .inr (by intro ad he; injection he with he; subst he; exact hqd)⟩
    · have h2 : Whole w1 g 73 _ := HL1.out.disk.blk
      rintro (e | e)
      · have := h2.lt; omega
      · have := (HL1.out.disk.own.lt _ e.symm).2; omega
    · obtain ⟨_, _, _, hcc⟩ := owned_any hown
      have hgl := HG.out.2
      rw [rcd_len]
      unfold maxLen
      omega
  have HL2 := Lib.hid hL2
  have HP2 := Lib.hid hp2
  have HB2 := Lib.hid (HB1.out.trans (hb2.mono HB1.out.size))
  have HW2 := Lib.hid hW2
  clear hg hx hb2 hL2 hq hqd hp2 hown hb1 k0 k1 k2 k3 k4 k5 k6 k7 k8 k9 k10 k11 hW2
  obtain ⟨R, hR⟩ : ∃ R, R = (rcd m).length := ⟨_, rfl⟩
  rw [← hR] at HW2 ⊢
  have HR := Lib.hid hR
  clear hR
  by_cases hf : xs.length + R ≤ r
  rotate_left
  · have HA := Lib.hid (Dk.append_full (some ⟨w1.heap.size, 0, none⟩) 1 1 [rcd m] W2 HL2.out.disk HP2.out (by simp; rw [← HR.out]; omega))
    have HF := Lib.hid (show r < xs.length + (rcd m).length by rw [← HR.out]; omega)
    clear hf
    go_wp2_with fail
    rw [← HW2.out]
    refine HA.out.mono ?_
    rintro e w3 ⟨rfl, q3, rfl⟩
    have HL3 := Lib.hid (HL2.out.keep (below_drewN W2 q3))
    have HB3 := Lib.hid (HB2.out.trans ((below_drewN W2 q3).mono HB2.out.size))
    go_wp2
    go_ret
    exact .inr (.inl ⟨⟨HG.out, HF.out⟩, rfl, HL3.out, HB3.out⟩)
  · have HA := Lib.hid (Dk.append_fits (some ⟨w1.heap.size, 0, none⟩) 1 1 [rcd m] W2 HL2.out.disk HP2.out (by simp; rw [← HR.out]; omega))
    have HF := Lib.hid (show xs.length + (rcd m).length ≤ r by rw [← HR.out]; omega)
    clear hf
    go_wp2_with fail
    rw [← HW2.out]
    refine HA.out.mono ?_
    rintro e w3 ⟨rfl, v', hd3, ht3, ho3⟩
    obtain ⟨o1, o2, o3⟩ := HL2.out.off
    have hlg3 : Whole w3 gl 91 #[.pointer (some ⟨g, 0, none⟩), .int .i64 (n : Nat)] := HL2.out.lg.kept (ht3.block gl HL2.out.lg.lt o1 (fun e => o2 e.symm))
    have d0 := hlg3.cell 0
    have d1 := hlg3.cell 1
    have z1 := hlg3.free 1
    have HLG := Lib.hid hlg3
    have HD3 := Lib.hid hd3
    have HK3 := Lib.hid ((Kept.ofBelow gl g v HB2.out).trans (Kept.ofTurned ht3 (.inl rfl)) (.inl rfl))
    have HO3 := Lib.hid (show v'.ownBlock = v.ownBlock ∨ ∃ q, v'.ownBlock = some q ∧ w.heap.size ≤ q from ho3.imp_right fun ⟨q, h1, h2⟩ => ⟨q, h1, Nat.le_trans HB2.out.size h2⟩)
    have hwn : IntKind.i64.wrap ((n : Int) + 1) = (n : Int) + 1 := IntWalk.i64_in _ (by omega)
    have HGE := Lib.hid HL2.out.ge
    clear hd3 ht3 ho3 o1 o2 o3 hlg3 c0 c1
    go_wp2
    go_ret
    have hl4 : Lg (w3.setCell ⟨gl, 1, none⟩ (.int .i64 ((n : Int) + 1))) B gl g v' (xs ++ rcd m) d r (n + 1) := by
      have hs := HLG.out.store 1 (.int .i64 ((n : Int) + 1))
      have hd := HD3.out
      rw [show ([rcd m] : List (List Int)).flatten = rcd m by simp] at hd
      have hgg : Whole w3 g 73 _ := hd.blk
      have hng : g ≠ gl := by
        rintro rfl
        have h1 := HLG.out
        unfold Whole at h1 hgg
        rw [h1] at hgg
        injection hgg with hgg
        injection hgg with _ hgg
        exact absurd hgg (by decide)
      refine ⟨by simpa using hs, HGE.out, ⟨?_, hd.ge, ?_, hd.byte, hd.hd, hd.hr, hd.hm⟩⟩
      · exact (show Whole w3 g 73 _ from hd.blk).far gl 1 hng _
      · exact owns_far hd.own gl 1 (whole_apart HLG.out (by decide) hd.own) _
    refine .inl ⟨HG.out, HF.out, rfl, v', hl4, ⟨HK3.out.os, HK3.out.tape, HK3.out.output, by simpa [World.setCell] using HK3.out.size, fun k hk h1 h2 h3 => (Below.heap_setCell w3 ⟨gl, 1, none⟩ _ k h1).trans (HK3.out.block k hk h1 h2 h3)⟩, HO3.out⟩
end Go.Proofs.YteodldmbnghfcaaGreat

namespace Go.Proofs.YteodldmbnghfcaaGreat
open Go.RowKit

theorem Lg.ofTurned {w w' : World} {B gl g d r n d' : Nat} {v v' : Value} {xs xs' : List Int} (h : Lg w B gl g v xs d r n) (ht : Dk.Turned w w' g none) (hd : Dk.DAt w' B g v' xs' d' r) : Lg w' B gl g v' xs' d' r n :=
  ⟨h.lg.kept (ht.block gl h.lg.lt h.off.1 (by simp)), h.ge, hd⟩
set_option maxRecDepth 100000 in
set_option maxHeartbeats 1000000 in
theorem lsync_any (B gl g : Nat) (v : Value) (xs : List Int) (d r n : Nat) (w : World) (h : Lg w B gl g v xs d r n) :
    Calls Tryz.prog 36 #[.pointer (some ⟨gl, 0, none⟩)] w fun e w' => e = .returned (.tuple #[]) ∧ Lg w' B gl g v xs xs.length r n ∧ Kept w w' gl g v := by
  obtain ⟨c0, c1, _⟩ := h.cells
  have H := Lib.hid h
  have HS := Lib.hid (Dk.sync_any w h.disk)
  clear h
  go_enter Tryz.func36, Tryz.ntmps36
  go_wp2_with fail
  refine HS.out.mono ?_
  rintro e w1 ⟨rfl, hd, ht⟩
  have HD := Lib.hid (H.out.ofTurned ht hd)
  have HK := Lib.hid (Kept.ofTurned (gl := gl) (v := v) ht (.inr rfl))
  clear hd ht c0 c1
  go_wp2_with fail
  go_end0
  exact ⟨rfl, HD.out, HK.out⟩
/-- What Write comes to. -/
def WrDone (w : World) (B gl g : Nat) (v : Value) (xs : List Int) (d r n : Nat) (m : MsgD) (e : Ending) (w' : World) : Prop :=
  (m.good ∧ xs.length + (rcd m).length ≤ r ∧ e = .returned (.int .i64 0) ∧ ∃ v', Lg w' B gl g v' (xs ++ rcd m) (xs ++ rcd m).length r (n + 1) ∧ Kept w w' gl g v ∧ (v'.ownBlock = v.ownBlock ∨ ∃ q, v'.ownBlock = some q ∧ w.heap.size ≤ q)) ∨
  ((m.good ∧ r < xs.length + (rcd m).length) ∧ e = .returned (.int .i64 3) ∧ Lg w' B gl g v xs d r n ∧ Below w.heap.size w w') ∨
  (¬ m.good ∧ e = .returned (.int .i64 2) ∧ Lg w' B gl g v xs d r n ∧ Below w.heap.size w w')
set_option maxRecDepth 100000 in
set_option maxHeartbeats 4000000 in
theorem write_any (B gl g : Nat) (v : Value) (xs : List Int) (d r n : Nat) (V : Value) (m : MsgD) (w : World) (h : Lg w B gl g v xs d r n) (hm : MsgIn w V m) (hn : n ≤ 1048576) :
    Calls Tryz.prog 14 #[.pointer (some ⟨gl, 0, none⟩), V] w (WrDone w B gl g v xs d r n m) := by
  obtain ⟨na, ma, pa, ra, nn, nc, mn, mc, pn, pc, rn, rc, hm⟩ := hm
  have hv := hm.val
  subst hv
  obtain ⟨W0, hW0, hw0, hb0⟩ := alloc_box w #[.int .i64 m.kind, .int .i64 m.from_, .int .i64 m.«to», .int .i64 m.id, .int .i64 m.rev, .int .i64 m.epoch, .int .i64 m.slot, .bool m.flag, .slice na nn nc, .slice ma mn mc, .slice pa pn pc, .slice ra rn rc]
  have HB0 := Lib.hid hb0
  have HP := Lib.hid (add_any B gl g v xs d r n _ m W0 (h.keep hb0) ⟨_, _, _, _, _, _, _, _, _, _, _, _, hm.up hb0 hb0.size⟩ hn)
  have k0 := hw0.cell 0
  have k1 := hw0.cell 1
  have k2 := hw0.cell 2
  have k3 := hw0.cell 3
  have k4 := hw0.cell 4
  have k5 := hw0.cell 5
  have k6 := hw0.cell 6
  have k7 := hw0.cell 7
  have k8 := hw0.cell 8
  have k9 := hw0.cell 9
  have k10 := hw0.cell 10
  have k11 := hw0.cell 11
  clear hm hb0 hw0 h
  go_enter Tryz.func14, Tryz.ntmps14
  go_upto_region 1 with fail
  rw [← hW0]
  clear hW0
  go_wp2_with fail
  refine HP.out.mono ?_
  rintro e w1 (⟨hg, hf, rfl, v', hl1, hk1, ho1⟩ | ⟨hg, rfl, hl1, hb1⟩ | ⟨hg, rfl, hl1, hb1⟩)
  rotate_left
  · have HL1 := Lib.hid hl1
    have HB1 := Lib.hid (HB0.out.trans (hb1.mono HB0.out.size))
    have HG := Lib.hid hg
    clear hg hb1 hl1 k0 k1 k2 k3 k4 k5 k6 k7 k8 k9 k10 k11
    go_wp2
    go_ret
    exact .inr (.inl ⟨HG.out, rfl, HL1.out, HB1.out⟩)
  · have HL1 := Lib.hid hl1
    have HB1 := Lib.hid (HB0.out.trans (hb1.mono HB0.out.size))
    have HG := Lib.hid hg
    clear hg hb1 hl1 k0 k1 k2 k3 k4 k5 k6 k7 k8 k9 k10 k11
    go_wp2
    go_ret
    exact .inr (.inr ⟨HG.out, rfl, HL1.out, HB1.out⟩)
  · have HS := Lib.hid (lsync_any B gl g v' (xs ++ rcd m) d r (n + 1) w1 hl1)
    have HG := Lib.hid (And.intro hg hf)
    have HK := Lib.hid ((Kept.ofBelow gl g v HB0.out).trans hk1 (.inl rfl))
    have HO := Lib.hid (show v'.ownBlock = v.ownBlock ∨ ∃ q, v'.ownBlock = some q ∧ w.heap.size ≤ q from ho1.imp_right fun ⟨q, h1, h2⟩ => ⟨q, h1, Nat.le_trans HB0.out.size h2⟩)
    clear hg hf hl1 hk1 ho1 k0 k1 k2 k3 k4 k5 k6 k7 k8 k9 k10 k11
    go_wp2_with fail
    refine HS.out.mono ?_
    rintro e w2 ⟨rfl, hl2, hk2⟩
    have HL2 := Lib.hid hl2
    have HK2 := Lib.hid (HK.out.trans hk2 HO.out)
    clear hl2 hk2
    go_wp2
    go_ret
    exact .inl ⟨HG.out.1, HG.out.2, rfl, v', HL2.out, HK2.out, HO.out⟩

/-- What Open comes to. -/
def OpDone (w : World) (B g : Nat) (v : Value) (xs : List Int) (r : Nat) (e : Ending) (w' : World) : Prop :=
  ∃ gl rv v', e = .returned (.tuple #[.pointer (some ⟨gl, 0, none⟩), rv]) ∧ w.heap.size ≤ gl ∧ Lg w' B gl g v' (xs.take (recs xs).2) (recs xs).2 r (recs xs).1.length ∧ v'.ownBlock = v.ownBlock ∧ RowsOwn w' w.heap.size rv (recs xs).1 ∧ Dk.Turned w w' g none
theorem rows_turned {w w' : World} {base g : Nat} {u : Value} {ms : List MsgR} (hu : RowsOwn w base u ms) (hk : Dk.Turned w w' g none) (hg : g < base) : RowsOwn w' base u ms := by
  obtain ⟨qs, h1, h2, h3⟩ := hu
  have key : ∀ {n s : Nat} {v : Value} {e : TypeId} {l : List Value}, w.ownsRow base e s v n l → w'.ownsRow base e s v n l := fun h => owns_keep h fun j hj => hk.block j (h.lt j hj).2 (by have := (h.lt j hj).1; omega) (by simp)
  refine ⟨qs, h1, key h2, fun q hq => ⟨?_, (h3 q hq).2⟩⟩
  obtain ⟨⟨a1, a2, a3, a4⟩, _⟩ := h3 q hq
  exact ⟨key a1, key a2, key a3, key a4⟩
set_option maxRecDepth 100000 in
set_option maxHeartbeats 4000000 in
theorem lopen_any (B g : Nat) (v : Value) (xs : List Int) (d r : Nat) (w : World) (h : Dk.DAt w B g v xs d r) :
    Calls Tryz.prog 13 #[.pointer (some ⟨g, 0, none⟩)] w (OpDone w B g v xs r) := by
  have hgl : g < w.heap.size := (show Whole w g 73 _ from h.blk).lt
  have HB := Lib.hid (Dk.bytes_any w h)
  have H := Lib.hid h
  have hlen : xs.length ≤ 1048576 := Nat.le_trans h.hr h.hm
  clear h
  go_enter Tryz.func13, Tryz.ntmps13
  go_wp2_with fail
  refine HB.out.mono ?_
  rintro e w1 ⟨u, rfl, hown, hb1⟩
  obtain ⟨a, c, rfl, hc1, hc2⟩ := owned_any hown
  have HF := Lib.hid (find_any a xs.length c xs w1 (IsB.owned hown H.out.byte) hc1 hc2 hlen)
  have HB1 := Lib.hid hb1
  clear hown hb1 hc1 hc2
  go_wp2_with fail
  refine HF.out.mono ?_
  rintro e w2 ⟨rv, rfl, hrow, hb2⟩
  have hle := recs_le xs.length xs (Nat.le_refl _)
  have HB2 := Lib.hid (HB1.out.trans (hb2.mono HB1.out.size))
  obtain ⟨K, hK⟩ : ∃ K, K = (recs xs).2 := ⟨_, rfl⟩
  have HK := Lib.hid hK
  have HLE := Lib.hid hle
  rw [← hK]
  have HT := Lib.hid (Dk.trunc_good K w2 (H.out.below HB2.out) (by rw [hK]; exact hle.1))
  have HR := Lib.hid hrow
  have HS1 := Lib.hid HB1.out.size
  obtain ⟨ra, rcc, rfl, _, _⟩ := hrow.slice
  obtain ⟨N, hN⟩ : ∃ N, N = (recs xs).1.length := ⟨_, rfl⟩
  have HN := Lib.hid hN
  rw [← hN] at HR ⊢
  clear hrow hb2 hK hle hN
  go_wp2_with fail
  refine HT.out.mono ?_
  rintro e w3 ⟨rfl, v', hd3, ht3, ho3⟩
  have HR3 := Lib.hid (rows_turned (base := w1.heap.size) HR.out ht3 (Nat.lt_of_lt_of_le hgl HS1.out))
  have HD3 := Lib.hid hd3
  have HT3 := Lib.hid ((Dk.Turned.ofBelow g none HB2.out).then_ ht3 (.inl rfl))
  have HO3 := Lib.hid ho3
  clear hd3 ht3 ho3
  go_wp2
  go_ret2
  have hb4 := below_alloc w3 (.cells #[.pointer (some ⟨g, 0, none⟩), .int .i64 (N : Nat)] 91)
  refine ⟨w3.heap.size, _, v', rfl, HT3.out.size, ⟨?_, ?_, ?_⟩, HO3.out, ?_, ?_⟩
  · rw [← HN.out]
    exact heap_alloc_new w3 _
  · have := H.out.ge
    have := HT3.out.size
    omega
  · rw [← HK.out]
    exact HD3.out.below hb4
  · obtain ⟨qs, q1, q2, q3⟩ := HR3.out.below hb4
    exact ⟨qs, q1, owns_lower q2 HS1.out, fun q hq => ⟨(q3 q hq).1.lower HS1.out, (q3 q hq).2⟩⟩
  · exact HT3.out.then_ (Dk.Turned.ofBelow g none hb4) (.inl rfl)
end Go.Proofs.YteodldmbnghfcaaGreat
