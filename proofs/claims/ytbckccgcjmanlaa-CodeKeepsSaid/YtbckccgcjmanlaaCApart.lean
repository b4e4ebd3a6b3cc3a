/- CodeApart: two messages have the same bytes just if they are the same. -/
import Derived.Test.YtbckccgcjmanlaaCSame
import Derived.Test.YtbckccgcjmanlaaCInts
namespace Go.Proofs.Ytbckccgcjmanlaa
open Go.RowKit

theorem bl_inj {a b : ByteArray} (h : bl a = bl b) : a = b := by
  have hm : a.data.toList = b.data.toList := by
    refine (List.map_inj_right (f := fun x : UInt8 => (x.toNat : Int)) (fun x y hxy => ?_)).1 h
    have : x.toNat = y.toNat := by have h1 : (x.toNat : Int) = (y.toNat : Int) := hxy; omega
    exact UInt8.toNat_inj.1 this
  cases a; cases b
  congr 1
  exact Array.toList_inj.1 hm
theorem mutR_inj {a b : Mut} (h : mutR a = mutR b) : a = b := by
  cases a; cases b
  simp only [mutR, txs, Prod.mk.injEq] at h
  obtain ⟨rfl, h1, h2, h3⟩ := h
  rw [bl_inj h1, bl_inj h2, bl_inj h3]
theorem rowR_inj {a b : RowD} (h : rowR a = rowR b) : a = b := by
  cases a; cases b
  simp only [rowR, txs, Prod.mk.injEq] at h
  obtain ⟨⟨h1, h2, h3⟩, rfl, rfl⟩ := h
  rw [bl_inj h1, bl_inj h2, bl_inj h3]
theorem toR_inj {a b : MsgD} (h : toR a = toR b) : a = b := by
  cases a; cases b
  simp only [toR, MsgR.mk.injEq] at h
  obtain ⟨rfl, rfl, rfl, rfl, rfl, rfl, rfl, rfl, rfl, h1, h2, h3⟩ := h
  rw [(List.map_inj_right (fun _ _ => mutR_inj)).1 h1, (List.map_inj_right (fun _ _ => mutR_inj)).1 h2, (List.map_inj_right (fun _ _ => rowR_inj)).1 h3]
theorem enc_inj {a b : MsgD} (ha : a.ok) (hb : b.ok) (ia : a.in64) (ib : b.in64) (h : enc a = enc b) : a = b := by
  have h1 := (rd_msg ha ia).full []
  have h2 := (rd_msg hb ib).full []
  rw [h] at h1
  rw [h1] at h2
  injection h2 with h2
  injection h2 with h2 _
  exact toR_inj h2
theorem nums_inj {a b : List Int} (ha : ∀ x ∈ a, 0 ≤ x ∧ x < 256) (hb : ∀ x ∈ b, 0 ≤ x ∧ x < 256) (h : strOfNums a = strOfNums b) : a = b := by
  have hl := congrArg ByteArray.size h
  rw [strOfNums_size, strOfNums_size] at hl
  refine List.ext_getElem hl fun i h1 h2 => ?_
  have := congrArg (fun s : ByteArray => s.data.toList) h
  simp only [strOfNums] at this
  have h3 := congrArg (fun l => l[i]?) this
  simp only [List.getElem?_map] at h3
  rw [List.getElem?_eq_getElem h1, List.getElem?_eq_getElem h2] at h3
  simp at h3
  have e1 := ha _ (List.getElem_mem h1)
  have e2 := hb _ (List.getElem_mem h2)
  have h4 := congrArg UInt8.toNat h3
  simp at h4
  omega
theorem same_bool (V V' : Value) (m m' : MsgD) (w : World) (h : MsgIn w V m) (h' : MsgIn w V' m') (b : Bool) (hb : b = true ↔ m = m') :
    Calls Try.prog 19 #[V, V'] w fun e w' => e = .returned (.bool b) ∧ Below w.heap.size w w' := by
  refine (same_any V V' m m' w h h').mono ?_
  rintro e w' ⟨r, rfl, hr, hbl⟩
  obtain rfl : r = b := by
    cases r <;> cases b <;> simp_all
  exact ⟨rfl, hbl⟩
theorem MsgIn.below {w w' : World} {V : Value} {m : MsgD} (h : MsgIn w V m) (hb : Below w.heap.size w w') : MsgIn w' V m := by
  obtain ⟨na, ma, pa, ra, nn, nc, mn, mc, pn, pc, rn, rc, h⟩ := h
  exact ⟨na, ma, pa, ra, nn, nc, mn, mc, pn, pc, rn, rc, h.up hb hb.size⟩

/-- The twelve cells of a block. -/
abbrev Box (V : World) (g : Nat) (v0 v1 v2 v3 v4 v5 v6 v7 v8 v9 v10 v11 : Value) : Prop := V.cell? ⟨g, 0, none⟩ = some v0 ∧ V.cell? ⟨g, 1, none⟩ = some v1 ∧ V.cell? ⟨g, 2, none⟩ = some v2 ∧ V.cell? ⟨g, 3, none⟩ = some v3 ∧ V.cell? ⟨g, 4, none⟩ = some v4 ∧ V.cell? ⟨g, 5, none⟩ = some v5 ∧ V.cell? ⟨g, 6, none⟩ = some v6 ∧ V.cell? ⟨g, 7, none⟩ = some v7 ∧ V.cell? ⟨g, 8, none⟩ = some v8 ∧ V.cell? ⟨g, 9, none⟩ = some v9 ∧ V.cell? ⟨g, 10, none⟩ = some v10 ∧ V.cell? ⟨g, 11, none⟩ = some v11
theorem box_mk {V : World} {g : Nat} {t : TypeId} {v0 v1 v2 v3 v4 v5 v6 v7 v8 v9 v10 v11 : Value} (h : Whole V g t #[v0, v1, v2, v3, v4, v5, v6, v7, v8, v9, v10, v11]) : Box V g v0 v1 v2 v3 v4 v5 v6 v7 v8 v9 v10 v11 :=
  ⟨h.cell 0, h.cell 1, h.cell 2, h.cell 3, h.cell 4, h.cell 5, h.cell 6, h.cell 7, h.cell 8, h.cell 9, h.cell 10, h.cell 11⟩
/-- What is held of the world in the last region, hidden from the walk. -/
def KeptA (w V : World) (ga gb : Nat) (cs cs2 : Array Value) (p n p2 n2 : Nat) (X Y : List Int) (VA VB : Value) (m m2 : MsgD) : Prop :=
  Below w.heap.size w V ∧ Whole V ga 37 cs ∧ Whole V gb 37 cs2 ∧ IsB V (some ⟨p, 0, none⟩) n X ∧ IsB V (some ⟨p2, 0, none⟩) n2 Y ∧ MsgIn V VA m ∧ MsgIn V VB m2
theorem keptA_keep {w V V' : World} {ga gb : Nat} {cs cs2 : Array Value} {p n p2 n2 : Nat} {X Y : List Int} {VA VB : Value} {m m2 : MsgD} (h : KeptA w V ga gb cs cs2 p n p2 n2 X Y VA VB m m2) (hb : Below V.heap.size V V') : KeptA w V' ga gb cs cs2 p n p2 n2 X Y VA VB m m2 := by
  obtain ⟨h1, h2, h3, h4, h5, h6, h7⟩ := h
  exact ⟨h1.trans (hb.mono h1.size), h2.kept (hb.block _ h2.lt), h3.kept (hb.block _ h3.lt), h4.below hb, h5.below hb, h6.below hb, h7.below hb⟩
theorem keptA_in1 {w V : World} {ga gb : Nat} {cs cs2 : Array Value} {p n p2 n2 : Nat} {X Y : List Int} {VA VB : Value} {m m2 : MsgD} (h : KeptA w V ga gb cs cs2 p n p2 n2 X Y VA VB m m2) : MsgIn V VA m := h.2.2.2.2.2.1
theorem keptA_in2 {w V : World} {ga gb : Nat} {cs cs2 : Array Value} {p n p2 n2 : Nat} {X Y : List Int} {VA VB : Value} {m m2 : MsgD} (h : KeptA w V ga gb cs cs2 p n p2 n2 X Y VA VB m m2) : MsgIn V VB m2 := h.2.2.2.2.2.2
abbrev HeldA (w V : World) (ga gb : Nat) (v0 v1 v2 v3 v4 v5 v6 v7 v8 v9 v10 v11 u0 u1 u2 u3 u4 u5 u6 u7 u8 u9 u10 u11 : Value) (p n c p2 n2 c2 : Nat) (X Y : List Int) (m m2 : MsgD) : Prop := Box V ga v0 v1 v2 v3 v4 v5 v6 v7 v8 v9 v10 v11 ∧ Box V gb u0 u1 u2 u3 u4 u5 u6 u7 u8 u9 u10 u11 ∧ (convert 22 9 (.slice (some ⟨p, 0, none⟩) n c)).run Try.prog V = .ok (.string (strOfNums X)) V ∧ (convert 22 9 (.slice (some ⟨p2, 0, none⟩) n2 c2)).run Try.prog V = .ok (.string (strOfNums Y)) V ∧ KeptA w V ga gb #[v0, v1, v2, v3, v4, v5, v6, v7, v8, v9, v10, v11] #[u0, u1, u2, u3, u4, u5, u6, u7, u8, u9, u10, u11] p n p2 n2 X Y (.agg #[v0, v1, v2, v3, v4, v5, v6, v7, v8, v9, v10, v11]) (.agg #[u0, u1, u2, u3, u4, u5, u6, u7, u8, u9, u10, u11]) m m2
theorem heldA_mk {w V : World} {ga gb : Nat} {v0 v1 v2 v3 v4 v5 v6 v7 v8 v9 v10 v11 u0 u1 u2 u3 u4 u5 u6 u7 u8 u9 u10 u11 : Value} {p n c p2 n2 c2 : Nat} {X Y : List Int} {m m2 : MsgD} (h : KeptA w V ga gb #[v0, v1, v2, v3, v4, v5, v6, v7, v8, v9, v10, v11] #[u0, u1, u2, u3, u4, u5, u6, u7, u8, u9, u10, u11] p n p2 n2 X Y (.agg #[v0, v1, v2, v3, v4, v5, v6, v7, v8, v9, v10, v11]) (.agg #[u0, u1, u2, u3, u4, u5, u6, u7, u8, u9, u10, u11]) m m2) : HeldA w V ga gb v0 v1 v2 v3 v4 v5 v6 v7 v8 v9 v10 v11 u0 u1 u2 u3 u4 u5 u6 u7 u8 u9 u10 u11 p n c p2 n2 c2 X Y m m2 :=
  ⟨box_mk h.2.1, box_mk h.2.2.1, h.2.2.2.1.str c, h.2.2.2.2.1.str c2, h⟩
theorem heldA_keep {w V : World} {ga gb : Nat} {v0 v1 v2 v3 v4 v5 v6 v7 v8 v9 v10 v11 u0 u1 u2 u3 u4 u5 u6 u7 u8 u9 u10 u11 : Value} {p n c p2 n2 c2 : Nat} {X Y : List Int} {m m2 : MsgD} {V' : World} (h : HeldA w V ga gb v0 v1 v2 v3 v4 v5 v6 v7 v8 v9 v10 v11 u0 u1 u2 u3 u4 u5 u6 u7 u8 u9 u10 u11 p n c p2 n2 c2 X Y m m2) (hb : Below V.heap.size V V') : HeldA w V' ga gb v0 v1 v2 v3 v4 v5 v6 v7 v8 v9 v10 v11 u0 u1 u2 u3 u4 u5 u6 u7 u8 u9 u10 u11 p n c p2 n2 c2 X Y m m2 := heldA_mk (keptA_keep h.2.2.2.2 hb)

set_option maxRecDepth 100000 in
set_option maxHeartbeats 2000000 in
theorem apart_walk (V V2 : Value) (m m2 : MsgD) (w : World) (hm : MsgIn w V m) (hm2 : MsgIn w V2 m2) :
    Calls Try.prog 9 #[V, V2] w fun e w' => e = .returned (.bool true) ∧ Below w.heap.size w w' := by
  obtain ⟨na, ma, pa, ra, nn, nc, mn, mc, pn, pc, rn, rc, hm⟩ := hm
  obtain ⟨na2, ma2, pa2, ra2, nn2, nc2, mn2, mc2, pn2, pc2, rn2, rc2, hm2⟩ := hm2
  have hv := hm.val
  have hv2 := hm2.val
  subst hv hv2
  have HM := Lib.hid hm
  have HM2 := Lib.hid hm2
  clear hm hm2
  go_enter Try.func9, Try.ntmps9
  go_wp2_with fail
  refine (awake_any _).mono ?_
  rintro e w1 ⟨rfl, hb1⟩
  have hb0 : Below w.heap.size w ((w.alloc (.cells #[.int .i64 m.kind, .int .i64 m.from_, .int .i64 m.«to», .int .i64 m.id, .int .i64 m.rev, .int .i64 m.epoch, .int .i64 m.slot, .bool m.flag, .slice na nn nc, .slice ma mn mc, .slice pa pn pc, .slice ra rn rc] 37)).alloc (.cells #[.int .i64 m2.kind, .int .i64 m2.from_, .int .i64 m2.«to», .int .i64 m2.id, .int .i64 m2.rev, .int .i64 m2.epoch, .int .i64 m2.slot, .bool m2.flag, .slice na2 nn2 nc2, .slice ma2 mn2 mc2, .slice pa2 pn2 pc2, .slice ra2 rn2 rc2] 37)) := (below_alloc w _).trans ((below_alloc _ _).mono (by simp))
  have hw0 : Whole ((w.alloc (.cells #[.int .i64 m.kind, .int .i64 m.from_, .int .i64 m.«to», .int .i64 m.id, .int .i64 m.rev, .int .i64 m.epoch, .int .i64 m.slot, .bool m.flag, .slice na nn nc, .slice ma mn mc, .slice pa pn pc, .slice ra rn rc] 37)).alloc (.cells #[.int .i64 m2.kind, .int .i64 m2.from_, .int .i64 m2.«to», .int .i64 m2.id, .int .i64 m2.rev, .int .i64 m2.epoch, .int .i64 m2.slot, .bool m2.flag, .slice na2 nn2 nc2, .slice ma2 mn2 mc2, .slice pa2 pn2 pc2, .slice ra2 rn2 rc2] 37)) w.heap.size 37 #[.int .i64 m.kind, .int .i64 m.from_, .int .i64 m.«to», .int .i64 m.id, .int .i64 m.rev, .int .i64 m.epoch, .int .i64 m.slot, .bool m.flag, .slice na nn nc, .slice ma mn mc, .slice pa pn pc, .slice ra rn rc] := (show Whole (w.alloc (.cells #[.int .i64 m.kind, .int .i64 m.from_, .int .i64 m.«to», .int .i64 m.id, .int .i64 m.rev, .int .i64 m.epoch, .int .i64 m.slot, .bool m.flag, .slice na nn nc, .slice ma mn mc, .slice pa pn pc, .slice ra rn rc] 37)) w.heap.size 37 #[.int .i64 m.kind, .int .i64 m.from_, .int .i64 m.«to», .int .i64 m.id, .int .i64 m.rev, .int .i64 m.epoch, .int .i64 m.slot, .bool m.flag, .slice na nn nc, .slice ma mn mc, .slice pa pn pc, .slice ra rn rc] from heap_alloc_new w _).kept (Below.heap_alloc _ _ _ (by simp))
  have hw2 : Whole ((w.alloc (.cells #[.int .i64 m.kind, .int .i64 m.from_, .int .i64 m.«to», .int .i64 m.id, .int .i64 m.rev, .int .i64 m.epoch, .int .i64 m.slot, .bool m.flag, .slice na nn nc, .slice ma mn mc, .slice pa pn pc, .slice ra rn rc] 37)).alloc (.cells #[.int .i64 m2.kind, .int .i64 m2.from_, .int .i64 m2.«to», .int .i64 m2.id, .int .i64 m2.rev, .int .i64 m2.epoch, .int .i64 m2.slot, .bool m2.flag, .slice na2 nn2 nc2, .slice ma2 mn2 mc2, .slice pa2 pn2 pc2, .slice ra2 rn2 rc2] 37)) (w.heap.size + 1) 37 #[.int .i64 m2.kind, .int .i64 m2.from_, .int .i64 m2.«to», .int .i64 m2.id, .int .i64 m2.rev, .int .i64 m2.epoch, .int .i64 m2.slot, .bool m2.flag, .slice na2 nn2 nc2, .slice ma2 mn2 mc2, .slice pa2 pn2 pc2, .slice ra2 rn2 rc2] := by
    have := heap_alloc_new (w.alloc (.cells #[.int .i64 m.kind, .int .i64 m.from_, .int .i64 m.«to», .int .i64 m.id, .int .i64 m.rev, .int .i64 m.epoch, .int .i64 m.slot, .bool m.flag, .slice na nn nc, .slice ma mn mc, .slice pa pn pc, .slice ra rn rc] 37)) (.cells #[.int .i64 m2.kind, .int .i64 m2.from_, .int .i64 m2.«to», .int .i64 m2.id, .int .i64 m2.rev, .int .i64 m2.epoch, .int .i64 m2.slot, .bool m2.flag, .slice na2 nn2 nc2, .slice ma2 mn2 mc2, .slice pa2 pn2 pc2, .slice ra2 rn2 rc2] 37)
    rwa [show (w.alloc (.cells #[.int .i64 m.kind, .int .i64 m.from_, .int .i64 m.«to», .int .i64 m.id, .int .i64 m.rev, .int .i64 m.epoch, .int .i64 m.slot, .bool m.flag, .slice na nn nc, .slice ma mn mc, .slice pa pn pc, .slice ra rn rc] 37)).heap.size = w.heap.size + 1 by simp] at this
  have hwa := hw0.kept (hb1.block _ hw0.lt)
  have hwb := hw2.kept (hb1.block _ hw2.lt)
  have HB1 := Lib.hid (hb0.trans (hb1.mono hb0.size))
  have HM1 := Lib.hid (HM.out.up HB1.out HB1.out.size)
  have HN1 := Lib.hid (HM2.out.up HB1.out HB1.out.size)
  have k0 := hwa.cell 0
  have k1 := hwa.cell 1
  have k2 := hwa.cell 2
  have k3 := hwa.cell 3
  have k4 := hwa.cell 4
  have k5 := hwa.cell 5
  have k6 := hwa.cell 6
  have k7 := hwa.cell 7
  have k8 := hwa.cell 8
  have k9 := hwa.cell 9
  have k10 := hwa.cell 10
  have k11 := hwa.cell 11
  have l0 := hwb.cell 0
  have l1 := hwb.cell 1
  have l2 := hwb.cell 2
  have l3 := hwb.cell 3
  have l4 := hwb.cell 4
  have l5 := hwb.cell 5
  have l6 := hwb.cell 6
  have l7 := hwb.cell 7
  have l8 := hwb.cell 8
  have l9 := hwb.cell 9
  have l10 := hwb.cell 10
  have l11 := hwb.cell 11
  have HWA := Lib.hid hwa
  have HWB := Lib.hid hwb
  clear hb1 hwa hwb hb0 hw0 hw2 HM HM2
  by_cases hok : m.ok ∧ (enc m).length ≤ 16384
  rotate_left
  · have HE := Lib.hid (enc_no HM1.out hok)
    clear hok
    go_wp2_with fail
    refine HE.out.mono ?_
    rintro e w2 ⟨rfl, hb2⟩
    have j0 := (hb2.cell (p := ⟨w.heap.size + 1, 0, none⟩) (World.block_lt_of_cell? _ _ l0)).trans l0
    have j1 := (hb2.cell (p := ⟨w.heap.size + 1, 1, none⟩) (World.block_lt_of_cell? _ _ l1)).trans l1
    have j2 := (hb2.cell (p := ⟨w.heap.size + 1, 2, none⟩) (World.block_lt_of_cell? _ _ l2)).trans l2
    have j3 := (hb2.cell (p := ⟨w.heap.size + 1, 3, none⟩) (World.block_lt_of_cell? _ _ l3)).trans l3
    have j4 := (hb2.cell (p := ⟨w.heap.size + 1, 4, none⟩) (World.block_lt_of_cell? _ _ l4)).trans l4
    have j5 := (hb2.cell (p := ⟨w.heap.size + 1, 5, none⟩) (World.block_lt_of_cell? _ _ l5)).trans l5
    have j6 := (hb2.cell (p := ⟨w.heap.size + 1, 6, none⟩) (World.block_lt_of_cell? _ _ l6)).trans l6
    have j7 := (hb2.cell (p := ⟨w.heap.size + 1, 7, none⟩) (World.block_lt_of_cell? _ _ l7)).trans l7
    have j8 := (hb2.cell (p := ⟨w.heap.size + 1, 8, none⟩) (World.block_lt_of_cell? _ _ l8)).trans l8
    have j9 := (hb2.cell (p := ⟨w.heap.size + 1, 9, none⟩) (World.block_lt_of_cell? _ _ l9)).trans l9
    have j10 := (hb2.cell (p := ⟨w.heap.size + 1, 10, none⟩) (World.block_lt_of_cell? _ _ l10)).trans l10
    have j11 := (hb2.cell (p := ⟨w.heap.size + 1, 11, none⟩) (World.block_lt_of_cell? _ _ l11)).trans l11
    have HB2 := Lib.hid (HB1.out.trans (hb2.mono HB1.out.size))
    have HN2 := Lib.hid (HN1.out.up hb2 hb2.size)
    clear hb2
    by_cases hok2 : m2.ok ∧ (enc m2).length ≤ 16384
    · have HE2 := Lib.hid (encode_fits _ m2 na2 ma2 pa2 ra2 nn2 nc2 mn2 mc2 pn2 pc2 rn2 rc2 w2 HN2.out hok2.1 hok2.2)
      clear hok2
      go_wp2_with fail
      refine HE2.out.mono ?_
      rintro e w3 ⟨v', rfl, _, hb3⟩
      have HB3 := Lib.hid (HB2.out.trans (hb3.mono HB2.out.size))
      clear hb3
      go_wp2
      go_ret
      exact ⟨rfl, HB3.out⟩
    · have HE2 := Lib.hid (enc_no HN2.out hok2)
      clear hok2
      go_wp2_with fail
      refine HE2.out.mono ?_
      rintro e w3 ⟨rfl, hb3⟩
      have HB3 := Lib.hid (HB2.out.trans (hb3.mono HB2.out.size))
      clear hb3
      go_wp2
      go_ret
      exact ⟨rfl, HB3.out⟩
  have HE := Lib.hid (encode_fits _ m na ma pa ra nn nc mn mc pn pc rn rc w1 HM1.out hok.1 hok.2)
  have hpos := enc_pos m
  have HOK := Lib.hid hok
  clear hok
  go_wp2_with fail
  refine HE.out.mono ?_
  rintro e w2 ⟨v', rfl, hown, hb2⟩
  obtain ⟨g, c, rfl, _, _⟩ := owns_shape hown hpos
  have HI := Lib.hid (IsB.owned hown (enc_byte m))
  have j0 := (hb2.cell (p := ⟨w.heap.size + 1, 0, none⟩) (World.block_lt_of_cell? _ _ l0)).trans l0
  have j1 := (hb2.cell (p := ⟨w.heap.size + 1, 1, none⟩) (World.block_lt_of_cell? _ _ l1)).trans l1
  have j2 := (hb2.cell (p := ⟨w.heap.size + 1, 2, none⟩) (World.block_lt_of_cell? _ _ l2)).trans l2
  have j3 := (hb2.cell (p := ⟨w.heap.size + 1, 3, none⟩) (World.block_lt_of_cell? _ _ l3)).trans l3
  have j4 := (hb2.cell (p := ⟨w.heap.size + 1, 4, none⟩) (World.block_lt_of_cell? _ _ l4)).trans l4
  have j5 := (hb2.cell (p := ⟨w.heap.size + 1, 5, none⟩) (World.block_lt_of_cell? _ _ l5)).trans l5
  have j6 := (hb2.cell (p := ⟨w.heap.size + 1, 6, none⟩) (World.block_lt_of_cell? _ _ l6)).trans l6
  have j7 := (hb2.cell (p := ⟨w.heap.size + 1, 7, none⟩) (World.block_lt_of_cell? _ _ l7)).trans l7
  have j8 := (hb2.cell (p := ⟨w.heap.size + 1, 8, none⟩) (World.block_lt_of_cell? _ _ l8)).trans l8
  have j9 := (hb2.cell (p := ⟨w.heap.size + 1, 9, none⟩) (World.block_lt_of_cell? _ _ l9)).trans l9
  have j10 := (hb2.cell (p := ⟨w.heap.size + 1, 10, none⟩) (World.block_lt_of_cell? _ _ l10)).trans l10
  have j11 := (hb2.cell (p := ⟨w.heap.size + 1, 11, none⟩) (World.block_lt_of_cell? _ _ l11)).trans l11
  have HB2 := Lib.hid (HB1.out.trans (hb2.mono HB1.out.size))
  have HM2 := Lib.hid (HM1.out.up hb2 hb2.size)
  have HN2 := Lib.hid (HN1.out.up hb2 hb2.size)
  have HWA2 := Lib.hid (HWA.out.kept (hb2.block _ HWA.out.lt))
  have HWB2 := Lib.hid (HWB.out.kept (hb2.block _ HWB.out.lt))
  clear hown hb2 hpos HE HM1 HN1 HWA HWB k0 k1 k2 k3 k4 k5 k6 k7 k8 k9 k10 k11 l0 l1 l2 l3 l4 l5 l6 l7 l8 l9 l10 l11
  by_cases hok2 : m2.ok ∧ (enc m2).length ≤ 16384
  rotate_left
  · have HE2 := Lib.hid (enc_no HN2.out hok2)
    clear hok2
    go_wp2_with fail
    refine HE2.out.mono ?_
    rintro e w3 ⟨rfl, hb3⟩
    have HB3 := Lib.hid (HB2.out.trans (hb3.mono HB2.out.size))
    clear hb3
    go_wp2
    go_ret
    exact ⟨rfl, HB3.out⟩
  have HE2 := Lib.hid (encode_fits _ m2 na2 ma2 pa2 ra2 nn2 nc2 mn2 mc2 pn2 pc2 rn2 rc2 w2 HN2.out hok2.1 hok2.2)
  have hpos := enc_pos m2
  have HOK2 := Lib.hid hok2
  clear hok2
  go_wp2_with fail
  refine HE2.out.mono ?_
  rintro e w3 ⟨v', rfl, hown, hb3⟩
  obtain ⟨g2, c2, rfl, _, _⟩ := owns_shape hown hpos
  have HK := Lib.hid (show KeptA w w3 w.heap.size (w.heap.size + 1) _ _ g _ g2 _ (enc m) (enc m2) _ _ m m2 from ⟨HB2.out.trans (hb3.mono HB2.out.size), HWA2.out.kept (hb3.block _ HWA2.out.lt), HWB2.out.kept (hb3.block _ HWB2.out.lt), HI.out.below hb3, IsB.owned hown (enc_byte m2), ⟨_, _, _, _, _, _, _, _, _, _, _, _, HM2.out.up hb3 hb3.size⟩, ⟨_, _, _, _, _, _, _, _, _, _, _, _, HN2.out.up hb3 hb3.size⟩⟩)
  obtain ⟨b, hcmp, hbm⟩ : ∃ b : Bool, ((strOfNums (enc m)).toList == (strOfNums (enc m2)).toList) = b ∧ (b = true ↔ m = m2) := by
    by_cases q : m = m2
    · exact ⟨true, by rw [q]; simp, by simp [q]⟩
    · refine ⟨false, str_ne fun h => q ?_, by simp [q]⟩
      exact enc_inj HOK.out.1 HOK2.out.1 HM2.out.in64 HN2.out.in64 (nums_inj (enc_byte m) (enc_byte m2) h)
  have HBM := Lib.hid hbm
  clear hown hb3 hpos HE2 HM2 HN2 HWA2 HWB2 j0 j1 j2 j3 j4 j5 j6 j7 j8 j9 j10 j11 hbm HI HB1 HB2 HOK HOK2
  go_wp2_with fail
  generalize enc m = X at *
  generalize enc m2 = Y at *
  have HS0 := Lib.hid (heldA_mk (c := c) (c2 := c2) HK.out)
  have e1 : (b == b) = true := by simp
  go_region_held3 (fun V => HeldA w V w.heap.size (w.heap.size + 1) (.int .i64 m.kind) (.int .i64 m.from_) (.int .i64 m.«to») (.int .i64 m.id) (.int .i64 m.rev) (.int .i64 m.epoch) (.int .i64 m.slot) (.bool m.flag) (.slice na nn nc) (.slice ma mn mc) (.slice pa pn pc) (.slice ra rn rc) (.int .i64 m2.kind) (.int .i64 m2.from_) (.int .i64 m2.«to») (.int .i64 m2.id) (.int .i64 m2.rev) (.int .i64 m2.epoch) (.int .i64 m2.slot) (.bool m2.flag) (.slice na2 nn2 nc2) (.slice ma2 mn2 mc2) (.slice pa2 pn2 pc2) (.slice ra2 rn2 rc2) g X.length c g2 Y.length c2 X Y m m2) (first
      | exact heldA_keep HS0.out (below_drewN _ 1)
      | assumption
      | exact heldA_mk (keptA_keep (by assumption) (by assumption))) (first
    | (go_at_call 19; go_split_ands; (with_reducible refine (same_bool _ _ m m2 _ (keptA_in1 (by assumption)) (keptA_in2 (by assumption)) b HBM.out).mono ?_); rintro e w' ⟨rfl, hbn⟩))
  have HF := Lib.hid (show HeldA w w' w.heap.size (w.heap.size + 1) (.int .i64 m.kind) (.int .i64 m.from_) (.int .i64 m.«to») (.int .i64 m.id) (.int .i64 m.rev) (.int .i64 m.epoch) (.int .i64 m.slot) (.bool m.flag) (.slice na nn nc) (.slice ma mn mc) (.slice pa pn pc) (.slice ra rn rc) (.int .i64 m2.kind) (.int .i64 m2.from_) (.int .i64 m2.«to») (.int .i64 m2.id) (.int .i64 m2.rev) (.int .i64 m2.epoch) (.int .i64 m2.slot) (.bool m2.flag) (.slice na2 nn2 nc2) (.slice ma2 mn2 mc2) (.slice pa2 pn2 pc2) (.slice ra2 rn2 rc2) g X.length c g2 Y.length c2 X Y m m2 by assumption)
  go_wp2
  go_ret
  exact ⟨rfl, HF.out.2.2.2.2.1⟩
end Go.Proofs.Ytbckccgcjmanlaa
