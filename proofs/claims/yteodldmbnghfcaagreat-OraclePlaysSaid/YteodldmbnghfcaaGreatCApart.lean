/- CodeApart: two messages have the same bytes just if they are the same. -/
import Derived.Test.YteodldmbnghfcaaGreatCSame
import Derived.Test.YteodldmbnghfcaaGreatCCuts
namespace Go.Proofs.YteodldmbnghfcaaGreat
open Go.RowKit

theorem bl_inj {a b : ByteArray} (h : bl a = bl b) : a = b := by
  have hm : a.data.toList = b.data.toList := by
    refine (List.map_inj_right (f := fun x : UInt8 => (x.toNat : Int)) (fun x y hxy => ?_)).1 h
    have : x.toNat = y.toNat := by have h1 : (x.toNat : Int) = (y.toNat : Int) := hxy; omega
    exact UInt8.toNat_inj.1 this
  cases a; cases b
  congr 1
  exact Array.toList_inj.1 hm
theorem mutR_inj {a b : Mut} (h : mutR a = mutR b) : a = b := by
  cases a; cases b
  simp only [mutR, txs, Prod.mk.injEq] at h
  obtain ⟨rfl, h1, h2, h3⟩ := h
  rw [bl_inj h1, bl_inj h2, bl_inj h3]
theorem rowR_inj {a b : RowD} (h : rowR a = rowR b) : a = b := by
  cases a; cases b
  simp only [rowR, txs, Prod.mk.injEq] at h
  obtain ⟨⟨h1, h2, h3⟩, rfl, rfl⟩ := h
  rw [bl_inj h1, bl_inj h2, bl_inj h3]
theorem toR_inj {a b : MsgD} (h : toR a = toR b) : a = b := by
  cases a; cases b
  simp only [toR, MsgR.mk.injEq] at h
  obtain ⟨rfl, rfl, rfl, rfl, rfl, rfl, rfl, rfl, rfl, h1, h2, h3⟩ := h
  rw [(List.map_inj_right (fun _ _ => mutR_inj)).1 h1, (List.map_inj_right (fun _ _ => mutR_inj)).1 h2, (List.map_inj_right (fun _ _ => rowR_inj)).1 h3]
theorem enc_inj {a b : MsgD} (ha : a.ok) (hb : b.ok) (ia : a.in64) (ib : b.in64) (h : enc a = enc b) : a = b := by
  have h1 := (rd_msg ha ia).full []
  have h2 := (rd_msg hb ib).full []
  rw [h] at h1
  rw [h1] at h2
  injection h2 with h2
  injection h2 with h2 _
  exact toR_inj h2
theorem nums_inj {a b : List Int} (ha : ∀ x ∈ a, 0 ≤ x ∧ x < 256) (hb : ∀ x ∈ b, 0 ≤ x ∧ x < 256) (h : strOfNums a = strOfNums b) : a = b := by
  have hl := congrArg ByteArray.size h
  rw [strOfNums_size, strOfNums_size] at hl
  refine List.ext_getElem hl fun i h1 h2 => ?_
  have := congrArg (fun s : ByteArray => s.data.toList) h
  simp only [strOfNums] at this
  have h3 := congrArg (fun l => l[i]?) this
  simp only [List.getElem?_map] at h3
  rw [List.getElem?_eq_getElem h1, List.getElem?_eq_getElem h2] at h3
  simp at h3
  have e1 := ha _ (List.getElem_mem h1)
  have e2 := hb _ (List.getElem_mem h2)
  have h4 := congrArg UInt8.toNat h3
  simp at h4
  omega
theorem same_bool (V V' : Value) (m m' : MsgD) (w : World) (h : MsgIn w V m) (h' : MsgIn w V' m') (b : Bool) (hb : b = true ↔ m = m') :
    Calls Tryz.prog 46 #[V, V'] w fun e w' => e = .returned (.bool b) ∧ Below w.heap.size w w' := by
  refine (same_any V V' m m' w h h').mono ?_
  rintro e w' ⟨r, rfl, hr, hbl⟩
  obtain rfl : r = b := by
    cases r <;> cases b <;> simp_all
  exact ⟨rfl, hbl⟩
theorem MsgIn.below {w w' : World} {V : Value} {m : MsgD} (h : MsgIn w V m) (hb : Below w.heap.size w w') : MsgIn w' V m := by
  obtain ⟨na, ma, pa, ra, nn, nc, mn, mc, pn, pc, rn, rc, h⟩ := h
  exact ⟨na, ma, pa, ra, nn, nc, mn, mc, pn, pc, rn, rc, h.up hb hb.size⟩

/-- The twelve cells of a block. -/
abbrev Box (V : World) (g : Nat) (v0 v1 v2 v3 v4 v5 v6 v7 v8 v9 v10 v11 : Value) : Prop := V.cell? ⟨g, 0, none⟩ = some v0 ∧ V.cell? ⟨g, 1, none⟩ = some v1 ∧ V.cell? ⟨g, 2, none⟩ = some v2 ∧ V.cell? ⟨g, 3, none⟩ = some v3 ∧ V.cell? ⟨g, 4, none⟩ = some v4 ∧ V.cell? ⟨g, 5, none⟩ = some v5 ∧ V.cell? ⟨g, 6, none⟩ = some v6 ∧ V.cell? ⟨g, 7, none⟩ = some v7 ∧ V.cell? ⟨g, 8, none⟩ = some v8 ∧ V.cell? ⟨g, 9, none⟩ = some v9 ∧ V.cell? ⟨g, 10, none⟩ = some v10 ∧ V.cell? ⟨g, 11, none⟩ = some v11
theorem box_mk {V : World} {g : Nat} {t : TypeId} {v0 v1 v2 v3 v4 v5 v6 v7 v8 v9 v10 v11 : Value} (h : Whole V g t #[v0, v1, v2, v3, v4, v5, v6, v7, v8, v9, v10, v11]) : Box V g v0 v1 v2 v3 v4 v5 v6 v7 v8 v9 v10 v11 :=
  ⟨h.cell 0, h.cell 1, h.cell 2, h.cell 3, h.cell 4, h.cell 5, h.cell 6, h.cell 7, h.cell 8, h.cell 9, h.cell 10, h.cell 11⟩
/-- What is held of the world in the last region, hidden from the walk. -/
def KeptA (w V : World) (ga gb : Nat) (cs cs2 : Array Value) (p n p2 n2 : Nat) (X Y : List Int) (VA VB : Value) (m m2 : MsgD) : Prop :=
  Below w.heap.size w V ∧ Whole V ga 43 cs ∧ Whole V gb 43 cs2 ∧ IsB V (some ⟨p, 0, none⟩) n X ∧ IsB V (some ⟨p2, 0, none⟩) n2 Y ∧ MsgIn V VA m ∧ MsgIn V VB m2
theorem keptA_keep {w V V' : World} {ga gb : Nat} {cs cs2 : Array Value} {p n p2 n2 : Nat} {X Y : List Int} {VA VB : Value} {m m2 : MsgD} (h : KeptA w V ga gb cs cs2 p n p2 n2 X Y VA VB m m2) (hb : Below V.heap.size V V') : KeptA w V' ga gb cs cs2 p n p2 n2 X Y VA VB m m2 := by
  obtain ⟨h1, h2, h3, h4, h5, h6, h7⟩ := h
  exact ⟨h1.trans (hb.mono h1.size), h2.kept (hb.block _ h2.lt), h3.kept (hb.block _ h3.lt), h4.below hb, h5.below hb, h6.below hb, h7.below hb⟩
theorem keptA_in1 {w V : World} {ga gb : Nat} {cs cs2 : Array Value} {p n p2 n2 : Nat} {X Y : List Int} {VA VB : Value} {m m2 : MsgD} (h : KeptA w V ga gb cs cs2 p n p2 n2 X Y VA VB m m2) : MsgIn V VA m := h.2.2.2.2.2.1
theorem keptA_in2 {w V : World} {ga gb : Nat} {cs cs2 : Array Value} {p n p2 n2 : Nat} {X Y : List Int} {VA VB : Value} {m m2 : MsgD} (h : KeptA w V ga gb cs cs2 p n p2 n2 X Y VA VB m m2) : MsgIn V VB m2 := h.2.2.2.2.2.2
abbrev HeldA (w V : World) (ga gb : Nat) (v0 v1 v2 v3 v4 v5 v6 v7 v8 v9 v10 v11 u0 u1 u2 u3 u4 u5 u6 u7 u8 u9 u10 u11 : Value) (p n c p2 n2 c2 : Nat) (X Y : List Int) (m m2 : MsgD) : Prop := Box V ga v0 v1 v2 v3 v4 v5 v6 v7 v8 v9 v10 v11 ∧ Box V gb u0 u1 u2 u3 u4 u5 u6 u7 u8 u9 u10 u11 ∧ (convert 68 9 (.slice (some ⟨p, 0, none⟩) n c)).run Tryz.prog V = .ok (.string (strOfNums X)) V ∧ (convert 68 9 (.slice (some ⟨p2, 0, none⟩) n2 c2)).run Tryz.prog V = .ok (.string (strOfNums Y)) V ∧ KeptA w V ga gb #[v0, v1, v2, v3, v4, v5, v6, v7, v8, v9, v10, v11] #[u0, u1, u2, u3, u4, u5, u6, u7, u8, u9, u10, u11] p n p2 n2 X Y (.agg #[v0, v1, v2, v3, v4, v5, v6, v7, v8, v9, v10, v11]) (.agg #[u0, u1, u2, u3, u4, u5, u6, u7, u8, u9, u10, u11]) m m2
theorem heldA_mk {w V : World} {ga gb : Nat} {v0 v1 v2 v3 v4 v5 v6 v7 v8 v9 v10 v11 u0 u1 u2 u3 u4 u5 u6 u7 u8 u9 u10 u11 : Value} {p n c p2 n2 c2 : Nat} {X Y : List Int} {m m2 : MsgD} (h : KeptA w V ga gb #[v0, v1, v2, v3, v4, v5, v6, v7, v8, v9, v10, v11] #[u0, u1, u2, u3, u4, u5, u6, u7, u8, u9, u10, u11] p n p2 n2 X Y (.agg #[v0, v1, v2, v3, v4, v5, v6, v7, v8, v9, v10, v11]) (.agg #[u0, u1, u2, u3, u4, u5, u6, u7, u8, u9, u10, u11]) m m2) : HeldA w V ga gb v0 v1 v2 v3 v4 v5 v6 v7 v8 v9 v10 v11 u0 u1 u2 u3 u4 u5 u6 u7 u8 u9 u10 u11 p n c p2 n2 c2 X Y m m2 :=
  ⟨box_mk h.2.1, box_mk h.2.2.1, h.2.2.2.1.str c, h.2.2.2.2.1.str c2, h⟩
theorem heldA_keep {w V : World} {ga gb : Nat} {v0 v1 v2 v3 v4 v5 v6 v7 v8 v9 v10 v11 u0 u1 u2 u3 u4 u5 u6 u7 u8 u9 u10 u11 : Value} {p n c p2 n2 c2 : Nat} {X Y : List Int} {m m2 : MsgD} {V' : World} (h : HeldA w V ga gb v0 v1 v2 v3 v4 v5 v6 v7 v8 v9 v10 v11 u0 u1 u2 u3 u4 u5 u6 u7 u8 u9 u10 u11 p n c p2 n2 c2 X Y m m2) (hb : Below V.heap.size V V') : HeldA w V' ga gb v0 v1 v2 v3 v4 v5 v6 v7 v8 v9 v10 v11 u0 u1 u2 u3 u4 u5 u6 u7 u8 u9 u10 u11 p n c p2 n2 c2 X Y m m2 := heldA_mk (keptA_keep h.2.2.2.2 hb)

end Go.Proofs.YteodldmbnghfcaaGreat
