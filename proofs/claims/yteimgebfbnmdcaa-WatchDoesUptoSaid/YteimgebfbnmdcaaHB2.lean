/- The order of tuples as the program's sorts ask it. -/
import Derived.Test.YteimgebfbnmdcaaHB
import Derived.Test.YteimgebfbnmdcaaHL
namespace Go.Proofs.Yteimgebfbnmdcaa
open Go.RowKit
open Go.Shelf
open Go.Maps (Keyed)
open Go.Sort (HoldsK flatK size_flatK get_flatK)

instance : Inhabited Tp := ⟨⟨⟨#[]⟩, ⟨#[]⟩, ⟨#[]⟩⟩⟩
/-- Only draws, and new blocks. -/
def Gr (w w' : World) : Prop := ∃ q os, w' = Sort.grow (w.drewN q) os
theorem Gr.refl (w : World) : Gr w w := ⟨0, #[], by simp [World.drewN]⟩
theorem Gr.trans {a b c : World} (h : Gr a b) (k : Gr b c) : Gr a c := by
  obtain ⟨q, os, rfl⟩ := h
  obtain ⟨q2, os2, rfl⟩ := k
  refine ⟨q + q2, os ++ os2, ?_⟩
  simp [Sort.grow, World.drewN, Array.append_assoc, Nat.add_assoc]
theorem Gr.below {w w' : World} (h : Gr w w') : Below w.heap.size w w' := by
  obtain ⟨q, os, rfl⟩ := h
  exact ⟨rfl, rfl, rfl, by simp [Sort.grow, World.drewN], fun k hk => by simp [Sort.grow, World.drewN, Array.getElem?_append, hk]⟩
theorem gr_alloc (w : World) (o : Obj) : Gr w (w.alloc o) := ⟨0, #[o], by rw [show w.alloc o = Sort.grow w #[o] from Sort.alloc_eq_grow w o]; rfl⟩
theorem gr_drew (w : World) : Gr w w.drew := ⟨1, #[], by rw [Sort.grow_empty]; rfl⟩
set_option maxHeartbeats 2000000 in
set_option maxRecDepth 100000 in
theorem compareG_any (a b c a' b' c' : ByteArray) (w : World) :
    Calls Try.prog 31 #[TupV a b c, TupV a' b' c'] w fun e w' => e = .returned (.int .i64 (cmpT (a, b, c) (a', b', c'))) ∧ Gr w w' := by
  have K1 := Lib.hid (fun w => scompare_any a a' w)
  have K2 := Lib.hid (fun w => scompare_any b b' w)
  have K3 := Lib.hid (fun w => scompare_any c c' w)
  have i0 := fun w => idx0 a b c a' b' c' w
  have i1 := fun w => idx1 a b c a' b' c' w
  have i2 := fun w => idx2 a b c a' b' c' w
  have hr : cmpT (a, b, c) (a', b', c') = if cb a a' ≠ 0 then cb a a' else if cb b b' ≠ 0 then cb b b' else cb c c' := rfl
  have HR := Lib.hid hr
  clear hr
  generalize cmpT (a, b, c) (a', b', c') = r at *
  generalize cb a a' = r1 at *
  generalize cb b b' = r2 at *
  generalize cb c c' = r3 at *
  unfold TupV
  go_enter Try.func31, Try.ntmps31
  go_wp2
  go_loopw [24] (fun iv wr => ((iv = .int .i64 0) ∨ (iv = .int .i64 1 ∧ r1 = 0) ∨ (iv = .int .i64 2 ∧ r1 = 0 ∧ r2 = 0) ∨ (iv = .int .i64 3 ∧ r1 = 0 ∧ r2 = 0 ∧ r3 = 0)) ∧ Gr w wr) (fun iv _ => 3 - (intOf iv).toNat)
  case atStart => exact ⟨.inl rfl, (gr_alloc w _).trans (gr_alloc _ _)⟩
  case round =>
    obtain ⟨hcase, hbl⟩ := hrel
    have HBL := Lib.hid hbl
    clear hbl
    rcases hcase with rfl | ⟨rfl, h1⟩ | ⟨rfl, h1, h2⟩ | ⟨rfl, h1, h2, h3⟩
    · go_wp2_with fail
      refine (K1.out _).mono ?_
      rintro e w1 ⟨rfl, rfl⟩
      by_cases h1 : r1 = 0
      · subst h1
        go_wp2
        go_roundw
        case rel => exact ⟨.inr (.inl ⟨rfl, by simp⟩), HBL.out.trans (gr_alloc _ _)⟩
        case measure => simp [intOf]
      · have e : r = r1 := by rw [HR.out, if_pos h1]
        subst e
        go_wp2
        go_ret
        exact ⟨rfl, HBL.out.trans (gr_alloc _ _)⟩
    · subst h1
      go_wp2_with fail
      refine (K2.out _).mono ?_
      rintro e w1 ⟨rfl, rfl⟩
      by_cases h2 : r2 = 0
      · subst h2
        go_wp2
        go_roundw
        case rel => exact ⟨.inr (.inr (.inl ⟨rfl, by simp, by simp⟩)), HBL.out.trans (gr_alloc _ _)⟩
        case measure => simp [intOf]
      · have e : r = r2 := by rw [HR.out, if_neg (by simp), if_pos h2]
        subst e
        go_wp2
        go_ret
        exact ⟨rfl, HBL.out.trans (gr_alloc _ _)⟩
    · subst h1 h2
      go_wp2_with fail
      refine (K3.out _).mono ?_
      rintro e w1 ⟨rfl, rfl⟩
      by_cases h3 : r3 = 0
      · subst h3
        go_wp2
        go_roundw
        case rel => exact ⟨.inr (.inr (.inr ⟨rfl, by simp, by simp, by simp⟩)), HBL.out.trans (gr_alloc _ _)⟩
        case measure => simp [intOf]
      · have e : r = r3 := by rw [HR.out, if_neg (by simp), if_neg (by simp)]
        subst e
        go_wp2
        go_ret
        exact ⟨rfl, HBL.out.trans (gr_alloc _ _)⟩
    · subst h1 h2 h3
      have e : r = 0 := by rw [HR.out, if_neg (by simp), if_neg (by simp)]
      subst e
      go_wp2
      go_ret
      exact ⟨rfl, HBL.out⟩
theorem heap_sortedE {α : Type} [Inhabited α] {enc : α → Value} {w : World} {g n : Nat} {os : Array Obj} {cur : Array Value} {e : TypeId} {fr : Nat × Nat} (d : Array α) (hb : w.heap[g]? = some (.cells cur e fr)) :
    (sortWorld enc w g 0 n d os).heap[g]? = some (.cells (Sort.putCells enc 0 d cur) e fr) := by
  have hg : g < w.heap.size := (Array.getElem?_eq_some_iff.1 hb).1
  unfold sortWorld
  rw [Sort.heap_grow_old _ _ (by simpa using hg)]
  simp [Sort.putRow, Sort.mapBlock, Sort.ahead, Array.getElem?_modify, hb, Sort.onCells]
theorem grownBy_sortedE {α : Type} [Inhabited α] {enc : α → Value} {w : World} {g n : Nat} {os : Array Obj} (d : Array α) : w.grownBy (sortWorld enc w g 0 n d os) (some g) := by
  unfold sortWorld
  refine ⟨rfl, rfl, rfl, by simp, fun k hk hne => ?_⟩
  rw [Sort.heap_grow_old _ _ (by simpa using hk)]
  have : g ≠ k := fun e => hne (by rw [e])
  simp [Sort.putRow, Sort.mapBlock, Sort.ahead, Array.getElem?_modify, this]
theorem take_putCellsE {α : Type} [Inhabited α] {enc : α → Value} (cur : Array Value) (d : Array α) (h : d.size ≤ cur.size) : (Sort.putCells enc 0 d cur).toList.take d.size = d.toList.map enc := by
  apply List.ext_getElem?
  intro j
  by_cases hj : j < d.size
  · rw [List.getElem?_take_of_lt hj, Array.getElem?_toList]
    simp [Sort.putCells, hj, show j < cur.size by omega]
  · rw [List.getElem?_take_eq_none (by omega), List.getElem?_eq_none (by simp; omega)]
def tc (t : Tp) : List Value := [.string t.o, .string t.r, .string t.u]
theorem infoTp : (Try.prog.info? 47).map (fun i => (i.zero, i.size, i.bytes)) = some (some (.agg #[.string ⟨#[]⟩, .string ⟨#[]⟩, .string ⟨#[]⟩]), 3, 48) := by kernel_rfl
theorem three_newT (w : World) (x y z : Value) (t : TypeId) : ∀ j u, [x, y, z][j]? = some u → (w.alloc (.cells #[x, y, z] t)).cell? ((⟨w.heap.size, 0, none⟩ : Addr).add j) = some u := by
  intro j u hj
  rw [add_plain, Nat.zero_add, new_cell]
  simpa using hj
def cfq (x y : Tp) : Int := cmpT (tq x) (tq y)
theorem ltOf_cfq (x y : Tp) : ltOf cfq x y = ltT x y := by
  unfold ltOf cfq ltT
  rcases cmpT_range (tq x) (tq y) with h | h | h <;> rw [h] <;> rfl
theorem swoQ : Sort.SWO (ltOf cfq) where
  irrefl x := by rw [ltOf_cfq]; exact ordT.irr _
  trans x y z h1 h2 := by
    rw [ltOf_cfq] at *
    exact ordT.tr _ _ _ h1 h2
  ntrans x y z h1 h2 := by
    rw [ltOf_cfq] at *
    cases h3 : ltT x z with
    | false => rfl
    | true =>
      by_cases hxy : x = y
      · rw [hxy, h2] at h3; cases h3
      · have := ordT.tr _ _ _ (ordT.tri _ _ hxy h1) h3
        rw [h2] at this; cases this
theorem tc_len (t : Tp) : (tc t).length = 3 := rfl
end Go.Proofs.Yteimgebfbnmdcaa
