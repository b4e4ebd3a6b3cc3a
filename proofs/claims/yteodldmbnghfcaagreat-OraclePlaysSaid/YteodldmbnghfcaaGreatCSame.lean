/- The document's Same: two messages are the same. -/
import Derived.Test.YteodldmbnghfcaaGreatCOpen
namespace Go.Proofs.YteodldmbnghfcaaGreat
open Go.RowKit

theorem take_next {α : Type} {l m : List α} {j : Nat} {x : α} (h : l.take j = m.take j) (hl : l[j]? = some x) (hm : m[j]? = some x) : l.take (j + 1) = m.take (j + 1) := by rw [take_snoc hl, take_snoc hm, h]
theorem take_whole {α : Type} {l m : List α} {n : Nat} (hl : l.length = n) (hm : m.length = n) (h : l.take n = m.take n) : l = m := by
  rwa [List.take_of_length_le (by omega), List.take_of_length_le (by omega)] at h
theorem get_some {α : Type} {l : List α} {n j : Nat} (hl : l.length = n) (h : j < n) : ∃ x, l[j]? = some x := ⟨_, List.getElem?_eq_getElem (show j < l.length by omega)⟩
theorem str_case (a b : ByteArray) : ((a.toList == b.toList) = true ∧ a = b) ∨ ((a.toList == b.toList) = false ∧ a ≠ b) := by
  by_cases h : a = b
  · exact .inl ⟨by rw [h]; simp, h⟩
  · exact .inr ⟨str_ne h, h⟩
/-- Same's answer. -/
def SameR (w : World) (m m' : MsgD) (e : Ending) (w' : World) : Prop := ∃ r : Bool, e = .returned (.bool r) ∧ (r = true ↔ m = m') ∧ Below w.heap.size w w'
theorem sameR_no {w w' : World} {m m' : MsgD} (h : m ≠ m') (hb : Below w.heap.size w w') : SameR w m m' (.returned (.bool false)) w' := ⟨false, rfl, by simp [h], hb⟩

set_option maxRecDepth 100000 in
set_option maxHeartbeats 4000000 in
theorem same_any (V V' : Value) (m m' : MsgD) (w : World) (h : MsgIn w V m) (h' : MsgIn w V' m') :
    Calls Tryz.prog 46 #[V, V'] w (SameR w m m') := by
  obtain ⟨nx8, nx9, nx10, nx11, lx8, cx8, lx9, cx9, lx10, cx10, lx11, cx11, h⟩ := h
  obtain ⟨ny8, ny9, ny10, ny11, ly8, cy8, ly9, cy9, ly10, cy10, ly11, cy11, h'⟩ := h'
  obtain ⟨x0, x1, x2, x3, x4, x5, x6, x7, x8, x9, x10, x11⟩ := m
  obtain ⟨y0, y1, y2, y3, y4, y5, y6, y7, y8, y9, y10, y11⟩ := m'
  obtain ⟨rfl, _, _, _, _, _, _, _, hx8, hx9, hx10, hx11, ox8, ox9, ox10, ox11⟩ := h
  obtain ⟨rfl, _, _, _, _, _, _, _, hy8, hy9, hy10, hy11, oy8, oy9, oy10, oy11⟩ := h'
  simp only at hx8 hx9 hx10 hx11 hy8 hy9 hy10 hy11 ⊢
  obtain ⟨ex8, mx8⟩ := hx8
  have Mx8 := Lib.hid mx8
  have Ex8 := Lib.hid ex8
  clear mx8 ex8
  obtain ⟨ex9, mx9⟩ := hx9
  have Mx9 := Lib.hid mx9
  have Ex9 := Lib.hid ex9
  clear mx9 ex9
  obtain ⟨ex10, mx10⟩ := hx10
  have Mx10 := Lib.hid mx10
  have Ex10 := Lib.hid ex10
  clear mx10 ex10
  obtain ⟨ex11, mx11⟩ := hx11
  have Mx11 := Lib.hid mx11
  have Ex11 := Lib.hid ex11
  clear mx11 ex11
  obtain ⟨ey8, my8⟩ := hy8
  have My8 := Lib.hid my8
  have Ey8 := Lib.hid ey8
  clear my8 ey8
  obtain ⟨ey9, my9⟩ := hy9
  have My9 := Lib.hid my9
  have Ey9 := Lib.hid ey9
  clear my9 ey9
  obtain ⟨ey10, my10⟩ := hy10
  have My10 := Lib.hid my10
  have Ey10 := Lib.hid ey10
  clear my10 ey10
  obtain ⟨ey11, my11⟩ := hy11
  have My11 := Lib.hid my11
  have Ey11 := Lib.hid ey11
  clear my11 ey11
  have hwb := below_alloc w (.cells #[.int .i64 x0, .int .i64 x1, .int .i64 x2, .int .i64 x3, .int .i64 x4, .int .i64 x5, .int .i64 x6, .bool x7, .slice nx8 lx8 cx8, .slice nx9 lx9 cx9, .slice nx10 lx10 cx10, .slice nx11 lx11 cx11] 43)
  have HBB := Lib.hid (hwb.trans ((below_alloc _ (.cells #[.int .i64 y0, .int .i64 y1, .int .i64 y2, .int .i64 y3, .int .i64 y4, .int .i64 y5, .int .i64 y6, .bool y7, .slice ny8 ly8 cy8, .slice ny9 ly9 cy9, .slice ny10 ly10 cy10, .slice ny11 ly11 cy11] 43)).mono hwb.size))
  clear hwb
  by_cases q : x0 = y0
  rotate_left
  · have hne := Lib.hid (show (⟨x0, x1, x2, x3, x4, x5, x6, x7, x8, x9, x10, x11⟩ : MsgD) ≠ ⟨y0, y1, y2, y3, y4, y5, y6, y7, y8, y9, y10, y11⟩ from fun h => q (by injection h))
    have hb : (x0 != y0) = true := by simpa using q
    clear q
    go_enter Tryz.func46, Tryz.ntmps46
    go_wp2
    go_ret
    exact sameR_no hne.out HBB.out
  subst q
  by_cases q : x1 = y1
  rotate_left
  · have hne := Lib.hid (show (⟨x0, x1, x2, x3, x4, x5, x6, x7, x8, x9, x10, x11⟩ : MsgD) ≠ ⟨x0, y1, y2, y3, y4, y5, y6, y7, y8, y9, y10, y11⟩ from fun h => q (by injection h))
    have hb : (x1 != y1) = true := by simpa using q
    clear q
    go_enter Tryz.func46, Tryz.ntmps46
    go_wp2
    go_ret
    exact sameR_no hne.out HBB.out
  subst q
  by_cases q : x2 = y2
  rotate_left
  · have hne := Lib.hid (show (⟨x0, x1, x2, x3, x4, x5, x6, x7, x8, x9, x10, x11⟩ : MsgD) ≠ ⟨x0, x1, y2, y3, y4, y5, y6, y7, y8, y9, y10, y11⟩ from fun h => q (by injection h))
    have hb : (x2 != y2) = true := by simpa using q
    clear q
    go_enter Tryz.func46, Tryz.ntmps46
    go_wp2
    go_ret
    exact sameR_no hne.out HBB.out
  subst q
  by_cases q : x3 = y3
  rotate_left
  · have hne := Lib.hid (show (⟨x0, x1, x2, x3, x4, x5, x6, x7, x8, x9, x10, x11⟩ : MsgD) ≠ ⟨x0, x1, x2, y3, y4, y5, y6, y7, y8, y9, y10, y11⟩ from fun h => q (by injection h))
    have hb : (x3 != y3) = true := by simpa using q
    clear q
    go_enter Tryz.func46, Tryz.ntmps46
    go_wp2
    go_ret
    exact sameR_no hne.out HBB.out
  subst q
  by_cases q : x4 = y4
  rotate_left
  · have hne := Lib.hid (show (⟨x0, x1, x2, x3, x4, x5, x6, x7, x8, x9, x10, x11⟩ : MsgD) ≠ ⟨x0, x1, x2, x3, y4, y5, y6, y7, y8, y9, y10, y11⟩ from fun h => q (by injection h))
    have hb : (x4 != y4) = true := by simpa using q
    clear q
    go_enter Tryz.func46, Tryz.ntmps46
    go_wp2
    go_ret
    exact sameR_no hne.out HBB.out
  subst q
  by_cases q : x5 = y5
  rotate_left
  · have hne := Lib.hid (show (⟨x0, x1, x2, x3, x4, x5, x6, x7, x8, x9, x10, x11⟩ : MsgD) ≠ ⟨x0, x1, x2, x3, x4, y5, y6, y7, y8, y9, y10, y11⟩ from fun h => q (by injection h))
    have hb : (x5 != y5) = true := by simpa using q
    clear q
    go_enter Tryz.func46, Tryz.ntmps46
    go_wp2
    go_ret
    exact sameR_no hne.out HBB.out
  subst q
  by_cases q : x6 = y6
  rotate_left
  · have hne := Lib.hid (show (⟨x0, x1, x2, x3, x4, x5, x6, x7, x8, x9, x10, x11⟩ : MsgD) ≠ ⟨x0, x1, x2, x3, x4, x5, y6, y7, y8, y9, y10, y11⟩ from fun h => q (by injection h))
    have hb : (x6 != y6) = true := by simpa using q
    clear q
    go_enter Tryz.func46, Tryz.ntmps46
    go_wp2
    go_ret
    exact sameR_no hne.out HBB.out
  subst q
  by_cases q : x7 = y7
  rotate_left
  · have hne := Lib.hid (show (⟨x0, x1, x2, x3, x4, x5, x6, x7, x8, x9, x10, x11⟩ : MsgD) ≠ ⟨x0, x1, x2, x3, x4, x5, x6, y7, y8, y9, y10, y11⟩ from fun h => q (by injection h))
    have hb : (!(x7 == y7)) = true := by simpa using q
    clear q
    go_enter Tryz.func46, Tryz.ntmps46
    go_wp2
    go_ret
    exact sameR_no hne.out HBB.out
  subst q
  by_cases q : lx8 = ly8
  rotate_left
  · have hne := Lib.hid (show (⟨x0, x1, x2, x3, x4, x5, x6, x7, x8, x9, x10, x11⟩ : MsgD) ≠ ⟨x0, x1, x2, x3, x4, x5, x6, x7, y8, y9, y10, y11⟩ from fun h => q (by rw [← Ex8.out, ← Ey8.out, show x8 = y8 by injection h]))
    have hb : ((lx8 : Int) != (ly8 : Int)) = true := by simp; omega
    clear q
    go_enter Tryz.func46, Tryz.ntmps46
    go_wp2
    go_ret
    exact sameR_no hne.out HBB.out
  subst q
  by_cases q : lx9 = ly9
  rotate_left
  · have hne := Lib.hid (show (⟨x0, x1, x2, x3, x4, x5, x6, x7, x8, x9, x10, x11⟩ : MsgD) ≠ ⟨x0, x1, x2, x3, x4, x5, x6, x7, y8, y9, y10, y11⟩ from fun h => q (by rw [← Ex9.out, ← Ey9.out, show x9 = y9 by injection h]))
    have hb : ((lx9 : Int) != (ly9 : Int)) = true := by simp; omega
    clear q
    go_enter Tryz.func46, Tryz.ntmps46
    go_wp2
    go_ret
    exact sameR_no hne.out HBB.out
  subst q
  by_cases q : lx10 = ly10
  rotate_left
  · have hne := Lib.hid (show (⟨x0, x1, x2, x3, x4, x5, x6, x7, x8, x9, x10, x11⟩ : MsgD) ≠ ⟨x0, x1, x2, x3, x4, x5, x6, x7, y8, y9, y10, y11⟩ from fun h => q (by rw [← Ex10.out, ← Ey10.out, show x10 = y10 by injection h]))
    have hb : ((lx10 : Int) != (ly10 : Int)) = true := by simp; omega
    clear q
    go_enter Tryz.func46, Tryz.ntmps46
    go_wp2
    go_ret
    exact sameR_no hne.out HBB.out
  subst q
  by_cases q : lx11 = ly11
  rotate_left
  · have hne := Lib.hid (show (⟨x0, x1, x2, x3, x4, x5, x6, x7, x8, x9, x10, x11⟩ : MsgD) ≠ ⟨x0, x1, x2, x3, x4, x5, x6, x7, y8, y9, y10, y11⟩ from fun h => q (by rw [← Ex11.out, ← Ey11.out, show x11 = y11 by injection h]))
    have hb : ((lx11 : Int) != (ly11 : Int)) = true := by simp; omega
    clear q
    go_enter Tryz.func46, Tryz.ntmps46
    go_wp2
    go_ret
    exact sameR_no hne.out HBB.out
  subst q
  go_enter Tryz.func46, Tryz.ntmps46
  go_wp2_with fail
  have hw0 : Whole ((w.alloc (.cells #[.int .i64 x0, .int .i64 x1, .int .i64 x2, .int .i64 x3, .int .i64 x4, .int .i64 x5, .int .i64 x6, .bool x7, .slice nx8 lx8 cx8, .slice nx9 lx9 cx9, .slice nx10 lx10 cx10, .slice nx11 lx11 cx11] 43)).alloc (.cells #[.int .i64 x0, .int .i64 x1, .int .i64 x2, .int .i64 x3, .int .i64 x4, .int .i64 x5, .int .i64 x6, .bool x7, .slice ny8 lx8 cy8, .slice ny9 lx9 cy9, .slice ny10 lx10 cy10, .slice ny11 lx11 cy11] 43)) w.heap.size 43 #[.int .i64 x0, .int .i64 x1, .int .i64 x2, .int .i64 x3, .int .i64 x4, .int .i64 x5, .int .i64 x6, .bool x7, .slice nx8 lx8 cx8, .slice nx9 lx9 cx9, .slice nx10 lx10 cx10, .slice nx11 lx11 cx11] :=
    (show Whole (w.alloc (.cells #[.int .i64 x0, .int .i64 x1, .int .i64 x2, .int .i64 x3, .int .i64 x4, .int .i64 x5, .int .i64 x6, .bool x7, .slice nx8 lx8 cx8, .slice nx9 lx9 cx9, .slice nx10 lx10 cx10, .slice nx11 lx11 cx11] 43)) w.heap.size 43 #[.int .i64 x0, .int .i64 x1, .int .i64 x2, .int .i64 x3, .int .i64 x4, .int .i64 x5, .int .i64 x6, .bool x7, .slice nx8 lx8 cx8, .slice nx9 lx9 cx9, .slice nx10 lx10 cx10, .slice nx11 lx11 cx11] from heap_alloc_new w _).kept (Below.heap_alloc _ _ _ (by simp))
  have hw1 : Whole ((w.alloc (.cells #[.int .i64 x0, .int .i64 x1, .int .i64 x2, .int .i64 x3, .int .i64 x4, .int .i64 x5, .int .i64 x6, .bool x7, .slice nx8 lx8 cx8, .slice nx9 lx9 cx9, .slice nx10 lx10 cx10, .slice nx11 lx11 cx11] 43)).alloc (.cells #[.int .i64 x0, .int .i64 x1, .int .i64 x2, .int .i64 x3, .int .i64 x4, .int .i64 x5, .int .i64 x6, .bool x7, .slice ny8 lx8 cy8, .slice ny9 lx9 cy9, .slice ny10 lx10 cy10, .slice ny11 lx11 cy11] 43)) (w.heap.size + 1) 43 #[.int .i64 x0, .int .i64 x1, .int .i64 x2, .int .i64 x3, .int .i64 x4, .int .i64 x5, .int .i64 x6, .bool x7, .slice ny8 lx8 cy8, .slice ny9 lx9 cy9, .slice ny10 lx10 cy10, .slice ny11 lx11 cy11] := by
    have := heap_alloc_new (w.alloc (.cells #[.int .i64 x0, .int .i64 x1, .int .i64 x2, .int .i64 x3, .int .i64 x4, .int .i64 x5, .int .i64 x6, .bool x7, .slice nx8 lx8 cx8, .slice nx9 lx9 cx9, .slice nx10 lx10 cx10, .slice nx11 lx11 cx11] 43)) (.cells #[.int .i64 x0, .int .i64 x1, .int .i64 x2, .int .i64 x3, .int .i64 x4, .int .i64 x5, .int .i64 x6, .bool x7, .slice ny8 lx8 cy8, .slice ny9 lx9 cy9, .slice ny10 lx10 cy10, .slice ny11 lx11 cy11] 43)
    rwa [show (w.alloc (.cells #[.int .i64 x0, .int .i64 x1, .int .i64 x2, .int .i64 x3, .int .i64 x4, .int .i64 x5, .int .i64 x6, .bool x7, .slice nx8 lx8 cx8, .slice nx9 lx9 cx9, .slice nx10 lx10 cx10, .slice nx11 lx11 cx11] 43)).heap.size = w.heap.size + 1 by simp] at this
  generalize (w.alloc (.cells #[.int .i64 x0, .int .i64 x1, .int .i64 x2, .int .i64 x3, .int .i64 x4, .int .i64 x5, .int .i64 x6, .bool x7, .slice nx8 lx8 cx8, .slice nx9 lx9 cx9, .slice nx10 lx10 cx10, .slice nx11 lx11 cx11] 43)).alloc (.cells #[.int .i64 x0, .int .i64 x1, .int .i64 x2, .int .i64 x3, .int .i64 x4, .int .i64 x5, .int .i64 x6, .bool x7, .slice ny8 lx8 cy8, .slice ny9 lx9 cy9, .slice ny10 lx10 cy10, .slice ny11 lx11 cy11] 43) = W0 at *
  have hA8 : W0.cell? ⟨w.heap.size, 8, none⟩ = some (.slice nx8 lx8 cx8) := hw0.cell 8
  have hB8 : W0.cell? ⟨w.heap.size + 1, 8, none⟩ = some (.slice ny8 lx8 cy8) := hw1.cell 8
  have hA9 : W0.cell? ⟨w.heap.size, 9, none⟩ = some (.slice nx9 lx9 cx9) := hw0.cell 9
  have hB9 : W0.cell? ⟨w.heap.size + 1, 9, none⟩ = some (.slice ny9 lx9 cy9) := hw1.cell 9
  have hA10 : W0.cell? ⟨w.heap.size, 10, none⟩ = some (.slice nx10 lx10 cx10) := hw0.cell 10
  have hB10 : W0.cell? ⟨w.heap.size + 1, 10, none⟩ = some (.slice ny10 lx10 cy10) := hw1.cell 10
  have hA11 : W0.cell? ⟨w.heap.size, 11, none⟩ = some (.slice nx11 lx11 cx11) := hw0.cell 11
  have hB11 : W0.cell? ⟨w.heap.size + 1, 11, none⟩ = some (.slice ny11 lx11 cy11) := hw1.cell 11
  have HA8 := Lib.hid hA8
  have HB8 := Lib.hid hB8
  have HA9 := Lib.hid hA9
  have HB9 := Lib.hid hB9
  have HA10 := Lib.hid hA10
  have HB10 := Lib.hid hB10
  have HA11 := Lib.hid hA11
  have HB11 := Lib.hid hB11
  clear hw0 hw1 hA8 hB8 hA9 hB9 hA10 hB10 hA11 hB11
  go_loopw [5] (fun iv wr => ∃ j : Nat, j ≤ lx8 ∧ iv = .int .i64 j ∧ x8.take j = y8.take j ∧ Below W0.heap.size W0 wr) (fun iv _ => lx8 - (intOf iv).toNat)
  case atStart => exact ⟨0, by omega, rfl, rfl, Below.refl _ _⟩
  case round =>
    obtain ⟨j, hj, rfl, htk, hbr⟩ := hrel
    have hA := (hbr.cell (p := ⟨w.heap.size, 8, none⟩) (World.block_lt_of_cell? W0 ⟨w.heap.size, 8, none⟩ HA8.out)).trans HA8.out
    have hB := (hbr.cell (p := ⟨w.heap.size + 1, 8, none⟩) (World.block_lt_of_cell? W0 ⟨w.heap.size + 1, 8, none⟩ HB8.out)).trans HB8.out
    by_cases hjl : j < lx8
    · obtain ⟨bx, ox, rfl, hbx, hcx⟩ := Mx8.out.resolve_left (by omega)
      obtain ⟨by_, oy, rfl, hby, hcy⟩ := My8.out.resolve_left (by omega)
      obtain ⟨x, hx⟩ := get_some Ex8.out hjl
      obtain ⟨y, hy⟩ := get_some Ey8.out hjl
      have hbw := HBB.out.trans (hbr.mono HBB.out.size)
      have cx := (hbw.cell (p := ⟨bx, ox + j, none⟩) hbx).trans (hcx j x hx).1
      have cy := (hbw.cell (p := ⟨by_, oy + j, none⟩) hby).trans (hcy j y hy).1
      have HBW := Lib.hid hbw
      have HX := Lib.hid hx
      have HY := Lib.hid hy
      have HTK := Lib.hid htk
      have HBR := Lib.hid hbr
      clear hcx hcy hbw hx hy htk hbr
      have hjj : (0:Int) ≤ (j:Int) ∧ (j:Int) < (lx8:Int) := by omega
      by_cases q : x = y
      · subst q
        go_wp2_with fail
        go_quiet (fail)
        go_wp2
        exact ⟨⟨j + 1, by omega, by go_num, take_next HTK.out HX.out HY.out, HBR.out.trans ((below_drewN _ _).mono HBR.out.size)⟩, by simp [intOf]; omega⟩
      · have hb : (x != y) = true := by simpa using q
        have hne := Lib.hid (show (⟨x0, x1, x2, x3, x4, x5, x6, x7, x8, x9, x10, x11⟩ : MsgD) ≠ ⟨x0, x1, x2, x3, x4, x5, x6, x7, y8, y9, y10, y11⟩ from fun h => q (by have h1 : x8 = y8 := by { injection h }; have h2 := HX.out; rw [h1, HY.out] at h2; injection h2 with h2; exact h2.symm))
        clear q
        go_wp2_with fail
        go_quiet (fail)
        go_wp2
        go_ret
        exact sameR_no hne.out (HBW.out.trans ((below_drewN _ _).mono HBW.out.size))
    · obtain rfl : j = lx8 := by omega
      obtain rfl : x8 = y8 := take_whole Ex8.out Ey8.out htk
      have HBR8 := Lib.hid hbr
      clear htk hbr Ex8 Ey8 Mx8 My8
      go_wp2_with fail
      clear hA hB
      go_loopw [6] (fun iv wr => ∃ j : Nat, j ≤ lx9 ∧ iv = .int .i64 j ∧ x9.take j = y9.take j ∧ Below W0.heap.size W0 wr) (fun iv _ => lx9 - (intOf iv).toNat)
      case atStart => exact ⟨0, by omega, rfl, rfl, HBR8.out⟩
      case round =>
        obtain ⟨j, hj, rfl, htk, hbr⟩ := hrel
        have hA := (hbr.cell (p := ⟨w.heap.size, 9, none⟩) (World.block_lt_of_cell? W0 ⟨w.heap.size, 9, none⟩ HA9.out)).trans HA9.out
        have hB := (hbr.cell (p := ⟨w.heap.size + 1, 9, none⟩) (World.block_lt_of_cell? W0 ⟨w.heap.size + 1, 9, none⟩ HB9.out)).trans HB9.out
        by_cases hjl : j < lx9
        · obtain ⟨bx, ox, rfl, hbx, hcx⟩ := Mx9.out.resolve_left (by omega)
          obtain ⟨by_, oy, rfl, hby, hcy⟩ := My9.out.resolve_left (by omega)
          obtain ⟨x, hx⟩ := get_some Ex9.out hjl
          obtain ⟨y, hy⟩ := get_some Ey9.out hjl
          have hbw := HBB.out.trans (hbr.mono HBB.out.size)
          obtain ⟨zx0, zx1, zx2, zx3, _⟩ := hcx j x hx
          obtain ⟨zy0, zy1, zy2, zy3, _⟩ := hcy j y hy
          have cx0 := (hbw.cell (p := ⟨bx, ox + j * 4, none⟩) hbx).trans zx0
          have cx1 := (hbw.cell (p := ⟨bx, ox + j * 4 + 1, none⟩) hbx).trans zx1
          have cx2 := (hbw.cell (p := ⟨bx, ox + j * 4 + 2, none⟩) hbx).trans zx2
          have cx3 := (hbw.cell (p := ⟨bx, ox + j * 4 + 3, none⟩) hbx).trans zx3
          have cy0 := (hbw.cell (p := ⟨by_, oy + j * 4, none⟩) hby).trans zy0
          have cy1 := (hbw.cell (p := ⟨by_, oy + j * 4 + 1, none⟩) hby).trans zy1
          have cy2 := (hbw.cell (p := ⟨by_, oy + j * 4 + 2, none⟩) hby).trans zy2
          have cy3 := (hbw.cell (p := ⟨by_, oy + j * 4 + 3, none⟩) hby).trans zy3
          have HBW := Lib.hid hbw
          have HX := Lib.hid hx
          have HY := Lib.hid hy
          have HTK := Lib.hid htk
          have HBR := Lib.hid hbr
          clear hcx hcy zx0 zy0 zx1 zy1 zx2 zy2 zx3 zy3 hbw hx hy htk hbr
          have hjj : (0:Int) ≤ (j:Int) ∧ (j:Int) < (lx9:Int) := by omega
          obtain ⟨x_0, x_1, x_2, x_3⟩ := x
          obtain ⟨y_0, y_1, y_2, y_3⟩ := y
          simp only at cx0 cy0 cx1 cy1 cx2 cy2 cx3 cy3
          by_cases q : x_0 = y_0
          rotate_left
          · have hb : (x_0 == y_0) = false := by simpa using q
            have hb2 : (x_0 != y_0) = true := by simpa using q
            have hne := Lib.hid (show (⟨x0, x1, x2, x3, x4, x5, x6, x7, x8, x9, x10, x11⟩ : MsgD) ≠ ⟨x0, x1, x2, x3, x4, x5, x6, x7, x8, y9, y10, y11⟩ from fun h => q (by have h1 : x9 = y9 := by { injection h }; have h2 := HX.out; rw [h1, HY.out] at h2; injection h2 with h2; injection h2 with e0 e1 e2 e3; exact e0.symm))
            clear q
            go_wp2_with fail
            go_quiet (fail)
            go_wp2
            go_ret
            exact sameR_no hne.out (HBW.out.trans ((below_drewN _ _).mono HBW.out.size))
          subst q
          by_cases q : x_1 = y_1
          rotate_left
          · have hb := str_ne q
            have hne := Lib.hid (show (⟨x0, x1, x2, x3, x4, x5, x6, x7, x8, x9, x10, x11⟩ : MsgD) ≠ ⟨x0, x1, x2, x3, x4, x5, x6, x7, x8, y9, y10, y11⟩ from fun h => q (by have h1 : x9 = y9 := by { injection h }; have h2 := HX.out; rw [h1, HY.out] at h2; injection h2 with h2; injection h2 with e0 e1 e2 e3; exact e1.symm))
            clear q
            go_wp2_with fail
            go_quiet (fail)
            go_wp2
            go_ret
            exact sameR_no hne.out (HBW.out.trans ((below_drewN _ _).mono HBW.out.size))
          subst q
          by_cases q : x_2 = y_2
          rotate_left
          · have hb := str_ne q
            have hne := Lib.hid (show (⟨x0, x1, x2, x3, x4, x5, x6, x7, x8, x9, x10, x11⟩ : MsgD) ≠ ⟨x0, x1, x2, x3, x4, x5, x6, x7, x8, y9, y10, y11⟩ from fun h => q (by have h1 : x9 = y9 := by { injection h }; have h2 := HX.out; rw [h1, HY.out] at h2; injection h2 with h2; injection h2 with e0 e1 e2 e3; exact e2.symm))
            clear q
            go_wp2_with fail
            go_quiet (fail)
            go_wp2
            go_ret
            exact sameR_no hne.out (HBW.out.trans ((below_drewN _ _).mono HBW.out.size))
          subst q
          by_cases q : x_3 = y_3
          rotate_left
          · have hb := str_ne q
            have hne := Lib.hid (show (⟨x0, x1, x2, x3, x4, x5, x6, x7, x8, x9, x10, x11⟩ : MsgD) ≠ ⟨x0, x1, x2, x3, x4, x5, x6, x7, x8, y9, y10, y11⟩ from fun h => q (by have h1 : x9 = y9 := by { injection h }; have h2 := HX.out; rw [h1, HY.out] at h2; injection h2 with h2; injection h2 with e0 e1 e2 e3; exact e3.symm))
            clear q
            go_wp2_with fail
            go_quiet (fail)
            go_wp2
            go_ret
            exact sameR_no hne.out (HBW.out.trans ((below_drewN _ _).mono HBW.out.size))
          subst q
          go_wp2_with fail
          go_quiet (fail)
          go_wp2
          exact ⟨⟨j + 1, by omega, by go_num, take_next HTK.out HX.out HY.out, HBR.out.trans ((below_drewN _ _).mono HBR.out.size)⟩, by simp [intOf]; omega⟩
        · obtain rfl : j = lx9 := by omega
          obtain rfl : x9 = y9 := take_whole Ex9.out Ey9.out htk
          have HBR9 := Lib.hid hbr
          clear htk hbr Ex9 Ey9 Mx9 My9
          go_wp2_with fail
          clear hA hB
          go_loopw [7] (fun iv wr => ∃ j : Nat, j ≤ lx10 ∧ iv = .int .i64 j ∧ x10.take j = y10.take j ∧ Below W0.heap.size W0 wr) (fun iv _ => lx10 - (intOf iv).toNat)
          case atStart => exact ⟨0, by omega, rfl, rfl, HBR9.out⟩
          case round =>
            obtain ⟨j, hj, rfl, htk, hbr⟩ := hrel
            have hA := (hbr.cell (p := ⟨w.heap.size, 10, none⟩) (World.block_lt_of_cell? W0 ⟨w.heap.size, 10, none⟩ HA10.out)).trans HA10.out
            have hB := (hbr.cell (p := ⟨w.heap.size + 1, 10, none⟩) (World.block_lt_of_cell? W0 ⟨w.heap.size + 1, 10, none⟩ HB10.out)).trans HB10.out
            by_cases hjl : j < lx10
            · obtain ⟨bx, ox, rfl, hbx, hcx⟩ := Mx10.out.resolve_left (by omega)
              obtain ⟨by_, oy, rfl, hby, hcy⟩ := My10.out.resolve_left (by omega)
              obtain ⟨x, hx⟩ := get_some Ex10.out hjl
              obtain ⟨y, hy⟩ := get_some Ey10.out hjl
              have hbw := HBB.out.trans (hbr.mono HBB.out.size)
              obtain ⟨zx0, zx1, zx2, zx3, _⟩ := hcx j x hx
              obtain ⟨zy0, zy1, zy2, zy3, _⟩ := hcy j y hy
              have cx0 := (hbw.cell (p := ⟨bx, ox + j * 4, none⟩) hbx).trans zx0
              have cx1 := (hbw.cell (p := ⟨bx, ox + j * 4 + 1, none⟩) hbx).trans zx1
              have cx2 := (hbw.cell (p := ⟨bx, ox + j * 4 + 2, none⟩) hbx).trans zx2
              have cx3 := (hbw.cell (p := ⟨bx, ox + j * 4 + 3, none⟩) hbx).trans zx3
              have cy0 := (hbw.cell (p := ⟨by_, oy + j * 4, none⟩) hby).trans zy0
              have cy1 := (hbw.cell (p := ⟨by_, oy + j * 4 + 1, none⟩) hby).trans zy1
              have cy2 := (hbw.cell (p := ⟨by_, oy + j * 4 + 2, none⟩) hby).trans zy2
              have cy3 := (hbw.cell (p := ⟨by_, oy + j * 4 + 3, none⟩) hby).trans zy3
              have HBW := Lib.hid hbw
              have HX := Lib.hid hx
              have HY := Lib.hid hy
              have HTK := Lib.hid htk
              have HBR := Lib.hid hbr
              clear hcx hcy zx0 zy0 zx1 zy1 zx2 zy2 zx3 zy3 hbw hx hy htk hbr
              have hjj : (0:Int) ≤ (j:Int) ∧ (j:Int) < (lx10:Int) := by omega
              obtain ⟨x_0, x_1, x_2, x_3⟩ := x
              obtain ⟨y_0, y_1, y_2, y_3⟩ := y
              simp only at cx0 cy0 cx1 cy1 cx2 cy2 cx3 cy3
              by_cases q : x_0 = y_0
              rotate_left
              · have hb : (x_0 == y_0) = false := by simpa using q
                have hb2 : (x_0 != y_0) = true := by simpa using q
                have hne := Lib.hid (show (⟨x0, x1, x2, x3, x4, x5, x6, x7, x8, x9, x10, x11⟩ : MsgD) ≠ ⟨x0, x1, x2, x3, x4, x5, x6, x7, x8, x9, y10, y11⟩ from fun h => q (by have h1 : x10 = y10 := by { injection h }; have h2 := HX.out; rw [h1, HY.out] at h2; injection h2 with h2; injection h2 with e0 e1 e2 e3; exact e0.symm))
                clear q
                go_wp2_with fail
                go_quiet (fail)
                go_wp2
                go_ret
                exact sameR_no hne.out (HBW.out.trans ((below_drewN _ _).mono HBW.out.size))
              subst q
              by_cases q : x_1 = y_1
              rotate_left
              · have hb := str_ne q
                have hne := Lib.hid (show (⟨x0, x1, x2, x3, x4, x5, x6, x7, x8, x9, x10, x11⟩ : MsgD) ≠ ⟨x0, x1, x2, x3, x4, x5, x6, x7, x8, x9, y10, y11⟩ from fun h => q (by have h1 : x10 = y10 := by { injection h }; have h2 := HX.out; rw [h1, HY.out] at h2; injection h2 with h2; injection h2 with e0 e1 e2 e3; exact e1.symm))
                clear q
                go_wp2_with fail
                go_quiet (fail)
                go_wp2
                go_ret
                exact sameR_no hne.out (HBW.out.trans ((below_drewN _ _).mono HBW.out.size))
              subst q
              by_cases q : x_2 = y_2
              rotate_left
              · have hb := str_ne q
                have hne := Lib.hid (show (⟨x0, x1, x2, x3, x4, x5, x6, x7, x8, x9, x10, x11⟩ : MsgD) ≠ ⟨x0, x1, x2, x3, x4, x5, x6, x7, x8, x9, y10, y11⟩ from fun h => q (by have h1 : x10 = y10 := by { injection h }; have h2 := HX.out; rw [h1, HY.out] at h2; injection h2 with h2; injection h2 with e0 e1 e2 e3; exact e2.symm))
                clear q
                go_wp2_with fail
                go_quiet (fail)
                go_wp2
                go_ret
                exact sameR_no hne.out (HBW.out.trans ((below_drewN _ _).mono HBW.out.size))
              subst q
              by_cases q : x_3 = y_3
              rotate_left
              · have hb := str_ne q
                have hne := Lib.hid (show (⟨x0, x1, x2, x3, x4, x5, x6, x7, x8, x9, x10, x11⟩ : MsgD) ≠ ⟨x0, x1, x2, x3, x4, x5, x6, x7, x8, x9, y10, y11⟩ from fun h => q (by have h1 : x10 = y10 := by { injection h }; have h2 := HX.out; rw [h1, HY.out] at h2; injection h2 with h2; injection h2 with e0 e1 e2 e3; exact e3.symm))
                clear q
                go_wp2_with fail
                go_quiet (fail)
                go_wp2
                go_ret
                exact sameR_no hne.out (HBW.out.trans ((below_drewN _ _).mono HBW.out.size))
              subst q
              go_wp2_with fail
              go_quiet (fail)
              go_wp2
              exact ⟨⟨j + 1, by omega, by go_num, take_next HTK.out HX.out HY.out, HBR.out.trans ((below_drewN _ _).mono HBR.out.size)⟩, by simp [intOf]; omega⟩
            · obtain rfl : j = lx10 := by omega
              obtain rfl : x10 = y10 := take_whole Ex10.out Ey10.out htk
              have HBR10 := Lib.hid hbr
              clear htk hbr Ex10 Ey10 Mx10 My10
              go_wp2_with fail
              clear hA hB
              go_loopw [8] (fun iv wr => ∃ j : Nat, j ≤ lx11 ∧ iv = .int .i64 j ∧ x11.take j = y11.take j ∧ Below W0.heap.size W0 wr) (fun iv _ => lx11 - (intOf iv).toNat)
              case atStart => exact ⟨0, by omega, rfl, rfl, HBR10.out⟩
              case round =>
                obtain ⟨j, hj, rfl, htk, hbr⟩ := hrel
                have hA := (hbr.cell (p := ⟨w.heap.size, 11, none⟩) (World.block_lt_of_cell? W0 ⟨w.heap.size, 11, none⟩ HA11.out)).trans HA11.out
                have hB := (hbr.cell (p := ⟨w.heap.size + 1, 11, none⟩) (World.block_lt_of_cell? W0 ⟨w.heap.size + 1, 11, none⟩ HB11.out)).trans HB11.out
                by_cases hjl : j < lx11
                · obtain ⟨bx, ox, rfl, hbx, hcx⟩ := Mx11.out.resolve_left (by omega)
                  obtain ⟨by_, oy, rfl, hby, hcy⟩ := My11.out.resolve_left (by omega)
                  obtain ⟨x, hx⟩ := get_some Ex11.out hjl
                  obtain ⟨y, hy⟩ := get_some Ey11.out hjl
                  have hbw := HBB.out.trans (hbr.mono HBB.out.size)
                  obtain ⟨zx0, zx1, zx2, zx3, zx4, _⟩ := hcx j x hx
                  obtain ⟨zy0, zy1, zy2, zy3, zy4, _⟩ := hcy j y hy
                  have cx0 := (hbw.cell (p := ⟨bx, ox + j * 5, none⟩) hbx).trans zx0
                  have cx1 := (hbw.cell (p := ⟨bx, ox + j * 5 + 1, none⟩) hbx).trans zx1
                  have cx2 := (hbw.cell (p := ⟨bx, ox + j * 5 + 2, none⟩) hbx).trans zx2
                  have cx3 := (hbw.cell (p := ⟨bx, ox + j * 5 + 3, none⟩) hbx).trans zx3
                  have cx4 := (hbw.cell (p := ⟨bx, ox + j * 5 + 4, none⟩) hbx).trans zx4
                  have cy0 := (hbw.cell (p := ⟨by_, oy + j * 5, none⟩) hby).trans zy0
                  have cy1 := (hbw.cell (p := ⟨by_, oy + j * 5 + 1, none⟩) hby).trans zy1
                  have cy2 := (hbw.cell (p := ⟨by_, oy + j * 5 + 2, none⟩) hby).trans zy2
                  have cy3 := (hbw.cell (p := ⟨by_, oy + j * 5 + 3, none⟩) hby).trans zy3
                  have cy4 := (hbw.cell (p := ⟨by_, oy + j * 5 + 4, none⟩) hby).trans zy4
                  have HBW := Lib.hid hbw
                  have HX := Lib.hid hx
                  have HY := Lib.hid hy
                  have HTK := Lib.hid htk
                  have HBR := Lib.hid hbr
                  clear hcx hcy zx0 zy0 zx1 zy1 zx2 zy2 zx3 zy3 zx4 zy4 hbw hx hy htk hbr
                  have hjj : (0:Int) ≤ (j:Int) ∧ (j:Int) < (lx11:Int) := by omega
                  obtain ⟨x_0, x_1, x_2, x_3, x_4⟩ := x
                  obtain ⟨y_0, y_1, y_2, y_3, y_4⟩ := y
                  simp only at cx0 cy0 cx1 cy1 cx2 cy2 cx3 cy3 cx4 cy4
                  by_cases q : x_0 = y_0
                  rotate_left
                  · have hb := str_ne q
                    have hne := Lib.hid (show (⟨x0, x1, x2, x3, x4, x5, x6, x7, x8, x9, x10, x11⟩ : MsgD) ≠ ⟨x0, x1, x2, x3, x4, x5, x6, x7, x8, x9, x10, y11⟩ from fun h => q (by have h1 : x11 = y11 := by { injection h }; have h2 := HX.out; rw [h1, HY.out] at h2; injection h2 with h2; injection h2 with e0 e1 e2 e3 e4; exact e0.symm))
                    clear q
                    go_wp2_with fail
                    go_quiet (fail)
                    go_wp2
                    go_ret
                    exact sameR_no hne.out (HBW.out.trans ((below_drewN _ _).mono HBW.out.size))
                  subst q
                  by_cases q : x_1 = y_1
                  rotate_left
                  · have hb := str_ne q
                    have hne := Lib.hid (show (⟨x0, x1, x2, x3, x4, x5, x6, x7, x8, x9, x10, x11⟩ : MsgD) ≠ ⟨x0, x1, x2, x3, x4, x5, x6, x7, x8, x9, x10, y11⟩ from fun h => q (by have h1 : x11 = y11 := by { injection h }; have h2 := HX.out; rw [h1, HY.out] at h2; injection h2 with h2; injection h2 with e0 e1 e2 e3 e4; exact e1.symm))
                    clear q
                    go_wp2_with fail
                    go_quiet (fail)
                    go_wp2
                    go_ret
                    exact sameR_no hne.out (HBW.out.trans ((below_drewN _ _).mono HBW.out.size))
                  subst q
                  by_cases q : x_2 = y_2
                  rotate_left
                  · have hb := str_ne q
                    have hne := Lib.hid (show (⟨x0, x1, x2, x3, x4, x5, x6, x7, x8, x9, x10, x11⟩ : MsgD) ≠ ⟨x0, x1, x2, x3, x4, x5, x6, x7, x8, x9, x10, y11⟩ from fun h => q (by have h1 : x11 = y11 := by { injection h }; have h2 := HX.out; rw [h1, HY.out] at h2; injection h2 with h2; injection h2 with e0 e1 e2 e3 e4; exact e2.symm))
                    clear q
                    go_wp2_with fail
                    go_quiet (fail)
                    go_wp2
                    go_ret
                    exact sameR_no hne.out (HBW.out.trans ((below_drewN _ _).mono HBW.out.size))
                  subst q
                  by_cases q : x_3 = y_3
                  rotate_left
                  · have hb : (x_3 == y_3) = false := by simpa using q
                    have hb2 : (x_3 != y_3) = true := by simpa using q
                    have hne := Lib.hid (show (⟨x0, x1, x2, x3, x4, x5, x6, x7, x8, x9, x10, x11⟩ : MsgD) ≠ ⟨x0, x1, x2, x3, x4, x5, x6, x7, x8, x9, x10, y11⟩ from fun h => q (by have h1 : x11 = y11 := by { injection h }; have h2 := HX.out; rw [h1, HY.out] at h2; injection h2 with h2; injection h2 with e0 e1 e2 e3 e4; exact e3.symm))
                    clear q
                    go_wp2_with fail
                    go_quiet (fail)
                    go_wp2
                    go_ret
                    exact sameR_no hne.out (HBW.out.trans ((below_drewN _ _).mono HBW.out.size))
                  subst q
                  by_cases q : x_4 = y_4
                  rotate_left
                  · have hb : (x_4 == y_4) = false := by simpa using q
                    have hb2 : (x_4 != y_4) = true := by simpa using q
                    have hne := Lib.hid (show (⟨x0, x1, x2, x3, x4, x5, x6, x7, x8, x9, x10, x11⟩ : MsgD) ≠ ⟨x0, x1, x2, x3, x4, x5, x6, x7, x8, x9, x10, y11⟩ from fun h => q (by have h1 : x11 = y11 := by { injection h }; have h2 := HX.out; rw [h1, HY.out] at h2; injection h2 with h2; injection h2 with e0 e1 e2 e3 e4; exact e4.symm))
                    clear q
                    go_wp2_with fail
                    go_quiet (fail)
                    go_wp2
                    go_ret
                    exact sameR_no hne.out (HBW.out.trans ((below_drewN _ _).mono HBW.out.size))
                  subst q
                  go_wp2_with fail
                  go_quiet (fail)
                  go_wp2
                  exact ⟨⟨j + 1, by omega, by go_num, take_next HTK.out HX.out HY.out, HBR.out.trans ((below_drewN _ _).mono HBR.out.size)⟩, by simp [intOf]; omega⟩
                · obtain rfl : j = lx11 := by omega
                  obtain rfl : x11 = y11 := take_whole Ex11.out Ey11.out htk
                  have HBR11 := Lib.hid hbr
                  clear htk hbr Ex11 Ey11 Mx11 My11
                  go_wp2
                  go_ret
                  exact ⟨true, rfl, by simp, HBB.out.trans (HBR11.out.mono HBB.out.size)⟩
end Go.Proofs.YteodldmbnghfcaaGreat
