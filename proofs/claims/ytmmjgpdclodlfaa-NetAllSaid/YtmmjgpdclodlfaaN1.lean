/- The network: New, Len, and what it asks of a number. -/
import Derived.Test.YtmmjgpdclodlfaaN0
namespace Go.Proofs.Ytmmjgpdclodlfaa
open Go.RowKit

theorem Try.infoPs : (Try.prog.info? 32).map (·.size) = some 3 := by kernel_rfl
section
variable {B g : Nat} {nodes : Int} {v : Value} {ps : List Pk}
set_option maxRecDepth 100000 in
theorem has_any (x : Int) (w : World) (h : NAt w B g nodes v ps) :
    Calls Try.prog 20 #[.pointer (some ⟨g, 0, none⟩), .int .i64 x] w fun e w' => e = .returned (.bool (decide (0 ≤ x) && decide (x < nodes))) ∧ w' = w := by
  obtain ⟨c0, c1, f0, f1⟩ := h.cells
  clear h
  rcases Int.lt_or_le x 0 with hx | hx
  · have HD := Lib.hid (show decide (0 ≤ x) = false from decide_eq_false (by omega))
    go_enter Try.func20, Try.ntmps20
    go_wp2
    go_ret
    rw [HD.out]
    exact ⟨rfl, rfl⟩
  · go_enter Try.func20, Try.ntmps20
    go_wp2
    go_ret
    rw [decide_eq_true hx, Bool.true_and]
    exact ⟨rfl, rfl⟩
set_option maxRecDepth 100000 in
theorem flies_any (x : Int) (w : World) (h : NAt w B g nodes v ps) :
    Calls Try.prog 22 #[.pointer (some ⟨g, 0, none⟩), .int .i64 x] w fun e w' => e = .returned (.bool (decide (0 ≤ x) && decide (x < (ps.length : Int)))) ∧ w' = w := by
  obtain ⟨c0, c1, f0, f1⟩ := h.cells
  obtain ⟨a, c, rfl, hL⟩ := h.row.lies
  clear h hL
  rcases Int.lt_or_le x 0 with hx | hx
  · have HD := Lib.hid (show decide (0 ≤ x) = false from decide_eq_false (by omega))
    go_enter Try.func22, Try.ntmps22
    go_wp2
    go_ret
    rw [HD.out]
    exact ⟨rfl, rfl⟩
  · go_enter Try.func22, Try.ntmps22
    go_wp2
    go_ret
    rw [decide_eq_true hx, Bool.true_and]
    exact ⟨rfl, rfl⟩
set_option maxRecDepth 100000 in
theorem len_any (w : World) (h : NAt w B g nodes v ps) :
    Calls Try.prog 18 #[.pointer (some ⟨g, 0, none⟩)] w fun e w' => e = .returned (.int .i64 (ps.length : Int)) ∧ w' = w := by
  obtain ⟨c0, c1, f0, f1⟩ := h.cells
  obtain ⟨a, c, rfl, hL⟩ := h.row.lies
  clear h hL
  go_enter Try.func18, Try.ntmps18
  go_wp2
  go_ret
  exact ⟨rfl, rfl⟩
end
set_option maxRecDepth 100000 in
theorem new_bad (x : Int) (w : World) (h : x < 1 ∨ 8 < x) :
    Calls Try.prog 6 #[.int .i64 x] w fun e w' => e = .returned (.tuple #[.pointer none, .int .i64 1]) ∧ w' = w := by
  rcases Int.lt_or_le x 1 with h1 | h1
  · go_enter Try.func6, Try.ntmps6
    go_wp2
    go_ret2
    exact ⟨rfl, rfl⟩
  · have h2 : 8 < x := by omega
    go_enter Try.func6, Try.ntmps6
    go_wp2
    go_ret2
    exact ⟨rfl, rfl⟩
set_option maxRecDepth 100000 in
theorem new_good (x : Int) (w : World) (h1 : 1 ≤ x) (h2 : x ≤ 8) :
    Calls Try.prog 6 #[.int .i64 x] w fun e w' => e = .returned (.tuple #[.pointer (some ⟨w.heap.size, 0, none⟩), .int .i64 0]) ∧ NAt w' w.heap.size w.heap.size x (.slice none 0 0) [] ∧ Below w.heap.size w w' := by
  go_enter Try.func6, Try.ntmps6
  go_wp2
  go_ret2
  exact ⟨rfl, ⟨heap_alloc_new _ _, Nat.le_refl _, FRow.nil _ _, by simp, by simp⟩, below_alloc _ _⟩
/-- A packet that lies somewhere. -/
structure PkIn (w : World) (a : Option Addr) (c : Nat) (xs : List Int) : Prop where
  isb : IsB w a xs.length xs
  nil : a = none → xs.length = 0 ∧ c = 0
  room : xs.length ≤ c
  big : c ≤ maxLen
  small : xs.length ≤ 140737488355328
theorem PkIn.below {w w' : World} {a : Option Addr} {c : Nat} {xs : List Int} (h : PkIn w a c xs) (hb : Below w.heap.size w w') : PkIn w' a c xs := ⟨h.isb.below hb, h.nil, h.room, h.big, h.small⟩
theorem PkAt.in_ {w : World} {B : Nat} {p : Pk} (h : PkAt w B p) : ∃ a c, p.v = .slice a p.xs.length c ∧ PkIn w a c p.xs := by
  obtain ⟨a, c, hv, h1, h2, h3, h4⟩ := h.isb
  exact ⟨a, c, hv, h1, h2, h3, h4, h.small⟩
theorem three_of {w : World} {g : Nat} {t : TypeId} {x y z : Value} (h : Whole w g t #[x, y, z]) : (w.cell? ⟨g, 0, none⟩ = some x ∧ w.cell? ⟨g, 1, none⟩ = some y ∧ w.cell? ⟨g, 2, none⟩ = some z) ∧ (w.frozen? ⟨g, 0, none⟩ = false ∧ w.frozen? ⟨g, 1, none⟩ = false ∧ w.frozen? ⟨g, 2, none⟩ = false) := by
  refine ⟨⟨?_, ?_, ?_⟩, h.free _, h.free _, h.free _⟩ <;> rw [h.cell] <;> rfl
set_option maxRecDepth 100000 in
set_option maxHeartbeats 2000000 in
/-- A packet of one's own. -/
theorem clone_any {a : Option Addr} {c : Nat} {xs : List Int} (fr dst : Int) (w : World) (h : PkIn w a c xs) :
    Calls Try.prog 21 #[.agg #[.int .i64 fr, .int .i64 dst, .slice a xs.length c]] w fun e w' => (∃ u, e = .returned (.agg #[.int .i64 fr, .int .i64 dst, u]) ∧ PkAt w' w.heap.size ⟨fr, dst, u, xs⟩) ∧ Below w.heap.size w w' := by
  obtain ⟨i0, hi0, hz0, hz1, hz2⟩ := info_of Try.infoB
  obtain ⟨w0, hw0⟩ : ∃ w0, w0 = (w.alloc (.cells #[.int .i64 fr, .int .i64 dst, .slice a xs.length c] 32)).alloc (.cells #[.int .i64 0, .int .i64 0, .slice none 0 0] 32) := ⟨_, rfl⟩
  have hz : (w.alloc (.cells #[.int .i64 fr, .int .i64 dst, .slice a xs.length c] 32)).heap.size = w.heap.size + 1 := by simp
  have hb0 : Below w.heap.size w w0 := by rw [hw0]; exact (below_alloc w _).trans ((below_alloc _ _).mono (by simp))
  have hs0 : w0.heap.size = w.heap.size + 2 := by rw [hw0]; simp
  have hx0 : Whole w0 w.heap.size 32 #[.int .i64 fr, .int .i64 dst, .slice a xs.length c] := by
    rw [hw0]
    exact (show Whole (w.alloc (.cells #[.int .i64 fr, .int .i64 dst, .slice a xs.length c] 32)) w.heap.size 32 _ from heap_alloc_new _ _).kept ((below_alloc _ _).block _ (by rw [hz]; omega))
  have hx1 : Whole w0 (w.heap.size + 1) 32 #[.int .i64 0, .int .i64 0, .slice none 0 0] := by
    rw [hw0, ← hz]
    exact heap_alloc_new _ _
  have HP := Lib.hid (h.below hb0)
  have HB := Lib.hid hb0
  have HX0 := Lib.hid hx0
  have HX1 := Lib.hid hx1
  have hsm := h.small
  have HN := Lib.hid (World.ownsRow_nil w0 w.heap.size 5 1)
  obtain ⟨⟨a0, a1, a2⟩, b0, b1, b2⟩ := three_of hx0
  obtain ⟨⟨d0, d1, d2⟩, e0, e1, e2⟩ := three_of hx1
  clear h hb0 hx0 hx1 hz
  go_enter Try.func21, Try.ntmps21
  go_wp2_with (first
    | (at_builtin; rw [← hw0]; (refine wpList_append_at_any _ rfl (.const (.slice none 0 0)) (.tmp 4) 30 rfl (w.heap.size + 2) 5 i0 (.int .u8 0) 1 1 Try.underlying30 hi0 hz0 hz1 hz2 rfl (by decide) _ 0 [] rfl (World.ownsRow_nil _ _ _ _) a xs.length c (xs.map (Value.int .u8)) rfl (by simp) HP.out.nil HP.out.isb.news (oneCell_map _) (by unfold maxLen; omega) (by omega) (by omega) ?_); intro v2 w2 hown2 hgrow2 hat2
       have hown : w2.ownsRow (w.heap.size + 2) 5 1 v2 xs.length (xs.map (Value.int .u8)) := by simpa using hown2
       have hB2 : Below w0.heap.size w0 w2 := (Below.refl _ _).grown hgrow2 (Nat.le_refl _) (by rintro q ⟨⟩)
       have hx02 := HX0.out.kept (hB2.block _ HX0.out.lt)
       have hx12 := HX1.out.kept (hB2.block _ HX1.out.lt)
       obtain ⟨⟨a0, a1, a2⟩, b0, b1, b2⟩ := three_of hx02
       obtain ⟨⟨d0, d1, d2⟩, e0, e1, e2⟩ := three_of hx12
       obtain ⟨ua, uc, rfl, _⟩ := owned_slice hown HP.out.isb.2.1
       have HO := Lib.hid hown
       have HB2 := Lib.hid hB2
       have HX02 := Lib.hid hx02
       have HX12 := Lib.hid hx12
       clear hx02 hx12 hown2 hgrow2 hat2 hown hB2))
  have hne : w.heap.size ≠ w.heap.size + 1 := by omega
  have hW0 : Whole (w2.setCell ⟨w.heap.size, 2, none⟩ (.slice ua xs.length uc)) (w.heap.size + 1) 32 #[.int .i64 0, .int .i64 0, .slice none 0 0] := HX12.out.kept (Below.heap_setCell _ _ _ _ (by simp))
  have hW3 := ((hW0.store 0 (.int .i64 fr)).store 1 (.int .i64 dst)).store 2 (.slice ua xs.length uc)
  have hlt : w.heap.size < w2.heap.size := HX02.out.lt
  have hb2 : Below w.heap.size w w2 := HB.out.trans (HB2.out.mono (by omega))
  have hb3 : Below w.heap.size w (((w2.setCell ⟨w.heap.size, 2, none⟩ (.slice ua xs.length uc)).setCell ⟨w.heap.size + 1, 0, none⟩ (.int .i64 fr)).setCell ⟨w.heap.size + 1, 1, none⟩ (.int .i64 dst)) :=
    (((hb2.setCell (p := ⟨w.heap.size, 2, none⟩) (Nat.le_refl _) _).setCell (p := ⟨w.heap.size + 1, 0, none⟩) (Nat.le_succ _) _).setCell (p := ⟨w.heap.size + 1, 1, none⟩) (Nat.le_succ _) _)
  have hb4 := hb3.setCell (p := ⟨w.heap.size + 1, 2, none⟩) (Nat.le_succ _) (.slice ua xs.length uc)
  have hob := HO.out.lt
  have ho : ∀ (W : World), (∀ q, w.heap.size + 2 ≤ q → W.heap[q]? = w2.heap[q]?) → W.ownsRow w.heap.size 5 1 (.slice ua xs.length uc) xs.length (xs.map (Value.int .u8)) := fun W hW =>
    (owns_kept HO.out (fun q hq => hW q (hob q hq).1)).mono (by omega)
  refine bodyPost_ret (v := .agg #[.int .i64 fr, .int .i64 dst, .slice ua xs.length uc]) (results_cell_row Try.results21 _ _ (w.heap.size + 1) 32 _ (0, 0) _ rfl hW3 Try.underlying32 rfl Try.infoPs) rfl ⟨⟨_, rfl, ho _ (fun q hq => ?_), HP.out.isb.2.1, hsm⟩, hb4⟩
  rw [Below.heap_setCell _ _ _ _ (by simp; omega), Below.heap_setCell _ _ _ _ (by simp; omega), Below.heap_setCell _ _ _ _ (by simp; omega), Below.heap_setCell _ _ _ _ (by simp; omega)]
end Go.Proofs.Ytmmjgpdclodlfaa
