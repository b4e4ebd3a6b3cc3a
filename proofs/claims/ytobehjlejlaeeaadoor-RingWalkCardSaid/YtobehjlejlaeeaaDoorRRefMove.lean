/- The document's Move. -/
import Derived.Test.YtobehjlejlaeeaaDoorRRefNew
namespace Go.Proofs.YtobehjlejlaeeaaDoor
open Go.RowKit

/-- At the operation that writes this slot. -/
theorem wpList_at {P : Program} {ops : Array Oper} {rest : List Oper} {o : Oper} {a : Act} {w : World} {Q : Exit → Act → World → Prop} (d : Option Tmp) (_ : o.dst = d) (h : wpList P ops Q (o :: rest) a w) : wpList P ops Q (o :: rest) a w := h
set_option maxRecDepth 100000 in
set_option maxHeartbeats 8000000 in
theorem rmove_range {T : Array Value} {e : Int} {o : List Int} (slot to : Int) (w : World) (hT : TabC T e o) (h : slot < 0 ∨ 15 < slot ∨ to < 0 ∨ 7 < to ∨ e < 0 ∨ 1125899906842623 < e) :
    Calls Tryd.prog 15 #[.agg T, .int .i64 slot, .int .i64 to] w fun x w' => x = .returned (.tuple #[.agg (tcs 0 noOwn), .int .i64 1]) ∧ Below w.heap.size w w' := by
  have h0 : slot < 0 ∨ (0 ≤ slot ∧ 16 ≤ slot) ∨ (0 ≤ slot ∧ slot ≤ 15 ∧ to < 0) ∨ (0 ≤ slot ∧ slot ≤ 15 ∧ 0 ≤ to ∧ 8 ≤ to) ∨ (0 ≤ slot ∧ slot ≤ 15 ∧ 0 ≤ to ∧ to ≤ 7 ∧ e < 0) ∨ (0 ≤ slot ∧ slot ≤ 15 ∧ 0 ≤ to ∧ to ≤ 7 ∧ 0 ≤ e ∧ 1125899906842624 ≤ e) := by omega
  clear h
  have c0 := hT.c0
  have hz : (w.alloc (.cells T 36)).heap.size = w.heap.size + 1 := by simp
  have HH := Lib.hid (show ((w.alloc (.cells T 36)).alloc (.cells (tcs 0 noOwn) 36)).heap[w.heap.size + 1]? = some (.cells (tcs 0 noOwn) 36 (0, 0)) by rw [← hz]; exact heap_alloc_new _ _)
  have HH2 := HH
  rw [zero_tab] at HH2
  have HB := Lib.hid (show Below w.heap.size w ((w.alloc (.cells T 36)).alloc (.cells (tcs 0 noOwn) 36)) from (below_alloc _ _).trans ((below_alloc _ _).mono (by simp)))
  clear hT
  have hset : ∀ Z : Array Value, ((w.alloc (.cells T 36)).alloc (.cells Z 36)).setRow (w.heap.size + 1) (tcs 0 noOwn) = (w.alloc (.cells T 36)).alloc (.cells (tcs 0 noOwn) 36) := by
    intro Z
    rw [← hz]
    exact setRow_newR _ _ _ _
  have HS := Lib.hid hset
  clear hset hz
  rcases h0 with h1 | ⟨h1, h2⟩ | ⟨h1, h2, h3⟩ | ⟨h1, h2, h3, h4⟩ | ⟨h1, h2, h3, h4, h5⟩ | ⟨h1, h2, h3, h4, h5, h6⟩
  all_goals
    go_enter Tryd.func15, Tryd.ntmps15
    go_wp2_with (refine wpList_store_rowTo rfl 36 (.tmp 6) (.tmp 32) rfl rfl (w.heap.size + 1) (tcs 0 noOwn) rfl rfl 36 _ HH2.out (by kernel_rfl) rfl zero_one ?_; rw [HS.out])
    refine bodyPost_ret (v := .tuple #[.agg (tcs 0 noOwn), .int .i64 1]) (res_two Tryd.results15 _ _ (w.heap.size + 1) 36 (tcs 0 noOwn) _ _ rfl rfl HH.out Tryd.underlying36 rfl Tryd.infoRT) rfl ⟨rfl, HB.out⟩

theorem two_madeR (w : World) (T Z : Array Value) : Whole ((w.alloc (.cells T 36)).alloc (.cells Z 36)) w.heap.size 36 T ∧ Whole ((w.alloc (.cells T 36)).alloc (.cells Z 36)) (w.heap.size + 1) 36 Z ∧ ((w.alloc (.cells T 36)).alloc (.cells Z 36)).heap.size = w.heap.size + 2 ∧ Below w.heap.size w ((w.alloc (.cells T 36)).alloc (.cells Z 36)) := by
  have hz : (w.alloc (.cells T 36)).heap.size = w.heap.size + 1 := by simp
  have h1 : Whole (w.alloc (.cells T 36)) w.heap.size 36 T := heap_alloc_new _ _
  refine ⟨h1.kept ((below_alloc _ _).block _ h1.lt), by rw [← hz]; exact heap_alloc_new _ _, by simp, (below_alloc _ _).trans ((below_alloc _ _).mono (by simp))⟩

set_option maxRecDepth 100000 in
set_option maxHeartbeats 8000000 in
theorem rmove_twice {T : Array Value} {e : Int} {o : List Int} (s : Nat) (to : Int) (w : World) (hT : TabC T e o) (h1 : s < 16) (h2 : 0 ≤ to) (h3 : to ≤ 7) (h4 : 0 ≤ e) (h5 : e ≤ 1125899906842623) (h6 : o.getD s 0 = to) :
    Calls Tryd.prog 15 #[.agg T, .int .i64 s, .int .i64 to] w fun x w' => x = .returned (.tuple #[.agg (tcs 0 noOwn), .int .i64 5]) ∧ Below w.heap.size w w' := by
  have c0 := hT.c0
  have cs := hT.cs s h1
  rw [h6] at cs
  obtain ⟨hA, hZ, hz, hB⟩ := two_madeR w T (tcs 0 noOwn)
  have d0 : ((w.alloc (.cells T 36)).alloc (.cells (tcs 0 noOwn) 36)).cell? ⟨w.heap.size, 0, none⟩ = some (.int .i64 e) := by rw [hA.cell]; exact c0
  have d1 : ((w.alloc (.cells T 36)).alloc (.cells (tcs 0 noOwn) 36)).cell? ⟨w.heap.size, 1 + s, none⟩ = some (.int .i64 to) := by rw [hA.cell]; exact cs
  have HZ := Lib.hid hZ
  have HB := Lib.hid hB
  rw [zero_tab] at d0 d1 HZ HB
  have HS := Lib.hid (show ∀ w0 : World, Whole w0 (w.heap.size + 1) 36 #[.int .i64 0, .int .i64 0, .int .i64 0, .int .i64 0, .int .i64 0, .int .i64 0, .int .i64 0, .int .i64 0, .int .i64 0, .int .i64 0, .int .i64 0, .int .i64 0, .int .i64 0, .int .i64 0, .int .i64 0, .int .i64 0, .int .i64 0] → Whole (w0.setRow (w.heap.size + 1) (tcs 0 noOwn)) (w.heap.size + 1) 36 (tcs 0 noOwn) from fun w0 h => setRow_heap _ _ _ _ _ _ h)
  clear hA hZ hB hz c0 cs hT h6
  go_enter Tryd.func15, Tryd.ntmps15
  go_wp2_with (first
    | (refine wpList_store_rowTo rfl 36 (.tmp 6) (.tmp 39) rfl rfl (w.heap.size + 1) (tcs 0 noOwn) rfl rfl 36 _ HZ.out (by kernel_rfl) rfl zero_one ?_))
  refine bodyPost_ret (v := .tuple #[.agg (tcs 0 noOwn), .int .i64 5]) (res_two Tryd.results15 _ _ (w.heap.size + 1) 36 (tcs 0 noOwn) _ _ rfl rfl (HS.out _ HZ.out) Tryd.underlying36 rfl Tryd.infoRT) rfl ⟨rfl, below_setRow HB.out (Nat.le_succ _) _⟩
set_option maxRecDepth 100000 in
set_option maxHeartbeats 8000000 in
theorem rmove_good {T : Array Value} {e : Int} {o : List Int} (s : Nat) (to : Int) (w : World) (hT : TabC T e o) (h1 : s < 16) (h2 : 0 ≤ to) (h3 : to ≤ 7) (h4 : 0 ≤ e) (h5 : e ≤ 1125899906842623) (h6 : o.getD s 0 ≠ to) :
    Calls Tryd.prog 15 #[.agg T, .int .i64 s, .int .i64 to] w fun x w' => x = .returned (.tuple #[.agg (tcs (e + 1) (o.set s to)), .int .i64 0]) ∧ Below w.heap.size w w' := by
  obtain ⟨hA, hZ, hz, hB⟩ := two_madeR w T (tcs 0 noOwn)
  obtain ⟨W1, hW1⟩ : ∃ W1, W1 = (w.alloc (.cells T 36)).alloc (.cells (tcs 0 noOwn) 36) := ⟨_, rfl⟩
  rw [← hW1] at hA hZ hz hB
  have d0 : W1.cell? ⟨w.heap.size, 0, none⟩ = some (.int .i64 e) := by rw [hA.cell]; exact hT.c0
  have d1 : W1.cell? ⟨w.heap.size, 1 + s, none⟩ = some (.int .i64 (o.getD s 0)) := by rw [hA.cell]; exact hT.cs s h1
  have z0 := hA.free 0
  have z1 := hA.free (1 + s)
  have HN4 := Lib.hid (show Whole ((W1.setCell ⟨w.heap.size, 0, none⟩ (.int .i64 (e + 1))).setCell ⟨w.heap.size, 1 + s, none⟩ (.int .i64 to)) w.heap.size 36 (tcs (e + 1) (o.set s to)) by
    have := (hA.store 0 (.int .i64 (e + 1))).store (1 + s) (.int .i64 to)
    rwa [hT.eq, tcs_set0, tcs_set] at this)
  have HZ4 := Lib.hid (show Whole ((W1.setCell ⟨w.heap.size, 0, none⟩ (.int .i64 (e + 1))).setCell ⟨w.heap.size, 1 + s, none⟩ (.int .i64 to)) (w.heap.size + 1) 36 (tcs 0 noOwn) from
    (hZ.kept (Below.heap_setCell _ _ _ _ (by simp))).kept (Below.heap_setCell _ _ _ _ (by simp)))
  have HB4 := Lib.hid ((hB.setCell (p := ⟨w.heap.size, 0, none⟩) (Nat.le_refl _) (.int .i64 (e + 1))).setCell (p := ⟨w.heap.size, 1 + s, none⟩) (Nat.le_refl _) (.int .i64 to))
  have HC := TabC.mk' (e + 1) (o.set s to) (by rw [List.length_set]; exact hT.len)
  have HI4 := Lib.hid (show (Tryd.prog.info? 36).map (·.size) = some (tcs (e + 1) (o.set s to)).size by rw [HC.size]; exact Tryd.infoRT)
  have HO4 := Lib.hid HC.one
  have HS4 := Lib.hid (show (tcs 0 noOwn).size = (tcs (e + 1) (o.set s to)).size by rw [HC.size]; rfl)
  have HH := Lib.hid (show (((W1.setCell ⟨w.heap.size, 0, none⟩ (.int .i64 (e + 1))).setCell ⟨w.heap.size, 1 + s, none⟩ (.int .i64 to)).setRow (w.heap.size + 1) (tcs (e + 1) (o.set s to))).heap[w.heap.size + 1]? = some (.cells (tcs (e + 1) (o.set s to)) 36 (0, 0)) from setRow_heap _ _ _ _ _ _ HZ4.out)
  clear HC
  generalize tcs (e + 1) (o.set s to) = U at *
  generalize hx : o.getD s 0 = x at *
  have D0 := Lib.hid d0; have D1 := Lib.hid d1; have Z0 := Lib.hid z0; have Z1 := Lib.hid z1
  have hW1' := hW1
  rw [zero_tab] at hW1'
  rw [hW1'] at d0 d1
  have HW1 := Lib.hid hW1'
  clear hx hA hZ hB hT hW1 hW1' hz z0 z1
  go_enter Tryd.func15, Tryd.ntmps15
  go_wp2_with (first
    | (refine wpList_at (some 40) rfl ?_; rw [← HW1.out]; clear d0 d1; have d0 := D0.out; have d1 := D1.out; have z0 := Z0.out; have z1 := Z1.out)
    | (refine wpList_load_row rfl 36 (.tmp 3) rfl w.heap.size rfl 36 U (0, 0) _ HN4.out Tryd.underlying36 rfl HI4.out ?_)
    | (refine wpList_store_rowTo rfl 36 (.tmp 6) (.tmp 48) rfl rfl (w.heap.size + 1) U rfl rfl 36 _ HZ4.out HI4.out HS4.out HO4.out ?_))
  refine bodyPost_ret (v := .tuple #[.agg U, .int .i64 0]) (res_two Tryd.results15 _ _ (w.heap.size + 1) 36 U _ _ rfl rfl HH.out Tryd.underlying36 rfl HI4.out) rfl ⟨rfl, below_setRow HB4.out (Nat.le_succ _) _⟩
/-- Move, whatever the table. -/
theorem rmove_any {T : Array Value} {e : Int} {o : List Int} (slot to : Int) (w : World) (hT : TabC T e o) :
    Calls Tryd.prog 15 #[.agg T, .int .i64 slot, .int .i64 to] w fun x w' => x = .returned (.tuple #[.agg (tcs (Mt.move e o slot to).1 (Mt.move e o slot to).2.1), .int .i64 (Mt.move e o slot to).2.2]) ∧ Below w.heap.size w w' := by
  by_cases h : slot < 0 ∨ 15 < slot ∨ to < 0 ∨ 7 < to ∨ e < 0 ∨ 1125899906842623 < e
  · have hm : Mt.move e o slot to = (0, Mt.zeros, 1) := by unfold Mt.move; rw [if_pos h]
    rw [hm]
    exact rmove_range slot to w hT h
  · obtain ⟨s, rfl⟩ : ∃ s : Nat, slot = s := ⟨slot.toNat, by omega⟩
    by_cases h6 : o.getD s 0 = to
    · have hm : Mt.move e o s to = (0, Mt.zeros, 5) := by unfold Mt.move; rw [if_neg h, if_pos (by simpa using h6)]
      rw [hm]
      exact rmove_twice s to w hT (by omega) (by omega) (by omega) (by omega) (by omega) h6
    · have hm : Mt.move e o s to = (e + 1, o.set s to, 0) := by unfold Mt.move; rw [if_neg h, if_neg (by simpa using h6)]; simp
      rw [hm]
      exact rmove_good s to w hT (by omega) (by omega) (by omega) (by omega) (by omega) h6
end Go.Proofs.YtobehjlejlaeeaaDoor
