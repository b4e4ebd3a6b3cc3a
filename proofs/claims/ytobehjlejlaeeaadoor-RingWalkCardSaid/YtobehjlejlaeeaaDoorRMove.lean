/- A table in which a slot is another node's. -/
import Derived.Test.YtobehjlejlaeeaaDoorRNewG
namespace Go.Proofs.YtobehjlejlaeeaaDoor
open Go.RowKit

/-- What is known of a table's cells. -/
structure TabC (T : Array Value) (e : Int) (o : List Int) : Prop where
  eq : T = tcs e o
  len : o.length = 16
theorem TabC.mk' (e : Int) (o : List Int) (h : o.length = 16) : TabC (tcs e o) e o := ⟨rfl, h⟩
section
variable {T : Array Value} {e : Int} {o : List Int}
theorem TabC.c0 (h : TabC T e o) : T[0]? = some (.int .i64 e) := by rw [h.eq]; exact tcs_0 _ _
theorem TabC.cs (h : TabC T e o) (s : Nat) (hs : s < 16) : T[1 + s]? = some (.int .i64 (o.getD s 0)) := by rw [h.eq]; exact tcs_at _ _ _ (by rw [h.len]; exact hs)
theorem TabC.size (h : TabC T e o) : T.size = 17 := by rw [h.eq]; exact tcs_size _ _ h.len
theorem TabC.one (h : TabC T e o) : T.all (·.oneCell') = true := by rw [h.eq]; exact tcs_one _ _
theorem TabC.info (h : TabC T e o) : (Tryd.prog.info? 32).map (·.size) = some T.size := by rw [h.size]; exact Tryd.infoT
end
theorem noOwn_tab : TabC (tcs 0 noOwn) 0 noOwn := ⟨rfl, rfl⟩

set_option maxRecDepth 100000 in
set_option maxHeartbeats 8000000 in
theorem move_range {T : Array Value} {e : Int} {o : List Int} (slot to : Int) (w : World) (hT : TabC T e o) (h : slot < 0 ∨ 15 < slot ∨ to < 0 ∨ 7 < to ∨ e < 0 ∨ 1125899906842623 < e) :
    Calls Tryd.prog 14 #[.agg T, .int .i64 slot, .int .i64 to] w fun x w' => x = .returned (.tuple #[.agg (tcs 0 noOwn), .int .i64 1]) ∧ Below w.heap.size w w' := by
  have h0 : slot < 0 ∨ (0 ≤ slot ∧ 16 ≤ slot) ∨ (0 ≤ slot ∧ slot ≤ 15 ∧ to < 0) ∨ (0 ≤ slot ∧ slot ≤ 15 ∧ 0 ≤ to ∧ 8 ≤ to) ∨ (0 ≤ slot ∧ slot ≤ 15 ∧ 0 ≤ to ∧ to ≤ 7 ∧ e < 0) ∨ (0 ≤ slot ∧ slot ≤ 15 ∧ 0 ≤ to ∧ to ≤ 7 ∧ 0 ≤ e ∧ 1125899906842624 ≤ e) := by omega
  clear h
  have c0 := hT.c0
  have hz : (w.alloc (.cells T 32)).heap.size = w.heap.size + 1 := by simp
  have HH := Lib.hid (show ((w.alloc (.cells T 32)).alloc (.cells (tcs 0 noOwn) 32)).heap[w.heap.size + 1]? = some (.cells (tcs 0 noOwn) 32 (0, 0)) by rw [← hz]; exact heap_alloc_new _ _)
  have HH2 := HH
  rw [zero_tab] at HH2
  have HB := Lib.hid (show Below w.heap.size w ((w.alloc (.cells T 32)).alloc (.cells (tcs 0 noOwn) 32)) from (below_alloc _ _).trans ((below_alloc _ _).mono (by simp)))
  clear hT
  have hset : ∀ Z : Array Value, ((w.alloc (.cells T 32)).alloc (.cells Z 32)).setRow (w.heap.size + 1) (tcs 0 noOwn) = (w.alloc (.cells T 32)).alloc (.cells (tcs 0 noOwn) 32) := by
    intro Z
    rw [← hz]
    exact setRow_new _ _ _ _
  have HS := Lib.hid hset
  clear hset hz
  rcases h0 with h1 | ⟨h1, h2⟩ | ⟨h1, h2, h3⟩ | ⟨h1, h2, h3, h4⟩ | ⟨h1, h2, h3, h4, h5⟩ | ⟨h1, h2, h3, h4, h5, h6⟩
  all_goals
    go_enter Tryd.func14, Tryd.ntmps14
    go_wp2_with (refine wpList_store_rowTo rfl 32 (.tmp 6) (.tmp 30) rfl rfl (w.heap.size + 1) (tcs 0 noOwn) rfl rfl 32 _ HH2.out (by kernel_rfl) rfl zero_one ?_; rw [HS.out])
    refine bodyPost_ret (v := .tuple #[.agg (tcs 0 noOwn), .int .i64 1]) (res_two Tryd.results14 _ _ (w.heap.size + 1) 32 (tcs 0 noOwn) _ _ rfl rfl HH.out Tryd.underlying32 rfl Tryd.infoT) rfl ⟨rfl, HB.out⟩

theorem two_made (w : World) (T Z : Array Value) : Whole ((w.alloc (.cells T 32)).alloc (.cells Z 32)) w.heap.size 32 T ∧ Whole ((w.alloc (.cells T 32)).alloc (.cells Z 32)) (w.heap.size + 1) 32 Z ∧ ((w.alloc (.cells T 32)).alloc (.cells Z 32)).heap.size = w.heap.size + 2 ∧ Below w.heap.size w ((w.alloc (.cells T 32)).alloc (.cells Z 32)) := by
  have hz : (w.alloc (.cells T 32)).heap.size = w.heap.size + 1 := by simp
  have h1 : Whole (w.alloc (.cells T 32)) w.heap.size 32 T := heap_alloc_new _ _
  refine ⟨h1.kept ((below_alloc _ _).block _ h1.lt), by rw [← hz]; exact heap_alloc_new _ _, by simp, (below_alloc _ _).trans ((below_alloc _ _).mono (by simp))⟩

set_option maxRecDepth 100000 in
set_option maxHeartbeats 8000000 in
theorem move_twice {T : Array Value} {e : Int} {o : List Int} (s : Nat) (to : Int) (w : World) (hT : TabC T e o) (h1 : s < 16) (h2 : 0 ≤ to) (h3 : to ≤ 7) (h4 : 0 ≤ e) (h5 : e ≤ 1125899906842623) (h6 : o.getD s 0 = to) :
    Calls Tryd.prog 14 #[.agg T, .int .i64 s, .int .i64 to] w fun x w' => x = .returned (.tuple #[.agg (tcs 0 noOwn), .int .i64 5]) ∧ Below w.heap.size w w' := by
  have c0 := hT.c0
  have cs := hT.cs s h1
  rw [h6] at cs
  obtain ⟨hA, hZ, hz, hB⟩ := two_made w T (tcs 0 noOwn)
  have d0 : ((w.alloc (.cells T 32)).alloc (.cells (tcs 0 noOwn) 32)).cell? ⟨w.heap.size, 0, none⟩ = some (.int .i64 e) := by rw [hA.cell]; exact c0
  have d1 : ((w.alloc (.cells T 32)).alloc (.cells (tcs 0 noOwn) 32)).cell? ⟨w.heap.size, 1 + s, none⟩ = some (.int .i64 to) := by rw [hA.cell]; exact cs
  have HZ := Lib.hid hZ
  have HB := Lib.hid hB
  rw [zero_tab] at d0 d1 HZ HB
  have HS := Lib.hid (show ∀ w0 : World, Whole w0 (w.heap.size + 1) 32 #[.int .i64 0, .int .i64 0, .int .i64 0, .int .i64 0, .int .i64 0, .int .i64 0, .int .i64 0, .int .i64 0, .int .i64 0, .int .i64 0, .int .i64 0, .int .i64 0, .int .i64 0, .int .i64 0, .int .i64 0, .int .i64 0, .int .i64 0] → Whole (w0.setRow (w.heap.size + 1) (tcs 0 noOwn)) (w.heap.size + 1) 32 (tcs 0 noOwn) from fun w0 h => setRow_heap _ _ _ _ _ _ h)
  clear hA hZ hB hz c0 cs hT h6
  go_enter Tryd.func14, Tryd.ntmps14
  go_wp2_with (first
    | (refine wpList_store_rowTo rfl 32 (.tmp 6) (.tmp 38) rfl rfl (w.heap.size + 1) (tcs 0 noOwn) rfl rfl 32 _ HZ.out (by kernel_rfl) rfl zero_one ?_))
  refine bodyPost_ret (v := .tuple #[.agg (tcs 0 noOwn), .int .i64 5]) (res_two Tryd.results14 _ _ (w.heap.size + 1) 32 (tcs 0 noOwn) _ _ rfl rfl (HS.out _ HZ.out) Tryd.underlying32 rfl Tryd.infoT) rfl ⟨rfl, below_setRow HB.out (Nat.le_succ _) _⟩
end Go.Proofs.YtobehjlejlaeeaaDoor
