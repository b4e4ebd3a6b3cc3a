/- The program's table as the document's; the law's first question. -/
import Derived.Test.YtobehjlejlaeeaaDoorRRefMove
namespace Go.Proofs.YtobehjlejlaeeaaDoor
open Go.RowKit

theorem list16 (o : List Int) (h : o.length = 16) : ∃ a0 a1 a2 a3 a4 a5 a6 a7 a8 a9 a10 a11 a12 a13 a14 a15, o = [a0, a1, a2, a3, a4, a5, a6, a7, a8, a9, a10, a11, a12, a13, a14, a15] := by
  match o, h with
  | [a0, a1, a2, a3, a4, a5, a6, a7, a8, a9, a10, a11, a12, a13, a14, a15], _ => exact ⟨_, _, _, _, _, _, _, _, _, _, _, _, _, _, _, _, rfl⟩
set_option maxRecDepth 100000 in
theorem built_plain (e : Int) (o : List Int) (h : o.length = 16) : Tryd.prog.built 36 [(0, .int .i64 e), (1, .agg (acs o))] = some (tcs e o) := by
  obtain ⟨a0, a1, a2, a3, a4, a5, a6, a7, a8, a9, a10, a11, a12, a13, a14, a15, rfl⟩ := list16 o h
  kernel_rfl
set_option maxRecDepth 100000 in
set_option maxHeartbeats 4000000 in
theorem plain_any {T : Array Value} {e : Int} {o : List Int} (w : World) (hT : TabC T e o) :
    Calls Tryd.prog 16 #[.agg T] w fun x w' => x = .returned (.agg T) ∧ Below w.heap.size w w' := by
  have c0 := hT.c0
  obtain ⟨W0, hW0⟩ : ∃ W0, W0 = w.alloc (.cells T 32) := ⟨_, rfl⟩
  have hA0 : Whole W0 w.heap.size 32 T := by rw [hW0]; exact heap_alloc_new _ _
  have hB0 : Below w.heap.size w W0 := by rw [hW0]; exact below_alloc _ _
  have hz0 : W0.heap.size = w.heap.size + 1 := by rw [hW0]; simp
  have hA := hA0.kept ((below_alloc W0 (.cells (tcs 0 noOwn) 36)).block _ hA0.lt)
  have HR := Lib.hid (range_owners hA hT)
  have HB := Lib.hid (hB0.trans ((below_alloc W0 (.cells (tcs 0 noOwn) 36)).mono hB0.size))
  have hZ : Whole (W0.alloc (.cells (tcs 0 noOwn) 36)) (w.heap.size + 1) 36 (tcs 0 noOwn) := by rw [← hz0]; exact heap_alloc_new _ _
  have HZ := Lib.hid hZ
  have HI := Lib.hid (show (Tryd.prog.info? 30).map (·.size) = some (acs o).toList.length by rw [Array.length_toList, acs_size, hT.len]; exact Tryd.infoA)
  have HIT := Lib.hid (show (Tryd.prog.info? 36).map (·.size) = some T.size by rw [hT.size]; exact Tryd.infoRT)
  have HO := Lib.hid hT.one
  have HSZ := Lib.hid (show (tcs 0 noOwn).size = T.size by rw [hT.size]; rfl)
  have HBU := Lib.hid (show Tryd.prog.built 36 [(0, .int .i64 e), (1, .agg (acs o))] = some T by rw [hT.eq]; exact built_plain e o hT.len)
  have HH := Lib.hid (show ((W0.alloc (.cells (tcs 0 noOwn) 36)).setRow (w.heap.size + 1) T).heap[w.heap.size + 1]? = some (.cells T 36 (0, 0)) from setRow_heap _ _ _ _ _ _ hZ)
  rw [hW0] at HR HZ HB HH
  rw [zero_tab] at HR HZ HB HH HSZ
  clear hA0 hB0 hz0 hA hZ hW0 hT
  go_enter Tryd.func16, Tryd.ntmps16
  go_wp2_with (first
    | (refine wpList_load_mid rfl 30 (.tmp 5) rfl w.heap.size 1 rfl (acs o).toList _ HR.out Tryd.underlying30 rfl HI.out ?_)
    | (refine wpList_at (some 7) rfl ?_; go_loud (refine wpList_buildTo rfl 36 #[(0, .tmp 4), (1, .tmp 6)] rfl (some 7) rfl T (by simpa [Act.eval, Act.put] using HBU.out) ?_))
    | (refine wpList_store_rowTo rfl 36 (.tmp 2) (.tmp 7) rfl rfl (w.heap.size + 1) T rfl rfl 36 _ HZ.out HIT.out HSZ.out HO.out ?_))
  refine bodyPost_ret (v := .agg T) (results_cell_row Tryd.results16 _ _ (w.heap.size + 1) 36 T (0, 0) _ rfl HH.out Tryd.underlying36 rfl HIT.out) rfl ⟨rfl, below_setRow HB.out (Nat.le_succ _) _⟩
end Go.Proofs.YtobehjlejlaeeaaDoor
