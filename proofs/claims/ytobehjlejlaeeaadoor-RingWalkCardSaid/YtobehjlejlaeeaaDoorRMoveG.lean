/- A table in which a slot is another node's: made. -/
import Derived.Test.YtobehjlejlaeeaaDoorRMove
namespace Go.Proofs.YtobehjlejlaeeaaDoor
open Go.RowKit

set_option maxRecDepth 100000 in
set_option maxHeartbeats 8000000 in
theorem move_good {T : Array Value} {e : Int} {o : List Int} (s : Nat) (to : Int) (w : World) (hT : TabC T e o) (h1 : s < 16) (h2 : 0 ≤ to) (h3 : to ≤ 7) (h4 : 0 ≤ e) (h5 : e ≤ 1125899906842623) (h6 : o.getD s 0 ≠ to) :
    Calls Tryd.prog 14 #[.agg T, .int .i64 s, .int .i64 to] w fun x w' => x = .returned (.tuple #[.agg (tcs (e + 1) (o.set s to)), .int .i64 0]) ∧ Below w.heap.size w w' := by
  have c0 := hT.c0
  have cs := hT.cs s h1
  obtain ⟨hA, hZ, hz, hB⟩ := two_made w T (tcs 0 noOwn)
  obtain ⟨W1, hW1⟩ : ∃ W1, W1 = (w.alloc (.cells T 32)).alloc (.cells (tcs 0 noOwn) 32) := ⟨_, rfl⟩
  rw [← hW1] at hA hZ hz hB
  have d0 : W1.cell? ⟨w.heap.size, 0, none⟩ = some (.int .i64 e) := by rw [hA.cell]; exact c0
  have d1 : W1.cell? ⟨w.heap.size, 1 + s, none⟩ = some (.int .i64 (o.getD s 0)) := by rw [hA.cell]; exact cs
  generalize hx : o.getD s 0 = x at *
  have HX := Lib.hid hx
  have HA := Lib.hid hA
  have HZ := Lib.hid hZ
  have HB := Lib.hid hB
  have HI := Lib.hid hT.info
  have HO := Lib.hid hT.one
  have HT := Lib.hid hT
  have HSZ := Lib.hid hT.size
  have hlen := Lib.hid hT.len
  have hW1' := hW1
  rw [zero_tab] at hW1'
  rw [hW1'] at d0 d1
  have HW1 := Lib.hid hW1'
  have HZS := Lib.hid hz
  clear hx hA hZ hB hT hW1 hW1' c0 cs hz
  go_enter Tryd.func14, Tryd.ntmps14
  go_wp2_with (first
    | (refine wpList_load_row rfl 32 (.tmp 3) rfl w.heap.size rfl 32 T (0, 0) _ (by rw [← HW1.out]; exact HA.out) Tryd.underlying32 rfl HI.out ?_
       rw [← HW1.out]; clear d0 d1)
    | (refine wpList_store_rowTo rfl 32 (.tmp 8) (.tmp 39) rfl rfl W1.heap.size T rfl rfl 32 _ (heap_alloc_new W1 _) HI.out (by rw [HSZ.out]; rfl) HO.out ?_
       rw [setRow_new]
       have hN : Whole (W1.alloc (.cells T 32)) W1.heap.size 32 T := heap_alloc_new _ _
       have hb := below_alloc W1 (.cells T 32)
       have HN := Lib.hid hN
       have HZ2 := Lib.hid (HZ.out.kept (hb.block _ HZ.out.lt))
       have HB2 := Lib.hid (HB.out.trans (hb.mono HB.out.size))
       have e0 : (W1.alloc (.cells T 32)).cell? ⟨W1.heap.size, 0, none⟩ = some (.int .i64 e) := by rw [hN.cell]; exact HT.out.c0
       have e1 : (W1.alloc (.cells T 32)).cell? ⟨W1.heap.size, 1 + s, none⟩ = some (.int .i64 (o.getD s 0)) := by rw [hN.cell]; exact HT.out.cs s h1
       have z0 := hN.free 0
       have z1 := hN.free (1 + s)
       have hsz : w.heap.size + 1 < W1.heap.size := by have := HZS.out; omega
       clear HZS
       clear hN hb
       generalize W1.alloc (.cells T 32) = W2 at *
       generalize W1.heap.size = g8 at *
       have HN4 := Lib.hid (show Whole ((W2.setCell ⟨g8, 0, none⟩ (.int .i64 (e + 1))).setCell ⟨g8, 1 + s, none⟩ (.int .i64 to)) g8 32 (tcs (e + 1) (o.set s to)) by
         have := (HN.out.store 0 (.int .i64 (e + 1))).store (1 + s) (.int .i64 to)
         rwa [HT.out.eq, tcs_set0, tcs_set] at this)
       have HZ4 := Lib.hid (show Whole ((W2.setCell ⟨g8, 0, none⟩ (.int .i64 (e + 1))).setCell ⟨g8, 1 + s, none⟩ (.int .i64 to)) (w.heap.size + 1) 32 (tcs 0 noOwn) from
         (HZ2.out.kept (Below.heap_setCell _ _ _ _ (by simp; omega))).kept (Below.heap_setCell _ _ _ _ (by simp; omega)))
       have HB4 := Lib.hid ((HB2.out.setCell (p := ⟨g8, 0, none⟩) (by simp; omega) (.int .i64 (e + 1))).setCell (p := ⟨g8, 1 + s, none⟩) (by simp; omega) (.int .i64 to))
       have HC := Lib.hid (TabC.mk' (e + 1) (o.set s to) (by rw [List.length_set]; exact hlen.out))
       have HI4 := Lib.hid HC.out.info
       have HO4 := Lib.hid HC.out.one
       have HS4 := Lib.hid (show (tcs 0 noOwn).size = (tcs (e + 1) (o.set s to)).size by rw [HC.out.size]; rfl)
       have HH := Lib.hid (show (((W2.setCell ⟨g8, 0, none⟩ (.int .i64 (e + 1))).setCell ⟨g8, 1 + s, none⟩ (.int .i64 to)).setRow (w.heap.size + 1) (tcs (e + 1) (o.set s to))).heap[w.heap.size + 1]? = some (.cells (tcs (e + 1) (o.set s to)) 32 (0, 0)) from setRow_heap _ _ _ _ _ _ HZ4.out)
       generalize hU : tcs (e + 1) (o.set s to) = U at HN4 HC HI4 HO4 HS4 HH
       have HU := Lib.hid hU
       clear hU HN HZ2 HB2)
    | (refine wpList_load_row rfl 32 (.tmp 8) rfl g8 rfl 32 U (0, 0) _ HN4.out Tryd.underlying32 rfl HI4.out ?_)
    | (refine wpList_store_rowTo rfl 32 (.tmp 6) (.tmp 48) rfl rfl (w.heap.size + 1) U rfl rfl 32 _ HZ4.out HI4.out HS4.out HO4.out ?_))
  refine bodyPost_ret (v := .tuple #[.agg U, .int .i64 0]) (res_two Tryd.results14 _ _ (w.heap.size + 1) 32 U _ _ rfl rfl HH.out Tryd.underlying32 rfl HI4.out) rfl ⟨by rw [HU.out], below_setRow HB4.out (Nat.le_succ _) _⟩

/-- Move, whatever the table. -/
theorem move_any {T : Array Value} {e : Int} {o : List Int} (slot to : Int) (w : World) (hT : TabC T e o) :
    Calls Tryd.prog 14 #[.agg T, .int .i64 slot, .int .i64 to] w fun x w' => x = .returned (.tuple #[.agg (tcs (Mt.move e o slot to).1 (Mt.move e o slot to).2.1), .int .i64 (Mt.move e o slot to).2.2]) ∧ Below w.heap.size w w' := by
  by_cases h : slot < 0 ∨ 15 < slot ∨ to < 0 ∨ 7 < to ∨ e < 0 ∨ 1125899906842623 < e
  · have hm : Mt.move e o slot to = (0, Mt.zeros, 1) := by unfold Mt.move; rw [if_pos h]
    rw [hm]
    exact move_range slot to w hT h
  · obtain ⟨s, rfl⟩ : ∃ s : Nat, slot = s := ⟨slot.toNat, by omega⟩
    by_cases h6 : o.getD s 0 = to
    · have hm : Mt.move e o s to = (0, Mt.zeros, 5) := by unfold Mt.move; rw [if_neg h, if_pos (by simpa using h6)]
      rw [hm]
      exact move_twice s to w hT (by omega) (by omega) (by omega) (by omega) (by omega) h6
    · have hm : Mt.move e o s to = (e + 1, o.set s to, 0) := by unfold Mt.move; rw [if_neg h, if_neg (by simpa using h6)]; simp
      rw [hm]
      exact move_good s to w hT (by omega) (by omega) (by omega) (by omega) (by omega) h6
theorem move_len {e : Int} {o : List Int} (slot to : Int) (h : o.length = 16) : (Mt.move e o slot to).2.1.length = 16 := by
  unfold Mt.move
  split
  · rfl
  · split
    · rfl
    · simpa using h
end Go.Proofs.YtobehjlejlaeeaaDoor
