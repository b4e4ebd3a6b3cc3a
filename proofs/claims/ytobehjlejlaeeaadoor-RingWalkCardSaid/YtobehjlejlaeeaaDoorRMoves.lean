/- RingMoves: with one node more no slot goes from one of the elder ones to another. -/
import Derived.Test.YtobehjlejlaeeaaDoorRMovesM
namespace Go.Proofs.YtobehjlejlaeeaaDoor
open Go.RowKit

set_option maxRecDepth 100000 in
set_option maxHeartbeats 8000000 in
theorem moves_out (nodes points : Int) (w : World) (h : nodes < 1 ∨ 7 < nodes) :
    Calls Tryd.prog 5 #[.int .i64 nodes, .int .i64 points] w fun e w' => e = .returned (.bool true) ∧ Below w.heap.size w w' := by
  have h0 : nodes < 1 ∨ 1 ≤ nodes ∧ 7 < nodes := by omega
  clear h
  rcases h0 with h | ⟨h1, h2⟩
  all_goals
    go_enter Tryd.func5, Tryd.ntmps5
    go_wp2_with (go_at_call 8; refine (awake_any _).mono ?_; rintro e w1 ⟨rfl, hb1⟩; have HB1 := Lib.hid hb1; clear hb1)
    go_ret
    exact ⟨rfl, HB1.out⟩

set_option maxRecDepth 100000 in
set_option maxHeartbeats 8000000 in
theorem moves_bad (nodes points : Int) (w : World) (h1 : 1 ≤ nodes) (h2 : nodes ≤ 7) (h : points < 1 ∨ 64 < points) :
    Calls Tryd.prog 5 #[.int .i64 nodes, .int .i64 points] w fun e w' => e = .returned (.bool true) ∧ Below w.heap.size w w' := by
  have HNA := Lib.hid (fun w : World => new_bad nodes points w (by omega))
  have HNB := Lib.hid (fun w : World => new_bad (nodes + 1) points w (by omega))
  have h0 : points < 1 ∨ 1 ≤ points ∧ 64 < points := by omega
  clear h
  rcases h0 with h | ⟨h3, h4⟩
  all_goals
    go_enter Tryd.func5, Tryd.ntmps5
    go_wp2_with (first
      | (go_at_call 8; refine (awake_any _).mono ?_; rintro e w1 ⟨rfl, hb1⟩; have HB1 := Lib.hid hb1; clear hb1)
      | (go_at_call 12; first
         | (with_reducible refine (HNA.out _).mono ?_; rintro e w2 ⟨rfl, hb2⟩; have HB2 := Lib.hid (HB1.out.trans (hb2.mono HB1.out.size)); clear hb2)
         | (with_reducible refine (HNB.out _).mono ?_; rintro e w4 ⟨rfl, hb4⟩; have HB4 := Lib.hid (HB3.out.trans (hb4.mono HB3.out.size)); clear hb4))
      | (refine wpList_store_rowTo rfl 32 (.tmp 5) (.tmp 28) rfl rfl w2.heap.size (tcs 0 noOwn) rfl rfl 32 _ (heap_alloc_new w2 _) (by kernel_rfl) rfl zero_one ?_
         rw [setRow_new]
         have HB3 := Lib.hid (HB2.out.alloc HB2.out.size (.cells (tcs 0 noOwn) 32))
         generalize w2.alloc (.cells (tcs 0 noOwn) 32) = w3 at *
         generalize w2.heap.size = g2 at *)
      | (refine wpList_store_rowTo rfl 32 (.tmp 7) (.tmp 35) rfl rfl w4.heap.size (tcs 0 noOwn) rfl rfl 32 _ (heap_alloc_new w4 _) (by kernel_rfl) rfl zero_one ?_
         rw [setRow_new]
         have HB5 := Lib.hid (HB4.out.alloc HB4.out.size (.cells (tcs 0 noOwn) 32))
         generalize w4.alloc (.cells (tcs 0 noOwn) 32) = w5 at *
         generalize w4.heap.size = g4 at *))
    go_ret
    exact ⟨rfl, HB5.out⟩
end Go.Proofs.YtobehjlejlaeeaaDoor
