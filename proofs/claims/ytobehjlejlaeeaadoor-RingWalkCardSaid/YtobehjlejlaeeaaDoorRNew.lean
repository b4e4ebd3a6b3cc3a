/- Tables: a first one. -/
import Derived.Test.YtobehjlejlaeeaaDoorRPts2
import Derived.Laws.Rows
import Derived.Laws.Tables
import Derived.Laws.ResultCell
import Derived.Deep.WholeRow
import Derived.Great.BuildSlice
namespace Go.Proofs.YtobehjlejlaeeaaDoor
open Go.RowKit

/-- A table's cells. -/
def tcs (e : Int) (o : List Int) : Array Value := (Value.int .i64 e :: o.map (Value.int .i64)).toArray
theorem tcs_size (e : Int) (o : List Int) (ho : o.length = 16) : (tcs e o).size = 17 := by simp [tcs, ho]
theorem tcs_0 (e : Int) (o : List Int) : (tcs e o)[0]? = some (.int .i64 e) := by simp [tcs]
theorem tcs_at (e : Int) (o : List Int) (s : Nat) (hs : s < o.length) : (tcs e o)[1 + s]? = some (.int .i64 (o.getD s 0)) := by
  rw [Nat.add_comm]
  simp [tcs, hs]
theorem tcs_set (e : Int) (o : List Int) (s : Nat) (x : Int) : (tcs e o).setIfInBounds (1 + s) (.int .i64 x) = tcs e (o.set s x) := by
  rw [Nat.add_comm]
  simp [tcs, List.map_set]
theorem tcs_set0 (e e' : Int) (o : List Int) : (tcs e o).setIfInBounds 0 (.int .i64 e') = tcs e' o := by simp [tcs]
theorem tcs_one (e : Int) (o : List Int) : (tcs e o).all (·.oneCell') = true := by
  simp [tcs, Value.oneCell']
def noOwn : List Int := List.replicate 16 0
theorem zero_tab : tcs 0 noOwn = #[.int .i64 0, .int .i64 0, .int .i64 0, .int .i64 0, .int .i64 0, .int .i64 0, .int .i64 0, .int .i64 0, .int .i64 0, .int .i64 0, .int .i64 0, .int .i64 0, .int .i64 0, .int .i64 0, .int .i64 0, .int .i64 0, .int .i64 0] := rfl
theorem Tryd.infoT : (Tryd.prog.info? 32).map (·.size) = some 17 := by kernel_rfl
theorem slot_add (s : Nat) (w : World) : (Op.stringOp .add ⟨#[115, 108, 111, 116, 32]⟩ (Mt.dec s)).run Tryd.prog w = .ok (.string (Mt.slotText s)) w := by
  have h1 := Mt.dec_size s
  have e1 : (⟨#[115, 108, 111, 116, 32]⟩ : ByteArray).size = 5 := rfl
  exact run_string_add_sum w _ _ (by omega)
theorem slotText_size (s : Nat) : (Mt.slotText s).size ≤ 100 := by
  have h1 := Mt.dec_size s
  have e1 : (⟨#[115, 108, 111, 116, 32]⟩ : ByteArray).size = 5 := rfl
  unfold Mt.slotText
  rw [ByteArray.size_append]
  omega

theorem res_two {P : Program} {fn : Func} {p u : Tmp} {ty : TypeId} (h : fn.results = #[.cell p ty, .tmp u]) (tmps : Array Value) (w : World) (g : Nat) (t : TypeId) (cs : Array Value) (d : TypeDesc) (v : Value)
    (hp : tmps.getD p undef = .pointer (some ⟨g, 0, none⟩)) (hq : tmps.getD u undef = v) (hg : Whole w g t cs)
    (hu : P.underlying ty = some d) (hd : (match d with | .struct _ | .array _ _ => true | _ => false) = true) (hi : (P.info? ty).map (·.size) = some cs.size) :
    (results fn tmps).run P w = .ok (.tuple #[.agg cs, v]) w := by
  rw [results_cell_tmp h, hp, hq]
  simp [asAddr, run_loadVar_row w g t ty cs (0, 0) d hg hu hd hi, Result.andThen]
theorem zero_one : (tcs 0 noOwn).all (·.oneCell') = true := tcs_one _ _
theorem setRow_new (w : World) (c c' : Array Value) (t : TypeId) : (w.alloc (.cells c t)).setRow w.heap.size c' = w.alloc (.cells c' t) := Go.World.setRow_alloc_new w c c' t
set_option maxRecDepth 100000 in
set_option maxHeartbeats 4000000 in
theorem new_bad (nodes points : Int) (w : World) (h : nodes < 1 ∨ 8 < nodes ∨ points < 1 ∨ 64 < points) :
    Calls Tryd.prog 12 #[.int .i64 nodes, .int .i64 points] w fun e w' => e = .returned (.tuple #[.agg (tcs 0 noOwn), .int .i64 1]) ∧ Below w.heap.size w w' := by
  have h0 : nodes < 1 ∨ 1 ≤ nodes ∧ 8 < nodes ∨ 1 ≤ nodes ∧ nodes ≤ 8 ∧ points < 1 ∨ 1 ≤ nodes ∧ nodes ≤ 8 ∧ 1 ≤ points ∧ 64 < points := by omega
  clear h
  rcases h0 with h | ⟨h1, h2⟩ | ⟨h1, h2, h3⟩ | ⟨h1, h2, h3, h4⟩
  all_goals
    go_enter Tryd.func12, Tryd.ntmps12
    go_wp2_with (refine wpList_store_rowTo rfl 32 (.tmp 4) (.tmp 23) rfl rfl w.heap.size (tcs 0 noOwn) rfl rfl 32 _ (heap_alloc_new w _) (by kernel_rfl) rfl zero_one ?_; rw [setRow_new])
    refine bodyPost_ret (v := .tuple #[.agg (tcs 0 noOwn), .int .i64 1]) (res_two Tryd.results12 _ _ w.heap.size 32 (tcs 0 noOwn) _ _ rfl rfl (heap_alloc_new w _) Tryd.underlying32 rfl Tryd.infoT) rfl ⟨rfl, below_alloc _ _⟩
end Go.Proofs.YtobehjlejlaeeaaDoor
