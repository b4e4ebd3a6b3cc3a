/- Tables: their cells. A table in which a slot is another node's. Tables asked: Diff, Check. -/
import Derived.Test.YtbmmgmdjhhnkfaaNLie
import Derived.Laws.Rows
import Derived.Laws.Tables
import Derived.Laws.ResultCell
import Derived.Deep.WholeRow
import Derived.Great.BuildSlice
import Derived.Laws.CopyOwn
import Derived.Deep.MidRow
namespace Go.Proofs.Ytbmmgmdjhhnkfaa.Mt
/-- A slot given to another node. -/
def zeros : List Int := List.replicate 16 0
def move (e : Int) (o : List Int) (slot to : Int) : Int × List Int × Int :=
  if slot < 0 ∨ 15 < slot ∨ to < 0 ∨ 7 < to ∨ e < 0 ∨ 1125899906842623 < e then (0, zeros, 1)
  else if o.getD slot.toNat 0 = to then (0, zeros, 5) else (e + 1, o.set slot.toNat to, 0)
/-- The numbers below a bound that pass, rising. -/
def ups (f : Nat → Bool) (n : Nat) : List Nat := (List.range n).filter f
theorem ups_yes {f : Nat → Bool} {n : Nat} (h : f n = true) : ups f (n + 1) = ups f n ++ [n] := by simp [ups, List.range_succ, h]
theorem ups_no {f : Nat → Bool} {n : Nat} (h : f n = false) : ups f (n + 1) = ups f n := by simp [ups, List.range_succ, h]
theorem ups_len (f : Nat → Bool) (n : Nat) : (ups f n).length ≤ n := by
  have := List.length_filter_le f (List.range n)
  simpa [ups] using this
def other (a b : List Int) (s : Nat) : Bool := a.getD s 0 != b.getD s 0
def is (a : List Int) (x : Int) (s : Nat) : Bool := a.getD s 0 == x
end Go.Proofs.Ytbmmgmdjhhnkfaa.Mt
namespace Go.Proofs.Ytbmmgmdjhhnkfaa
open Go.RowKit

/-- A table's cells. -/
def tcs (e : Int) (o : List Int) : Array Value := (Value.int .i64 e :: o.map (Value.int .i64)).toArray
theorem tcs_size (e : Int) (o : List Int) (ho : o.length = 16) : (tcs e o).size = 17 := by simp [tcs, ho]
theorem tcs_0 (e : Int) (o : List Int) : (tcs e o)[0]? = some (.int .i64 e) := by simp [tcs]
theorem tcs_at (e : Int) (o : List Int) (s : Nat) (hs : s < o.length) : (tcs e o)[1 + s]? = some (.int .i64 (o.getD s 0)) := by
  rw [Nat.add_comm]
  simp [tcs, hs]
theorem tcs_set (e : Int) (o : List Int) (s : Nat) (x : Int) : (tcs e o).setIfInBounds (1 + s) (.int .i64 x) = tcs e (o.set s x) := by
  rw [Nat.add_comm]
  simp [tcs, List.map_set]
theorem tcs_set0 (e e' : Int) (o : List Int) : (tcs e o).setIfInBounds 0 (.int .i64 e') = tcs e' o := by simp [tcs]
theorem tcs_one (e : Int) (o : List Int) : (tcs e o).all (·.oneCell') = true := by
  simp [tcs, Value.oneCell']
def noOwn : List Int := List.replicate 16 0
theorem zero_tab : tcs 0 noOwn = #[.int .i64 0, .int .i64 0, .int .i64 0, .int .i64 0, .int .i64 0, .int .i64 0, .int .i64 0, .int .i64 0, .int .i64 0, .int .i64 0, .int .i64 0, .int .i64 0, .int .i64 0, .int .i64 0, .int .i64 0, .int .i64 0, .int .i64 0] := rfl
theorem Try.infoT : (Try.prog.info? 24).map (·.size) = some 17 := by kernel_rfl


theorem res_two {P : Program} {fn : Func} {p u : Tmp} {ty : TypeId} (h : fn.results = #[.cell p ty, .tmp u]) (tmps : Array Value) (w : World) (g : Nat) (t : TypeId) (cs : Array Value) (d : TypeDesc) (v : Value)
    (hp : tmps.getD p undef = .pointer (some ⟨g, 0, none⟩)) (hq : tmps.getD u undef = v) (hg : Whole w g t cs)
    (hu : P.underlying ty = some d) (hd : (match d with | .struct _ | .array _ _ => true | _ => false) = true) (hi : (P.info? ty).map (·.size) = some cs.size) :
    (results fn tmps).run P w = .ok (.tuple #[.agg cs, v]) w := by
  rw [results_cell_tmp h, hp, hq]
  simp [asAddr, run_loadVar_row w g t ty cs (0, 0) d hg hu hd hi, Result.andThen]
theorem zero_one : (tcs 0 noOwn).all (·.oneCell') = true := tcs_one _ _
theorem setRow_new (w : World) (c c' : Array Value) (t : TypeId) : (w.alloc (.cells c t)).setRow w.heap.size c' = w.alloc (.cells c' t) := Go.World.setRow_alloc_new w c c' t
end Go.Proofs.Ytbmmgmdjhhnkfaa

namespace Go.Proofs.Ytbmmgmdjhhnkfaa
open Go.RowKit

/-- What is known of a table's cells. -/
structure TabC (T : Array Value) (e : Int) (o : List Int) : Prop where
  eq : T = tcs e o
  len : o.length = 16
theorem TabC.mk' (e : Int) (o : List Int) (h : o.length = 16) : TabC (tcs e o) e o := ⟨rfl, h⟩
section
variable {T : Array Value} {e : Int} {o : List Int}
theorem TabC.c0 (h : TabC T e o) : T[0]? = some (.int .i64 e) := by rw [h.eq]; exact tcs_0 _ _
theorem TabC.cs (h : TabC T e o) (s : Nat) (hs : s < 16) : T[1 + s]? = some (.int .i64 (o.getD s 0)) := by rw [h.eq]; exact tcs_at _ _ _ (by rw [h.len]; exact hs)
theorem TabC.size (h : TabC T e o) : T.size = 17 := by rw [h.eq]; exact tcs_size _ _ h.len
theorem TabC.one (h : TabC T e o) : T.all (·.oneCell') = true := by rw [h.eq]; exact tcs_one _ _
theorem TabC.info (h : TabC T e o) : (Try.prog.info? 24).map (·.size) = some T.size := by rw [h.size]; exact Try.infoT
end
theorem noOwn_tab : TabC (tcs 0 noOwn) 0 noOwn := ⟨rfl, rfl⟩

set_option maxRecDepth 100000 in
set_option maxHeartbeats 8000000 in
theorem move_range {T : Array Value} {e : Int} {o : List Int} (slot to : Int) (w : World) (hT : TabC T e o) (h : slot < 0 ∨ 15 < slot ∨ to < 0 ∨ 7 < to ∨ e < 0 ∨ 1125899906842623 < e) :
    Calls Try.prog 28 #[.agg T, .int .i64 slot, .int .i64 to] w fun x w' => x = .returned (.tuple #[.agg (tcs 0 noOwn), .int .i64 1]) ∧ Below w.heap.size w w' := by
  have h0 : slot < 0 ∨ (0 ≤ slot ∧ 16 ≤ slot) ∨ (0 ≤ slot ∧ slot ≤ 15 ∧ to < 0) ∨ (0 ≤ slot ∧ slot ≤ 15 ∧ 0 ≤ to ∧ 8 ≤ to) ∨ (0 ≤ slot ∧ slot ≤ 15 ∧ 0 ≤ to ∧ to ≤ 7 ∧ e < 0) ∨ (0 ≤ slot ∧ slot ≤ 15 ∧ 0 ≤ to ∧ to ≤ 7 ∧ 0 ≤ e ∧ 1125899906842624 ≤ e) := by omega
  clear h
  have c0 := hT.c0
  have hz : (w.alloc (.cells T 24)).heap.size = w.heap.size + 1 := by simp
  have HH := Lib.hid (show ((w.alloc (.cells T 24)).alloc (.cells (tcs 0 noOwn) 24)).heap[w.heap.size + 1]? = some (.cells (tcs 0 noOwn) 24 (0, 0)) by rw [← hz]; exact heap_alloc_new _ _)
  have HH2 := HH
  rw [zero_tab] at HH2
  have HB := Lib.hid (show Below w.heap.size w ((w.alloc (.cells T 24)).alloc (.cells (tcs 0 noOwn) 24)) from (below_alloc _ _).trans ((below_alloc _ _).mono (by simp)))
  clear hT
  have hset : ∀ Z : Array Value, ((w.alloc (.cells T 24)).alloc (.cells Z 24)).setRow (w.heap.size + 1) (tcs 0 noOwn) = (w.alloc (.cells T 24)).alloc (.cells (tcs 0 noOwn) 24) := by
    intro Z
    rw [← hz]
    exact setRow_new _ _ _ _
  have HS := Lib.hid hset
  clear hset hz
  rcases h0 with h1 | ⟨h1, h2⟩ | ⟨h1, h2, h3⟩ | ⟨h1, h2, h3, h4⟩ | ⟨h1, h2, h3, h4, h5⟩ | ⟨h1, h2, h3, h4, h5, h6⟩
  all_goals
    go_enter Try.func28, Try.ntmps28
    go_wp2_with (refine wpList_store_rowTo rfl 24 (.tmp 6) (.tmp 30) rfl rfl (w.heap.size + 1) (tcs 0 noOwn) rfl rfl 24 _ HH2.out (by kernel_rfl) rfl zero_one ?_; rw [HS.out])
    refine bodyPost_ret (v := .tuple #[.agg (tcs 0 noOwn), .int .i64 1]) (res_two Try.results28 _ _ (w.heap.size + 1) 24 (tcs 0 noOwn) _ _ rfl rfl HH.out Try.underlying24 rfl Try.infoT) rfl ⟨rfl, HB.out⟩

theorem two_made (w : World) (T Z : Array Value) : Whole ((w.alloc (.cells T 24)).alloc (.cells Z 24)) w.heap.size 24 T ∧ Whole ((w.alloc (.cells T 24)).alloc (.cells Z 24)) (w.heap.size + 1) 24 Z ∧ ((w.alloc (.cells T 24)).alloc (.cells Z 24)).heap.size = w.heap.size + 2 ∧ Below w.heap.size w ((w.alloc (.cells T 24)).alloc (.cells Z 24)) := by
  have hz : (w.alloc (.cells T 24)).heap.size = w.heap.size + 1 := by simp
  have h1 : Whole (w.alloc (.cells T 24)) w.heap.size 24 T := heap_alloc_new _ _
  refine ⟨h1.kept ((below_alloc _ _).block _ h1.lt), by rw [← hz]; exact heap_alloc_new _ _, by simp, (below_alloc _ _).trans ((below_alloc _ _).mono (by simp))⟩

set_option maxRecDepth 100000 in
set_option maxHeartbeats 8000000 in
theorem move_twice {T : Array Value} {e : Int} {o : List Int} (s : Nat) (to : Int) (w : World) (hT : TabC T e o) (h1 : s < 16) (h2 : 0 ≤ to) (h3 : to ≤ 7) (h4 : 0 ≤ e) (h5 : e ≤ 1125899906842623) (h6 : o.getD s 0 = to) :
    Calls Try.prog 28 #[.agg T, .int .i64 s, .int .i64 to] w fun x w' => x = .returned (.tuple #[.agg (tcs 0 noOwn), .int .i64 5]) ∧ Below w.heap.size w w' := by
  have c0 := hT.c0
  have cs := hT.cs s h1
  rw [h6] at cs
  obtain ⟨hA, hZ, hz, hB⟩ := two_made w T (tcs 0 noOwn)
  have d0 : ((w.alloc (.cells T 24)).alloc (.cells (tcs 0 noOwn) 24)).cell? ⟨w.heap.size, 0, none⟩ = some (.int .i64 e) := by rw [hA.cell]; exact c0
  have d1 : ((w.alloc (.cells T 24)).alloc (.cells (tcs 0 noOwn) 24)).cell? ⟨w.heap.size, 1 + s, none⟩ = some (.int .i64 to) := by rw [hA.cell]; exact cs
  have HZ := Lib.hid hZ
  have HB := Lib.hid hB
  rw [zero_tab] at d0 d1 HZ HB
  have HS := Lib.hid (show ∀ w0 : World, Whole w0 (w.heap.size + 1) 24 #[.int .i64 0, .int .i64 0, .int .i64 0, .int .i64 0, .int .i64 0, .int .i64 0, .int .i64 0, .int .i64 0, .int .i64 0, .int .i64 0, .int .i64 0, .int .i64 0, .int .i64 0, .int .i64 0, .int .i64 0, .int .i64 0, .int .i64 0] → Whole (w0.setRow (w.heap.size + 1) (tcs 0 noOwn)) (w.heap.size + 1) 24 (tcs 0 noOwn) from fun w0 h => setRow_heap _ _ _ _ _ _ h)
  clear hA hZ hB hz c0 cs hT h6
  go_enter Try.func28, Try.ntmps28
  go_wp2_with (first
    | (refine wpList_store_rowTo rfl 24 (.tmp 6) (.tmp 38) rfl rfl (w.heap.size + 1) (tcs 0 noOwn) rfl rfl 24 _ HZ.out (by kernel_rfl) rfl zero_one ?_))
  refine bodyPost_ret (v := .tuple #[.agg (tcs 0 noOwn), .int .i64 5]) (res_two Try.results28 _ _ (w.heap.size + 1) 24 (tcs 0 noOwn) _ _ rfl rfl (HS.out _ HZ.out) Try.underlying24 rfl Try.infoT) rfl ⟨rfl, below_setRow HB.out (Nat.le_succ _) _⟩

set_option maxRecDepth 100000 in
set_option maxHeartbeats 8000000 in
theorem move_good {T : Array Value} {e : Int} {o : List Int} (s : Nat) (to : Int) (w : World) (hT : TabC T e o) (h1 : s < 16) (h2 : 0 ≤ to) (h3 : to ≤ 7) (h4 : 0 ≤ e) (h5 : e ≤ 1125899906842623) (h6 : o.getD s 0 ≠ to) :
    Calls Try.prog 28 #[.agg T, .int .i64 s, .int .i64 to] w fun x w' => x = .returned (.tuple #[.agg (tcs (e + 1) (o.set s to)), .int .i64 0]) ∧ Below w.heap.size w w' := by
  have c0 := hT.c0
  have cs := hT.cs s h1
  obtain ⟨hA, hZ, hz, hB⟩ := two_made w T (tcs 0 noOwn)
  obtain ⟨W1, hW1⟩ : ∃ W1, W1 = (w.alloc (.cells T 24)).alloc (.cells (tcs 0 noOwn) 24) := ⟨_, rfl⟩
  rw [← hW1] at hA hZ hz hB
  have d0 : W1.cell? ⟨w.heap.size, 0, none⟩ = some (.int .i64 e) := by rw [hA.cell]; exact c0
  have d1 : W1.cell? ⟨w.heap.size, 1 + s, none⟩ = some (.int .i64 (o.getD s 0)) := by rw [hA.cell]; exact cs
  generalize hx : o.getD s 0 = x at *
  have HX := Lib.hid hx
  have HA := Lib.hid hA
  have HZ := Lib.hid hZ
  have HB := Lib.hid hB
  have HI := Lib.hid hT.info
  have HO := Lib.hid hT.one
  have HT := Lib.hid hT
  have HSZ := Lib.hid hT.size
  have hlen := Lib.hid hT.len
  have hW1' := hW1
  rw [zero_tab] at hW1'
  rw [hW1'] at d0 d1
  have HW1 := Lib.hid hW1'
  have HZS := Lib.hid hz
  clear hx hA hZ hB hT hW1 hW1' c0 cs hz
  go_enter Try.func28, Try.ntmps28
  go_wp2_with (first
    | (refine wpList_load_row rfl 24 (.tmp 3) rfl w.heap.size rfl 24 T (0, 0) _ (by rw [← HW1.out]; exact HA.out) Try.underlying24 rfl HI.out ?_
       rw [← HW1.out]; clear d0 d1)
    | (refine wpList_store_rowTo rfl 24 (.tmp 8) (.tmp 39) rfl rfl W1.heap.size T rfl rfl 24 _ (heap_alloc_new W1 _) HI.out (by rw [HSZ.out]; rfl) HO.out ?_
       rw [setRow_new]
       have hN : Whole (W1.alloc (.cells T 24)) W1.heap.size 24 T := heap_alloc_new _ _
       have hb := below_alloc W1 (.cells T 24)
       have HN := Lib.hid hN
       have HZ2 := Lib.hid (HZ.out.kept (hb.block _ HZ.out.lt))
       have HB2 := Lib.hid (HB.out.trans (hb.mono HB.out.size))
       have e0 : (W1.alloc (.cells T 24)).cell? ⟨W1.heap.size, 0, none⟩ = some (.int .i64 e) := by rw [hN.cell]; exact HT.out.c0
       have e1 : (W1.alloc (.cells T 24)).cell? ⟨W1.heap.size, 1 + s, none⟩ = some (.int .i64 (o.getD s 0)) := by rw [hN.cell]; exact HT.out.cs s h1
       have z0 := hN.free 0
       have z1 := hN.free (1 + s)
       have hsz : w.heap.size + 1 < W1.heap.size := by have := HZS.out; omega
       clear HZS
       clear hN hb
       generalize W1.alloc (.cells T 24) = W2 at *
       generalize W1.heap.size = g8 at *
       have HN4 := Lib.hid (show Whole ((W2.setCell ⟨g8, 0, none⟩ (.int .i64 (e + 1))).setCell ⟨g8, 1 + s, none⟩ (.int .i64 to)) g8 24 (tcs (e + 1) (o.set s to)) by
         have := (HN.out.store 0 (.int .i64 (e + 1))).store (1 + s) (.int .i64 to)
         rwa [HT.out.eq, tcs_set0, tcs_set] at this)
       have HZ4 := Lib.hid (show Whole ((W2.setCell ⟨g8, 0, none⟩ (.int .i64 (e + 1))).setCell ⟨g8, 1 + s, none⟩ (.int .i64 to)) (w.heap.size + 1) 24 (tcs 0 noOwn) from
         (HZ2.out.kept (Below.heap_setCell _ _ _ _ (by simp; omega))).kept (Below.heap_setCell _ _ _ _ (by simp; omega)))
       have HB4 := Lib.hid ((HB2.out.setCell (p := ⟨g8, 0, none⟩) (by simp; omega) (.int .i64 (e + 1))).setCell (p := ⟨g8, 1 + s, none⟩) (by simp; omega) (.int .i64 to))
       have HC := Lib.hid (TabC.mk' (e + 1) (o.set s to) (by rw [List.length_set]; exact hlen.out))
       have HI4 := Lib.hid HC.out.info
       have HO4 := Lib.hid HC.out.one
       have HS4 := Lib.hid (show (tcs 0 noOwn).size = (tcs (e + 1) (o.set s to)).size by rw [HC.out.size]; rfl)
       have HH := Lib.hid (show (((W2.setCell ⟨g8, 0, none⟩ (.int .i64 (e + 1))).setCell ⟨g8, 1 + s, none⟩ (.int .i64 to)).setRow (w.heap.size + 1) (tcs (e + 1) (o.set s to))).heap[w.heap.size + 1]? = some (.cells (tcs (e + 1) (o.set s to)) 24 (0, 0)) from setRow_heap _ _ _ _ _ _ HZ4.out)
       generalize hU : tcs (e + 1) (o.set s to) = U at HN4 HC HI4 HO4 HS4 HH
       have HU := Lib.hid hU
       clear hU HN HZ2 HB2)
    | (refine wpList_load_row rfl 24 (.tmp 8) rfl g8 rfl 24 U (0, 0) _ HN4.out Try.underlying24 rfl HI4.out ?_)
    | (refine wpList_store_rowTo rfl 24 (.tmp 6) (.tmp 48) rfl rfl (w.heap.size + 1) U rfl rfl 24 _ HZ4.out HI4.out HS4.out HO4.out ?_))
  refine bodyPost_ret (v := .tuple #[.agg U, .int .i64 0]) (res_two Try.results28 _ _ (w.heap.size + 1) 24 U _ _ rfl rfl HH.out Try.underlying24 rfl HI4.out) rfl ⟨by rw [HU.out], below_setRow HB4.out (Nat.le_succ _) _⟩

/-- Move, whatever the table. -/
theorem move_any {T : Array Value} {e : Int} {o : List Int} (slot to : Int) (w : World) (hT : TabC T e o) :
    Calls Try.prog 28 #[.agg T, .int .i64 slot, .int .i64 to] w fun x w' => x = .returned (.tuple #[.agg (tcs (Mt.move e o slot to).1 (Mt.move e o slot to).2.1), .int .i64 (Mt.move e o slot to).2.2]) ∧ Below w.heap.size w w' := by
  by_cases h : slot < 0 ∨ 15 < slot ∨ to < 0 ∨ 7 < to ∨ e < 0 ∨ 1125899906842623 < e
  · have hm : Mt.move e o slot to = (0, Mt.zeros, 1) := by unfold Mt.move; rw [if_pos h]
    rw [hm]
    exact move_range slot to w hT h
  · obtain ⟨s, rfl⟩ : ∃ s : Nat, slot = s := ⟨slot.toNat, by omega⟩
    by_cases h6 : o.getD s 0 = to
    · have hm : Mt.move e o s to = (0, Mt.zeros, 5) := by unfold Mt.move; rw [if_neg h, if_pos (by simpa using h6)]
      rw [hm]
      exact move_twice s to w hT (by omega) (by omega) (by omega) (by omega) (by omega) h6
    · have hm : Mt.move e o s to = (e + 1, o.set s to, 0) := by unfold Mt.move; rw [if_neg h, if_neg (by simpa using h6)]; simp
      rw [hm]
      exact move_good s to w hT (by omega) (by omega) (by omega) (by omega) (by omega) h6
theorem move_len {e : Int} {o : List Int} (slot to : Int) (h : o.length = 16) : (Mt.move e o slot to).2.1.length = 16 := by
  unfold Mt.move
  split
  · rfl
  · split
    · rfl
    · simpa using h
end Go.Proofs.Ytbmmgmdjhhnkfaa

namespace Go.Proofs.Ytbmmgmdjhhnkfaa
open Go.RowKit
theorem owns_alloc2V {w : World} {base n k : Nat} {e : TypeId} {v : Value} {l : List Value} (h : w.ownsRow base e k v n l) (o : Obj) : (w.alloc o).ownsRow base e k v n l := by
  refine ⟨h.1, ?_⟩
  rcases h.2 with h2 | ⟨g, cap, cur, rfl, h3, h4, r⟩
  · exact .inl h2
  · refine .inr ⟨g, cap, cur, rfl, h3, ?_, r⟩
    have hg : g < w.heap.size := by
      rcases Nat.lt_or_ge g w.heap.size with hl | hl
      · exact hl
      · rw [Array.getElem?_eq_none hl] at h4
        cases h4
    exact ((below_alloc w o).block _ hg).trans h4

theorem Try.infoI : (Try.prog.info? 3).map (fun i => (i.zero, i.size, i.bytes)) = some (some (.int .i64 0), 1, 8) := by kernel_rfl
/-- The owners' cells. -/
def acs (o : List Int) : Array Value := (o.map (Value.int .i64)).toArray
theorem acs_at (o : List Int) (s : Nat) (hs : s < o.length) : (acs o)[s]? = some (.int .i64 (o.getD s 0)) := by simp [acs, hs]
theorem acs_size (o : List Int) : (acs o).size = o.length := by simp [acs]
theorem range_owners {w : World} {g : Nat} {T : Array Value} {e : Int} {o : List Int} (h : Whole w g 24 T) (hT : TabC T e o) : w.rangeAt g 1 (acs o).toList := by
  intro j v hv
  have hj : j < o.length := by
    have := (List.getElem?_eq_some_iff.1 hv).1
    simpa [acs] using this
  rw [Array.getElem?_toList, acs_at o j hj] at hv
  injection hv with hv
  subst hv
  rw [h.cell]
  exact hT.cs j (by rw [← hT.len]; exact hj)
theorem index_run (cs : Array Value) (i : Nat) (x : Int) (hi : i < 16) (h : cs[i]? = some (.int .i64 x)) (w : World) : (Instr.index 22 (.agg cs) (.int .i64 (i : Int))).run Try.prog w = .ok (.int .i64 x) w := by
  have h1 : (sizeOf 3).run Try.prog w = .ok 1 w := by kernel_rfl
  have h2 : (part 3 cs i).run Try.prog w = .ok (.int .i64 x) w := by
    have ha : (isAgg 3).run Try.prog w = .ok false w := by kernel_rfl
    unfold part
    simp [Sem.run_bind, ha, h]
  simp [Instr.index, asIntOf, run_underlying Try.underlying22, h1, h2]
  intro h3
  omega
theorem owns_baseV {w : World} {B B' n k : Nat} {e : TypeId} {v : Value} {l : List Value} (h : w.ownsRow B e k v n l) (hb : B' ≤ B) : w.ownsRow B' e k v n l := by
  refine ⟨h.1, ?_⟩
  rcases h.2 with h2 | ⟨g, cap, cur, rfl, h3, h4, r⟩
  · exact .inl h2
  · exact .inr ⟨g, cap, cur, rfl, by omega, h4, r⟩
/-- A number put behind a row. -/
theorem row_oneV {w w0 : World} {base n : Nat} {v : Value} {xs : List Value} (hv : w.ownsRow base 3 1 v n xs) (hb : Below base w0 w) (x : Int) (hn : n ≤ 1048576) {ops : Array Oper} {rest : List Oper} {o : Oper} {a : Act} {Q : Exit → Act → World → Prop} (hgd : o.guard = none) (s y : Operand)
    (ho : o.op = .call { callee := .builtin .append, args := #[s, y], argTypes := #[40, 40] }) (hs : a.eval s = v) (hy : a.eval y = .slice (some ⟨w.heap.size, 0, none⟩) 1 1) (hB : base ≤ w.heap.size)
    (h : ∀ v' w', w'.ownsRow base 3 1 v' (n + 1) (xs ++ [.int .i64 x]) → Below base w0 w' → wpList Try.prog ops Q rest (a.put o.dst v') w') : wpList Try.prog ops Q (o :: rest) a (w.alloc (.cells #[.int .i64 x] 3)) := by
  obtain ⟨i0, hi0, hz0, hz1, hz2⟩ := info_of Try.infoI
  refine wpList_append_own_any _ hgd s y 40 ho base 3 i0 (.int .i64 0) 1 8 Try.underlying40 hi0 hz0 hz1 hz2 rfl (by decide) v n xs hs (owns_alloc2V hv _) (some ⟨w.heap.size, 0, none⟩) 1 1 [.int .i64 x] hy rfl (by intro e; cases e) (by intro ad e j u hu; cases e; rw [add_plain, Nat.zero_add, new_cell]; simpa using hu) (by simp [Value.oneCell']) (by unfold maxLen; omega) (by omega) (by simp; omega) ?_
  intro v' w' h1 h2
  exact h v' w' h1 ((hb.alloc hB _).grown h2 (by simp; omega) (fun q hq => (hv.lt q hq).1))
theorem Try.infoA : (Try.prog.info? 22).map (·.size) = some 16 := by kernel_rfl

set_option maxRecDepth 100000 in
set_option maxHeartbeats 8000000 in
theorem diff_any {T U : Array Value} {e f : Int} {a b : List Int} (w : World) (hT : TabC T e a) (hU : TabC U f b) :
    Calls Try.prog 27 #[.agg T, .agg U] w fun x w' => (∃ v, x = .returned v ∧ w'.ownsRow w.heap.size 3 1 v (Mt.ups (Mt.other a b) 16).length ((Mt.ups (Mt.other a b) 16).map (fun s : Nat => Value.int .i64 (s : Int)))) ∧ Below w.heap.size w w' := by
  obtain ⟨hA, hZ, hz, hB⟩ := two_made w T U
  obtain ⟨W1, hW1⟩ : ∃ W1, W1 = (w.alloc (.cells T 24)).alloc (.cells U 24) := ⟨_, rfl⟩
  have HR := Lib.hid (range_owners hA hT)
  rw [← hW1] at hA hZ hz hB
  have HW1 := Lib.hid hW1
  have HA := Lib.hid hA; have HZ := Lib.hid hZ; have HB := Lib.hid hB; have HT := Lib.hid hT; have HU := Lib.hid hU
  have HI := Lib.hid (show (Try.prog.info? 22).map (·.size) = some (acs a).toList.length by rw [Array.length_toList, acs_size, hT.len]; exact Try.infoA)
  clear hA hZ hB hT hU hW1
  go_enter Try.func27, Try.ntmps27
  have HO := Lib.hid (World.ownsRow_nil W1 W1.heap.size 3 1)
  have HZS := Lib.hid hz
  clear hz
  go_wp2_with (refine wpList_load_mid rfl 22 (.tmp 8) rfl w.heap.size 1 rfl (acs a).toList _ HR.out Try.underlying22 rfl HI.out ?_; rw [← HW1.out])
  go_loopw [5, 10] (fun v iv wr => (∃ i : Nat, i ≤ 16 ∧ iv = .int .i64 i ∧ wr.ownsRow W1.heap.size 3 1 v (Mt.ups (Mt.other a b) i).length ((Mt.ups (Mt.other a b) i).map (fun s : Nat => Value.int .i64 (s : Int)))) ∧ Below W1.heap.size W1 wr) (fun _ iv _ => 16 - (intOf iv).toNat)
  case atStart => exact ⟨⟨0, by omega, rfl, HO.out⟩, Below.refl _ _⟩
  case round =>
    obtain ⟨⟨i, hi, rfl, hv⟩, hb⟩ := hrel
    by_cases hlt : i < 16
    · have c1 : wr.cell? ⟨w.heap.size + 1, 1 + i, none⟩ = some (.int .i64 (b.getD i 0)) := by rw [(HZ.out.kept (hb.block _ HZ.out.lt)).cell]; exact HU.out.cs i hlt
      have c2 := acs_at a i (by rw [HT.out.len]; exact hlt)
      have hle := Mt.ups_len (Mt.other a b) i
      have HV := Lib.hid hv; have HBB := Lib.hid hb
      have hsz := hb.size
      clear hv hb
      by_cases hne : a.getD i 0 = b.getD i 0
      · have HN := Lib.hid (Mt.ups_no (f := Mt.other a b) (n := i) (by unfold Mt.other; simpa using hne))
        rw [hne] at c2
        have c3 := index_run _ i _ hlt c2
        generalize b.getD i 0 = x at *
        clear hne c2
        go_wp2
        go_roundw
        case rel => exact ⟨⟨i + 1, by omega, by go_num, by rw [HN.out]; exact HV.out⟩, HBB.out⟩
        case measure => simp [intOf]; omega
      · have HN := Lib.hid (Mt.ups_yes (f := Mt.other a b) (n := i) (by unfold Mt.other; simpa using hne))
        have c3 := index_run _ i _ hlt c2
        generalize b.getD i 0 = x at *
        generalize a.getD i 0 = y at *
        clear c2
        go_wp2_with (at_builtin; (refine row_oneV HV.out HBB.out (i : Int) (by omega) rfl (.tmp 20) (.tmp 22) rfl rfl rfl hsz ?_); intro v2 w2 ho2 hb2
                     have HO2 := Lib.hid ho2; have HB2 := Lib.hid hb2; clear ho2 hb2)
        go_roundw
        case rel => exact ⟨⟨i + 1, by omega, by go_num, by rw [HN.out]; simpa using HO2.out⟩, HB2.out⟩
        case measure => simp [intOf]; omega
    · obtain rfl : i = 16 := by omega
      have HV := Lib.hid hv; have HBB := Lib.hid hb
      clear hv hb
      go_wp2
      go_ret
      exact ⟨⟨_, rfl, owns_baseV HV.out HB.out.size⟩, HB.out.trans (HBB.out.mono HB.out.size)⟩


def Mt.bad (n x : Int) : Bool := decide (x < 0) || decide (n ≤ x)
def Mt.check (e : Int) (o : List Int) (n : Int) : Int := if e < 0 ∨ o.any (Mt.bad n) = true then 1 else 0
theorem Mt.bad_take {n : Int} {o : List Int} {i : Nat} (h : (o.take i).any (Mt.bad n) = false) (hi : i < o.length) (hb : Mt.bad n (o.getD i 0) = false) : (o.take (i + 1)).any (Mt.bad n) = false := by
  rw [List.take_succ_eq_append_getElem hi, List.any_append, h]
  have : o.getD i 0 = o[i] := by simp [List.getD, hi]
  rw [this] at hb
  simp [hb]
theorem Mt.bad_at {n : Int} {o : List Int} {i : Nat} (hi : i < o.length) (hb : Mt.bad n (o.getD i 0) = true) : o.any (Mt.bad n) = true := by
  have : o.getD i 0 = o[i] := by simp [List.getD, hi]
  rw [this] at hb
  exact List.any_eq_true.2 ⟨_, List.getElem_mem hi, hb⟩

set_option maxRecDepth 100000 in
set_option maxHeartbeats 8000000 in
theorem check_any {T : Array Value} {e : Int} {a : List Int} (n : Int) (w : World) (hT : TabC T e a) :
    Calls Try.prog 42 #[.agg T, .int .i64 n] w fun r w' => r = .returned (.int .i64 (Mt.check e a n)) ∧ Below w.heap.size w w' := by
  obtain ⟨W1, hW1⟩ : ∃ W1, W1 = w.alloc (.cells T 24) := ⟨_, rfl⟩
  have hA : Whole W1 w.heap.size 24 T := by rw [hW1]; exact heap_alloc_new _ _
  have HR := Lib.hid (range_owners hA hT)
  have HB := Lib.hid (show Below w.heap.size w W1 by rw [hW1]; exact below_alloc _ _)
  rw [hW1] at HR
  have HW1 := Lib.hid hW1
  have c0 := hT.c0
  have HT := Lib.hid hT
  have HI := Lib.hid (show (Try.prog.info? 22).map (·.size) = some (acs a).toList.length by rw [Array.length_toList, acs_size, hT.len]; exact Try.infoA)
  have HL := Lib.hid hT.len
  clear hA hT hW1
  by_cases he : e < 0
  · have HC := Lib.hid (show Mt.check e a n = 1 by unfold Mt.check; rw [if_pos (.inl he)])
    go_enter Try.func42, Try.ntmps42
    go_wp2
    go_ret
    exact ⟨by rw [HC.out]; rfl, by rw [← HW1.out]; exact HB.out⟩
  · go_enter Try.func42, Try.ntmps42
    go_wp2_with (refine wpList_load_mid rfl 22 (.tmp 10) rfl w.heap.size 1 rfl (acs a).toList _ HR.out Try.underlying22 rfl HI.out ?_; rw [← HW1.out])
    go_loop [12] (fun iv => ∃ i : Nat, i ≤ 16 ∧ iv = .int .i64 i ∧ (a.take i).any (Mt.bad n) = false) (fun iv => 16 - (intOf iv).toNat)
    case atStart => exact ⟨0, by omega, rfl, by simp⟩
    case round =>
      obtain ⟨i, hi, rfl, hn⟩ := hrel
      by_cases hlt : i < 16
      · have c2 := acs_at a i (by rw [HL.out]; exact hlt)
        have c3 := index_run _ i _ hlt c2
        by_cases hb : Mt.bad n (a.getD i 0) = true
        · have HC := Lib.hid (show Mt.check e a n = 1 by unfold Mt.check; rw [if_pos (.inr (Mt.bad_at (by rw [HL.out]; exact hlt) hb))])
          have hb2 : a.getD i 0 < 0 ∨ 0 ≤ a.getD i 0 ∧ n ≤ a.getD i 0 := by
            unfold Mt.bad at hb
            simp only [Bool.or_eq_true, decide_eq_true_eq] at hb
            omega
          generalize a.getD i 0 = x at *
          clear hb hn c2
          rcases hb2 with h1 | ⟨h1, h2⟩
          all_goals
            go_wp2
            go_ret
            exact ⟨by rw [HC.out]; rfl, HB.out⟩
        · have hbf : Mt.bad n (a.getD i 0) = false := by simpa using hb
          have HN := Lib.hid (Mt.bad_take hn (by rw [HL.out]; exact hlt) hbf)
          have hb2 : 0 ≤ a.getD i 0 ∧ a.getD i 0 < n := by
            unfold Mt.bad at hbf
            simp only [Bool.or_eq_false_iff, decide_eq_false_iff_not] at hbf
            omega
          obtain ⟨h1, h2⟩ := hb2
          generalize a.getD i 0 = x at *
          clear hb hbf hn c2
          go_wp2
          go_round
          case rel => exact ⟨i + 1, by omega, by go_num, HN.out⟩
          case measure => simp [intOf]; omega
      · obtain rfl : i = 16 := by omega
        rw [List.take_of_length_le (by rw [HL.out]; exact Nat.le_refl _)] at hn
        have HC := Lib.hid (show Mt.check e a n = 0 by unfold Mt.check; rw [if_neg (by rw [hn]; simp; omega)])
        clear hn
        go_wp2
        go_ret
        exact ⟨by rw [HC.out]; rfl, HB.out⟩

end Go.Proofs.Ytbmmgmdjhhnkfaa
