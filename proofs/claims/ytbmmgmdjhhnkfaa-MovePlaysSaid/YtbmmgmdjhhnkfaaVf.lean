/- MovePlays: the document's table: Check, Move. A controller of moves that is opened, over any first table. MovePlays: the document's disk. MovePlays: the document's Add. -/
import Derived.Test.YtbmmgmdjhhnkfaaVa
import Derived.Test.YtbmmgmdjhhnkfaaVd
import Derived.Test.YtbmmgmdjhhnkfaaL7
import Derived.Test.YtbmmgmdjhhnkfaaRa
import Derived.Test.YtbmmgmdjhhnkfaaRb
import Derived.Test.YtbmmgmdjhhnkfaaVb
namespace Go.Proofs.Ytbmmgmdjhhnkfaa
open Go.RowKit

theorem Try.infoRT : (Try.prog.info? 36).map (·.size) = some 17 := by kernel_rfl
theorem setRow_newR (w : World) (c c' : Array Value) (t : TypeId) : (w.alloc (.cells c t)).setRow w.heap.size c' = w.alloc (.cells c' t) := Go.World.setRow_alloc_new w c c' t
set_option maxRecDepth 100000 in
set_option maxHeartbeats 8000000 in
theorem rcheck_any {T : Array Value} {e : Int} {a : List Int} (n : Int) (w : World) (hT : TabC T e a) :
    Calls Try.prog 10 #[.agg T, .int .i64 n] w fun r w' => r = .returned (.int .i64 (Mt.check e a n)) ∧ Below w.heap.size w w' := by
  obtain ⟨W1, hW1⟩ : ∃ W1, W1 = w.alloc (.cells T 36) := ⟨_, rfl⟩
  have hA : Whole W1 w.heap.size 36 T := by rw [hW1]; exact heap_alloc_new _ _
  have HB := Lib.hid (show Below w.heap.size w W1 by rw [hW1]; exact below_alloc _ _)
  have c0 : W1.cell? ⟨w.heap.size, 0, none⟩ = some (.int .i64 e) := by rw [hA.cell]; exact hT.c0
  have HS := Lib.hid (show ∀ i, i < 16 → W1.cell? ⟨w.heap.size, 1 + i, none⟩ = some (.int .i64 (a.getD i 0)) from fun i hi => by rw [hA.cell]; exact hT.cs i hi)
  have HL := Lib.hid hT.len
  have HW1 := Lib.hid hW1
  clear hA hT hW1
  go_enter Try.func10, Try.ntmps10
  go_wp2
  rw [← HW1.out]
  go_loop [5] (fun iv => ∃ i : Nat, i ≤ 16 ∧ iv = .int .i64 i ∧ (a.take i).any (Mt.bad n) = false) (fun iv => 16 - (intOf iv).toNat)
  case atStart => exact ⟨0, by omega, rfl, by simp⟩
  case round =>
    obtain ⟨i, hi, rfl, hn⟩ := hrel
    by_cases hlt : i < 16
    · have c2 := HS.out i hlt
      by_cases hb : Mt.bad n (a.getD i 0) = true
      · have HC := Lib.hid (show Mt.check e a n = 1 by unfold Mt.check; rw [if_pos (.inr (Mt.bad_at (by rw [HL.out]; exact hlt) hb))])
        have hb2 : a.getD i 0 < 0 ∨ 0 ≤ a.getD i 0 ∧ n ≤ a.getD i 0 := by
          unfold Mt.bad at hb
          simp only [Bool.or_eq_true, decide_eq_true_eq] at hb
          omega
        generalize a.getD i 0 = x at *
        clear hb hn
        rcases hb2 with h1 | ⟨h1, h2⟩
        all_goals
          go_wp2
          go_ret
          exact ⟨by rw [HC.out]; rfl, HB.out⟩
      · have hbf : Mt.bad n (a.getD i 0) = false := by simpa using hb
        have HN := Lib.hid (Mt.bad_take hn (by rw [HL.out]; exact hlt) hbf)
        have hb2 : 0 ≤ a.getD i 0 ∧ a.getD i 0 < n := by
          unfold Mt.bad at hbf
          simp only [Bool.or_eq_false_iff, decide_eq_false_iff_not] at hbf
          omega
        obtain ⟨h1, h2⟩ := hb2
        generalize a.getD i 0 = x at *
        clear hb hbf hn
        go_wp2
        go_round
        case rel => exact ⟨i + 1, by omega, by go_num, HN.out⟩
        case measure => simp [intOf]; omega
    · obtain rfl : i = 16 := by omega
      rw [List.take_of_length_le (by rw [HL.out]; exact Nat.le_refl _)] at hn
      by_cases he : e < 0
      · have HC := Lib.hid (show Mt.check e a n = 1 by unfold Mt.check; rw [if_pos (.inl he)])
        clear hn
        go_wp2
        go_ret
        exact ⟨by rw [HC.out]; rfl, HB.out⟩
      · have HC := Lib.hid (show Mt.check e a n = 0 by unfold Mt.check; rw [if_neg (by rw [hn]; simp; omega)])
        clear hn
        go_wp2
        go_ret
        exact ⟨by rw [HC.out]; rfl, HB.out⟩


/-- At the operation that writes this slot. -/
theorem wpList_at {P : Program} {ops : Array Oper} {rest : List Oper} {o : Oper} {a : Act} {w : World} {Q : Exit → Act → World → Prop} (d : Option Tmp) (_ : o.dst = d) (h : wpList P ops Q (o :: rest) a w) : wpList P ops Q (o :: rest) a w := h
set_option maxRecDepth 100000 in
set_option maxHeartbeats 8000000 in
theorem rmove_range {T : Array Value} {e : Int} {o : List Int} (slot tw : Int) (w : World) (hT : TabC T e o) (h : slot < 0 ∨ 15 < slot ∨ tw < 0 ∨ 7 < tw ∨ e < 0 ∨ 1125899906842623 < e) :
    Calls Try.prog 32 #[.agg T, .int .i64 slot, .int .i64 tw] w fun x w' => x = .returned (.tuple #[.agg (tcs 0 noOwn), .int .i64 1]) ∧ Below w.heap.size w w' := by
  have h0 : slot < 0 ∨ (0 ≤ slot ∧ 16 ≤ slot) ∨ (0 ≤ slot ∧ slot ≤ 15 ∧ tw < 0) ∨ (0 ≤ slot ∧ slot ≤ 15 ∧ 0 ≤ tw ∧ 8 ≤ tw) ∨ (0 ≤ slot ∧ slot ≤ 15 ∧ 0 ≤ tw ∧ tw ≤ 7 ∧ e < 0) ∨ (0 ≤ slot ∧ slot ≤ 15 ∧ 0 ≤ tw ∧ tw ≤ 7 ∧ 0 ≤ e ∧ 1125899906842624 ≤ e) := by omega
  clear h
  have c0 := hT.c0
  have hz : (w.alloc (.cells T 36)).heap.size = w.heap.size + 1 := by simp
  have HH := Lib.hid (show ((w.alloc (.cells T 36)).alloc (.cells (tcs 0 noOwn) 36)).heap[w.heap.size + 1]? = some (.cells (tcs 0 noOwn) 36 (0, 0)) by rw [← hz]; exact heap_alloc_new _ _)
  have HH2 := HH
  rw [zero_tab] at HH2
  have HB := Lib.hid (show Below w.heap.size w ((w.alloc (.cells T 36)).alloc (.cells (tcs 0 noOwn) 36)) from (below_alloc _ _).trans ((below_alloc _ _).mono (by simp)))
  clear hT
  have hset : ∀ Z : Array Value, ((w.alloc (.cells T 36)).alloc (.cells Z 36)).setRow (w.heap.size + 1) (tcs 0 noOwn) = (w.alloc (.cells T 36)).alloc (.cells (tcs 0 noOwn) 36) := by
    intro Z
    rw [← hz]
    exact setRow_newR _ _ _ _
  have HS := Lib.hid hset
  clear hset hz
  rcases h0 with h1 | ⟨h1, h2⟩ | ⟨h1, h2, h3⟩ | ⟨h1, h2, h3, h4⟩ | ⟨h1, h2, h3, h4, h5⟩ | ⟨h1, h2, h3, h4, h5, h6⟩
  all_goals
    go_enter Try.func32, Try.ntmps32
    go_wp2_with (refine wpList_store_rowTo rfl 36 (.tmp 6) (.tmp 32) rfl rfl (w.heap.size + 1) (tcs 0 noOwn) rfl rfl 36 _ HH2.out (by kernel_rfl) rfl zero_one ?_; rw [HS.out])
    refine bodyPost_ret (v := .tuple #[.agg (tcs 0 noOwn), .int .i64 1]) (res_two Try.results32 _ _ (w.heap.size + 1) 36 (tcs 0 noOwn) _ _ rfl rfl HH.out Try.underlying36 rfl Try.infoRT) rfl ⟨rfl, HB.out⟩

theorem two_madeR (w : World) (T Z : Array Value) : Whole ((w.alloc (.cells T 36)).alloc (.cells Z 36)) w.heap.size 36 T ∧ Whole ((w.alloc (.cells T 36)).alloc (.cells Z 36)) (w.heap.size + 1) 36 Z ∧ ((w.alloc (.cells T 36)).alloc (.cells Z 36)).heap.size = w.heap.size + 2 ∧ Below w.heap.size w ((w.alloc (.cells T 36)).alloc (.cells Z 36)) := by
  have hz : (w.alloc (.cells T 36)).heap.size = w.heap.size + 1 := by simp
  have h1 : Whole (w.alloc (.cells T 36)) w.heap.size 36 T := heap_alloc_new _ _
  refine ⟨h1.kept ((below_alloc _ _).block _ h1.lt), by rw [← hz]; exact heap_alloc_new _ _, by simp, (below_alloc _ _).trans ((below_alloc _ _).mono (by simp))⟩

set_option maxRecDepth 100000 in
set_option maxHeartbeats 8000000 in
theorem rmove_twice {T : Array Value} {e : Int} {o : List Int} (s : Nat) (tw : Int) (w : World) (hT : TabC T e o) (h1 : s < 16) (h2 : 0 ≤ tw) (h3 : tw ≤ 7) (h4 : 0 ≤ e) (h5 : e ≤ 1125899906842623) (h6 : o.getD s 0 = tw) :
    Calls Try.prog 32 #[.agg T, .int .i64 s, .int .i64 tw] w fun x w' => x = .returned (.tuple #[.agg (tcs 0 noOwn), .int .i64 5]) ∧ Below w.heap.size w w' := by
  have c0 := hT.c0
  have cs := hT.cs s h1
  rw [h6] at cs
  obtain ⟨hA, hZ, hz, hB⟩ := two_madeR w T (tcs 0 noOwn)
  have d0 : ((w.alloc (.cells T 36)).alloc (.cells (tcs 0 noOwn) 36)).cell? ⟨w.heap.size, 0, none⟩ = some (.int .i64 e) := by rw [hA.cell]; exact c0
  have d1 : ((w.alloc (.cells T 36)).alloc (.cells (tcs 0 noOwn) 36)).cell? ⟨w.heap.size, 1 + s, none⟩ = some (.int .i64 tw) := by rw [hA.cell]; exact cs
  have HZ := Lib.hid hZ
  have HB := Lib.hid hB
  rw [zero_tab] at d0 d1 HZ HB
  have HS := Lib.hid (show ∀ w0 : World, Whole w0 (w.heap.size + 1) 36 #[.int .i64 0, .int .i64 0, .int .i64 0, .int .i64 0, .int .i64 0, .int .i64 0, .int .i64 0, .int .i64 0, .int .i64 0, .int .i64 0, .int .i64 0, .int .i64 0, .int .i64 0, .int .i64 0, .int .i64 0, .int .i64 0, .int .i64 0] → Whole (w0.setRow (w.heap.size + 1) (tcs 0 noOwn)) (w.heap.size + 1) 36 (tcs 0 noOwn) from fun w0 h => setRow_heap _ _ _ _ _ _ h)
  clear hA hZ hB hz c0 cs hT h6
  go_enter Try.func32, Try.ntmps32
  go_wp2_with (first
    | (refine wpList_store_rowTo rfl 36 (.tmp 6) (.tmp 39) rfl rfl (w.heap.size + 1) (tcs 0 noOwn) rfl rfl 36 _ HZ.out (by kernel_rfl) rfl zero_one ?_))
  refine bodyPost_ret (v := .tuple #[.agg (tcs 0 noOwn), .int .i64 5]) (res_two Try.results32 _ _ (w.heap.size + 1) 36 (tcs 0 noOwn) _ _ rfl rfl (HS.out _ HZ.out) Try.underlying36 rfl Try.infoRT) rfl ⟨rfl, below_setRow HB.out (Nat.le_succ _) _⟩
set_option maxRecDepth 100000 in
set_option maxHeartbeats 8000000 in
theorem rmove_good {T : Array Value} {e : Int} {o : List Int} (s : Nat) (tw : Int) (w : World) (hT : TabC T e o) (h1 : s < 16) (h2 : 0 ≤ tw) (h3 : tw ≤ 7) (h4 : 0 ≤ e) (h5 : e ≤ 1125899906842623) (h6 : o.getD s 0 ≠ tw) :
    Calls Try.prog 32 #[.agg T, .int .i64 s, .int .i64 tw] w fun x w' => x = .returned (.tuple #[.agg (tcs (e + 1) (o.set s tw)), .int .i64 0]) ∧ Below w.heap.size w w' := by
  obtain ⟨hA, hZ, hz, hB⟩ := two_madeR w T (tcs 0 noOwn)
  obtain ⟨W1, hW1⟩ : ∃ W1, W1 = (w.alloc (.cells T 36)).alloc (.cells (tcs 0 noOwn) 36) := ⟨_, rfl⟩
  rw [← hW1] at hA hZ hz hB
  have d0 : W1.cell? ⟨w.heap.size, 0, none⟩ = some (.int .i64 e) := by rw [hA.cell]; exact hT.c0
  have d1 : W1.cell? ⟨w.heap.size, 1 + s, none⟩ = some (.int .i64 (o.getD s 0)) := by rw [hA.cell]; exact hT.cs s h1
  have z0 := hA.free 0
  have z1 := hA.free (1 + s)
  have HN4 := Lib.hid (show Whole ((W1.setCell ⟨w.heap.size, 0, none⟩ (.int .i64 (e + 1))).setCell ⟨w.heap.size, 1 + s, none⟩ (.int .i64 tw)) w.heap.size 36 (tcs (e + 1) (o.set s tw)) by
    have := (hA.store 0 (.int .i64 (e + 1))).store (1 + s) (.int .i64 tw)
    rwa [hT.eq, tcs_set0, tcs_set] at this)
  have HZ4 := Lib.hid (show Whole ((W1.setCell ⟨w.heap.size, 0, none⟩ (.int .i64 (e + 1))).setCell ⟨w.heap.size, 1 + s, none⟩ (.int .i64 tw)) (w.heap.size + 1) 36 (tcs 0 noOwn) from
    (hZ.kept (Below.heap_setCell _ _ _ _ (by simp))).kept (Below.heap_setCell _ _ _ _ (by simp)))
  have HB4 := Lib.hid ((hB.setCell (p := ⟨w.heap.size, 0, none⟩) (Nat.le_refl _) (.int .i64 (e + 1))).setCell (p := ⟨w.heap.size, 1 + s, none⟩) (Nat.le_refl _) (.int .i64 tw))
  have HC := TabC.mk' (e + 1) (o.set s tw) (by rw [List.length_set]; exact hT.len)
  have HI4 := Lib.hid (show (Try.prog.info? 36).map (·.size) = some (tcs (e + 1) (o.set s tw)).size by rw [HC.size]; exact Try.infoRT)
  have HO4 := Lib.hid HC.one
  have HS4 := Lib.hid (show (tcs 0 noOwn).size = (tcs (e + 1) (o.set s tw)).size by rw [HC.size]; rfl)
  have HH := Lib.hid (show (((W1.setCell ⟨w.heap.size, 0, none⟩ (.int .i64 (e + 1))).setCell ⟨w.heap.size, 1 + s, none⟩ (.int .i64 tw)).setRow (w.heap.size + 1) (tcs (e + 1) (o.set s tw))).heap[w.heap.size + 1]? = some (.cells (tcs (e + 1) (o.set s tw)) 36 (0, 0)) from setRow_heap _ _ _ _ _ _ HZ4.out)
  clear HC
  generalize tcs (e + 1) (o.set s tw) = U at *
  generalize hx : o.getD s 0 = x at *
  have D0 := Lib.hid d0; have D1 := Lib.hid d1; have Z0 := Lib.hid z0; have Z1 := Lib.hid z1
  have hW1' := hW1
  rw [zero_tab] at hW1'
  rw [hW1'] at d0 d1
  have HW1 := Lib.hid hW1'
  clear hx hA hZ hB hT hW1 hW1' hz z0 z1
  go_enter Try.func32, Try.ntmps32
  go_wp2_with (first
    | (refine wpList_at (some 40) rfl ?_; rw [← HW1.out]; clear d0 d1; have d0 := D0.out; have d1 := D1.out; have z0 := Z0.out; have z1 := Z1.out)
    | (refine wpList_load_row rfl 36 (.tmp 3) rfl w.heap.size rfl 36 U (0, 0) _ HN4.out Try.underlying36 rfl HI4.out ?_)
    | (refine wpList_store_rowTo rfl 36 (.tmp 6) (.tmp 48) rfl rfl (w.heap.size + 1) U rfl rfl 36 _ HZ4.out HI4.out HS4.out HO4.out ?_))
  refine bodyPost_ret (v := .tuple #[.agg U, .int .i64 0]) (res_two Try.results32 _ _ (w.heap.size + 1) 36 U _ _ rfl rfl HH.out Try.underlying36 rfl HI4.out) rfl ⟨rfl, below_setRow HB4.out (Nat.le_succ _) _⟩
/-- Move, whatever the table. -/
theorem rmove_any {T : Array Value} {e : Int} {o : List Int} (slot tw : Int) (w : World) (hT : TabC T e o) :
    Calls Try.prog 32 #[.agg T, .int .i64 slot, .int .i64 tw] w fun x w' => x = .returned (.tuple #[.agg (tcs (Mt.move e o slot tw).1 (Mt.move e o slot tw).2.1), .int .i64 (Mt.move e o slot tw).2.2]) ∧ Below w.heap.size w w' := by
  by_cases h : slot < 0 ∨ 15 < slot ∨ tw < 0 ∨ 7 < tw ∨ e < 0 ∨ 1125899906842623 < e
  · have hm : Mt.move e o slot tw = (0, Mt.zeros, 1) := by unfold Mt.move; rw [if_pos h]
    rw [hm]
    exact rmove_range slot tw w hT h
  · obtain ⟨s, rfl⟩ : ∃ s : Nat, slot = s := ⟨slot.toNat, by omega⟩
    by_cases h6 : o.getD s 0 = tw
    · have hm : Mt.move e o s tw = (0, Mt.zeros, 5) := by unfold Mt.move; rw [if_neg h, if_pos (by simpa using h6)]
      rw [hm]
      exact rmove_twice s tw w hT (by omega) (by omega) (by omega) (by omega) (by omega) h6
    · have hm : Mt.move e o s tw = (e + 1, o.set s tw, 0) := by unfold Mt.move; rw [if_neg h, if_neg (by simpa using h6)]; simp
      rw [hm]
      exact rmove_good s tw w hT (by omega) (by omega) (by omega) (by omega) (by omega) h6
end Go.Proofs.Ytbmmgmdjhhnkfaa

namespace Go.Proofs.Ytbmmgmdjhhnkfaa
open Go.RowKit

theorem list16 {o : List Int} (h : o.length = 16) : ∃ x0 x1 x2 x3 x4 x5 x6 x7 x8 x9 x10 x11 x12 x13 x14 x15, o = [x0, x1, x2, x3, x4, x5, x6, x7, x8, x9, x10, x11, x12, x13, x14, x15] := by
  match o, h with
  | [x0, x1, x2, x3, x4, x5, x6, x7, x8, x9, x10, x11, x12, x13, x14, x15], _ => exact ⟨x0, x1, x2, x3, x4, x5, x6, x7, x8, x9, x10, x11, x12, x13, x14, x15, rfl⟩
section
variable {w w' : World} {B gm gl g r : Nat} {v : Value} {M : Mv} {ms : List MsgD}
set_option maxRecDepth 100000 in
set_option maxHeartbeats 16000000 in
theorem mopen_tab (w : World) (hl : Ls w B gl g v ms (cat ms).length r) (hf : ∀ m ∈ ms, m.fine) (hB : B ≤ w.heap.size) (a : Option Addr) (n cp : Nat) (hx : MsgsIn w a n ms) (e : Int) (o : List Int) (ho : o.length = 16) (hok : Mt.check e o 8 = 0) :
    Calls Try.prog 30 #[.pointer (some ⟨gl, 0, none⟩), .agg (tcs e o), .slice a n cp] w (OpnR w B gl g v e o ms r) := by
  obtain ⟨x0, x1, x2, x3, x4, x5, x6, x7, x8, x9, x10, x11, x12, x13, x14, x15, rfl⟩ := list16 ho
  have HX := Lib.hid hx
  have HN := Lib.hid (show n = ms.length from hx.1.symm)
  have HSM := Lib.hid (show ms.length ≤ 52428 by have := Ls.small hl; omega)
  have HID := Lib.hid (rep_id e [x0, x1, x2, x3, x4, x5, x6, x7, x8, x9, x10, x11, x12, x13, x14, x15] hf)
  have HLG := Lib.hid hl
  have HFI := Lib.hid hf
  have HBB := Lib.hid hB
  clear hx hl hf hB
  obtain ⟨W1, hW1, hw1, hb1⟩ := box_new w 24 (tcs e [x0, x1, x2, x3, x4, x5, x6, x7, x8, x9, x10, x11, x12, x13, x14, x15])
  have HR1 := Lib.hid (show W1.rangeAt w.heap.size 0 [Value.int .i64 e, Value.int .i64 x0, Value.int .i64 x1, Value.int .i64 x2, Value.int .i64 x3, Value.int .i64 x4, Value.int .i64 x5, Value.int .i64 x6, Value.int .i64 x7, Value.int .i64 x8, Value.int .i64 x9, Value.int .i64 x10, Value.int .i64 x11, Value.int .i64 x12, Value.int .i64 x13, Value.int .i64 x14, Value.int .i64 x15] from whole_all_range hw1)
  have HI := Lib.hid (show (Try.prog.info? 24).map (·.size) = some ([Value.int .i64 e, Value.int .i64 x0, Value.int .i64 x1, Value.int .i64 x2, Value.int .i64 x3, Value.int .i64 x4, Value.int .i64 x5, Value.int .i64 x6, Value.int .i64 x7, Value.int .i64 x8, Value.int .i64 x9, Value.int .i64 x10, Value.int .i64 x11, Value.int .i64 x12, Value.int .i64 x13, Value.int .i64 x14, Value.int .i64 x15] : List Value).length from Try.infoT)
  have hck := check_any 8 W1 (TabC.mk' e [x0, x1, x2, x3, x4, x5, x6, x7, x8, x9, x10, x11, x12, x13, x14, x15] rfl)
  rw [hok] at hck
  have HCK := Lib.hid hck
  have HB1 := Lib.hid hb1
  have HW1 := Lib.hid hw1
  have htl : tcs e [x0, x1, x2, x3, x4, x5, x6, x7, x8, x9, x10, x11, x12, x13, x14, x15] = #[.int .i64 e, .int .i64 x0, .int .i64 x1, .int .i64 x2, .int .i64 x3, .int .i64 x4, .int .i64 x5, .int .i64 x6, .int .i64 x7, .int .i64 x8, .int .i64 x9, .int .i64 x10, .int .i64 x11, .int .i64 x12, .int .i64 x13, .int .i64 x14, .int .i64 x15] := rfl
  rw [htl] at hW1 HCK
  rw [htl]
  clear htl
  clear hw1 hb1 hck
  go_enter Try.func30, Try.ntmps30
  go_upto_region 1 with fail
  rw [← hW1]
  clear hW1
  go_wp2_with (refine wpList_load_mid rfl 24 (.tmp 4) rfl w.heap.size 0 rfl [Value.int .i64 e, Value.int .i64 x0, Value.int .i64 x1, Value.int .i64 x2, Value.int .i64 x3, Value.int .i64 x4, Value.int .i64 x5, Value.int .i64 x6, Value.int .i64 x7, Value.int .i64 x8, Value.int .i64 x9, Value.int .i64 x10, Value.int .i64 x11, Value.int .i64 x12, Value.int .i64 x13, Value.int .i64 x14, Value.int .i64 x15] _ HR1.out Try.underlying24 rfl HI.out ?_)
  refine HCK.out.mono ?_
  rintro ee w2 ⟨rfl, hb2⟩
  have HR2 := Lib.hid (show w2.rangeAt w.heap.size 0 [Value.int .i64 e, Value.int .i64 x0, Value.int .i64 x1, Value.int .i64 x2, Value.int .i64 x3, Value.int .i64 x4, Value.int .i64 x5, Value.int .i64 x6, Value.int .i64 x7, Value.int .i64 x8, Value.int .i64 x9, Value.int .i64 x10, Value.int .i64 x11, Value.int .i64 x12, Value.int .i64 x13, Value.int .i64 x14, Value.int .i64 x15] from whole_all_range (HW1.out.kept (hb2.block _ HW1.out.lt)))
  have HB2 := Lib.hid (bell_up HB1.out hb2)
  have HLT := Lib.hid (show w.heap.size < w2.heap.size from Nat.lt_of_lt_of_le HW1.out.lt hb2.size)
  clear hb2 HCK HR1
  go_upto_region 4 with (refine wpList_load_mid rfl 24 (.tmp 4) rfl w.heap.size 0 rfl [Value.int .i64 e, Value.int .i64 x0, Value.int .i64 x1, Value.int .i64 x2, Value.int .i64 x3, Value.int .i64 x4, Value.int .i64 x5, Value.int .i64 x6, Value.int .i64 x7, Value.int .i64 x8, Value.int .i64 x9, Value.int .i64 x10, Value.int .i64 x11, Value.int .i64 x12, Value.int .i64 x13, Value.int .i64 x14, Value.int .i64 x15] _ HR2.out Try.underlying24 rfl HI.out ?_)
  obtain ⟨W0, hW0⟩ : ∃ W0, W0 = w2.alloc (.cells #[.pointer (some ⟨gl, 0, none⟩), .int .i64 e, .int .i64 x0, .int .i64 x1, .int .i64 x2, .int .i64 x3, .int .i64 x4, .int .i64 x5, .int .i64 x6, .int .i64 x7, .int .i64 x8, .int .i64 x9, .int .i64 x10, .int .i64 x11, .int .i64 x12, .int .i64 x13, .int .i64 x14, .int .i64 x15, .int .i64 0, .int .i64 0, .int .i64 0, .int .i64 0, .int .i64 0, .int .i64 0, .int .i64 0, .int .i64 0, .int .i64 0, .bool false, .slice none 0 0, .slice none 0 0, .slice none 0 0, .slice none 0 0, .int .i64 0, .int .i64 0, .int .i64 0, .int .i64 0, .int .i64 0, .int .i64 0, .int .i64 0, .int .i64 0, .int .i64 0, .int .i64 0, .int .i64 0, .int .i64 0, .int .i64 0, .int .i64 0, .int .i64 0, .int .i64 0, .int .i64 0] 89) := ⟨_, rfl⟩
  have HS0 := Lib.hid (show StO w W0 w2.heap.size gl (mv0 e [x0, x1, x2, x3, x4, x5, x6, x7, x8, x9, x10, x11, x12, x13, x14, x15]) from ⟨by rw [hW0]; exact (MvAt.made w2 gl (e := e) (o := [x0, x1, x2, x3, x4, x5, x6, x7, x8, x9, x10, x11, x12, x13, x14, x15]) rfl).lower HB2.out.size, by rw [hW0]; exact bell_up HB2.out (below_alloc w2 _)⟩)
  rw [← hW0]
  clear hW0
  generalize w2.heap.size = gm at *
  go_wp2_with fail
  go_loopw [21] (fun iv wr => ∃ i : Nat, i ≤ n ∧ iv = .int .i64 i ∧ StO w wr gm gl (rep e [x0, x1, x2, x3, x4, x5, x6, x7, x8, x9, x10, x11, x12, x13, x14, x15] (ms.take i))) (fun iv _ => n - (intOf iv).toNat)
  case atStart => exact ⟨0, by omega, rfl, HS0.out⟩
  case round =>
    obtain ⟨i, hin, rfl, hst⟩ := hrel
    have HST := Lib.hid hst
    clear hst
    by_cases hil : i < n
    · as_aux_lemma =>
        obtain ⟨b, off, rfl, hbl, hcc⟩ := HX.out.2.resolve_left (by omega)
        obtain ⟨m, hmi⟩ := get_some HX.out.1 hil
        have HTS := Lib.hid (rep_take_succ e [x0, x1, x2, x3, x4, x5, x6, x7, x8, x9, x10, x11, x12, x13, x14, x15] hmi)
        obtain ⟨s8, s9, s10, s11, hbx, hmin⟩ := (hcc i m hmi)
        obtain ⟨q0, q1, q2, q3, q4, q5, q6, q7, q8, q9, q10, q11⟩ := hbx
        have p0 := (HST.out.2.cell (p := ⟨b, off + i * 12, none⟩) hbl).trans q0
        have p1 := (HST.out.2.cell (p := ⟨b, off + i * 12 + 1, none⟩) hbl).trans q1
        have p2 := (HST.out.2.cell (p := ⟨b, off + i * 12 + 2, none⟩) hbl).trans q2
        have p3 := (HST.out.2.cell (p := ⟨b, off + i * 12 + 3, none⟩) hbl).trans q3
        have p4 := (HST.out.2.cell (p := ⟨b, off + i * 12 + 4, none⟩) hbl).trans q4
        have p5 := (HST.out.2.cell (p := ⟨b, off + i * 12 + 5, none⟩) hbl).trans q5
        have p6 := (HST.out.2.cell (p := ⟨b, off + i * 12 + 6, none⟩) hbl).trans q6
        have p7 := (HST.out.2.cell (p := ⟨b, off + i * 12 + 7, none⟩) hbl).trans q7
        have p8 := (HST.out.2.cell (p := ⟨b, off + i * 12 + 8, none⟩) hbl).trans q8
        have p9 := (HST.out.2.cell (p := ⟨b, off + i * 12 + 9, none⟩) hbl).trans q9
        have p10 := (HST.out.2.cell (p := ⟨b, off + i * 12 + 10, none⟩) hbl).trans q10
        have p11 := (HST.out.2.cell (p := ⟨b, off + i * 12 + 11, none⟩) hbl).trans q11
        have hshape : ∃ a8 n8 c8 a9 n9 c9 a10 n10 c10 a11 n11 c11, s8 = .slice a8 n8 c8 ∧ s9 = .slice a9 n9 c9 ∧ s10 = .slice a10 n10 c10 ∧ s11 = .slice a11 n11 c11 := by
          obtain ⟨na, ma, pa, ra, nn, nc, mn, mc, pn, pc, rn, rc, h⟩ := hmin
          have hv := h.val
          injection hv with hv
          injection hv with hv
          simp only [List.cons.injEq, and_true] at hv
          obtain ⟨_, _, _, _, _, _, _, _, rfl, rfl, rfl, rfl⟩ := hv
          exact ⟨_, _, _, _, _, _, _, _, _, _, _, _, rfl, rfl, rfl, rfl⟩
        obtain ⟨a8, n8, c8, a9, n9, c9, a10, n10, c10, a11, n11, c11, rfl, rfl, rfl, rfl⟩ := hshape
        clear hcc hmi hmin q0 q1 q2 q3 q4 q5 q6 q7 q8 q9 q10 q11
        obtain ⟨X, hX, hwx, hbx⟩ := box_new wr 45 #[.int .i64 m.kind, .int .i64 m.from_, .int .i64 m.«to», .int .i64 m.id, .int .i64 m.rev, .int .i64 m.epoch, .int .i64 m.slot, .bool m.flag, .slice a8 n8 c8, .slice a9 n9 c9, .slice a10 n10 c10, .slice a11 n11 c11]
        have HTK := Lib.hid (mtake_any X m a8 a9 a10 a11 n8 c8 n9 c9 n10 c10 n11 c11 (HST.out.1.below hbx))
        have HBX := Lib.hid (HST.out.2.trans (hbx.mono HST.out.2.size))
        have hij : (0:Int) ≤ (i:Int) ∧ (i:Int) < (n:Int) := by omega
        have hn5 : n ≤ 52428 := by have h1 := HN.out; have h2 := HSM.out; omega
        go_upto_region 7 with fail
        rw [← hX]
        have k0 := hwx.cell 0
        have k1 := hwx.cell 1
        have k2 := hwx.cell 2
        have k3 := hwx.cell 3
        have k4 := hwx.cell 4
        have k5 := hwx.cell 5
        have k6 := hwx.cell 6
        have k7 := hwx.cell 7
        have k8 := hwx.cell 8
        have k9 := hwx.cell 9
        have k10 := hwx.cell 10
        have k11 := hwx.cell 11
        clear hX hwx hbx p0 p1 p2 p3 p4 p5 p6 p7 p8 p9 p10 p11
        go_wp2_with fail
        refine HTK.out.mono ?_
        rintro ee w4 ⟨rfl, hO4, hC4⟩
        have HS4 := Lib.hid (show StO w w4 gm gl (rep e [x0, x1, x2, x3, x4, x5, x6, x7, x8, x9, x10, x11, x12, x13, x14, x15] (ms.take (i + 1))) from ⟨by rw [HTS.out]; exact hO4, HBX.out.trans (hC4.below (fun k hk => by rw [hk]; exact hO4.ge) HBX.out.size)⟩)
        clear hO4 hC4
        go_wp2_with fail
        exact ⟨⟨i + 1, by omega, by go_num, HS4.out⟩, by simp [intOf]; omega⟩
    · as_aux_lemma =>
        obtain rfl : i = n := by omega
        have htk : ms.take i = ms := by rw [HN.out, List.take_length]
        rw [htk] at HST
        clear htk
        have HCS := Lib.hid (show MS wr B gm gl g v (rep e [x0, x1, x2, x3, x4, x5, x6, x7, x8, x9, x10, x11, x12, x13, x14, x15] ms) ms r from ⟨Lg.keep HLG.out (HST.out.2), HST.out.1.lower HBB.out, HFI.out⟩)
        obtain ⟨_, c19, _⟩ := HST.out.1.two
        have HBE := Lib.hid HST.out.2
        have HGM := Lib.hid HST.out.1.ge
        have hnew : ∀ w', Chg wr w' (SB gm gl g v) → Chg w w' (LB gl g v) := fun w' hc => ⟨hc.os.trans HBE.out.os, hc.tape.trans HBE.out.tape, hc.output.trans HBE.out.output, Nat.le_trans HBE.out.size hc.size, fun k hk hn => (hc.block k (Nat.lt_of_lt_of_le hk HBE.out.size) (by
          rintro (h1 | h1 | h1 | h1)
          · exact hn (.inl h1)
          · exact hn (.inr (.inl h1))
          · exact hn (.inr (.inr h1))
          · have := HGM.out
            omega)).trans (HBE.out.block k hk)⟩
        have HNEW := Lib.hid hnew
        clear hnew
        by_cases h0 : (rep e [x0, x1, x2, x3, x4, x5, x6, x7, x8, x9, x10, x11, x12, x13, x14, x15] ms).st = 0
        · rw [h0] at c19
          have HE := Lib.hid (show OpnR w B gl g v e [x0, x1, x2, x3, x4, x5, x6, x7, x8, x9, x10, x11, x12, x13, x14, x15] ms r (.returned (.tuple #[.pointer (some ⟨gm, 0, none⟩), .int .i64 0])) wr from .inl ⟨h0, gm, rfl, HCS.out, Chg.ofBelow _ HBE.out, HGM.out⟩)
          clear h0
          generalize rep e [x0, x1, x2, x3, x4, x5, x6, x7, x8, x9, x10, x11, x12, x13, x14, x15] ms = M0 at *
          go_wp2_with fail
          go_ret2
          exact HE.out
        · have HUN := Lib.hid (undo_any wr HCS.out h0 HID.out)
          have HEND := Lib.hid (show ∀ (k : Int) (w' : World), WrR wr B gm gl g v (rep e [x0, x1, x2, x3, x4, x5, x6, x7, x8, x9, x10, x11, x12, x13, x14, x15] ms) ms r (mM 13 0 0 (rep e [x0, x1, x2, x3, x4, x5, x6, x7, x8, x9, x10, x11, x12, x13, x14, x15] ms).id 0) k w' → (k = 0 ∧ OpnR w B gl g v e [x0, x1, x2, x3, x4, x5, x6, x7, x8, x9, x10, x11, x12, x13, x14, x15] ms r (.returned (.tuple #[.pointer (some ⟨gm, 0, none⟩), .int .i64 0])) w') ∨ (k = 3 ∧ OpnR w B gl g v e [x0, x1, x2, x3, x4, x5, x6, x7, x8, x9, x10, x11, x12, x13, x14, x15] ms r (.returned (.tuple #[.pointer none, .int .i64 3])) w') from by
            rintro k w' (⟨rfl, h1, v', h2, h3⟩ | ⟨rfl, h1, h2, h3⟩)
            · exact .inl ⟨rfl, .inr (.inl ⟨h0, h1, gm, v', rfl, h2, HNEW.out _ h3, HGM.out⟩)⟩
            · exact .inr ⟨rfl, .inr (.inr ⟨h0, h1, rfl, h2.log, HNEW.out _ (Chg.ofBelow _ h3)⟩)⟩)
          have f0 : ((rep e [x0, x1, x2, x3, x4, x5, x6, x7, x8, x9, x10, x11, x12, x13, x14, x15] ms).st == 0) = false := by simpa using h0
          clear h0
          generalize rep e [x0, x1, x2, x3, x4, x5, x6, x7, x8, x9, x10, x11, x12, x13, x14, x15] ms = M0 at *
          go_wp2_with fail
          refine HUN.out.mono ?_
          rintro ee w4 ⟨k, rfl, hc⟩
          rcases HEND.out k w4 hc with ⟨rfl, he⟩ | ⟨rfl, he⟩
          · have HE := Lib.hid he
            clear he hc
            go_wp2_with fail
            go_ret2
            exact HE.out
          · have HE := Lib.hid he
            clear he hc
            go_wp2_with fail
            go_ret2
            exact HE.out
end
end Go.Proofs.Ytbmmgmdjhhnkfaa

namespace Go.Proofs.Ytbmmgmdjhhnkfaa
open Go.RowKit

/-- The document's disk as a value. -/
def RD (S : ByteArray) (d r : Int) : Value := .agg #[.string S, .int .i64 d, .int .i64 r]

theorem rwrong_any (r : Int) (w : World) : Calls Try.prog 8 #[.int .i64 r] w fun e w' => e = .returned (.int .i64 (if r < 0 ∨ 1048576 < r then 1 else 0)) ∧ w = w' := by
  by_cases h : r < 0
  · go_enter Try.func8, Try.ntmps8
    go_wp2
    go_ret
    exact ⟨rfl, rfl⟩
  · by_cases h2 : 1048576 < r
    · go_enter Try.func8, Try.ntmps8
      go_wp2
      go_ret
      exact ⟨rfl, rfl⟩
    · go_enter Try.func8, Try.ntmps8
      go_wp2
      go_ret
      exact ⟨rfl, rfl⟩

set_option maxHeartbeats 1000000 in
theorem rsync_any (S : ByteArray) (d r : Int) (w : World) :
    Calls Try.prog 46 #[RD S d r] w fun e w' => e = .returned (RD S S.size r) ∧ Below w.heap.size w w' := by
  unfold RD
  go_enter Try.func46, Try.ntmps46
  go_wp2
  refine bodyPost_ret (v := .agg #[.string S, .int .i64 S.size, .int .i64 r]) (by simp [results, Try.results46, go_sem]) rfl ⟨rfl, ?_⟩
  exact ((Below.refl _ _).alloc (Nat.le_refl _) _).alloc (by simp) _

set_option maxHeartbeats 1000000 in
theorem rappend_full (S X : ByteArray) (d r : Int) (w : World) (hS : S.size ≤ 1048576) (hX : X.size ≤ 140737488355328) (h : r < (S.size : Int) + X.size) :
    Calls Try.prog 53 #[RD S d r, .string X] w fun e w' => e = .returned (.tuple #[RD S d r, .int .i64 3]) ∧ Below w.heap.size w w' := by
  unfold RD
  have hw : IntKind.i64.wrap ((S.size : Int) + (X.size : Int)) = (S.size : Int) + (X.size : Int) := IntWalk.i64_in _ (by omega)
  go_enter Try.func53, Try.ntmps53
  go_wp2
  refine bodyPost_ret (v := .tuple #[.agg #[.string S, .int .i64 d, .int .i64 r], .int .i64 3]) (by simp [results, Try.results53, go_sem]) rfl ⟨rfl, ?_⟩
  exact ((Below.refl _ _).alloc (Nat.le_refl _) _).alloc (by simp) _
set_option maxHeartbeats 1000000 in
theorem rappend_fits (S X : ByteArray) (d r : Int) (w : World) (hS : S.size ≤ 1048576) (hX : X.size ≤ 140737488355328) (h : (S.size : Int) + X.size ≤ r) :
    Calls Try.prog 53 #[RD S d r, .string X] w fun e w' => e = .returned (.tuple #[RD (S ++ X) d r, .int .i64 0]) ∧ Below w.heap.size w w' := by
  unfold RD
  have hw : IntKind.i64.wrap ((S.size : Int) + (X.size : Int)) = (S.size : Int) + (X.size : Int) := IntWalk.i64_in _ (by omega)
  have hadd : ∀ w, (Op.stringOp .add S X).run Try.prog w = .ok (.string (S ++ X)) w := fun w => by rw [run_string_add_sum w S X (by omega)]
  have h' : ¬ r < (S.size : Int) + X.size := by omega
  go_enter Try.func53, Try.ntmps53
  go_wp2
  refine bodyPost_ret (v := .tuple #[.agg #[.string (S ++ X), .int .i64 d, .int .i64 r], .int .i64 0]) (by simp [results, Try.results53, go_sem]) rfl ⟨rfl, ?_⟩
  exact ((Below.refl _ _).alloc (Nat.le_refl _) _).alloc (by simp) _


end Go.Proofs.Ytbmmgmdjhhnkfaa

namespace Go.Proofs.Ytbmmgmdjhhnkfaa
open Go.RowKit

theorem msgin_up {w w' : World} {V : Value} {m : MsgD} (h : MsgIn w V m) (hb : Below w.heap.size w w') : MsgIn w' V m := (show MsgB w' w.heap.size V m from MsgB.below h hb).msg hb.size
set_option maxRecDepth 100000 in
set_option maxHeartbeats 4000000 in
theorem radd_any (w : World) (m : MsgD) (na ma pa ra : Option Addr) (nn nc mn mc pn pc rn rc : Nat) (hm : MsgIn w (.agg #[.int .i64 m.kind, .int .i64 m.from_, .int .i64 m.«to», .int .i64 m.id, .int .i64 m.rev, .int .i64 m.epoch, .int .i64 m.slot, .bool m.flag, .slice na nn nc, .slice ma mn mc, .slice pa pn pc, .slice ra rn rc]) m) (hs : m.small) (hg : m.ok ∧ (enc m).length ≤ 16384) (hb : ∀ x ∈ enc m, 0 ≤ x ∧ x < 256) (S : ByteArray) (d : Int) (r : Nat) (hS : S.size ≤ 1048576) :
    Calls Try.prog 45 #[RD S d r, .agg #[.int .i64 m.kind, .int .i64 m.from_, .int .i64 m.«to», .int .i64 m.id, .int .i64 m.rev, .int .i64 m.epoch, .int .i64 m.slot, .bool m.flag, .slice na nn nc, .slice ma mn mc, .slice pa pn pc, .slice ra rn rc]] w fun e w' =>
      (S.size + (Fr.sealed (enc m)).length ≤ r ∧ e = .returned (.tuple #[RD (S ++ strOfNums (Fr.sealed (enc m))) d r, .int .i64 0]) ∨ r < S.size + (Fr.sealed (enc m)).length ∧ e = .returned (.tuple #[RD S d r, .int .i64 3])) ∧ Below w.heap.size w w' := by
  unfold RD
  obtain ⟨X, hX, hwX, hbX⟩ := box_new w 39 #[.string S, .int .i64 d, .int .i64 (r : Int)]
  obtain ⟨Y, hY, hwY, hbY⟩ := box_new X 45 #[.int .i64 m.kind, .int .i64 m.from_, .int .i64 m.«to», .int .i64 m.id, .int .i64 m.rev, .int .i64 m.epoch, .int .i64 m.slot, .bool m.flag, .slice na nn nc, .slice ma mn mc, .slice pa pn pc, .slice ra rn rc]
  obtain ⟨Z, hZ, hwZ, hbZ⟩ := box_new Y 39 #[.string ⟨#[]⟩, .int .i64 0, .int .i64 0]
  have hsX : X.heap.size = w.heap.size + 1 := by rw [hX]; exact Array.size_push _
  have hsY : Y.heap.size = w.heap.size + 1 + 1 := by rw [hY, ← hsX]; exact Array.size_push _
  rw [hsX] at hwY
  rw [hsY] at hwZ
  have hb3 : Below w.heap.size w Z := bell_up (bell_up hbX hbY) hbZ
  have HXZ := Lib.hid ((hwX.kept (hbY.block _ hwX.lt)).kept (hbZ.block _ (Nat.lt_of_lt_of_le hwX.lt hbY.size)))
  have hyz := hwY.kept (hbZ.block _ hwY.lt)
  have HZZ := Lib.hid hwZ
  have HB3 := Lib.hid hb3
  have HEN := Lib.hid (refenc_any _ m Z (msgin_up hm hb3) hs)
  have HSE := Lib.hid (fun W => Fr.refseal_any (enc m) (strOfNums (enc m)) W rfl hb (by have := hg.2; omega))
  have HG := Lib.hid hg
  have k0 := hyz.cell 0
  have k1 := hyz.cell 1
  have k2 := hyz.cell 2
  have k3 := hyz.cell 3
  have k4 := hyz.cell 4
  have k5 := hyz.cell 5
  have k6 := hyz.cell 6
  have k7 := hyz.cell 7
  have k8 := hyz.cell 8
  have k9 := hyz.cell 9
  have k10 := hyz.cell 10
  have k11 := hyz.cell 11
  clear hsX hsY hm hs hb hwX hwY hwZ hbX hbY hbZ hb3 hyz
  go_enter Try.func45, Try.ntmps45
  go_upto_region 1 with fail
  rw [← hX, ← hY, ← hZ]
  clear hX hY hZ
  go_wp2_with fail
  refine HEN.out.mono ?_
  rintro e w1 ⟨⟨_, rfl⟩ | ⟨hno, _⟩, hb1⟩
  rotate_left
  · exact absurd HG.out hno
  have HX1 := Lib.hid (HXZ.out.kept (hb1.block _ HXZ.out.lt))
  have HZ1 := Lib.hid (HZZ.out.kept (hb1.block _ HZZ.out.lt))
  have HB1 := Lib.hid (bell_up HB3.out hb1)
  clear hb1 k0 k1 k2 k3 k4 k5 k6 k7 k8 k9 k10 k11 HEN
  have hlen : (enc m).length ≤ 16384 := HG.out.2
  go_wp2_with fail
  refine (HSE.out w1).mono ?_
  rintro e w2 ⟨rfl, hb2⟩
  rw [if_pos hlen]
  have HX2 := Lib.hid (HX1.out.kept (hb2.block _ HX1.out.lt))
  have HZ2 := Lib.hid (HZ1.out.kept (hb2.block _ HZ1.out.lt))
  have HB2 := Lib.hid (bell_up HB1.out hb2)
  have k0 := HX2.out.cell 0
  have k1 := HX2.out.cell 1
  have k2 := HX2.out.cell 2
  have hfl : (strOfNums (Fr.sealed (enc m))).size = (Fr.sealed (enc m)).length := by rw [strOfNums_size]
  have hsl : (Fr.sealed (enc m)).length = 8 + (enc m).length := Fr.sealed_length _
  clear hb2 HSE
  generalize hFe : strOfNums (Fr.sealed (enc m)) = F at *
  generalize hLe : (Fr.sealed (enc m)).length = L at *
  have HFE := Lib.hid (And.intro hFe hLe)
  clear hFe hLe
  by_cases hfit : S.size + L ≤ r
  · have HAP := Lib.hid (rappend_fits S F d r w2 hS (by omega) (by omega))
    go_wp2_with fail
    refine HAP.out.mono ?_
    rintro e w3 ⟨rfl, hb3⟩
    unfold RD
    have HZ3 := HZ2.out.kept (hb3.block _ HZ2.out.lt)
    have z0 := HZ3.cell 0
    have z1 := HZ3.cell 1
    have z2 := HZ3.cell 2
    have y0 := HZ3.free 0
    have y1 := HZ3.free 1
    have y2 := HZ3.free 2
    have HF := Lib.hid (show Whole (((w3.setCell ⟨w.heap.size + 1 + 1, 0, none⟩ (.string (S ++ F))).setCell ⟨w.heap.size + 1 + 1, 1, none⟩ (.int .i64 d)).setCell ⟨w.heap.size + 1 + 1, 2, none⟩ (.int .i64 (r : Int))) (w.heap.size + 1 + 1) 39 #[.string (S ++ F), .int .i64 d, .int .i64 (r : Int)] from ((HZ3.store 0 _).store 1 _).store 2 _)
    have HBF := Lib.hid (show Below w.heap.size w (((w3.setCell ⟨w.heap.size + 1 + 1, 0, none⟩ (.string (S ++ F))).setCell ⟨w.heap.size + 1 + 1, 1, none⟩ (.int .i64 d)).setCell ⟨w.heap.size + 1 + 1, 2, none⟩ (.int .i64 (r : Int))) from Chg.below (B := w.heap.size) ((((Chg.ofBelow (fun k => k = w.heap.size + 1 + 1) (bell_up HB2.out hb3)).set rfl 0 _).set rfl 1 _).set rfl 2 _) (fun k hk => by have h2 : k = w.heap.size + 1 + 1 := hk; omega) (Nat.le_refl _))
    clear hb3 HZ3 HAP
    go_wp2_with fail
    refine bodyPost_ret (v := .tuple #[.agg #[.string (S ++ F), .int .i64 d, .int .i64 (r : Int)], .int .i64 0]) (res_two Try.results45 _ _ (w.heap.size + 1 + 1) 39 #[.string (S ++ F), .int .i64 d, .int .i64 (r : Int)] _ _ rfl rfl HF.out Try.underlying39 rfl (by kernel_rfl)) rfl ⟨.inl ⟨by rw [HFE.out.2]; exact hfit, by rw [HFE.out.1]⟩, HBF.out⟩
  · have HAP := Lib.hid (rappend_full S F d r w2 hS (by omega) (by omega))
    go_wp2_with fail
    refine HAP.out.mono ?_
    rintro e w3 ⟨rfl, hb3⟩
    unfold RD
    have HZ3 := HZ2.out.kept (hb3.block _ HZ2.out.lt)
    have z0 := HZ3.cell 0
    have z1 := HZ3.cell 1
    have z2 := HZ3.cell 2
    have y0 := HZ3.free 0
    have y1 := HZ3.free 1
    have y2 := HZ3.free 2
    have HF := Lib.hid (show Whole (((w3.setCell ⟨w.heap.size + 1 + 1, 0, none⟩ (.string S)).setCell ⟨w.heap.size + 1 + 1, 1, none⟩ (.int .i64 d)).setCell ⟨w.heap.size + 1 + 1, 2, none⟩ (.int .i64 (r : Int))) (w.heap.size + 1 + 1) 39 #[.string S, .int .i64 d, .int .i64 (r : Int)] from ((HZ3.store 0 _).store 1 _).store 2 _)
    have HBF := Lib.hid (show Below w.heap.size w (((w3.setCell ⟨w.heap.size + 1 + 1, 0, none⟩ (.string S)).setCell ⟨w.heap.size + 1 + 1, 1, none⟩ (.int .i64 d)).setCell ⟨w.heap.size + 1 + 1, 2, none⟩ (.int .i64 (r : Int))) from Chg.below (B := w.heap.size) ((((Chg.ofBelow (fun k => k = w.heap.size + 1 + 1) (bell_up HB2.out hb3)).set rfl 0 _).set rfl 1 _).set rfl 2 _) (fun k hk => by have h2 : k = w.heap.size + 1 + 1 := hk; omega) (Nat.le_refl _))
    clear hb3 HZ3 HAP
    go_wp2_with fail
    refine bodyPost_ret (v := .tuple #[.agg #[.string S, .int .i64 d, .int .i64 (r : Int)], .int .i64 3]) (res_two Try.results45 _ _ (w.heap.size + 1 + 1) 39 #[.string S, .int .i64 d, .int .i64 (r : Int)] _ _ rfl rfl HF.out Try.underlying39 rfl (by kernel_rfl)) rfl ⟨.inr ⟨by rw [HFE.out.2]; omega, rfl⟩, HBF.out⟩
end Go.Proofs.Ytbmmgmdjhhnkfaa
