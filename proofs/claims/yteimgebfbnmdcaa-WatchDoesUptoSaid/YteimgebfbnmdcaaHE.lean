/- The three closures by which watch sorts. -/
import Derived.Test.YteimgebfbnmdcaaHD
namespace Go.Proofs.Yteimgebfbnmdcaa
open Go.RowKit
open Go.Shelf
open Go.Maps (Keyed)

set_option maxRecDepth 100000 in
set_option maxHeartbeats 8000000 in
theorem chCmp_any (W : World) (x y : Ch) : Calls Try.prog 28 #[.agg (chc x).toArray, .agg (chc y).toArray] W fun e w' => e = .returned (.int .i64 (cfC x y)) ∧ Gr W w' := by
  obtain ⟨a, ha⟩ : ∃ a, a = W.heap.size := ⟨_, rfl⟩
  obtain ⟨b, hb⟩ : ∃ b, b = W.heap.size + 1 := ⟨_, rfl⟩
  obtain ⟨W1, hW1⟩ : ∃ W1, W1 = (W.alloc (.cells (chc x).toArray 53)).alloc (.cells (chc y).toArray 53) := ⟨_, rfl⟩
  have hg1 : Gr W W1 := by rw [hW1]; exact (gr_alloc _ _).trans (gr_alloc _ _)
  have hA : Whole W1 a 53 (chc x).toArray := by
    rw [hW1, ha]
    exact Whole.kept (heap_alloc_new _ _) (Below.heap_alloc _ _ _ (by simp))
  have hB : Whole W1 b 53 (chc y).toArray := by
    rw [hW1, hb]
    have := heap_alloc_new (W.alloc (.cells (chc x).toArray 53)) (.cells (chc y).toArray 53)
    rw [World.size_alloc] at this
    exact this
  have HC1 := Lib.hid (fun W => cmp64_any x.rev y.rev W)
  have HC2 := Lib.hid (show ∀ W, Calls Try.prog 31 #[.agg #[.string x.t.o, .string x.t.r, .string x.t.u], .agg #[.string y.t.o, .string y.t.r, .string y.t.u]] W fun e w' => e = .returned (.int .i64 (cmpT (tq x.t) (tq y.t))) ∧ Gr W w' from fun W => compareG_any x.t.o x.t.r x.t.u y.t.o y.t.r y.t.u W)
  have HO := Lib.hid (fun W c u v h0 h1 => or_any W c u v h0 h1)
  have HK := Lib.hid (fun V (hV : Gr W1 V) => (show (V.cell? ⟨a, 0, none⟩ = some (.int .i64 x.rev) ∧ V.cell? ⟨a, 2, none⟩ = some (.string x.t.o) ∧ V.cell? ⟨a, 3, none⟩ = some (.string x.t.r) ∧ V.cell? ⟨a, 4, none⟩ = some (.string x.t.u)) ∧ V.cell? ⟨b, 0, none⟩ = some (.int .i64 y.rev) ∧ V.cell? ⟨b, 2, none⟩ = some (.string y.t.o) ∧ V.cell? ⟨b, 3, none⟩ = some (.string y.t.r) ∧ V.cell? ⟨b, 4, none⟩ = some (.string y.t.u) from by
    have hc := fun {p : Addr} {v : Value} (h : W1.cell? p = some v) => ((hV.below).cell (block_lt_of_cell h)).trans h
    exact ⟨⟨hc (hA.cell 0), hc (hA.cell 2), hc (hA.cell 3), hc (hA.cell 4)⟩, hc (hB.cell 0), hc (hB.cell 2), hc (hB.cell 3), hc (hB.cell 4)⟩))
  have HG1 := Lib.hid hg1
  have hcf : cfC x y = orI (Lib.compareInt x.rev y.rev) (cmpT (tq x.t) (tq y.t)) := rfl
  rw [hcf]
  clear hA hB hg1 hcf
  generalize Lib.compareInt x.rev y.rev = r1 at *
  generalize cmpT (tq x.t) (tq y.t) = r2 at *
  unfold chc at hW1 ⊢
  go_enter Try.func28, Try.ntmps28
  go_upto_region 1 with fail
  rw [← hb, ← ha, ← hW1]
  clear hW1 ha hb
  go_region_held3 (fun V : World => (V.cell? ⟨a, 0, none⟩ = some (.int .i64 x.rev) ∧ V.cell? ⟨a, 2, none⟩ = some (.string x.t.o) ∧ V.cell? ⟨a, 3, none⟩ = some (.string x.t.r) ∧ V.cell? ⟨a, 4, none⟩ = some (.string x.t.u)) ∧ V.cell? ⟨b, 0, none⟩ = some (.int .i64 y.rev) ∧ V.cell? ⟨b, 2, none⟩ = some (.string y.t.o) ∧ V.cell? ⟨b, 3, none⟩ = some (.string y.t.r) ∧ V.cell? ⟨b, 4, none⟩ = some (.string y.t.u)) (first | assumption | with_reducible exact HK.out _ (gr_drew _) | with_reducible exact HK.out _ (HD.out.trans (gr_alloc _ _))) (first
    | (go_at_call 30; refine (HC1.out _).mono ?_; rintro e w1 ⟨rfl, rfl⟩)
    | (go_at_call 31; refine (HC2.out _).mono ?_; rintro e w1 ⟨rfl, hg1⟩
       have hk1 := HK.out w1 ((gr_drew _).trans hg1)
       have HD := Lib.hid ((gr_drew _).trans hg1)
       clear hg1)
    | (go_at_call 29; refine (HO.out _ _ _ _ ((new_cell _ _ _ _ 0).trans rfl) ((new_cell _ _ _ _ 1).trans rfl)).mono ?_; rintro e w9 ⟨rfl, hw9⟩; subst hw9))
  all_goals
    go_wp2
    go_ret
    exact ⟨rfl, HG1.out.trans (HD.out.trans (gr_alloc _ _))⟩

set_option maxRecDepth 100000 in
set_option maxHeartbeats 8000000 in
theorem rowCmp_any (W : World) (x y : Rw) : Calls Try.prog 39 #[.agg (rw1 x).toArray, .agg (rw1 y).toArray] W fun e w' => e = .returned (.int .i64 (cfR x y)) ∧ Gr W w' := by
  obtain ⟨a, ha⟩ : ∃ a, a = W.heap.size := ⟨_, rfl⟩
  obtain ⟨b, hb⟩ : ∃ b, b = W.heap.size + 1 := ⟨_, rfl⟩
  obtain ⟨W1, hW1⟩ : ∃ W1, W1 = (W.alloc (.cells (rw1 x).toArray 49)).alloc (.cells (rw1 y).toArray 49) := ⟨_, rfl⟩
  have hg1 : Gr W W1 := by rw [hW1]; exact (gr_alloc _ _).trans (gr_alloc _ _)
  have hA : Whole W1 a 49 (rw1 x).toArray := by
    rw [hW1, ha]
    exact Whole.kept (heap_alloc_new _ _) (Below.heap_alloc _ _ _ (by simp))
  have hB : Whole W1 b 49 (rw1 y).toArray := by
    rw [hW1, hb]
    have := heap_alloc_new (W.alloc (.cells (rw1 x).toArray 49)) (.cells (rw1 y).toArray 49)
    rw [World.size_alloc] at this
    exact this
  have HC1 := Lib.hid (fun W => cmp64_any x.s y.s W)
  have HC2 := Lib.hid (show ∀ W, Calls Try.prog 31 #[.agg #[.string x.t.o, .string x.t.r, .string x.t.u], .agg #[.string y.t.o, .string y.t.r, .string y.t.u]] W fun e w' => e = .returned (.int .i64 (cmpT (tq x.t) (tq y.t))) ∧ Gr W w' from fun W => compareG_any x.t.o x.t.r x.t.u y.t.o y.t.r y.t.u W)
  have HO := Lib.hid (fun W c u v h0 h1 => or_any W c u v h0 h1)
  have HK := Lib.hid (fun V (hV : Gr W1 V) => (show (V.cell? ⟨a, 0, none⟩ = some (.string x.t.o) ∧ V.cell? ⟨a, 1, none⟩ = some (.string x.t.r) ∧ V.cell? ⟨a, 2, none⟩ = some (.string x.t.u) ∧ V.cell? ⟨a, 3, none⟩ = some (.int .i64 x.s)) ∧ V.cell? ⟨b, 0, none⟩ = some (.string y.t.o) ∧ V.cell? ⟨b, 1, none⟩ = some (.string y.t.r) ∧ V.cell? ⟨b, 2, none⟩ = some (.string y.t.u) ∧ V.cell? ⟨b, 3, none⟩ = some (.int .i64 y.s) from by
    have hc := fun {p : Addr} {v : Value} (h : W1.cell? p = some v) => ((hV.below).cell (block_lt_of_cell h)).trans h
    exact ⟨⟨hc (hA.cell 0), hc (hA.cell 1), hc (hA.cell 2), hc (hA.cell 3)⟩, hc (hB.cell 0), hc (hB.cell 1), hc (hB.cell 2), hc (hB.cell 3)⟩))
  have HG1 := Lib.hid hg1
  have hcf : cfR x y = orI (cmpT (tq x.t) (tq y.t)) (Lib.compareInt x.s y.s) := rfl
  rw [hcf]
  clear hA hB hg1 hcf
  generalize Lib.compareInt x.s y.s = r1 at *
  generalize cmpT (tq x.t) (tq y.t) = r2 at *
  unfold rw1 at hW1 ⊢
  go_enter Try.func39, Try.ntmps39
  go_upto_region 1 with fail
  rw [← hb, ← ha, ← hW1]
  clear hW1 ha hb
  go_region_held3 (fun V : World => (V.cell? ⟨a, 0, none⟩ = some (.string x.t.o) ∧ V.cell? ⟨a, 1, none⟩ = some (.string x.t.r) ∧ V.cell? ⟨a, 2, none⟩ = some (.string x.t.u) ∧ V.cell? ⟨a, 3, none⟩ = some (.int .i64 x.s)) ∧ V.cell? ⟨b, 0, none⟩ = some (.string y.t.o) ∧ V.cell? ⟨b, 1, none⟩ = some (.string y.t.r) ∧ V.cell? ⟨b, 2, none⟩ = some (.string y.t.u) ∧ V.cell? ⟨b, 3, none⟩ = some (.int .i64 y.s)) (first | assumption | with_reducible exact HK.out _ (gr_drew _) | with_reducible exact HK.out _ (HD.out.trans (gr_alloc _ _))) (first
    | (go_at_call 30; refine (HC1.out _).mono ?_; rintro e w1 ⟨rfl, rfl⟩)
    | (go_at_call 31; refine (HC2.out _).mono ?_; rintro e w1 ⟨rfl, hg1⟩
       have hk1 := HK.out w1 ((gr_drew _).trans hg1)
       have HD := Lib.hid ((gr_drew _).trans hg1)
       clear hg1)
    | (go_at_call 29; refine (HO.out _ _ _ _ ((new_cell _ _ _ _ 0).trans rfl) ((new_cell _ _ _ _ 1).trans rfl)).mono ?_; rintro e w9 ⟨rfl, hw9⟩; subst hw9))
  all_goals
    go_wp2
    go_ret
    exact ⟨rfl, HG1.out.trans (HD.out.trans (gr_alloc _ _))⟩

set_option maxRecDepth 100000 in
set_option maxHeartbeats 8000000 in
theorem muCmp_any (W : World) (x y : Mu) : Calls Try.prog 43 #[.agg (muc x).toArray, .agg (muc y).toArray] W fun e w' => e = .returned (.int .i64 (cfM x y)) ∧ Gr W w' := by
  have HC2 := Lib.hid (show ∀ W, Calls Try.prog 31 #[.agg #[.string x.t.o, .string x.t.r, .string x.t.u], .agg #[.string y.t.o, .string y.t.r, .string y.t.u]] W fun e w' => e = .returned (.int .i64 (cfM x y)) ∧ Gr W w' from fun W => compareG_any x.t.o x.t.r x.t.u y.t.o y.t.r y.t.u W)
  generalize cfM x y = r at *
  have HG1 := Lib.hid (show Gr W ((W.alloc (.cells (muc x).toArray 51)).alloc (.cells (muc y).toArray 51)) from (gr_alloc _ _).trans (gr_alloc _ _))
  unfold muc at HG1 ⊢
  go_enter Try.func43, Try.ntmps43
  go_wp2_with fail
  refine (HC2.out _).mono ?_
  rintro e w1 ⟨rfl, hg⟩
  have HG2 := Lib.hid (HG1.out.trans hg)
  clear hg
  go_wp2
  go_ret
  exact ⟨rfl, HG2.out⟩
end Go.Proofs.Yteimgebfbnmdcaa
