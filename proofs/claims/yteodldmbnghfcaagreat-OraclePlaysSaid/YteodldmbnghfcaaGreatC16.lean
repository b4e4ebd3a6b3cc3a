/- The door of Decode. -/
import Derived.Test.YteodldmbnghfcaaGreatC15
import Derived.Tactics
import Derived.Tactics2
import Derived.Defers
import Derived.Recover
namespace Go.Proofs.YteodldmbnghfcaaGreat
open Go.RowKit

set_option maxHeartbeats 1000000 in
theorem dcatch_idle (p q : Addr) (w : World) :
    CallsD Tryz.prog 73 #[.pointer (some p), .pointer (some q)] .returning w fun e u' w' => e = .returned (.tuple #[]) ∧ u' = .returning ∧ w' = w := by
  refine callsD_of_wpS Tryz.func73 rfl fun c₀ cs hu => ?_
  apply wpS_seq
  apply wpS_region
  simp [wpOpsS, go_sem, recoverD, hu, Tryz.ntmps73, Exit.thenS]
  apply wpS_seq
  apply wpS_region
  simp [wpOpsS, go_sem, Exit.thenS]
  refine wpS_cond (t := false) (by simp [Act.eval, Array.replicate]) ?_
  simp only [Bool.false_eq_true, if_false]
  refine wpS_of_wp (wp_skip ?_)
  cases c₀
  simp_all [bodyPostS, results, Tryz.results73]

set_option maxRecDepth 100000 in
set_option maxHeartbeats 4000000 in
theorem dcatch_panicking (p q : Nat) (hpq : p ≠ q) (c y : Int) (x0 x1 x2 x3 x4 x5 x6 x7 x8 x9 x10 x11 : Value) (w : World) (hp : Whole w p 43 #[x0, x1, x2, x3, x4, x5, x6, x7, x8, x9, x10, x11]) (hq : Whole w q 25 #[.int .i64 y]) :
    CallsD Tryz.prog 73 #[.pointer (some ⟨p, 0, none⟩), .pointer (some ⟨q, 0, none⟩)] (.panicking [{ v := .iface 25 (.int .i64 c), recovered := false }]) w fun e u' w' =>
      e = .returned (.tuple #[]) ∧ u' = .panicking [{ v := .iface 25 (.int .i64 c), recovered := true }] ∧ w' = (((((((((((((w.setCell ⟨p, 0, none⟩ (.int .i64 0)).setCell ⟨p, 1, none⟩ (.int .i64 0)).setCell ⟨p, 2, none⟩ (.int .i64 0)).setCell ⟨p, 3, none⟩ (.int .i64 0)).setCell ⟨p, 4, none⟩ (.int .i64 0)).setCell ⟨p, 5, none⟩ (.int .i64 0)).setCell ⟨p, 6, none⟩ (.int .i64 0)).setCell ⟨p, 7, none⟩ (.bool false)).setCell ⟨p, 8, none⟩ (.slice none 0 0)).setCell ⟨p, 9, none⟩ (.slice none 0 0)).setCell ⟨p, 10, none⟩ (.slice none 0 0)).setCell ⟨p, 11, none⟩ (.slice none 0 0)).setCell ⟨q, 0, none⟩ (.int .i64 c)).drew := by
  have k0 : w.cell? ⟨p, 0, none⟩ = some x0 := by rw [hp.cell]; rfl
  have z0 : w.frozen? ⟨p, 0, none⟩ = false := hp.free 0
  have k1 : w.cell? ⟨p, 1, none⟩ = some x1 := by rw [hp.cell]; rfl
  have z1 : w.frozen? ⟨p, 1, none⟩ = false := hp.free 1
  have k2 : w.cell? ⟨p, 2, none⟩ = some x2 := by rw [hp.cell]; rfl
  have z2 : w.frozen? ⟨p, 2, none⟩ = false := hp.free 2
  have k3 : w.cell? ⟨p, 3, none⟩ = some x3 := by rw [hp.cell]; rfl
  have z3 : w.frozen? ⟨p, 3, none⟩ = false := hp.free 3
  have k4 : w.cell? ⟨p, 4, none⟩ = some x4 := by rw [hp.cell]; rfl
  have z4 : w.frozen? ⟨p, 4, none⟩ = false := hp.free 4
  have k5 : w.cell? ⟨p, 5, none⟩ = some x5 := by rw [hp.cell]; rfl
  have z5 : w.frozen? ⟨p, 5, none⟩ = false := hp.free 5
  have k6 : w.cell? ⟨p, 6, none⟩ = some x6 := by rw [hp.cell]; rfl
  have z6 : w.frozen? ⟨p, 6, none⟩ = false := hp.free 6
  have k7 : w.cell? ⟨p, 7, none⟩ = some x7 := by rw [hp.cell]; rfl
  have z7 : w.frozen? ⟨p, 7, none⟩ = false := hp.free 7
  have k8 : w.cell? ⟨p, 8, none⟩ = some x8 := by rw [hp.cell]; rfl
  have z8 : w.frozen? ⟨p, 8, none⟩ = false := hp.free 8
  have k9 : w.cell? ⟨p, 9, none⟩ = some x9 := by rw [hp.cell]; rfl
  have z9 : w.frozen? ⟨p, 9, none⟩ = false := hp.free 9
  have k10 : w.cell? ⟨p, 10, none⟩ = some x10 := by rw [hp.cell]; rfl
  have z10 : w.frozen? ⟨p, 10, none⟩ = false := hp.free 10
  have k11 : w.cell? ⟨p, 11, none⟩ = some x11 := by rw [hp.cell]; rfl
  have z11 : w.frozen? ⟨p, 11, none⟩ = false := hp.free 11
  have kq : w.cell? ⟨q, 0, none⟩ = some (.int .i64 y) := by rw [hq.cell]; rfl
  have zq : w.frozen? ⟨q, 0, none⟩ = false := hq.free 0
  have kq2 : ((((((((((((w.setCell ⟨p, 0, none⟩ (.int .i64 0)).setCell ⟨p, 1, none⟩ (.int .i64 0)).setCell ⟨p, 2, none⟩ (.int .i64 0)).setCell ⟨p, 3, none⟩ (.int .i64 0)).setCell ⟨p, 4, none⟩ (.int .i64 0)).setCell ⟨p, 5, none⟩ (.int .i64 0)).setCell ⟨p, 6, none⟩ (.int .i64 0)).setCell ⟨p, 7, none⟩ (.bool false)).setCell ⟨p, 8, none⟩ (.slice none 0 0)).setCell ⟨p, 9, none⟩ (.slice none 0 0)).setCell ⟨p, 10, none⟩ (.slice none 0 0)).setCell ⟨p, 11, none⟩ (.slice none 0 0)).cell? ⟨q, 0, none⟩ = some (.int .i64 y) := by
    repeat (rw [World.cell?_setCell_other _ _ _ _ (by intro h; injection h with h; exact hpq h)])
    exact kq
  refine callsD_of_wpS Tryz.func73 rfl fun c₀ cs hu => ?_
  apply wpS_seq
  apply wpS_region
  simp [wpOpsS, go_sem, recoverD, hu, Tryz.ntmps73, Exit.thenS]
  apply wpS_seq
  apply wpS_region
  simp [wpOpsS, go_sem, Exit.thenS]
  refine wpS_cond (t := true) (by simp [Act.eval, Array.replicate]) ?_
  simp only [if_true]
  refine wpS_of_wp ?_
  change Code.wp _ _ _ { tmps := #[.pointer (some ⟨p, 0, none⟩), .pointer (some ⟨q, 0, none⟩), .iface 25 (.int .i64 c), .iface 25 (.int .i64 c), .iface 25 (.int .i64 c), .bool true, undef, undef, undef], defers := [] } w
  have hta : ∀ w, (Instr.typeAssert (.iface 25 (.int .i64 c)) 20 25 false).run Tryz.prog w = .ok (.int .i64 c) w := fun _ => by kernel_rfl
  go_region
  cases c₀
  simp_all [bodyPostS, results, Tryz.results73]
end Go.Proofs.YteodldmbnghfcaaGreat
