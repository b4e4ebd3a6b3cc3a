/- The walk of code.Encode. -/
import Derived.Test.YteodldmbnghfcaaGreatC6
import Derived.Tactics
import Derived.Tactics2
import Derived.Defers
import Derived.Recover
namespace Go.Proofs.YteodldmbnghfcaaGreat
open Go.RowKit

set_option maxHeartbeats 1000000 in
theorem ecatch_idle (p q : Addr) (w : World) :
    CallsD Tryz.prog 75 #[.pointer (some p), .pointer (some q)] .returning w fun e u' w' => e = .returned (.tuple #[]) ∧ u' = .returning ∧ w' = w := by
  refine callsD_of_wpS Tryz.func75 rfl fun c₀ cs hu => ?_
  apply wpS_seq
  apply wpS_region
  simp [wpOpsS, go_sem, recoverD, hu, Tryz.ntmps75, Exit.thenS]
  apply wpS_seq
  apply wpS_region
  simp [wpOpsS, go_sem, Exit.thenS]
  refine wpS_cond (t := false) (by simp [Act.eval, Array.replicate]) ?_
  simp only [Bool.false_eq_true, if_false]
  refine wpS_of_wp (wp_skip ?_)
  cases c₀
  simp_all [bodyPostS, results, Tryz.results75]
theorem ecatch_panicking (p q : Addr) (hpq : p ≠ q) (x : Value) (y : Int) (w : World) (hc : w.cell? p = some x) (hz : w.frozen? p = false) (hc2 : w.cell? q = some (.int .i64 y)) (hz2 : w.frozen? q = false) :
    CallsD Tryz.prog 75 #[.pointer (some p), .pointer (some q)] (.panicking [{ v := .iface 25 (.int .i64 2), recovered := false }]) w fun e u' w' =>
      e = .returned (.tuple #[]) ∧ u' = .panicking [{ v := .iface 25 (.int .i64 2), recovered := true }] ∧ w' = ((w.setCell p (.slice none 0 0)).setCell q (.int .i64 2)).drew := by
  refine callsD_of_wpS Tryz.func75 rfl fun c₀ cs hu => ?_
  apply wpS_seq
  apply wpS_region
  simp [wpOpsS, go_sem, recoverD, hu, Tryz.ntmps75, Exit.thenS]
  apply wpS_seq
  apply wpS_region
  simp [wpOpsS, go_sem, Exit.thenS]
  refine wpS_cond (t := true) (by simp [Act.eval, Array.replicate]) ?_
  simp only [if_true]
  refine wpS_of_wp ?_
  change Code.wp _ _ _ { tmps := #[.pointer (some p), .pointer (some q), .iface 25 (.int .i64 2), .iface 25 (.int .i64 2), .iface 25 (.int .i64 2), .bool true, undef, undef], defers := [] } w
  have hta : ∀ w, (Instr.typeAssert (.iface 25 (.int .i64 2)) 20 25 false).run Tryz.prog w = .ok (.int .i64 2) w := fun _ => by kernel_rfl
  obtain ⟨v', hv'⟩ := cell?_setCell_some (w := w.drew) (p := p) (x := .slice none 0 0) (q := q) (v := .int .i64 y) (by go_simp)
  have hc3 : (w.setCell p (.slice none 0 0)).cell? q = some (.int .i64 y) := by rw [World.cell?_setCell_other _ _ _ _ hpq]; exact hc2
  go_region
  cases c₀
  simp_all [bodyPostS, results, Tryz.results75]
end Go.Proofs.YteodldmbnghfcaaGreat
