/- OutboxDue, for all numbers. -/
import Derived.Test.YtefllbmopaiojaaOD2
namespace Go.Proofs.Ytefllbmopaiojaa
open Go.RowKit

theorem due_walk (p : Int) (a : Option Addr) (n k : Nat) (ticks : Int) (w : World) (ho : OpsIn w a n) (_ : n ≤ 140737488355328) :
    Calls Try.prog 4 #[.int .i64 p, .slice a n k, .int .i64 ticks] w fun e w' => e = .returned (.bool true) ∧ Below w.heap.size w w' := by
  by_cases h : p < 1 ∨ 1000 < p
  · exact due_bad p a n k ticks w h
  · obtain ⟨m, rfl⟩ : ∃ m : Nat, p = (m : Int) := ⟨p.toNat, by omega⟩
    by_cases ht : ticks < 0 ∨ 3000 < ticks
    · exact due_out m a n k ticks w (by omega) (by omega) ht
    · obtain ⟨t, rfl⟩ : ∃ t : Nat, ticks = (t : Int) := ⟨ticks.toNat, by omega⟩
      exact due_good m a n k t w (by omega) (by omega) (by omega) ho
end Go.Proofs.Ytefllbmopaiojaa
