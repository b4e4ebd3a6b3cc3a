/- OutboxRow, for all numbers. -/
import Derived.Test.YtefllbmopaiojaaOR2
namespace Go.Proofs.Ytefllbmopaiojaa
open Go.RowKit

theorem row_walk (p : Int) (a : Option Addr) (n k : Nat) (w : World) (ho : OpsIn w a n) (hn : n ≤ 140737488355328) :
    Calls Try.prog 6 #[.int .i64 p, .slice a n k] w fun e w' => e = .returned (.bool true) ∧ Below w.heap.size w w' := by
  by_cases h : p < 1 ∨ 1000 < p
  · exact row_bad p a n k w h
  · obtain ⟨m, rfl⟩ : ∃ m : Nat, p = (m : Int) := ⟨p.toNat, by omega⟩
    exact row_good m a n k w (by omega) (by omega) ho hn
end Go.Proofs.Ytefllbmopaiojaa
