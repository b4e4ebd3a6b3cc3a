/- OutboxPlays, for all numbers. -/
import Derived.Test.YtefllbmopaiojaaOP4
namespace Go.Proofs.Ytefllbmopaiojaa
open Go.RowKit

theorem plays_walk (p s : Int) (a : Option Addr) (n k : Nat) (w : World) (ho : OpsIn w a n) (hn : n ≤ 140737488355328) :
    Calls Try.prog 3 #[.int .i64 p, .int .i64 s, .slice a n k] w fun e w' => e = .returned (.bool true) ∧ Below w.heap.size w w' := by
  by_cases h : p < 1 ∨ 1000 < p ∨ s < 1 ∨ 4096 < s
  · exact oplays_bad p s a n k w h
  · obtain ⟨m, rfl⟩ : ∃ m : Nat, p = (m : Int) := ⟨p.toNat, by omega⟩
    obtain ⟨t, rfl⟩ : ∃ t : Nat, s = (t : Int) := ⟨s.toNat, by omega⟩
    exact oplays_good m t a n k w (by omega) (by omega) (by omega) (by omega) ho hn
end Go.Proofs.Ytefllbmopaiojaa
