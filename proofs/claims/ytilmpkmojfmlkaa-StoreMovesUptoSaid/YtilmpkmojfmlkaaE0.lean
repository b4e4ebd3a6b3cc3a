/- The store's tuples with their spans, as lists. -/
import Derived.Test.YtilmpkmojfmlkaaTB
namespace Go.Proofs.Ytilmpkmojfmlkaa
open Go.RowKit

/-- A tuple. -/
structure Tp where
  o : ByteArray
  r : ByteArray
  u : ByteArray
instance : DecidableEq Tp := fun a b => decidable_of_iff (a.o = b.o ∧ a.r = b.r ∧ a.u = b.u)
  ⟨fun ⟨h1, h2, h3⟩ => by cases a; cases b; cases h1; cases h2; cases h3; rfl, fun h => by rw [h]; exact ⟨rfl, rfl, rfl⟩⟩
/-- A span: since, until. -/
structure Sp where
  s : Int
  u : Int
instance : DecidableEq Sp := fun a b => decidable_of_iff (a.s = b.s ∧ a.u = b.u)
  ⟨fun ⟨h1, h2⟩ => by cases a; cases b; cases h1; cases h2; rfl, fun h => by rw [h]; exact ⟨rfl, rfl⟩⟩
def maxRev : Int := 1125899906842624
/-- Has it ended? -/
def Sp.over (x : Sp) (rev : Int) : Bool := decide (x.u ≠ 0) && decide (x.u ≤ rev)
def Sp.at_ (x : Sp) (rev : Int) : Bool := decide (x.s ≤ rev) && !x.over rev
def Sp.ok (x : Sp) : Prop := 1 ≤ x.s ∧ x.s ≤ maxRev ∧ (x.u = 0 ∨ x.s < x.u ∧ x.u ≤ maxRev)
/-- Spans of one tuple: each begins behind the end of the one ahead of it. -/
structure SpOk (l : List Sp) : Prop where
  ne : l ≠ []
  all : ∀ x ∈ l, x.ok
  asc : l.Pairwise fun a b => a.u ≠ 0 ∧ a.u < b.s
def spThere (l : List Sp) (rev : Int) : Bool := l.any (·.at_ rev)
/-- How many have begun. -/
def begun (l : List Sp) (rev : Int) : Nat := (l.takeWhile fun x => decide (x.s ≤ rev)).length
theorem begun_le (l : List Sp) (rev : Int) : begun l rev ≤ l.length := by unfold begun; exact (List.takeWhile_sublist _).length_le
theorem begun_cons (x : Sp) (l : List Sp) (rev : Int) : begun (x :: l) rev = if x.s ≤ rev then begun l rev + 1 else 0 := by
  unfold begun
  rw [List.takeWhile_cons]
  by_cases h : x.s ≤ rev <;> simp [h]
/-- Of those that have begun all but the last one have ended. -/
theorem there_begun (rev : Int) : ∀ l : List Sp, (∀ x ∈ l, x.ok) → l.Pairwise (fun a b => a.u ≠ 0 ∧ a.u < b.s) → spThere l rev = (match begun l rev with
    | 0 => false
    | k + 1 => match l[k]? with
      | some x => !x.over rev
      | none => false) := by
  intro l
  induction l with
  | nil => intro _ _; rfl
  | cons x l ih =>
    intro ha hp
    have hx := ha x (by simp)
    rw [List.pairwise_cons] at hp
    have ih := ih (fun y hy => ha y (List.mem_cons_of_mem _ hy)) hp.2
    rw [begun_cons]
    by_cases h : x.s ≤ rev
    · rw [if_pos h]
      have hat : x.at_ rev = !x.over rev := by unfold Sp.at_; simp [h]
      show (x.at_ rev || spThere l rev) = _
      rw [ih, hat]
      cases hb : begun l rev with
      | zero => simp
      | succ k =>
        cases l with
        | nil => simp [begun] at hb
        | cons y l =>
          have hy : y.s ≤ rev := by
            rw [begun_cons] at hb
            split at hb
            · assumption
            · cases hb
          have hxy := hp.1 y (by simp)
          have hov : x.over rev = true := by unfold Sp.over; simp; omega
          rw [hov]
          simp
    · rw [if_neg h]
      have hno : ∀ y ∈ x :: l, y.at_ rev = false := fun y hy => by
        unfold Sp.at_
        rcases List.mem_cons.1 hy with h1 | h1
        · rw [h1]; simp [h]
        · have h2 := hp.1 y h1
          have h3 : x.s < y.s := by
            rcases hx.2.2 with h4 | h4
            · exact absurd h4 h2.1
            · omega
          have h5 : ¬ y.s ≤ rev := by omega
          simp [h5]
      show (x :: l).any _ = false
      rw [List.any_eq_false]
      intro y hy
      rw [hno y hy]
      decide
end Go.Proofs.Ytilmpkmojfmlkaa
