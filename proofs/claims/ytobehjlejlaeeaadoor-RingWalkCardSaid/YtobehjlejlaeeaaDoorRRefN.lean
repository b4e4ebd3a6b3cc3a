/- The document's first table. -/
import Derived.Test.YtobehjlejlaeeaaDoorRRef2
namespace Go.Proofs.YtobehjlejlaeeaaDoor
open Go.RowKit

/-- The document's way: the least way so far, and whose it is. -/
def Mt.rstep (at_ : Nat) (b p : Nat × Nat) : Nat × Nat := if Mt.far at_ p.1 < b.1 then (Mt.far at_ p.1, p.2) else b
def Mt.rfold (at_ : Nat) (b : Nat × Nat) (l : List (Nat × Nat)) : Nat × Nat := l.foldl (Mt.rstep at_) b
theorem Mt.rfold_snoc (at_ : Nat) (b p : Nat × Nat) (l : List (Nat × Nat)) : Mt.rfold at_ b (l ++ [p]) = Mt.rstep at_ (Mt.rfold at_ b l) p := by
  unfold Mt.rfold
  rw [List.foldl_append, List.foldl_cons, List.foldl_nil]
theorem Mt.far_lt (a x : Nat) : Mt.far a x < 4294967296 := by
  unfold Mt.far
  omega
theorem Mt.rfold_first (at_ : Nat) (l : List (Nat × Nat)) : ∀ f : Nat × Nat, Mt.rfold at_ (Mt.far at_ f.1, f.2) l = (Mt.far at_ (Mt.firstOf at_ f l).1, (Mt.firstOf at_ f l).2) := by
  induction l with
  | nil => exact fun f => rfl
  | cons p l ih =>
    intro f
    have h1 : Mt.rfold at_ (Mt.far at_ f.1, f.2) (p :: l) = Mt.rfold at_ (Mt.rstep at_ (Mt.far at_ f.1, f.2) p) l := rfl
    have h2 : Mt.firstOf at_ f (p :: l) = Mt.firstOf at_ (Mt.pick at_ f p) l := rfl
    rw [h1, h2]
    unfold Mt.rstep Mt.pick
    by_cases hc : Mt.far at_ p.1 < Mt.far at_ f.1
    · rw [if_pos hc, if_pos hc]
      exact ih p
    · rw [if_neg hc, if_neg hc]
      exact ih f
theorem Mt.rfold_own (at_ big : Nat) (l : List (Nat × Nat)) (hl : l ≠ []) (hb : 4294967296 ≤ big) : (Mt.rfold at_ (big, 0) l).2 = Mt.owner at_ l := by
  cases l with
  | nil => exact absurd rfl hl
  | cons x l =>
    have hx := Mt.far_lt at_ x.1
    have h1 : Mt.rfold at_ (big, 0) (x :: l) = Mt.rfold at_ (Mt.rstep at_ (big, 0) x) l := rfl
    have h2 : Mt.owner at_ (x :: l) = (Mt.firstOf at_ x (x :: l)).2 := rfl
    have h3 : Mt.firstOf at_ x (x :: l) = Mt.firstOf at_ (Mt.pick at_ x x) l := rfl
    rw [h1, h2, h3]
    unfold Mt.rstep Mt.pick
    rw [if_pos (by simp only; omega), if_neg (Nat.lt_irrefl _), Mt.rfold_first]
theorem Mt.rfold_in {at_ : Nat} (l : List (Nat × Nat)) : ∀ b : Nat × Nat, b.1 ≤ 1099511627776 → b.2 ≤ 8 → (∀ p ∈ l, p.2 ≤ 8) → (Mt.rfold at_ b l).1 ≤ 1099511627776 ∧ (Mt.rfold at_ b l).2 ≤ 8 := by
  induction l with
  | nil => exact fun b h1 h2 _ => ⟨h1, h2⟩
  | cons p l ih =>
    intro b h1 h2 hl
    have hf := Mt.far_lt at_ p.1
    refine ih (Mt.rstep at_ b p) ?_ ?_ (fun q hq => hl q (by simp [hq]))
    · unfold Mt.rstep
      split
      · simp only; omega
      · exact h1
    · unfold Mt.rstep
      split
      · exact hl p (by simp)
      · exact h2
end Go.Proofs.YtobehjlejlaeeaaDoor
