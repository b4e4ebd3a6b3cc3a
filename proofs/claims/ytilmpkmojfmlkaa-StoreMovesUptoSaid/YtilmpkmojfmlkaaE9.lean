/- How many were there. -/
import Derived.Test.YtilmpkmojfmlkaaE8
namespace Go.Proofs.Ytilmpkmojfmlkaa
open Go.RowKit

theorem insT_length (lt : Tp → Tp → Bool) (t : Tp) : ∀ l : List Tp, (insT lt t l).length = l.length + 1 := by
  intro l
  induction l with
  | nil => rfl
  | cons x l ih =>
    unfold insT
    by_cases h : lt t x = true
    · rw [if_pos h]; rfl
    · rw [if_neg h, List.length_cons, ih, List.length_cons]
theorem withT_length (lt : Tp → Tp → Bool) (l : List Tp) (t : Tp) : (withT lt l t).length ≤ l.length + 1 := by
  unfold withT
  by_cases h : t ∈ l
  · rw [if_pos h]; omega
  · rw [if_neg h, insT_length]; exact Nat.le_refl _
theorem atFold_length (lt : Tp → Tp → Bool) (rev : Int) : ∀ (R : List Rw) (l : List Tp), (R.foldl (atStep lt rev) l).length ≤ l.length + R.countP fun x => (⟨x.s, x.u⟩ : Sp).at_ rev := by
  intro R
  induction R with
  | nil => intro l; exact Nat.le_refl _
  | cons x R ih =>
    intro l
    rw [List.foldl_cons]
    refine Nat.le_trans (ih _) ?_
    rw [List.countP_cons]
    unfold atStep
    by_cases hx : (⟨x.s, x.u⟩ : Sp).at_ rev = true
    · rw [if_pos hx, if_pos hx]
      have := withT_length lt l x.t
      omega
    · rw [if_neg hx, if_neg hx]; omega
theorem atR_length (lt : Tp → Tp → Bool) (R : List Rw) (rev : Int) : (atR lt R rev).length ≤ R.countP fun x => (⟨x.s, x.u⟩ : Sp).at_ rev := by
  have := atFold_length lt rev R []
  simpa [atR] using this
theorem three_filters {α : Type} (p q r : α → Bool) (h1 : ∀ x, p x = true → q x = false) (h2 : ∀ x, p x = true → r x = false) (h3 : ∀ x, q x = true → r x = false) : ∀ l : List α, (l.filter p).length + (l.filter q).length + (l.filter r).length ≤ l.length := by
  intro l
  induction l with
  | nil => exact Nat.le_refl _
  | cons x l ih =>
    have e := h1 x
    have f := h2 x
    have g := h3 x
    rw [List.filter_cons, List.filter_cons, List.filter_cons]
    cases hp : p x <;> cases hq : q x <;> cases hr : r x <;> simp [hp, hq, hr] at e f g ⊢ <;> omega
/-- In a list without twice the same one a tuple is there once, or not at all. -/
theorem count_one {l : List Tp} (h : l.Nodup) (t : Tp) : l.countP (fun x => decide (x = t)) = if t ∈ l then 1 else 0 := by
  induction l with
  | nil => simp
  | cons x l ih =>
    rw [List.nodup_cons] at h
    rw [List.countP_cons, ih h.2]
    by_cases hx : x = t
    · subst hx
      simp [h.1]
    · have hx2 : ¬ t = x := fun e => hx e.symm
      simp [hx, hx2]
theorem TSorted.nodup {lt : Tp → Tp → Bool} (h : TOrd lt) {l : List Tp} (hl : TSorted lt l) : l.Nodup := by
  unfold List.Nodup
  exact List.Pairwise.imp (fun hab e => by rw [e, h.irr] at hab; cases hab) hl
end Go.Proofs.Ytilmpkmojfmlkaa
