/- What was there at a revision: of the document's rows, and of the store of spans. -/
import Derived.Test.YtilmpkmojfmlkaaE5
namespace Go.Proofs.Ytilmpkmojfmlkaa
open Go.RowKit

def TSorted (lt : Tp → Tp → Bool) (l : List Tp) : Prop := l.Pairwise fun a b => lt a b = true
theorem tsorted_unique {lt : Tp → Tp → Bool} (h : TOrd lt) : ∀ {a b : List Tp}, TSorted lt a → TSorted lt b → (∀ x, x ∈ a ↔ x ∈ b) → a = b := by
  intro a
  induction a with
  | nil =>
    intro b _ _ hm
    cases b with
    | nil => rfl
    | cons y b => exact absurd ((hm y).2 (by simp)) (by simp)
  | cons x a ih =>
    intro b ha hb hm
    cases b with
    | nil => exact absurd ((hm x).1 (by simp)) (by simp)
    | cons y b =>
      have ha2 := List.pairwise_cons.1 ha
      have hb2 := List.pairwise_cons.1 hb
      have hxy : x = y := by
        rcases List.mem_cons.1 ((hm x).1 (by simp)) with h1 | h1
        · exact h1
        · rcases List.mem_cons.1 ((hm y).2 (by simp)) with h2 | h2
          · exact h2.symm
          · have := h.tr _ _ _ (hb2.1 x h1) (ha2.1 y h2)
            rw [h.irr] at this; cases this
      subst hxy
      have hx : ∀ z : Tp, lt x z = true → z ≠ x := fun z hz e => by rw [e, h.irr] at hz; cases hz
      congr 1
      refine ih ha2.2 hb2.2 fun z => ⟨fun hz => ?_, fun hz => ?_⟩
      · rcases List.mem_cons.1 ((hm z).1 (List.mem_cons_of_mem _ hz)) with h1 | h1
        · exact absurd h1 (hx z (ha2.1 z hz))
        · exact h1
      · rcases List.mem_cons.1 ((hm z).2 (List.mem_cons_of_mem _ hz)) with h1 | h1
        · exact absurd h1 (hx z (hb2.1 z hz))
        · exact h1
/-- One tuple more in order, if it isn't there. -/
def insT (lt : Tp → Tp → Bool) (t : Tp) : List Tp → List Tp
  | [] => [t]
  | x :: l => if lt t x then t :: x :: l else x :: insT lt t l
theorem insT_mem (lt : Tp → Tp → Bool) (t y : Tp) : ∀ l : List Tp, y ∈ insT lt t l ↔ y = t ∨ y ∈ l := by
  intro l
  induction l with
  | nil => simp [insT]
  | cons x l ih =>
    unfold insT
    by_cases h : lt t x = true
    · rw [if_pos h]; simp
    · rw [if_neg h, List.mem_cons, ih, List.mem_cons]
      constructor
      · rintro (h1 | h1 | h1)
        · exact .inr (.inl h1)
        · exact .inl h1
        · exact .inr (.inr h1)
      · rintro (h1 | h1 | h1)
        · exact .inr (.inl h1)
        · exact .inl h1
        · exact .inr (.inr h1)
theorem insT_sorted {lt : Tp → Tp → Bool} (h : TOrd lt) (t : Tp) : ∀ {l : List Tp}, TSorted lt l → t ∉ l → TSorted lt (insT lt t l) := by
  intro l
  induction l with
  | nil => intro _ _; simp [insT, TSorted]
  | cons x l ih =>
    intro hs hn
    have hs2 := List.pairwise_cons.1 hs
    rw [List.mem_cons, not_or] at hn
    unfold insT
    by_cases hb : lt t x = true
    · rw [if_pos hb]
      refine List.pairwise_cons.2 ⟨fun y hy => ?_, hs⟩
      rcases List.mem_cons.1 hy with h1 | h1
      · rw [h1]; exact hb
      · exact h.tr _ _ _ hb (hs2.1 y h1)
    · rw [if_neg hb]
      refine List.pairwise_cons.2 ⟨fun y hy => ?_, ih hs2.2 hn.2⟩
      rcases (insT_mem lt t y l).1 hy with h1 | h1
      · rw [h1]; exact h.tri _ _ hn.1 (by simpa using hb)
      · exact hs2.1 y h1
def withT (lt : Tp → Tp → Bool) (l : List Tp) (t : Tp) : List Tp := if t ∈ l then l else insT lt t l
theorem withT_mem (lt : Tp → Tp → Bool) (l : List Tp) (t y : Tp) : y ∈ withT lt l t ↔ y = t ∨ y ∈ l := by
  unfold withT
  by_cases h : t ∈ l
  · rw [if_pos h]
    exact ⟨.inr, fun h1 => h1.elim (fun e => e ▸ h) id⟩
  · rw [if_neg h]; exact insT_mem lt t y l
theorem withT_sorted {lt : Tp → Tp → Bool} (h : TOrd lt) {l : List Tp} (hl : TSorted lt l) (t : Tp) : TSorted lt (withT lt l t) := by
  unfold withT
  by_cases h1 : t ∈ l
  · rw [if_pos h1]; exact hl
  · rw [if_neg h1]; exact insT_sorted h t hl h1
/-- The tuples that were there, in order. -/
def atStep (lt : Tp → Tp → Bool) (rev : Int) (l : List Tp) (x : Rw) : List Tp := if (⟨x.s, x.u⟩ : Sp).at_ rev then withT lt l x.t else l
def atR (lt : Tp → Tp → Bool) (R : List Rw) (rev : Int) : List Tp := R.foldl (atStep lt rev) []
theorem atFold {lt : Tp → Tp → Bool} (h : TOrd lt) (rev : Int) : ∀ (R : List Rw) (l : List Tp), TSorted lt l →
    TSorted lt (R.foldl (atStep lt rev) l) ∧ ∀ t, t ∈ R.foldl (atStep lt rev) l ↔ t ∈ l ∨ ∃ x ∈ R, x.t = t ∧ (⟨x.s, x.u⟩ : Sp).at_ rev = true := by
  intro R
  induction R with
  | nil => exact fun l hl => ⟨hl, fun t => by simp⟩
  | cons x R ih =>
    intro l hl
    have h1 : TSorted lt (atStep lt rev l x) := by
      unfold atStep
      by_cases hx : (⟨x.s, x.u⟩ : Sp).at_ rev = true
      · rw [if_pos hx]; exact withT_sorted h hl _
      · rw [if_neg hx]; exact hl
    have h2 : ∀ t, t ∈ atStep lt rev l x ↔ t ∈ l ∨ (x.t = t ∧ (⟨x.s, x.u⟩ : Sp).at_ rev = true) := fun t => by
      unfold atStep
      by_cases hx : (⟨x.s, x.u⟩ : Sp).at_ rev = true
      · rw [if_pos hx, withT_mem]
        exact ⟨fun h3 => h3.elim (fun e => .inr ⟨e.symm, hx⟩) .inl, fun h3 => h3.elim .inr (fun e => .inl e.1.symm)⟩
      · rw [if_neg hx]
        exact ⟨.inl, fun h3 => h3.elim id (fun e => absurd e.2 hx)⟩
    obtain ⟨i1, i2⟩ := ih _ h1
    refine ⟨i1, fun t => ?_⟩
    rw [List.foldl_cons, i2, h2]
    constructor
    · rintro ((h3 | h3) | ⟨y, hy, h3⟩)
      · exact .inl h3
      · exact .inr ⟨x, by simp, h3⟩
      · exact .inr ⟨y, List.mem_cons_of_mem _ hy, h3⟩
    · rintro (h3 | ⟨y, hy, h3⟩)
      · exact .inl (.inl h3)
      · rcases List.mem_cons.1 hy with h4 | h4
        · rw [h4] at h3; exact .inl (.inr h3)
        · exact .inr ⟨y, h4, h3⟩
theorem atR_sorted {lt : Tp → Tp → Bool} (h : TOrd lt) (R : List Rw) (rev : Int) : TSorted lt (atR lt R rev) := (atFold h rev R [] (by simp [TSorted])).1
theorem Rep.at_ {lt : Tp → Tp → Bool} (h : TOrd lt) {M : SM} {R : List Rw} (hr : Rep lt M R) (rev : Int) (t : Tp) : t ∈ atR lt R rev ↔ spThere (M.sp t) rev = true := by
  unfold atR
  rw [(atFold h rev R [] (by simp [TSorted])).2]
  unfold spThere
  rw [List.any_eq_true]
  constructor
  · rintro (h1 | ⟨⟨xt, xs, xu⟩, hx, he, ha⟩)
    · exact absurd h1 (by simp)
    · have he2 : xt = t := he
      subst he2
      exact ⟨⟨xs, xu⟩, (hr.mem _ _ _).1 hx, ha⟩
  · rintro ⟨⟨xs, xu⟩, hx, ha⟩
    exact .inr ⟨⟨t, xs, xu⟩, (hr.mem _ _ _).2 hx, rfl, ha⟩
/-- A list of the tuples that were there, of those that p picks, in order: it is what the document's list has of them. -/
theorem Rep.picks {lt : Tp → Tp → Bool} (h : TOrd lt) {M : SM} {R : List Rw} (hr : Rep lt M R) (rev : Int) (p : Tp → Bool) {l : List Tp} (hs : TSorted lt l) (hl : ∀ t, t ∈ l ↔ p t = true ∧ spThere (M.sp t) rev = true) : l = (atR lt R rev).filter p := by
  refine tsorted_unique h hs ((atR_sorted h R rev).filter p) fun t => ?_
  rw [List.mem_filter, hr.at_ h, hl]
  exact ⟨fun h1 => ⟨h1.2, h1.1⟩, fun h1 => ⟨h1.2, h1.1⟩⟩
/-- What is read at a revision stays so, whatever is changed behind it. -/
theorem oneSp_there {l : List Sp} (h : l = [] ∨ SpOk l) {rev r : Int} (d : Bool) (hlt : r < rev) (h1 : 1 ≤ rev) : spThere (oneSp l rev d) r = spThere l r := by
  unfold oneSp
  cases ho : openB l with
  | false =>
    cases d with
    | true => simp
    | false =>
      simp only [Bool.false_eq_true, if_false]
      unfold spThere
      rw [List.any_append]
      have : ([⟨rev, 0⟩] : List Sp).any (·.at_ r) = false := by
        unfold Sp.at_
        have : ¬ rev ≤ r := by omega
        simp [this]
      rw [this, Bool.or_false]
  | true =>
    cases d with
    | false => simp
    | true =>
      simp only [if_true]
      rcases h with h2 | h2
      · rw [h2] at ho; cases ho
      · cases hl : l.getLast? with
        | none => exact absurd (List.getLast?_eq_none_iff.1 hl) h2.ne
        | some x =>
          have hs := last_split hl
          have hx0 : x.u = 0 := by unfold openB at ho; rw [hl] at ho; simpa using ho
          have he : endB l rev = l.dropLast ++ [⟨x.s, rev⟩] := by unfold endB; rw [hl]
          have hat : (⟨x.s, rev⟩ : Sp).at_ r = x.at_ r := by
            unfold Sp.at_ Sp.over
            have h3 : rev ≠ 0 := by omega
            have h4 : ¬ rev ≤ r := by omega
            simp [hx0, h4]
          unfold spThere
          rw [he, List.any_append]
          conv => rhs; rw [hs, List.any_append]
          simp only [List.any_cons, List.any_nil, hat]
end Go.Proofs.Ytilmpkmojfmlkaa
