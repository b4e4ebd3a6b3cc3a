/- The document's store: rows in order; what they are of a store of spans. -/
import Derived.Test.YtilmpkmojfmlkaaE2
namespace Go.Proofs.Ytilmpkmojfmlkaa
open Go.RowKit

/-- A row. -/
structure Rw where
  t : Tp
  s : Int
  u : Int
instance : DecidableEq Rw := fun a b => decidable_of_iff (a.t = b.t ∧ a.s = b.s ∧ a.u = b.u)
  ⟨fun ⟨h1, h2, h3⟩ => by cases a; cases b; cases h1; cases h2; cases h3; rfl, fun h => by rw [h]; exact ⟨rfl, rfl, rfl⟩⟩
/-- An order of tuples. -/
structure TOrd (lt : Tp → Tp → Bool) : Prop where
  irr : ∀ a, lt a a = false
  tr : ∀ a b c, lt a b = true → lt b c = true → lt a c = true
  tri : ∀ a b, a ≠ b → lt a b = false → lt b a = true
/-- Does a row stand ahead of another one? -/
def rlt (lt : Tp → Tp → Bool) (a b : Rw) : Bool := if a.t = b.t then decide (a.s < b.s) else lt a.t b.t
theorem rlt_irr {lt : Tp → Tp → Bool} (a : Rw) : rlt lt a a = false := by simp [rlt]
theorem rlt_tr {lt : Tp → Tp → Bool} (h : TOrd lt) {a b c : Rw} (h1 : rlt lt a b = true) (h2 : rlt lt b c = true) : rlt lt a c = true := by
  unfold rlt at *
  by_cases e1 : a.t = b.t
  · rw [if_pos e1] at h1
    rw [e1]
    by_cases e2 : b.t = c.t
    · rw [if_pos e2] at h2 ⊢
      simp at h1 h2 ⊢; omega
    · rw [if_neg e2] at h2 ⊢; exact h2
  · rw [if_neg e1] at h1
    by_cases e2 : b.t = c.t
    · rw [← e2, if_neg e1]; exact h1
    · rw [if_neg e2] at h2
      have h3 := h.tr _ _ _ h1 h2
      by_cases e3 : a.t = c.t
      · rw [e3, h.irr] at h3; cases h3
      · rw [if_neg e3]; exact h3
theorem rlt_tri {lt : Tp → Tp → Bool} (h : TOrd lt) {a b : Rw} (hn : ¬ (a.t = b.t ∧ a.s = b.s)) (h1 : rlt lt a b = false) : rlt lt b a = true := by
  unfold rlt at *
  by_cases e : a.t = b.t
  · rw [if_pos e] at h1
    rw [if_pos e.symm]
    simp at h1 ⊢
    have : a.s ≠ b.s := fun e2 => hn ⟨e, e2⟩
    omega
  · rw [if_neg e] at h1
    rw [if_neg (fun e2 => e e2.symm)]
    exact h.tri _ _ e h1
def RSorted (lt : Tp → Tp → Bool) (l : List Rw) : Prop := l.Pairwise fun a b => rlt lt a b = true
/-- In order there is one list of given rows. -/
theorem rsorted_unique {lt : Tp → Tp → Bool} (h : TOrd lt) : ∀ {a b : List Rw}, RSorted lt a → RSorted lt b → (∀ x, x ∈ a ↔ x ∈ b) → a = b := by
  intro a
  induction a with
  | nil =>
    intro b _ _ hm
    cases b with
    | nil => rfl
    | cons y b => exact absurd ((hm y).2 (by simp)) (by simp)
  | cons x a ih =>
    intro b ha hb hm
    cases b with
    | nil => exact absurd ((hm x).1 (by simp)) (by simp)
    | cons y b =>
      have ha2 := List.pairwise_cons.1 ha
      have hb2 := List.pairwise_cons.1 hb
      have hxy : x = y := by
        rcases List.mem_cons.1 ((hm x).1 (by simp)) with h1 | h1
        · exact h1
        · rcases List.mem_cons.1 ((hm y).2 (by simp)) with h2 | h2
          · exact h2.symm
          · have := rlt_tr h (hb2.1 x h1) (ha2.1 y h2)
            rw [rlt_irr] at this; cases this
      subst hxy
      have hx : ∀ z : Rw, rlt lt x z = true → z ≠ x := fun z hz e => by rw [e, rlt_irr] at hz; cases hz
      congr 1
      refine ih ha2.2 hb2.2 fun z => ⟨fun hz => ?_, fun hz => ?_⟩
      · rcases List.mem_cons.1 ((hm z).1 (List.mem_cons_of_mem _ hz)) with h1 | h1
        · exact absurd h1 (hx z (ha2.1 z hz))
        · exact h1
      · rcases List.mem_cons.1 ((hm z).2 (List.mem_cons_of_mem _ hz)) with h1 | h1
        · exact absurd h1 (hx z (hb2.1 z hz))
        · exact h1
/-- One row more, in order. -/
def withR (lt : Tp → Tp → Bool) (r : Rw) : List Rw → List Rw
  | [] => [r]
  | x :: l => if rlt lt r x then r :: x :: l else x :: withR lt r l
theorem withR_mem (lt : Tp → Tp → Bool) (r y : Rw) : ∀ l : List Rw, y ∈ withR lt r l ↔ y = r ∨ y ∈ l := by
  intro l
  induction l with
  | nil => simp [withR]
  | cons x l ih =>
    unfold withR
    by_cases h : rlt lt r x = true
    · rw [if_pos h]; simp
    · rw [if_neg h, List.mem_cons, ih, List.mem_cons]
      constructor
      · rintro (h1 | h1 | h1)
        · exact .inr (.inl h1)
        · exact .inl h1
        · exact .inr (.inr h1)
      · rintro (h1 | h1 | h1)
        · exact .inr (.inl h1)
        · exact .inl h1
        · exact .inr (.inr h1)
theorem withR_sorted {lt : Tp → Tp → Bool} (h : TOrd lt) (r : Rw) : ∀ {l : List Rw}, RSorted lt l → (∀ x ∈ l, ¬ (r.t = x.t ∧ r.s = x.s)) → RSorted lt (withR lt r l) := by
  intro l
  induction l with
  | nil => intro _ _; simp [withR, RSorted]
  | cons x l ih =>
    intro hs hn
    have hs2 := List.pairwise_cons.1 hs
    unfold withR
    by_cases hb : rlt lt r x = true
    · rw [if_pos hb]
      refine List.pairwise_cons.2 ⟨fun y hy => ?_, hs⟩
      rcases List.mem_cons.1 hy with h1 | h1
      · rw [h1]; exact hb
      · exact rlt_tr h hb (hs2.1 y h1)
    · rw [if_neg hb]
      refine List.pairwise_cons.2 ⟨fun y hy => ?_, ih hs2.2 (fun y hy => hn y (List.mem_cons_of_mem _ hy))⟩
      rcases (withR_mem lt r y l).1 hy with h1 | h1
      · rw [h1]; exact rlt_tri h (hn x (by simp)) (by simpa using hb)
      · exact hs2.1 y h1
/-- The rows of a store. -/
structure Rep (lt : Tp → Tp → Bool) (M : SM) (R : List Rw) : Prop where
  so : RSorted lt R
  mem : ∀ t s u, (⟨t, s, u⟩ : Rw) ∈ R ↔ (⟨s, u⟩ : Sp) ∈ M.sp t
theorem Rep.empty (lt : Tp → Tp → Bool) : Rep lt SM.empty [] := ⟨by simp [RSorted], by simp [SM.empty]⟩
theorem Rep.unique {lt : Tp → Tp → Bool} (h : TOrd lt) {M : SM} {a b : List Rw} (ha : Rep lt M a) (hb : Rep lt M b) : a = b :=
  rsorted_unique h ha.so hb.so fun ⟨t, s, u⟩ => (ha.mem t s u).trans (hb.mem t s u).symm
/-- One span more, that no other one begins with. -/
theorem Rep.with_ {lt : Tp → Tp → Bool} (h : TOrd lt) {M : SM} {R : List Rw} (hr : Rep lt M R) {t : Tp} {x : Sp} (hn : ∀ y ∈ M.sp t, y.s ≠ x.s) : Rep lt (M.put t (M.sp t ++ [x])) (withR lt ⟨t, x.s, x.u⟩ R) := by
  refine ⟨withR_sorted h _ hr.so (fun y hy e => ?_), fun t2 s u => ?_⟩
  · obtain ⟨yt, ys, yu⟩ := y
    have h1 := (hr.mem yt ys yu).1 hy
    have e1 : t = yt := e.1
    have e2 : x.s = ys := e.2
    rw [← e1] at h1
    exact hn _ h1 e2.symm
  · rw [withR_mem, hr.mem]
    by_cases ht : t2 = t
    · subst ht
      rw [SM.put_same, List.mem_append, List.mem_singleton]
      constructor
      · rintro (h1 | h1)
        · injection h1 with _ h2 h3
          exact .inr (by rw [h2, h3])
        · exact .inl h1
      · rintro (h1 | h1)
        · exact .inr h1
        · exact .inl (by rw [← h1])
    · rw [SM.put_other M _ ht]
      constructor
      · rintro (h1 | h1)
        · exact absurd (by injection h1) ht
        · exact h1
      · exact fun h1 => .inr h1
/-- Rows that stay: of a store whose spans stay as the rows do. -/
theorem Rep.filter {lt : Tp → Tp → Bool} {M N : SM} {R : List Rw} (hr : Rep lt M R) (p : Rw → Bool) (hN : ∀ t, N.sp t = (M.sp t).filter (fun x => p ⟨t, x.s, x.u⟩)) : Rep lt N (R.filter p) := by
  refine ⟨hr.so.filter p, fun t s u => ?_⟩
  rw [List.mem_filter, hr.mem, hN, List.mem_filter]
end Go.Proofs.Ytilmpkmojfmlkaa
