/- What is collected isn't missed; rows loaded are the spans again. -/
import Derived.Test.YtilmpkmojfmlkaaE6
namespace Go.Proofs.Ytilmpkmojfmlkaa
open Go.RowKit

theorem collect_there {l : List Sp} {mark rev : Int} (h : mark ≤ rev) : spThere (collectB l mark) rev = spThere l rev := by
  unfold spThere collectB
  rw [Bool.eq_iff_iff, List.any_eq_true, List.any_eq_true]
  constructor
  · rintro ⟨x, hx, ha⟩
    exact ⟨x, (List.mem_filter.1 hx).1, ha⟩
  · rintro ⟨x, hx, ha⟩
    refine ⟨x, List.mem_filter.2 ⟨hx, ?_⟩, ha⟩
    unfold Sp.at_ Sp.over at ha
    unfold Sp.over
    simp at ha ⊢
    omega
theorem strict_unique {α : Type} {r : α → α → Prop} (irr : ∀ a, ¬ r a a) (tr : ∀ a b c, r a b → r b c → r a c) : ∀ {a b : List α}, a.Pairwise r → b.Pairwise r → (∀ x, x ∈ a ↔ x ∈ b) → a = b := by
  intro a
  induction a with
  | nil =>
    intro b _ _ hm
    cases b with
    | nil => rfl
    | cons y b => exact absurd ((hm y).2 (by simp)) (by simp)
  | cons x a ih =>
    intro b ha hb hm
    cases b with
    | nil => exact absurd ((hm x).1 (by simp)) (by simp)
    | cons y b =>
      have ha2 := List.pairwise_cons.1 ha
      have hb2 := List.pairwise_cons.1 hb
      have hxy : x = y := by
        rcases List.mem_cons.1 ((hm x).1 (by simp)) with h1 | h1
        · exact h1
        · rcases List.mem_cons.1 ((hm y).2 (by simp)) with h2 | h2
          · exact h2.symm
          · exact absurd (tr _ _ _ (hb2.1 x h1) (ha2.1 y h2)) (irr _)
      subst hxy
      have hx : ∀ z : α, r x z → z ≠ x := fun z hz e => irr x (e ▸ hz)
      congr 1
      refine ih ha2.2 hb2.2 fun z => ⟨fun hz => ?_, fun hz => ?_⟩
      · rcases List.mem_cons.1 ((hm z).1 (List.mem_cons_of_mem _ hz)) with h1 | h1
        · exact absurd h1 (hx z (ha2.1 z hz))
        · exact h1
      · rcases List.mem_cons.1 ((hm z).2 (List.mem_cons_of_mem _ hz)) with h1 | h1
        · exact absurd h1 (hx z (hb2.1 z hz))
        · exact h1
/-- A tuple's rows are its spans. -/
def spOf (R : List Rw) (t : Tp) : List Sp := (R.filter fun x => decide (x.t = t)).map fun x => ⟨x.s, x.u⟩
theorem SpOk.since_asc {l : List Sp} (h : SpOk l) : l.Pairwise fun a b => a.s < b.s := by
  refine List.Pairwise.imp_of_mem ?_ h.asc
  intro a b ha hb hab
  rcases (h.all a ha).2.2 with h1 | h1
  · exact absurd h1 hab.1
  · omega
theorem Rep.spOf {lt : Tp → Tp → Bool} {M : SM} {R : List Rw} (hr : Rep lt M R) (hm : SMOk M) (t : Tp) : spOf R t = M.sp t := by
  have hmem : ∀ x : Sp, x ∈ Proofs.Ytilmpkmojfmlkaa.spOf R t ↔ x ∈ M.sp t := by
    intro ⟨s, u⟩
    unfold Proofs.Ytilmpkmojfmlkaa.spOf
    rw [List.mem_map]
    constructor
    · rintro ⟨⟨xt, xs, xu⟩, hx, he⟩
      rw [List.mem_filter] at hx
      have h1 : xt = t := by simpa using hx.2
      injection he with h2 h3
      subst h1
      have h2' : xs = s := h2
      have h3' : xu = u := h3
      subst h2'
      subst h3'
      exact (hr.mem _ _ _).1 hx.1
    · intro h1
      exact ⟨⟨t, s, u⟩, List.mem_filter.2 ⟨(hr.mem _ _ _).2 h1, by simp⟩, rfl⟩
  refine strict_unique (r := fun a b : Sp => a.s < b.s) (fun a => Int.lt_irrefl _) (fun a b c => Int.lt_trans) ?_ ?_ hmem
  · unfold Proofs.Ytilmpkmojfmlkaa.spOf
    rw [List.pairwise_map]
    refine List.Pairwise.imp_of_mem ?_ (hr.so.filter _)
    intro a b ha hb hab
    have h1 : a.t = t := by simpa using (List.mem_filter.1 ha).2
    have h2 : b.t = t := by simpa using (List.mem_filter.1 hb).2
    unfold rlt at hab
    rw [if_pos (h1.trans h2.symm)] at hab
    simpa using hab
  · rcases hm.sp_cases t with h1 | h1
    · rw [h1]; exact List.Pairwise.nil
    · exact h1.since_asc
/-- Rows are loaded. -/
def SM.loadRow (M : SM) (x : Rw) : SM := M.put x.t (M.sp x.t ++ [⟨x.s, x.u⟩])
def SM.load (M : SM) (l : List Rw) : SM := l.foldl SM.loadRow M
def loadR (lt : Tp → Tp → Bool) (R l : List Rw) : List Rw := l.foldl (fun R x => withR lt x R) R
def LoadOk : SM → List Rw → Prop
  | _, [] => True
  | M, x :: l => AddOk M x.t ⟨x.s, x.u⟩ ∧ LoadOk (M.loadRow x) l
theorem SMOk.load : ∀ {l : List Rw} {M : SM}, SMOk M → LoadOk M l → SMOk (M.load l) := by
  intro l
  induction l with
  | nil => exact fun h _ => h
  | cons x l ih => exact fun h hl => ih (h.addSp hl.1) hl.2
theorem Rep.load {lt : Tp → Tp → Bool} (h : TOrd lt) : ∀ {l : List Rw} {M : SM} {R : List Rw}, Rep lt M R → SMOk M → LoadOk M l → Rep lt (M.load l) (loadR lt R l) := by
  intro l
  induction l with
  | nil => exact fun hr _ _ => hr
  | cons x l ih => exact fun hr hm hl => ih (hr.addSp h hm hl.1) (hm.addSp hl.1) hl.2
theorem SM.load_sp : ∀ (l : List Rw) (M : SM) (t : Tp), (M.load l).sp t = M.sp t ++ Proofs.Ytilmpkmojfmlkaa.spOf l t := by
  intro l
  induction l with
  | nil => intro M t; simp [SM.load, spOf]
  | cons x l ih =>
    intro M t
    show ((M.loadRow x).load l).sp t = _
    rw [ih]
    unfold SM.loadRow spOf
    by_cases ht : x.t = t
    · rw [ht, SM.put_same]; simp [ht]
    · rw [SM.put_other M _ (fun e => ht e.symm)]; simp [ht]
theorem SM.load_mem : ∀ (l : List Rw) (M : SM) (t : Tp), t ∈ (M.load l).K ↔ t ∈ M.K ∨ ∃ x ∈ l, x.t = t := by
  intro l
  induction l with
  | nil => intro M t; simp [SM.load]
  | cons x l ih =>
    intro M t
    show t ∈ ((M.loadRow x).load l).K ↔ _
    rw [ih]
    unfold SM.loadRow
    rw [SM.put_mem]
    constructor
    · rintro ((h1 | h1) | ⟨y, hy, h1⟩)
      · exact .inl h1
      · exact .inr ⟨x, by simp, h1.symm⟩
      · exact .inr ⟨y, List.mem_cons_of_mem _ hy, h1⟩
    · rintro (h1 | ⟨y, hy, h1⟩)
      · exact .inl (.inl h1)
      · rcases List.mem_cons.1 hy with h2 | h2
        · rw [h2] at h1; exact .inl (.inr h1.symm)
        · exact .inr ⟨y, h2, h1⟩
/-- A tuple's spans in order: each can be added behind those ahead of it. -/
theorem SpOk.addOk {l : List Sp} (h : SpOk l) {p q : List Sp} {x : Sp} (he : l = p ++ x :: q) {M : SM} {t : Tp} (hM : M.sp t = p) : AddOk M t x := by
  refine ⟨h.all x (by rw [he]; simp), fun y hy => ?_⟩
  rw [hM] at hy
  have hp := h.asc
  rw [he] at hp
  exact (List.pairwise_append.1 hp).2.2 y (List.mem_of_getLast? hy) x (by simp)
/-- A store's rows can be loaded into an empty one. -/
theorem Rep.loadOk {lt : Tp → Tp → Bool} {M : SM} {R : List Rw} (hr : Rep lt M R) (hm : SMOk M) : LoadOk SM.empty R := by
  have key : ∀ (q p : List Rw), R = p ++ q → LoadOk (SM.empty.load p) q := by
    intro q
    induction q with
    | nil => intro p _; exact trivial
    | cons x q ih =>
      intro p he
      refine ⟨?_, ?_⟩
      · have h1 := hr.spOf hm x.t
        have hx : (⟨x.s, x.u⟩ : Sp) ∈ M.sp x.t := (hr.mem x.t x.s x.u).1 (by rw [he]; simp)
        have hok : SpOk (M.sp x.t) := by
          rcases hm.sp_cases x.t with h2 | h2
          · rw [h2] at hx; exact absurd hx (by simp)
          · exact h2
        refine hok.addOk (p := Proofs.Ytilmpkmojfmlkaa.spOf p x.t) (q := Proofs.Ytilmpkmojfmlkaa.spOf q x.t) ?_ ?_
        · rw [← h1, he]; unfold Proofs.Ytilmpkmojfmlkaa.spOf; simp
        · rw [SM.load_sp]; simp [SM.empty]
      · have h2 := ih (p ++ [x]) (by rw [he]; simp)
        have h3 : SM.empty.load (p ++ [x]) = (SM.empty.load p).loadRow x := by unfold SM.load; rw [List.foldl_append]; rfl
        rw [h3] at h2
        exact h2
  exact key R [] rfl
theorem Rep.load_back {lt : Tp → Tp → Bool} {M : SM} {R : List Rw} (hr : Rep lt M R) (hm : SMOk M) (t : Tp) : (SM.empty.load R).sp t = M.sp t := by
  rw [SM.load_sp, hr.spOf hm]; simp [SM.empty]
end Go.Proofs.Ytilmpkmojfmlkaa
