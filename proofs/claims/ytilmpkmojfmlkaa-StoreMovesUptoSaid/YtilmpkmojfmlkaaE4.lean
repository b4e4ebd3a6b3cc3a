/- One change of the document's rows: a tuple's last revision, its open row, and what a change is of the store of spans. -/
import Derived.Test.YtilmpkmojfmlkaaE3
namespace Go.Proofs.Ytilmpkmojfmlkaa
open Go.RowKit

theorem max_or (a b : Int) : max a b = a ∨ max a b = b := by omega
/-- A tuple's last revision in rows. -/
def lastStep (t : Tp) (a : Int) (x : Rw) : Int := if x.t = t then max (max a x.s) x.u else a
def lastR (R : List Rw) (t : Tp) : Int := R.foldl (lastStep t) 0
theorem lastFold_ge (t : Tp) : ∀ (R : List Rw) (a : Int), a ≤ R.foldl (lastStep t) a := by
  intro R
  induction R with
  | nil => intro a; exact Int.le_refl a
  | cons x R ih =>
    intro a
    refine Int.le_trans ?_ (ih _)
    unfold lastStep
    by_cases h : x.t = t
    · rw [if_pos h]; omega
    · rw [if_neg h]; omega
theorem lastFold_mem (t : Tp) : ∀ (R : List Rw) (a : Int), ∀ x ∈ R, x.t = t → x.s ≤ R.foldl (lastStep t) a ∧ x.u ≤ R.foldl (lastStep t) a := by
  intro R
  induction R with
  | nil => intro a x hx; exact absurd hx (by simp)
  | cons y R ih =>
    intro a x hx ht
    rcases List.mem_cons.1 hx with h1 | h1
    · subst h1
      have h2 := lastFold_ge t R (lastStep t a x)
      have h3 : lastStep t a x = max (max a x.s) x.u := by unfold lastStep; rw [if_pos ht]
      rw [List.foldl_cons]
      rw [h3] at h2 ⊢
      omega
    · exact ih _ x h1 ht
theorem lastFold_le (t : Tp) (m : Int) : ∀ (R : List Rw) (a : Int), a ≤ m → (∀ x ∈ R, x.t = t → x.s ≤ m ∧ x.u ≤ m) → R.foldl (lastStep t) a ≤ m := by
  intro R
  induction R with
  | nil => intro a ha _; exact ha
  | cons y R ih =>
    intro a ha hm
    rw [List.foldl_cons]
    refine ih _ ?_ (fun x hx => hm x (List.mem_cons_of_mem _ hx))
    unfold lastStep
    by_cases h : y.t = t
    · rw [if_pos h]; have := hm y (by simp) h; omega
    · rw [if_neg h]; exact ha
/-- Every span of a tuple is within its last revision. -/
theorem SpOk.le_latest {l : List Sp} (h : SpOk l) : ∀ x ∈ l, x.s ≤ latestB l ∧ x.u ≤ latestB l := by
  intro x hx
  cases hl : l.getLast? with
  | none => exact absurd (List.getLast?_eq_none_iff.1 hl) h.ne
  | some y =>
    have he : latestB l = max y.s y.u := by unfold latestB; rw [hl]
    rw [he]
    have hs := last_split hl
    rw [hs] at hx
    rcases List.mem_append.1 hx with h1 | h1
    · have hp := h.asc
      rw [hs] at hp
      have h2 := (List.pairwise_append.1 hp).2.2 x h1 y (by simp)
      have h3 := h.all x (by rw [hs]; exact List.mem_append_left _ h1)
      rcases h3.2.2 with h4 | h4
      · exact absurd h4 h2.1
      · omega
    · rw [List.mem_singleton] at h1
      rw [h1]; omega
theorem SMOk.sp_cases {M : SM} (h : SMOk M) (t : Tp) : M.sp t = [] ∨ SpOk (M.sp t) := by
  by_cases ht : t ∈ M.K
  · exact .inr (h.ok t ht)
  · exact .inl (h.no t ht)
theorem Rep.last {lt : Tp → Tp → Bool} {M : SM} {R : List Rw} (hr : Rep lt M R) (hm : SMOk M) (t : Tp) : lastR R t = latestB (M.sp t) := by
  have hup : lastR R t ≤ latestB (M.sp t) := by
    refine lastFold_le t _ R 0 ?_ fun x hx ht => ?_
    · rcases hm.sp_cases t with h1 | h1
      · rw [h1]; exact Int.le_refl _
      · obtain ⟨x, hx⟩ := List.exists_mem_of_ne_nil _ h1.ne
        have := h1.le_latest x hx
        have := (h1.all x hx).1
        omega
    · obtain ⟨xt, xs, xu⟩ := x
      have e1 : xt = t := ht
      subst e1
      have h1 := (hr.mem _ _ _).1 hx
      rcases hm.sp_cases xt with h2 | h2
      · rw [h2] at h1; exact absurd h1 (by simp)
      · exact h2.le_latest _ h1
  have hlo : latestB (M.sp t) ≤ lastR R t := by
    unfold latestB
    cases hl : (M.sp t).getLast? with
    | none => exact lastFold_ge t R 0
    | some y =>
      have h1 : y ∈ M.sp t := List.mem_of_getLast? hl
      have h2 := lastFold_mem t R 0 ⟨t, y.s, y.u⟩ ((hr.mem t y.s y.u).2 h1) rfl
      show max y.s y.u ≤ lastR R t
      unfold lastR
      have h3 : y.s ≤ R.foldl (lastStep t) 0 := h2.1
      have h4 : y.u ≤ R.foldl (lastStep t) 0 := h2.2
      omega
  omega
/-- The one open span is the last one. -/
theorem SpOk.open_last {l : List Sp} (h : SpOk l) {x : Sp} (hx : x ∈ l) (hu : x.u = 0) : l.getLast? = some x := by
  cases hl : l.getLast? with
  | none => exact absurd (List.getLast?_eq_none_iff.1 hl) h.ne
  | some y =>
    have hs := last_split hl
    rw [hs] at hx
    rcases List.mem_append.1 hx with h1 | h1
    · have hp := h.asc
      rw [hs] at hp
      exact absurd hu ((List.pairwise_append.1 hp).2.2 x h1 y (by simp)).1
    · rw [List.mem_singleton] at h1; rw [h1]
theorem openB_iff {l : List Sp} (h : l = [] ∨ SpOk l) : openB l = true ↔ ∃ x ∈ l, x.u = 0 := by
  constructor
  · intro ho
    unfold openB at ho
    cases hl : l.getLast? with
    | none => rw [hl] at ho; cases ho
    | some y => rw [hl] at ho; exact ⟨y, List.mem_of_getLast? hl, by simpa using ho⟩
  · rintro ⟨x, hx, hu⟩
    rcases h with h1 | h1
    · rw [h1] at hx; exact absurd hx (by simp)
    · unfold openB; rw [h1.open_last hx hu]; simpa using hu
/-- Is a row the open one of a tuple? -/
def isOpen (t : Tp) (x : Rw) : Bool := decide (x.t = t) && decide (x.u = 0)
theorem Rep.open_ {lt : Tp → Tp → Bool} {M : SM} {R : List Rw} (hr : Rep lt M R) (hm : SMOk M) (t : Tp) : R.any (isOpen t) = openB (M.sp t) := by
  rw [Bool.eq_iff_iff, openB_iff (hm.sp_cases t), List.any_eq_true]
  constructor
  · rintro ⟨⟨xt, xs, xu⟩, hx, ho⟩
    unfold isOpen at ho
    simp at ho
    obtain ⟨rfl, h0⟩ := ho
    exact ⟨⟨xs, xu⟩, (hr.mem _ _ _).1 hx, h0⟩
  · rintro ⟨⟨xs, xu⟩, hx, h0⟩
    refine ⟨⟨t, xs, xu⟩, (hr.mem _ _ _).2 hx, ?_⟩
    unfold isOpen
    simpa using h0
/-- The open row of a tuple ends. -/
theorem Rep.end_ {lt : Tp → Tp → Bool} {M : SM} {R : List Rw} (hr : Rep lt M R) (hm : SMOk M) {t : Tp} {rev : Int} {k : Nat} {r : Rw} (hk : R[k]? = some r) (ht : r.t = t) (h0 : r.u = 0) :
    Rep lt (M.put t (endB (M.sp t) rev)) (R.set k ⟨t, r.s, rev⟩) := by
  obtain ⟨rt, rs, ru⟩ := r
  have e1 : rt = t := ht
  have e2 : ru = 0 := h0
  subst e1
  subst e2
  obtain ⟨hkl, hkr⟩ := List.getElem?_eq_some_iff.1 hk
  have hmem : (⟨rs, 0⟩ : Sp) ∈ M.sp rt := (hr.mem _ _ _).1 (List.mem_of_getElem? hk)
  have hok : SpOk (M.sp rt) := by
    rcases hm.sp_cases rt with h1 | h1
    · rw [h1] at hmem; exact absurd hmem (by simp)
    · exact h1
  have hl := hok.open_last hmem rfl
  have hspl := last_split hl
  have hend : endB (M.sp rt) rev = (M.sp rt).dropLast ++ [⟨rs, rev⟩] := by unfold endB; rw [hl]
  have hnd : R.Nodup := by
    unfold List.Nodup
    exact hr.so.imp fun hab e => by rw [e, rlt_irr] at hab; cases hab
  refine ⟨?_, fun t2 s u => ?_⟩
  · show ((R.set k ⟨rt, rs, rev⟩)).Pairwise _
    rw [List.pairwise_iff_getElem]
    intro i j hi hj hij
    have hso := List.pairwise_iff_getElem.1 hr.so i j (by simpa using hi) (by simpa using hj) hij
    rw [List.getElem_set, List.getElem_set]
    have hc : ∀ x : Rw, rlt lt ⟨rt, rs, rev⟩ x = rlt lt ⟨rt, rs, 0⟩ x := fun x => rfl
    have hd : ∀ x : Rw, rlt lt x ⟨rt, rs, rev⟩ = rlt lt x ⟨rt, rs, 0⟩ := fun x => rfl
    by_cases hki : k = i
    · subst hki
      rw [if_pos rfl, if_neg (by omega), hc, ← hkr]
      exact hso
    · rw [if_neg hki]
      by_cases hkj : k = j
      · subst hkj
        rw [if_pos rfl, hd, ← hkr]
        exact hso
      · rw [if_neg hkj]; exact hso
  · have hset : ∀ x : Rw, x ∈ R.set k ⟨rt, rs, rev⟩ ↔ x = ⟨rt, rs, rev⟩ ∨ (x ∈ R ∧ x ≠ ⟨rt, rs, 0⟩) := by
      intro x
      constructor
      · intro hx
        obtain ⟨j, hj, hjx⟩ := List.getElem_of_mem hx
        rw [List.getElem_set] at hjx
        by_cases hkj : k = j
        · rw [if_pos hkj] at hjx; exact .inl hjx.symm
        · rw [if_neg hkj] at hjx
          refine .inr ⟨hjx ▸ List.getElem_mem _, fun e => hkj ?_⟩
          exact (List.getElem_inj hnd).1 (by rw [hkr, hjx, e])
      · rintro (h1 | ⟨h1, h2⟩)
        · rw [h1]; exact List.mem_set hkl _
        · obtain ⟨j, hj, hjx⟩ := List.getElem_of_mem h1
          have hkj : k ≠ j := fun e => h2 (by subst e; rw [← hjx, hkr])
          have : (R.set k ⟨rt, rs, rev⟩)[j]? = some x := by
            rw [List.getElem?_set, if_neg hkj, List.getElem?_eq_getElem hj, hjx]
          exact List.mem_of_getElem? this
    rw [hset, hr.mem]
    by_cases ht2 : t2 = rt
    · subst ht2
      rw [SM.put_same, hend, List.mem_append, List.mem_singleton]
      have hlastnot : (⟨rs, 0⟩ : Sp) ∉ (M.sp t2).dropLast := by
        intro hin
        have hp := hok.asc
        rw [hspl] at hp
        exact absurd rfl ((List.pairwise_append.1 hp).2.2 _ hin ⟨rs, 0⟩ (by simp)).1
      constructor
      · rintro (h1 | ⟨h1, h2⟩)
        · injection h1 with _ h3 h4
          exact .inr (by rw [h3, h4])
        · rw [hspl] at h1
          rcases List.mem_append.1 h1 with h3 | h3
          · exact .inl h3
          · rw [List.mem_singleton] at h3
            injection h3 with h4 h5
            exact absurd (by rw [h4, h5]) h2
      · rintro (h1 | h1)
        · refine .inr ⟨by rw [hspl]; exact List.mem_append_left _ h1, fun e => ?_⟩
          injection e with _ h4 h5
          rw [h4, h5] at h1
          exact hlastnot h1
        · injection h1 with h3 h4
          exact .inl (by rw [h3, h4])
    · rw [SM.put_other M _ ht2]
      constructor
      · rintro (h1 | h1)
        · exact absurd (by injection h1) ht2
        · exact h1.1
      · exact fun h1 => .inr ⟨h1, fun e => ht2 (by injection e)⟩
/-- No span of a tuple begins where a new one does. -/
theorem SMOk.fresh {M : SM} (h : SMOk M) {t : Tp} {rev : Int} (hr : latestB (M.sp t) < rev) : ∀ y ∈ M.sp t, y.s ≠ rev := by
  intro y hy
  rcases h.sp_cases t with h1 | h1
  · rw [h1] at hy; exact absurd hy (by simp)
  · have := h1.le_latest y hy
    omega
end Go.Proofs.Ytilmpkmojfmlkaa
