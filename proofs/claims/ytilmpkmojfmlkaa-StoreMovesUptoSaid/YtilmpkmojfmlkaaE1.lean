/- The store as a function from tuples to spans. -/
import Derived.Test.YtilmpkmojfmlkaaE0
namespace Go.Proofs.Ytilmpkmojfmlkaa
open Go.RowKit

/-- A store: its tuples, in some order, and the spans of each. -/
structure SM where
  K : List Tp
  sp : Tp → List Sp
def SM.empty : SM := ⟨[], fun _ => []⟩
structure SMOk (M : SM) : Prop where
  nd : M.K.Nodup
  ok : ∀ t ∈ M.K, SpOk (M.sp t)
  no : ∀ t, t ∉ M.K → M.sp t = []
theorem SMOk.empty : SMOk SM.empty := ⟨by simp [SM.empty], by simp [SM.empty], fun _ _ => rfl⟩
/-- One tuple has other spans. -/
def SM.put (M : SM) (t : Tp) (l : List Sp) : SM := ⟨if t ∈ M.K then M.K else M.K ++ [t], fun x => if x = t then l else M.sp x⟩
theorem SM.put_same (M : SM) (t : Tp) (l : List Sp) : (M.put t l).sp t = l := by simp [SM.put]
theorem SM.put_other (M : SM) {t x : Tp} (l : List Sp) (h : x ≠ t) : (M.put t l).sp x = M.sp x := by simp [SM.put, h]
theorem SM.put_mem (M : SM) (t : Tp) (l : List Sp) (x : Tp) : x ∈ (M.put t l).K ↔ x ∈ M.K ∨ x = t := by
  unfold SM.put
  by_cases h : t ∈ M.K
  · simp only [h, if_true]
    exact ⟨.inl, fun h2 => h2.elim id (fun e => e ▸ h)⟩
  · simp [h]
theorem SMOk.put {M : SM} (h : SMOk M) (t : Tp) {l : List Sp} (hl : SpOk l) : SMOk (M.put t l) := by
  refine ⟨?_, fun x hx => ?_, fun x hx => ?_⟩
  · unfold SM.put
    by_cases hm : t ∈ M.K
    · simpa [hm] using h.nd
    · simp only [hm, if_false]
      exact List.nodup_append.2 ⟨h.nd, by simp, fun a ha b hb e => by simp at hb; rw [e, hb] at ha; exact hm ha⟩
  · by_cases hxt : x = t
    · rw [hxt, SM.put_same]; exact hl
    · rw [SM.put_other M l hxt]
      rcases (SM.put_mem M t l x).1 hx with h1 | h1
      · exact h.ok x h1
      · exact absurd h1 hxt
  · have h1 : ¬ (x ∈ M.K ∨ x = t) := fun h2 => hx ((SM.put_mem M t l x).2 h2)
    rw [SM.put_other M l (fun e => h1 (.inr e))]
    exact h.no x (fun h2 => h1 (.inl h2))
/-- Is the tuple still there? -/
def openB (l : List Sp) : Bool := match l.getLast? with
  | some x => decide (x.u = 0)
  | none => false
/-- The greatest revision in a span. -/
def latestB (l : List Sp) : Int := match l.getLast? with
  | some x => max x.s x.u
  | none => 0
/-- The last span ends. -/
def endB (l : List Sp) (rev : Int) : List Sp := match l.getLast? with
  | some x => l.dropLast ++ [⟨x.s, rev⟩]
  | none => []
theorem last_split {l : List Sp} {x : Sp} (h : l.getLast? = some x) : l = l.dropLast ++ [x] := by
  obtain ⟨ys, rfl⟩ := List.getLast?_eq_some_iff.1 h
  simp
theorem SpOk.push {l : List Sp} (h : SpOk l) {rev : Int} (ho : openB l = false) (hr : latestB l < rev) (hm : rev ≤ maxRev) : SpOk (l ++ [⟨rev, 0⟩]) := by
  cases hl : l.getLast? with
  | none => exact absurd (List.getLast?_eq_none_iff.1 hl) h.ne
  | some x =>
    have hs := last_split hl
    have ho2 : x.u ≠ 0 := by unfold openB at ho; rw [hl] at ho; simpa using ho
    have hr2 : max x.s x.u < rev := by unfold latestB at hr; rw [hl] at hr; exact hr
    have hx := h.all x (by rw [hs]; simp)
    refine ⟨by simp, fun y hy => ?_, ?_⟩
    · rcases List.mem_append.1 hy with h1 | h1
      · exact h.all y h1
      · rw [List.mem_singleton] at h1
        rw [h1]
        have := hx.1
        exact ⟨by show 1 ≤ rev; omega, hm, .inl rfl⟩
    · refine List.pairwise_append.2 ⟨h.asc, by simp, fun a ha b hb => ?_⟩
      rw [List.mem_singleton] at hb
      rw [hb]
      show a.u ≠ 0 ∧ a.u < rev
      rw [hs] at ha
      rcases List.mem_append.1 ha with h1 | h1
      · have hp := h.asc
        rw [hs] at hp
        have h2 := (List.pairwise_append.1 hp).2.2 a h1 x (by simp)
        refine ⟨h2.1, ?_⟩
        have := h2.2
        omega
      · rw [List.mem_singleton] at h1
        rw [h1]
        exact ⟨ho2, by omega⟩
theorem SpOk.close {l : List Sp} (h : SpOk l) {rev : Int} (hr : latestB l < rev) (hm : rev ≤ maxRev) : SpOk (endB l rev) := by
  cases hl : l.getLast? with
  | none => exact absurd (List.getLast?_eq_none_iff.1 hl) h.ne
  | some x =>
    have hs := last_split hl
    have hr2 : max x.s x.u < rev := by unfold latestB at hr; rw [hl] at hr; exact hr
    have hx := h.all x (by rw [hs]; simp)
    have he : endB l rev = l.dropLast ++ [⟨x.s, rev⟩] := by unfold endB; rw [hl]
    rw [he]
    refine ⟨by simp, fun y hy => ?_, ?_⟩
    · rcases List.mem_append.1 hy with h1 | h1
      · exact h.all y (by rw [hs]; exact List.mem_append_left _ h1)
      · rw [List.mem_singleton] at h1
        rw [h1]
        exact ⟨hx.1, hx.2.1, .inr ⟨by show x.s < rev; omega, hm⟩⟩
    · have hp := h.asc
      rw [hs] at hp
      obtain ⟨p1, _, p3⟩ := List.pairwise_append.1 hp
      refine List.pairwise_append.2 ⟨p1, by simp, fun a ha b hb => ?_⟩
      rw [List.mem_singleton] at hb
      rw [hb]
      exact p3 a ha x (by simp)
theorem SpOk.one {rev : Int} (h1 : 1 ≤ rev) (hm : rev ≤ maxRev) : SpOk [⟨rev, 0⟩] := ⟨by simp, fun y hy => by rw [List.mem_singleton] at hy; rw [hy]; exact ⟨h1, hm, .inl rfl⟩, by simp⟩
/-- One mutation. -/
def SM.one (M : SM) (rev : Int) (d : Bool) (t : Tp) : SM :=
  if d then (if openB (M.sp t) then M.put t (endB (M.sp t) rev) else M) else (if openB (M.sp t) then M else M.put t (M.sp t ++ [⟨rev, 0⟩]))
theorem SMOk.one {M : SM} (h : SMOk M) {rev : Int} (d : Bool) (t : Tp) (h1 : 1 ≤ rev) (hm : rev ≤ maxRev) (hr : latestB (M.sp t) < rev) : SMOk (M.one rev d t) := by
  unfold SM.one
  cases d with
  | true =>
    simp only [if_true]
    cases ho : openB (M.sp t) with
    | false => simpa using h
    | true =>
      simp only [if_true]
      have ht : t ∈ M.K := by
        by_cases hm2 : t ∈ M.K
        · exact hm2
        · rw [h.no t hm2] at ho; cases ho
      exact h.put t ((h.ok t ht).close hr hm)
  | false =>
    simp only [Bool.false_eq_true, if_false]
    cases ho : openB (M.sp t) with
    | true => simpa using h
    | false =>
      simp only [Bool.false_eq_true, if_false]
      by_cases ht : t ∈ M.K
      · exact h.put t ((h.ok t ht).push ho hr hm)
      · rw [h.no t ht]
        exact h.put t (SpOk.one h1 hm)
end Go.Proofs.Ytilmpkmojfmlkaa
