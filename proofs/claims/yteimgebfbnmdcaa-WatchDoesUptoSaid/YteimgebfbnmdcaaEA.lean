/- The store, pure: one text. -/
import Derived.Test.YteimgebfbnmdcaaTB
/- The store's tuples with their spans, as lists. -/
namespace Go.Proofs.Yteimgebfbnmdcaa
open Go.RowKit

/-- A tuple. -/
structure Tp where
  o : ByteArray
  r : ByteArray
  u : ByteArray
instance : DecidableEq Tp := fun a b => decidable_of_iff (a.o = b.o ∧ a.r = b.r ∧ a.u = b.u)
  ⟨fun ⟨h1, h2, h3⟩ => by cases a; cases b; cases h1; cases h2; cases h3; rfl, fun h => by rw [h]; exact ⟨rfl, rfl, rfl⟩⟩
/-- A span: since, until. -/
structure Sp where
  s : Int
  u : Int
instance : DecidableEq Sp := fun a b => decidable_of_iff (a.s = b.s ∧ a.u = b.u)
  ⟨fun ⟨h1, h2⟩ => by cases a; cases b; cases h1; cases h2; rfl, fun h => by rw [h]; exact ⟨rfl, rfl⟩⟩
def maxRev : Int := 1125899906842624
/-- Has it ended? -/
def Sp.over (x : Sp) (rev : Int) : Bool := decide (x.u ≠ 0) && decide (x.u ≤ rev)
def Sp.at_ (x : Sp) (rev : Int) : Bool := decide (x.s ≤ rev) && !x.over rev
def Sp.ok (x : Sp) : Prop := 1 ≤ x.s ∧ x.s ≤ maxRev ∧ (x.u = 0 ∨ x.s < x.u ∧ x.u ≤ maxRev)
/-- Spans of one tuple: each begins behind the end of the one ahead of it. -/
structure SpOk (l : List Sp) : Prop where
  ne : l ≠ []
  all : ∀ x ∈ l, x.ok
  asc : l.Pairwise fun a b => a.u ≠ 0 ∧ a.u < b.s
def spThere (l : List Sp) (rev : Int) : Bool := l.any (·.at_ rev)
/-- How many have begun. -/
def begun (l : List Sp) (rev : Int) : Nat := (l.takeWhile fun x => decide (x.s ≤ rev)).length
theorem begun_le (l : List Sp) (rev : Int) : begun l rev ≤ l.length := by unfold begun; exact (List.takeWhile_sublist _).length_le
theorem begun_cons (x : Sp) (l : List Sp) (rev : Int) : begun (x :: l) rev = if x.s ≤ rev then begun l rev + 1 else 0 := by
  unfold begun
  rw [List.takeWhile_cons]
  by_cases h : x.s ≤ rev <;> simp [h]
/-- Of those that have begun all but the last one have ended. -/
theorem there_begun (rev : Int) : ∀ l : List Sp, (∀ x ∈ l, x.ok) → l.Pairwise (fun a b => a.u ≠ 0 ∧ a.u < b.s) → spThere l rev = (match begun l rev with
    | 0 => false
    | k + 1 => match l[k]? with
      | some x => !x.over rev
      | none => false) := by
  intro l
  induction l with
  | nil => intro _ _; rfl
  | cons x l ih =>
    intro ha hp
    have hx := ha x (by simp)
    rw [List.pairwise_cons] at hp
    have ih := ih (fun y hy => ha y (List.mem_cons_of_mem _ hy)) hp.2
    rw [begun_cons]
    by_cases h : x.s ≤ rev
    · rw [if_pos h]
      have hat : x.at_ rev = !x.over rev := by unfold Sp.at_; simp [h]
      show (x.at_ rev || spThere l rev) = _
      rw [ih, hat]
      cases hb : begun l rev with
      | zero => simp
      | succ k =>
        cases l with
        | nil => simp [begun] at hb
        | cons y l =>
          have hy : y.s ≤ rev := by
            rw [begun_cons] at hb
            split at hb
            · assumption
            · cases hb
          have hxy := hp.1 y (by simp)
          have hov : x.over rev = true := by unfold Sp.over; simp; omega
          rw [hov]
          simp
    · rw [if_neg h]
      have hno : ∀ y ∈ x :: l, y.at_ rev = false := fun y hy => by
        unfold Sp.at_
        rcases List.mem_cons.1 hy with h1 | h1
        · rw [h1]; simp [h]
        · have h2 := hp.1 y h1
          have h3 : x.s < y.s := by
            rcases hx.2.2 with h4 | h4
            · exact absurd h4 h2.1
            · omega
          have h5 : ¬ y.s ≤ rev := by omega
          simp [h5]
      show (x :: l).any _ = false
      rw [List.any_eq_false]
      intro y hy
      rw [hno y hy]
      decide
end Go.Proofs.Yteimgebfbnmdcaa
/- The store as a function from tuples to spans. -/
namespace Go.Proofs.Yteimgebfbnmdcaa
open Go.RowKit

/-- A store: its tuples, in some order, and the spans of each. -/
structure SM where
  K : List Tp
  sp : Tp → List Sp
def SM.empty : SM := ⟨[], fun _ => []⟩
structure SMOk (M : SM) : Prop where
  nd : M.K.Nodup
  ok : ∀ t ∈ M.K, SpOk (M.sp t)
  no : ∀ t, t ∉ M.K → M.sp t = []
theorem SMOk.empty : SMOk SM.empty := ⟨by simp [SM.empty], by simp [SM.empty], fun _ _ => rfl⟩
/-- One tuple has other spans. -/
def SM.put (M : SM) (t : Tp) (l : List Sp) : SM := ⟨if t ∈ M.K then M.K else M.K ++ [t], fun x => if x = t then l else M.sp x⟩
theorem SM.put_same (M : SM) (t : Tp) (l : List Sp) : (M.put t l).sp t = l := by simp [SM.put]
theorem SM.put_other (M : SM) {t x : Tp} (l : List Sp) (h : x ≠ t) : (M.put t l).sp x = M.sp x := by simp [SM.put, h]
theorem SM.put_mem (M : SM) (t : Tp) (l : List Sp) (x : Tp) : x ∈ (M.put t l).K ↔ x ∈ M.K ∨ x = t := by
  unfold SM.put
  by_cases h : t ∈ M.K
  · simp only [h, if_true]
    exact ⟨.inl, fun h2 => h2.elim id (fun e => e ▸ h)⟩
  · simp [h]
theorem SMOk.put {M : SM} (h : SMOk M) (t : Tp) {l : List Sp} (hl : SpOk l) : SMOk (M.put t l) := by
  refine ⟨?_, fun x hx => ?_, fun x hx => ?_⟩
  · unfold SM.put
    by_cases hm : t ∈ M.K
    · simpa [hm] using h.nd
    · simp only [hm, if_false]
      exact List.nodup_append.2 ⟨h.nd, by simp, fun a ha b hb e => by simp at hb; rw [e, hb] at ha; exact hm ha⟩
  · by_cases hxt : x = t
    · rw [hxt, SM.put_same]; exact hl
    · rw [SM.put_other M l hxt]
      rcases (SM.put_mem M t l x).1 hx with h1 | h1
      · exact h.ok x h1
      · exact absurd h1 hxt
  · have h1 : ¬ (x ∈ M.K ∨ x = t) := fun h2 => hx ((SM.put_mem M t l x).2 h2)
    rw [SM.put_other M l (fun e => h1 (.inr e))]
    exact h.no x (fun h2 => h1 (.inl h2))
/-- Is the tuple still there? -/
def openB (l : List Sp) : Bool := match l.getLast? with
  | some x => decide (x.u = 0)
  | none => false
/-- The greatest revision in a span. -/
def latestB (l : List Sp) : Int := match l.getLast? with
  | some x => max x.s x.u
  | none => 0
/-- The last span ends. -/
def endB (l : List Sp) (rev : Int) : List Sp := match l.getLast? with
  | some x => l.dropLast ++ [⟨x.s, rev⟩]
  | none => []
theorem last_split {l : List Sp} {x : Sp} (h : l.getLast? = some x) : l = l.dropLast ++ [x] := by
  obtain ⟨ys, rfl⟩ := List.getLast?_eq_some_iff.1 h
  simp
theorem SpOk.push {l : List Sp} (h : SpOk l) {rev : Int} (ho : openB l = false) (hr : latestB l < rev) (hm : rev ≤ maxRev) : SpOk (l ++ [⟨rev, 0⟩]) := by
  cases hl : l.getLast? with
  | none => exact absurd (List.getLast?_eq_none_iff.1 hl) h.ne
  | some x =>
    have hs := last_split hl
    have ho2 : x.u ≠ 0 := by unfold openB at ho; rw [hl] at ho; simpa using ho
    have hr2 : max x.s x.u < rev := by unfold latestB at hr; rw [hl] at hr; exact hr
    have hx := h.all x (by rw [hs]; simp)
    refine ⟨by simp, fun y hy => ?_, ?_⟩
    · rcases List.mem_append.1 hy with h1 | h1
      · exact h.all y h1
      · rw [List.mem_singleton] at h1
        rw [h1]
        have := hx.1
        exact ⟨by show 1 ≤ rev; omega, hm, .inl rfl⟩
    · refine List.pairwise_append.2 ⟨h.asc, by simp, fun a ha b hb => ?_⟩
      rw [List.mem_singleton] at hb
      rw [hb]
      show a.u ≠ 0 ∧ a.u < rev
      rw [hs] at ha
      rcases List.mem_append.1 ha with h1 | h1
      · have hp := h.asc
        rw [hs] at hp
        have h2 := (List.pairwise_append.1 hp).2.2 a h1 x (by simp)
        refine ⟨h2.1, ?_⟩
        have := h2.2
        omega
      · rw [List.mem_singleton] at h1
        rw [h1]
        exact ⟨ho2, by omega⟩
theorem SpOk.close {l : List Sp} (h : SpOk l) {rev : Int} (hr : latestB l < rev) (hm : rev ≤ maxRev) : SpOk (endB l rev) := by
  cases hl : l.getLast? with
  | none => exact absurd (List.getLast?_eq_none_iff.1 hl) h.ne
  | some x =>
    have hs := last_split hl
    have hr2 : max x.s x.u < rev := by unfold latestB at hr; rw [hl] at hr; exact hr
    have hx := h.all x (by rw [hs]; simp)
    have he : endB l rev = l.dropLast ++ [⟨x.s, rev⟩] := by unfold endB; rw [hl]
    rw [he]
    refine ⟨by simp, fun y hy => ?_, ?_⟩
    · rcases List.mem_append.1 hy with h1 | h1
      · exact h.all y (by rw [hs]; exact List.mem_append_left _ h1)
      · rw [List.mem_singleton] at h1
        rw [h1]
        exact ⟨hx.1, hx.2.1, .inr ⟨by show x.s < rev; omega, hm⟩⟩
    · have hp := h.asc
      rw [hs] at hp
      obtain ⟨p1, _, p3⟩ := List.pairwise_append.1 hp
      refine List.pairwise_append.2 ⟨p1, by simp, fun a ha b hb => ?_⟩
      rw [List.mem_singleton] at hb
      rw [hb]
      exact p3 a ha x (by simp)
theorem SpOk.one {rev : Int} (h1 : 1 ≤ rev) (hm : rev ≤ maxRev) : SpOk [⟨rev, 0⟩] := ⟨by simp, fun y hy => by rw [List.mem_singleton] at hy; rw [hy]; exact ⟨h1, hm, .inl rfl⟩, by simp⟩
/-- One mutation. -/
def SM.one (M : SM) (rev : Int) (d : Bool) (t : Tp) : SM :=
  if d then (if openB (M.sp t) then M.put t (endB (M.sp t) rev) else M) else (if openB (M.sp t) then M else M.put t (M.sp t ++ [⟨rev, 0⟩]))
theorem SMOk.one {M : SM} (h : SMOk M) {rev : Int} (d : Bool) (t : Tp) (h1 : 1 ≤ rev) (hm : rev ≤ maxRev) (hr : latestB (M.sp t) < rev) : SMOk (M.one rev d t) := by
  unfold SM.one
  cases d with
  | true =>
    simp only [if_true]
    cases ho : openB (M.sp t) with
    | false => simpa using h
    | true =>
      simp only [if_true]
      have ht : t ∈ M.K := by
        by_cases hm2 : t ∈ M.K
        · exact hm2
        · rw [h.no t hm2] at ho; cases ho
      exact h.put t ((h.ok t ht).close hr hm)
  | false =>
    simp only [Bool.false_eq_true, if_false]
    cases ho : openB (M.sp t) with
    | true => simpa using h
    | false =>
      simp only [Bool.false_eq_true, if_false]
      by_cases ht : t ∈ M.K
      · exact h.put t ((h.ok t ht).push ho hr hm)
      · rw [h.no t ht]
        exact h.put t (SpOk.one h1 hm)
end Go.Proofs.Yteimgebfbnmdcaa
/- An index: lists of tuples by a key; an entry knows its spot; the last one takes the spot of one that goes. -/
namespace Go.Proofs.Yteimgebfbnmdcaa
open Go.RowKit

/-- The one at i goes, the last one takes its spot. -/
def swapOut {α : Type} (l : List α) (i : Nat) : List α := match l.getLast? with
  | some x => (l.set i x).dropLast
  | none => []
theorem swapOut_concat {α : Type} (ys : List α) (x : α) (i : Nat) : swapOut (ys ++ [x]) i = if i < ys.length then ys.set i x else if i = ys.length then ys else ys := by
  unfold swapOut
  rw [List.getLast?_concat]
  show ((ys ++ [x]).set i x).dropLast = _
  by_cases h : i < ys.length
  · rw [if_pos h, List.set_append_left _ _ h, List.dropLast_concat]
  · rw [if_neg h, List.set_append_right _ _ (by omega)]
    by_cases h2 : i = ys.length
    · rw [if_pos h2, h2, Nat.sub_self]
      show (ys ++ [x]).dropLast = ys
      rw [List.dropLast_concat]
    · rw [if_neg h2]
      have : ([x] : List α).set (i - ys.length) x = [x] := by
        rw [List.set_eq_of_length_le (by simp; omega)]
      rw [this, List.dropLast_concat]
theorem swapOut_length {α : Type} (l : List α) (i : Nat) : (swapOut l i).length = l.length - 1 := by
  unfold swapOut
  cases h : l.getLast? with
  | none => rw [List.getLast?_eq_none_iff.1 h]; rfl
  | some x => simp
/-- What stands where, then. -/
theorem swapOut_at {α : Type} {l : List α} {i j : Nat} (hi : i < l.length) (hj : j < l.length - 1) : (swapOut l i)[j]? = if j = i then l.getLast? else l[j]? := by
  cases h : l.getLast? with
  | none => rw [List.getLast?_eq_none_iff.1 h] at hi; exact absurd hi (Nat.not_lt_zero _)
  | some x =>
    obtain ⟨ys, rfl⟩ := List.getLast?_eq_some_iff.1 h
    rw [swapOut_concat]
    have hj2 : j < ys.length := by simpa using hj
    rw [List.getElem?_append_left hj2]
    by_cases hiy : i < ys.length
    · rw [if_pos hiy, List.getElem?_set]
      by_cases hji : j = i
      · rw [if_pos hji.symm, if_pos hji, if_pos hiy]
      · rw [if_neg (fun e => hji e.symm), if_neg hji]
    · have hji : j ≠ i := by omega
      rw [if_neg hiy, ite_self, if_neg hji]
theorem swapOut_mem {α : Type} {l : List α} {i : Nat} {t : α} (hn : l.Nodup) (hi : l[i]? = some t) (y : α) : y ∈ swapOut l i ↔ y ∈ l ∧ y ≠ t := by
  obtain ⟨hil, hit⟩ := List.getElem?_eq_some_iff.1 hi
  constructor
  · intro hy
    obtain ⟨j, hj, hjy⟩ := List.getElem_of_mem hy
    have hj2 : j < l.length - 1 := by rw [swapOut_length] at hj; exact hj
    have h1 := swapOut_at hil hj2
    rw [List.getElem?_eq_getElem hj, hjy] at h1
    by_cases hji : j = i
    · rw [if_pos hji] at h1
      obtain ⟨ys, he⟩ := List.getLast?_eq_some_iff.1 h1.symm
      refine ⟨by rw [he]; simp, fun e => ?_⟩
      have h2 : l[ys.length]? = some y := by rw [he]; simp
      have h3 : ys.length = i := by
        have h4 := (List.getElem?_eq_some_iff.1 h2)
        exact (List.getElem_inj hn).1 (by rw [h4.2, hit, e]) 
      have h5 : l.length = ys.length + 1 := by rw [he]; simp
      omega
    · rw [if_neg hji] at h1
      obtain ⟨h2, h3⟩ := List.getElem?_eq_some_iff.1 h1.symm
      refine ⟨h3 ▸ List.getElem_mem h2, fun e => hji ?_⟩
      exact (List.getElem_inj hn).1 (by rw [h3, hit, e])
  · rintro ⟨hy, hne⟩
    obtain ⟨j, hj, hjy⟩ := List.getElem_of_mem hy
    by_cases hjl : j < l.length - 1
    · have hji : j ≠ i := fun e => hne (by subst e; rw [← hjy, hit])
      have h1 := swapOut_at hil hjl
      rw [if_neg hji, List.getElem?_eq_getElem hj, hjy] at h1
      exact List.mem_of_getElem? h1
    · have hlast : l.getLast? = some y := by
        rw [List.getLast?_eq_getElem?, List.getElem?_eq_some_iff]
        exact ⟨by omega, by rw [← hjy]; congr 1; omega⟩
      have hi2 : i < l.length - 1 := by
        have : i ≠ j := fun e => hne (by subst e; rw [← hjy, hit])
        omega
      have h1 := swapOut_at hil hi2
      rw [if_pos rfl, hlast] at h1
      exact List.mem_of_getElem? h1
theorem nd_inj {α : Type} {l : List α} (hn : l.Nodup) {a b : Nat} (ha : a < l.length) (hb : b < l.length) (h : l[a]? = l[b]?) : a = b := by
  rw [List.getElem?_eq_getElem ha, List.getElem?_eq_getElem hb] at h
  exact (List.getElem_inj hn).1 (Option.some.inj h)
theorem swapOut_nodup {α : Type} {l : List α} {i : Nat} (hn : l.Nodup) (hi : i < l.length) : (swapOut l i).Nodup := by
  unfold List.Nodup
  rw [List.pairwise_iff_getElem]
  intro a b ha hb hab e
  have h1 : (swapOut l i)[a]? = (swapOut l i)[b]? := by rw [List.getElem?_eq_getElem ha, List.getElem?_eq_getElem hb, e]
  rw [swapOut_length] at ha hb
  rw [swapOut_at hi ha, swapOut_at hi hb, List.getLast?_eq_getElem?] at h1
  by_cases hai : a = i
  · rw [if_pos hai, if_neg (by omega)] at h1
    have := nd_inj hn (by omega) (by omega) h1
    omega
  · rw [if_neg hai] at h1
    by_cases hbi : b = i
    · rw [if_pos hbi] at h1
      have := nd_inj hn (by omega) (by omega) h1
      omega
    · rw [if_neg hbi] at h1
      have := nd_inj hn (by omega) (by omega) h1
      omega

/-- An index of the tuples K. -/
structure IxOk {κ : Type} (key : Tp → κ) (K : List Tp) (L : κ → List Tp) (pos : Tp → Nat) : Prop where
  nd : ∀ k, (L k).Nodup
  mem : ∀ k t, t ∈ L k ↔ t ∈ K ∧ key t = k
  at_ : ∀ t ∈ K, (L (key t))[pos t]? = some t
theorem IxOk.empty {κ : Type} (key : Tp → κ) (pos : Tp → Nat) : IxOk key [] (fun _ => []) pos := ⟨by simp, by simp, by simp⟩
/-- One list is another one. -/
def updK {κ α : Type} [DecidableEq κ] (L : κ → α) (k : κ) (l : α) : κ → α := fun x => if x = k then l else L x
theorem updK_same {κ α : Type} [DecidableEq κ] (L : κ → α) (k : κ) (l : α) : updK L k l k = l := by simp [updK]
theorem updK_other {κ α : Type} [DecidableEq κ] (L : κ → α) {k x : κ} (l : α) (h : x ≠ k) : updK L k l x = L x := by simp [updK, h]
theorem IxOk.add {κ : Type} [DecidableEq κ] {key : Tp → κ} {K : List Tp} {L : κ → List Tp} {pos : Tp → Nat} (h : IxOk key K L pos) {t : Tp} (ht : t ∉ K) :
    IxOk key (K ++ [t]) (updK L (key t) (L (key t) ++ [t])) (updK pos t (L (key t)).length) := by
  have hnot : ∀ k, t ∉ L k := fun k hm => ht ((h.mem k t).1 hm).1
  refine ⟨fun k => ?_, fun k x => ?_, fun x hx => ?_⟩
  · by_cases hk : k = key t
    · rw [hk, updK_same]
      exact List.nodup_append.2 ⟨h.nd _, by simp, fun a ha b hb e => by rw [List.mem_singleton] at hb; rw [e, hb] at ha; exact hnot _ ha⟩
    · rw [updK_other _ _ hk]; exact h.nd k
  · by_cases hk : k = key t
    · rw [hk, updK_same, List.mem_append, List.mem_singleton, List.mem_append, List.mem_singleton, h.mem]
      constructor
      · rintro (h1 | h1)
        · exact ⟨.inl h1.1, h1.2⟩
        · exact ⟨.inr h1, by rw [h1]⟩
      · rintro ⟨h1 | h1, h2⟩
        · exact .inl ⟨h1, h2⟩
        · exact .inr h1
    · rw [updK_other _ _ hk, h.mem, List.mem_append, List.mem_singleton]
      constructor
      · exact fun h1 => ⟨.inl h1.1, h1.2⟩
      · rintro ⟨h1 | h1, h2⟩
        · exact ⟨h1, h2⟩
        · exact absurd (by rw [← h2, h1]) hk
  · by_cases hxt : x = t
    · rw [hxt, updK_same, updK_same]; simp
    · have hxK : x ∈ K := by
        rcases List.mem_append.1 hx with h1 | h1
        · exact h1
        · exact absurd (List.mem_singleton.1 h1) hxt
      rw [updK_other _ _ hxt]
      have h1 := h.at_ x hxK
      by_cases hk : key x = key t
      · rw [hk, updK_same]
        rw [hk] at h1
        rw [List.getElem?_append_left (List.getElem?_eq_some_iff.1 h1).1]
        exact h1
      · rw [updK_other _ _ hk]; exact h1
/-- One tuple goes: the last one of its list stands where it stood. -/
theorem IxOk.remove {κ : Type} [DecidableEq κ] {key : Tp → κ} {K : List Tp} {L : κ → List Tp} {pos : Tp → Nat} (h : IxOk key K L pos) {t last : Tp} (ht : t ∈ K) (hl : (L (key t)).getLast? = some last) :
    IxOk key (K.filter (fun x => decide (x ≠ t))) (updK L (key t) (swapOut (L (key t)) (pos t))) (updK pos last (pos t)) := by
  have hat := h.at_ t ht
  have hlt := (List.getElem?_eq_some_iff.1 hat).1
  have hK : ∀ x, x ∈ K.filter (fun x => decide (x ≠ t)) ↔ x ∈ K ∧ x ≠ t := fun x => by simp
  refine ⟨fun k => ?_, fun k x => ?_, fun x hx => ?_⟩
  · by_cases hk : k = key t
    · rw [hk, updK_same]; exact swapOut_nodup (h.nd _) hlt
    · rw [updK_other _ _ hk]; exact h.nd k
  · rw [hK]
    by_cases hk : k = key t
    · rw [hk, updK_same, swapOut_mem (h.nd _) hat, h.mem]
      exact ⟨fun h1 => ⟨⟨h1.1.1, h1.2⟩, h1.1.2⟩, fun h1 => ⟨⟨h1.1.1, h1.2⟩, h1.1.2⟩⟩
    · rw [updK_other _ _ hk, h.mem]
      exact ⟨fun h1 => ⟨⟨h1.1, fun e => hk (by rw [← h1.2, e])⟩, h1.2⟩, fun h1 => ⟨h1.1.1, h1.2⟩⟩
  · obtain ⟨hxK, hxt⟩ := (hK x).1 hx
    have hx1 := h.at_ x hxK
    by_cases hk : key x = key t
    · rw [hk] at hx1
      rw [hk, updK_same]
      have hxl := (List.getElem?_eq_some_iff.1 hx1).1
      have hne : pos x ≠ pos t := fun e => by rw [e, hat] at hx1; exact hxt (Option.some.inj hx1).symm
      by_cases hxlast : x = last
      · rw [hxlast, updK_same]
        have hp : pos last = (L (key t)).length - 1 := by
          rw [hxlast] at hx1
          have h2 : (L (key t))[(L (key t)).length - 1]? = some last := by rw [← List.getLast?_eq_getElem?]; exact hl
          obtain ⟨a1, a2⟩ := List.getElem?_eq_some_iff.1 hx1
          obtain ⟨b1, b2⟩ := List.getElem?_eq_some_iff.1 h2
          exact (List.getElem_inj (h.nd (key t))).1 (by rw [a2, b2])
        rw [swapOut_at hlt (by rw [hxlast] at hne; omega), if_pos rfl]
        exact hl
      · rw [updK_other _ _ hxlast]
        have hp : pos x < (L (key t)).length - 1 := by
          have : pos x ≠ (L (key t)).length - 1 := fun e => by
            rw [e, ← List.getLast?_eq_getElem?, hl] at hx1
            exact hxlast (Option.some.inj hx1).symm
          omega
        rw [swapOut_at hlt hp, if_neg hne]
        exact hx1
    · rw [updK_other _ _ hk]
      by_cases hxlast : x = last
      · have : last ∈ L (key t) := List.mem_of_getLast? hl
        exact absurd (by rw [hxlast]; exact ((h.mem _ _).1 this).2) hk
      · rw [updK_other _ _ hxlast]; exact hx1
end Go.Proofs.Yteimgebfbnmdcaa
/- The document's store: rows in order; what they are of a store of spans. -/
namespace Go.Proofs.Yteimgebfbnmdcaa
open Go.RowKit

/-- A row. -/
structure Rw where
  t : Tp
  s : Int
  u : Int
instance : DecidableEq Rw := fun a b => decidable_of_iff (a.t = b.t ∧ a.s = b.s ∧ a.u = b.u)
  ⟨fun ⟨h1, h2, h3⟩ => by cases a; cases b; cases h1; cases h2; cases h3; rfl, fun h => by rw [h]; exact ⟨rfl, rfl, rfl⟩⟩
/-- An order of tuples. -/
structure TOrd (lt : Tp → Tp → Bool) : Prop where
  irr : ∀ a, lt a a = false
  tr : ∀ a b c, lt a b = true → lt b c = true → lt a c = true
  tri : ∀ a b, a ≠ b → lt a b = false → lt b a = true
/-- Does a row stand ahead of another one? -/
def rlt (lt : Tp → Tp → Bool) (a b : Rw) : Bool := if a.t = b.t then decide (a.s < b.s) else lt a.t b.t
theorem rlt_irr {lt : Tp → Tp → Bool} (a : Rw) : rlt lt a a = false := by simp [rlt]
theorem rlt_tr {lt : Tp → Tp → Bool} (h : TOrd lt) {a b c : Rw} (h1 : rlt lt a b = true) (h2 : rlt lt b c = true) : rlt lt a c = true := by
  unfold rlt at *
  by_cases e1 : a.t = b.t
  · rw [if_pos e1] at h1
    rw [e1]
    by_cases e2 : b.t = c.t
    · rw [if_pos e2] at h2 ⊢
      simp at h1 h2 ⊢; omega
    · rw [if_neg e2] at h2 ⊢; exact h2
  · rw [if_neg e1] at h1
    by_cases e2 : b.t = c.t
    · rw [← e2, if_neg e1]; exact h1
    · rw [if_neg e2] at h2
      have h3 := h.tr _ _ _ h1 h2
      by_cases e3 : a.t = c.t
      · rw [e3, h.irr] at h3; cases h3
      · rw [if_neg e3]; exact h3
theorem rlt_tri {lt : Tp → Tp → Bool} (h : TOrd lt) {a b : Rw} (hn : ¬ (a.t = b.t ∧ a.s = b.s)) (h1 : rlt lt a b = false) : rlt lt b a = true := by
  unfold rlt at *
  by_cases e : a.t = b.t
  · rw [if_pos e] at h1
    rw [if_pos e.symm]
    simp at h1 ⊢
    have : a.s ≠ b.s := fun e2 => hn ⟨e, e2⟩
    omega
  · rw [if_neg e] at h1
    rw [if_neg (fun e2 => e e2.symm)]
    exact h.tri _ _ e h1
def RSorted (lt : Tp → Tp → Bool) (l : List Rw) : Prop := l.Pairwise fun a b => rlt lt a b = true
/-- In order there is one list of given rows. -/
theorem rsorted_unique {lt : Tp → Tp → Bool} (h : TOrd lt) : ∀ {a b : List Rw}, RSorted lt a → RSorted lt b → (∀ x, x ∈ a ↔ x ∈ b) → a = b := by
  intro a
  induction a with
  | nil =>
    intro b _ _ hm
    cases b with
    | nil => rfl
    | cons y b => exact absurd ((hm y).2 (by simp)) (by simp)
  | cons x a ih =>
    intro b ha hb hm
    cases b with
    | nil => exact absurd ((hm x).1 (by simp)) (by simp)
    | cons y b =>
      have ha2 := List.pairwise_cons.1 ha
      have hb2 := List.pairwise_cons.1 hb
      have hxy : x = y := by
        rcases List.mem_cons.1 ((hm x).1 (by simp)) with h1 | h1
        · exact h1
        · rcases List.mem_cons.1 ((hm y).2 (by simp)) with h2 | h2
          · exact h2.symm
          · have := rlt_tr h (hb2.1 x h1) (ha2.1 y h2)
            rw [rlt_irr] at this; cases this
      subst hxy
      have hx : ∀ z : Rw, rlt lt x z = true → z ≠ x := fun z hz e => by rw [e, rlt_irr] at hz; cases hz
      congr 1
      refine ih ha2.2 hb2.2 fun z => ⟨fun hz => ?_, fun hz => ?_⟩
      · rcases List.mem_cons.1 ((hm z).1 (List.mem_cons_of_mem _ hz)) with h1 | h1
        · exact absurd h1 (hx z (ha2.1 z hz))
        · exact h1
      · rcases List.mem_cons.1 ((hm z).2 (List.mem_cons_of_mem _ hz)) with h1 | h1
        · exact absurd h1 (hx z (hb2.1 z hz))
        · exact h1
/-- One row more, in order. -/
def withR (lt : Tp → Tp → Bool) (r : Rw) : List Rw → List Rw
  | [] => [r]
  | x :: l => if rlt lt r x then r :: x :: l else x :: withR lt r l
theorem withR_mem (lt : Tp → Tp → Bool) (r y : Rw) : ∀ l : List Rw, y ∈ withR lt r l ↔ y = r ∨ y ∈ l := by
  intro l
  induction l with
  | nil => simp [withR]
  | cons x l ih =>
    unfold withR
    by_cases h : rlt lt r x = true
    · rw [if_pos h]; simp
    · rw [if_neg h, List.mem_cons, ih, List.mem_cons]
      constructor
      · rintro (h1 | h1 | h1)
        · exact .inr (.inl h1)
        · exact .inl h1
        · exact .inr (.inr h1)
      · rintro (h1 | h1 | h1)
        · exact .inr (.inl h1)
        · exact .inl h1
        · exact .inr (.inr h1)
theorem withR_sorted {lt : Tp → Tp → Bool} (h : TOrd lt) (r : Rw) : ∀ {l : List Rw}, RSorted lt l → (∀ x ∈ l, ¬ (r.t = x.t ∧ r.s = x.s)) → RSorted lt (withR lt r l) := by
  intro l
  induction l with
  | nil => intro _ _; simp [withR, RSorted]
  | cons x l ih =>
    intro hs hn
    have hs2 := List.pairwise_cons.1 hs
    unfold withR
    by_cases hb : rlt lt r x = true
    · rw [if_pos hb]
      refine List.pairwise_cons.2 ⟨fun y hy => ?_, hs⟩
      rcases List.mem_cons.1 hy with h1 | h1
      · rw [h1]; exact hb
      · exact rlt_tr h hb (hs2.1 y h1)
    · rw [if_neg hb]
      refine List.pairwise_cons.2 ⟨fun y hy => ?_, ih hs2.2 (fun y hy => hn y (List.mem_cons_of_mem _ hy))⟩
      rcases (withR_mem lt r y l).1 hy with h1 | h1
      · rw [h1]; exact rlt_tri h (hn x (by simp)) (by simpa using hb)
      · exact hs2.1 y h1
/-- The rows of a store. -/
structure Rep (lt : Tp → Tp → Bool) (M : SM) (R : List Rw) : Prop where
  so : RSorted lt R
  mem : ∀ t s u, (⟨t, s, u⟩ : Rw) ∈ R ↔ (⟨s, u⟩ : Sp) ∈ M.sp t
theorem Rep.empty (lt : Tp → Tp → Bool) : Rep lt SM.empty [] := ⟨by simp [RSorted], by simp [SM.empty]⟩
theorem Rep.unique {lt : Tp → Tp → Bool} (h : TOrd lt) {M : SM} {a b : List Rw} (ha : Rep lt M a) (hb : Rep lt M b) : a = b :=
  rsorted_unique h ha.so hb.so fun ⟨t, s, u⟩ => (ha.mem t s u).trans (hb.mem t s u).symm
/-- One span more, that no other one begins with. -/
theorem Rep.with_ {lt : Tp → Tp → Bool} (h : TOrd lt) {M : SM} {R : List Rw} (hr : Rep lt M R) {t : Tp} {x : Sp} (hn : ∀ y ∈ M.sp t, y.s ≠ x.s) : Rep lt (M.put t (M.sp t ++ [x])) (withR lt ⟨t, x.s, x.u⟩ R) := by
  refine ⟨withR_sorted h _ hr.so (fun y hy e => ?_), fun t2 s u => ?_⟩
  · obtain ⟨yt, ys, yu⟩ := y
    have h1 := (hr.mem yt ys yu).1 hy
    have e1 : t = yt := e.1
    have e2 : x.s = ys := e.2
    rw [← e1] at h1
    exact hn _ h1 e2.symm
  · rw [withR_mem, hr.mem]
    by_cases ht : t2 = t
    · subst ht
      rw [SM.put_same, List.mem_append, List.mem_singleton]
      constructor
      · rintro (h1 | h1)
        · injection h1 with _ h2 h3
          exact .inr (by rw [h2, h3])
        · exact .inl h1
      · rintro (h1 | h1)
        · exact .inr h1
        · exact .inl (by rw [← h1])
    · rw [SM.put_other M _ ht]
      constructor
      · rintro (h1 | h1)
        · exact absurd (by injection h1) ht
        · exact h1
      · exact fun h1 => .inr h1
/-- Rows that stay: of a store whose spans stay as the rows do. -/
theorem Rep.filter {lt : Tp → Tp → Bool} {M N : SM} {R : List Rw} (hr : Rep lt M R) (p : Rw → Bool) (hN : ∀ t, N.sp t = (M.sp t).filter (fun x => p ⟨t, x.s, x.u⟩)) : Rep lt N (R.filter p) := by
  refine ⟨hr.so.filter p, fun t s u => ?_⟩
  rw [List.mem_filter, hr.mem, hN, List.mem_filter]
end Go.Proofs.Yteimgebfbnmdcaa
/- One change of the document's rows: a tuple's last revision, its open row, and what a change is of the store of spans. -/
namespace Go.Proofs.Yteimgebfbnmdcaa
open Go.RowKit

theorem max_or (a b : Int) : max a b = a ∨ max a b = b := by omega
/-- A tuple's last revision in rows. -/
def lastStep (t : Tp) (a : Int) (x : Rw) : Int := if x.t = t then max (max a x.s) x.u else a
def lastR (R : List Rw) (t : Tp) : Int := R.foldl (lastStep t) 0
theorem lastFold_ge (t : Tp) : ∀ (R : List Rw) (a : Int), a ≤ R.foldl (lastStep t) a := by
  intro R
  induction R with
  | nil => intro a; exact Int.le_refl a
  | cons x R ih =>
    intro a
    refine Int.le_trans ?_ (ih _)
    unfold lastStep
    by_cases h : x.t = t
    · rw [if_pos h]; omega
    · rw [if_neg h]; omega
theorem lastFold_mem (t : Tp) : ∀ (R : List Rw) (a : Int), ∀ x ∈ R, x.t = t → x.s ≤ R.foldl (lastStep t) a ∧ x.u ≤ R.foldl (lastStep t) a := by
  intro R
  induction R with
  | nil => intro a x hx; exact absurd hx (by simp)
  | cons y R ih =>
    intro a x hx ht
    rcases List.mem_cons.1 hx with h1 | h1
    · subst h1
      have h2 := lastFold_ge t R (lastStep t a x)
      have h3 : lastStep t a x = max (max a x.s) x.u := by unfold lastStep; rw [if_pos ht]
      rw [List.foldl_cons]
      rw [h3] at h2 ⊢
      omega
    · exact ih _ x h1 ht
theorem lastFold_le (t : Tp) (m : Int) : ∀ (R : List Rw) (a : Int), a ≤ m → (∀ x ∈ R, x.t = t → x.s ≤ m ∧ x.u ≤ m) → R.foldl (lastStep t) a ≤ m := by
  intro R
  induction R with
  | nil => intro a ha _; exact ha
  | cons y R ih =>
    intro a ha hm
    rw [List.foldl_cons]
    refine ih _ ?_ (fun x hx => hm x (List.mem_cons_of_mem _ hx))
    unfold lastStep
    by_cases h : y.t = t
    · rw [if_pos h]; have := hm y (by simp) h; omega
    · rw [if_neg h]; exact ha
/-- Every span of a tuple is within its last revision. -/
theorem SpOk.le_latest {l : List Sp} (h : SpOk l) : ∀ x ∈ l, x.s ≤ latestB l ∧ x.u ≤ latestB l := by
  intro x hx
  cases hl : l.getLast? with
  | none => exact absurd (List.getLast?_eq_none_iff.1 hl) h.ne
  | some y =>
    have he : latestB l = max y.s y.u := by unfold latestB; rw [hl]
    rw [he]
    have hs := last_split hl
    rw [hs] at hx
    rcases List.mem_append.1 hx with h1 | h1
    · have hp := h.asc
      rw [hs] at hp
      have h2 := (List.pairwise_append.1 hp).2.2 x h1 y (by simp)
      have h3 := h.all x (by rw [hs]; exact List.mem_append_left _ h1)
      rcases h3.2.2 with h4 | h4
      · exact absurd h4 h2.1
      · omega
    · rw [List.mem_singleton] at h1
      rw [h1]; omega
theorem SMOk.sp_cases {M : SM} (h : SMOk M) (t : Tp) : M.sp t = [] ∨ SpOk (M.sp t) := by
  by_cases ht : t ∈ M.K
  · exact .inr (h.ok t ht)
  · exact .inl (h.no t ht)
theorem Rep.last {lt : Tp → Tp → Bool} {M : SM} {R : List Rw} (hr : Rep lt M R) (hm : SMOk M) (t : Tp) : lastR R t = latestB (M.sp t) := by
  have hup : lastR R t ≤ latestB (M.sp t) := by
    refine lastFold_le t _ R 0 ?_ fun x hx ht => ?_
    · rcases hm.sp_cases t with h1 | h1
      · rw [h1]; exact Int.le_refl _
      · obtain ⟨x, hx⟩ := List.exists_mem_of_ne_nil _ h1.ne
        have := h1.le_latest x hx
        have := (h1.all x hx).1
        omega
    · obtain ⟨xt, xs, xu⟩ := x
      have e1 : xt = t := ht
      subst e1
      have h1 := (hr.mem _ _ _).1 hx
      rcases hm.sp_cases xt with h2 | h2
      · rw [h2] at h1; exact absurd h1 (by simp)
      · exact h2.le_latest _ h1
  have hlo : latestB (M.sp t) ≤ lastR R t := by
    unfold latestB
    cases hl : (M.sp t).getLast? with
    | none => exact lastFold_ge t R 0
    | some y =>
      have h1 : y ∈ M.sp t := List.mem_of_getLast? hl
      have h2 := lastFold_mem t R 0 ⟨t, y.s, y.u⟩ ((hr.mem t y.s y.u).2 h1) rfl
      show max y.s y.u ≤ lastR R t
      unfold lastR
      have h3 : y.s ≤ R.foldl (lastStep t) 0 := h2.1
      have h4 : y.u ≤ R.foldl (lastStep t) 0 := h2.2
      omega
  omega
/-- The one open span is the last one. -/
theorem SpOk.open_last {l : List Sp} (h : SpOk l) {x : Sp} (hx : x ∈ l) (hu : x.u = 0) : l.getLast? = some x := by
  cases hl : l.getLast? with
  | none => exact absurd (List.getLast?_eq_none_iff.1 hl) h.ne
  | some y =>
    have hs := last_split hl
    rw [hs] at hx
    rcases List.mem_append.1 hx with h1 | h1
    · have hp := h.asc
      rw [hs] at hp
      exact absurd hu ((List.pairwise_append.1 hp).2.2 x h1 y (by simp)).1
    · rw [List.mem_singleton] at h1; rw [h1]
theorem openB_iff {l : List Sp} (h : l = [] ∨ SpOk l) : openB l = true ↔ ∃ x ∈ l, x.u = 0 := by
  constructor
  · intro ho
    unfold openB at ho
    cases hl : l.getLast? with
    | none => rw [hl] at ho; cases ho
    | some y => rw [hl] at ho; exact ⟨y, List.mem_of_getLast? hl, by simpa using ho⟩
  · rintro ⟨x, hx, hu⟩
    rcases h with h1 | h1
    · rw [h1] at hx; exact absurd hx (by simp)
    · unfold openB; rw [h1.open_last hx hu]; simpa using hu
/-- Is a row the open one of a tuple? -/
def isOpen (t : Tp) (x : Rw) : Bool := decide (x.t = t) && decide (x.u = 0)
theorem Rep.open_ {lt : Tp → Tp → Bool} {M : SM} {R : List Rw} (hr : Rep lt M R) (hm : SMOk M) (t : Tp) : R.any (isOpen t) = openB (M.sp t) := by
  rw [Bool.eq_iff_iff, openB_iff (hm.sp_cases t), List.any_eq_true]
  constructor
  · rintro ⟨⟨xt, xs, xu⟩, hx, ho⟩
    unfold isOpen at ho
    simp at ho
    obtain ⟨rfl, h0⟩ := ho
    exact ⟨⟨xs, xu⟩, (hr.mem _ _ _).1 hx, h0⟩
  · rintro ⟨⟨xs, xu⟩, hx, h0⟩
    refine ⟨⟨t, xs, xu⟩, (hr.mem _ _ _).2 hx, ?_⟩
    unfold isOpen
    simpa using h0
/-- The open row of a tuple ends. -/
theorem Rep.end_ {lt : Tp → Tp → Bool} {M : SM} {R : List Rw} (hr : Rep lt M R) (hm : SMOk M) {t : Tp} {rev : Int} {k : Nat} {r : Rw} (hk : R[k]? = some r) (ht : r.t = t) (h0 : r.u = 0) :
    Rep lt (M.put t (endB (M.sp t) rev)) (R.set k ⟨t, r.s, rev⟩) := by
  obtain ⟨rt, rs, ru⟩ := r
  have e1 : rt = t := ht
  have e2 : ru = 0 := h0
  subst e1
  subst e2
  obtain ⟨hkl, hkr⟩ := List.getElem?_eq_some_iff.1 hk
  have hmem : (⟨rs, 0⟩ : Sp) ∈ M.sp rt := (hr.mem _ _ _).1 (List.mem_of_getElem? hk)
  have hok : SpOk (M.sp rt) := by
    rcases hm.sp_cases rt with h1 | h1
    · rw [h1] at hmem; exact absurd hmem (by simp)
    · exact h1
  have hl := hok.open_last hmem rfl
  have hspl := last_split hl
  have hend : endB (M.sp rt) rev = (M.sp rt).dropLast ++ [⟨rs, rev⟩] := by unfold endB; rw [hl]
  have hnd : R.Nodup := by
    unfold List.Nodup
    exact hr.so.imp fun hab e => by rw [e, rlt_irr] at hab; cases hab
  refine ⟨?_, fun t2 s u => ?_⟩
  · show ((R.set k ⟨rt, rs, rev⟩)).Pairwise _
    rw [List.pairwise_iff_getElem]
    intro i j hi hj hij
    have hso := List.pairwise_iff_getElem.1 hr.so i j (by simpa using hi) (by simpa using hj) hij
    rw [List.getElem_set, List.getElem_set]
    have hc : ∀ x : Rw, rlt lt ⟨rt, rs, rev⟩ x = rlt lt ⟨rt, rs, 0⟩ x := fun x => rfl
    have hd : ∀ x : Rw, rlt lt x ⟨rt, rs, rev⟩ = rlt lt x ⟨rt, rs, 0⟩ := fun x => rfl
    by_cases hki : k = i
    · subst hki
      rw [if_pos rfl, if_neg (by omega), hc, ← hkr]
      exact hso
    · rw [if_neg hki]
      by_cases hkj : k = j
      · subst hkj
        rw [if_pos rfl, hd, ← hkr]
        exact hso
      · rw [if_neg hkj]; exact hso
  · have hset : ∀ x : Rw, x ∈ R.set k ⟨rt, rs, rev⟩ ↔ x = ⟨rt, rs, rev⟩ ∨ (x ∈ R ∧ x ≠ ⟨rt, rs, 0⟩) := by
      intro x
      constructor
      · intro hx
        obtain ⟨j, hj, hjx⟩ := List.getElem_of_mem hx
        rw [List.getElem_set] at hjx
        by_cases hkj : k = j
        · rw [if_pos hkj] at hjx; exact .inl hjx.symm
        · rw [if_neg hkj] at hjx
          refine .inr ⟨hjx ▸ List.getElem_mem _, fun e => hkj ?_⟩
          exact (List.getElem_inj hnd).1 (by rw [hkr, hjx, e])
      · rintro (h1 | ⟨h1, h2⟩)
        · rw [h1]; exact List.mem_set hkl _
        · obtain ⟨j, hj, hjx⟩ := List.getElem_of_mem h1
          have hkj : k ≠ j := fun e => h2 (by subst e; rw [← hjx, hkr])
          have : (R.set k ⟨rt, rs, rev⟩)[j]? = some x := by
            rw [List.getElem?_set, if_neg hkj, List.getElem?_eq_getElem hj, hjx]
          exact List.mem_of_getElem? this
    rw [hset, hr.mem]
    by_cases ht2 : t2 = rt
    · subst ht2
      rw [SM.put_same, hend, List.mem_append, List.mem_singleton]
      have hlastnot : (⟨rs, 0⟩ : Sp) ∉ (M.sp t2).dropLast := by
        intro hin
        have hp := hok.asc
        rw [hspl] at hp
        exact absurd rfl ((List.pairwise_append.1 hp).2.2 _ hin ⟨rs, 0⟩ (by simp)).1
      constructor
      · rintro (h1 | ⟨h1, h2⟩)
        · injection h1 with _ h3 h4
          exact .inr (by rw [h3, h4])
        · rw [hspl] at h1
          rcases List.mem_append.1 h1 with h3 | h3
          · exact .inl h3
          · rw [List.mem_singleton] at h3
            injection h3 with h4 h5
            exact absurd (by rw [h4, h5]) h2
      · rintro (h1 | h1)
        · refine .inr ⟨by rw [hspl]; exact List.mem_append_left _ h1, fun e => ?_⟩
          injection e with _ h4 h5
          rw [h4, h5] at h1
          exact hlastnot h1
        · injection h1 with h3 h4
          exact .inl (by rw [h3, h4])
    · rw [SM.put_other M _ ht2]
      constructor
      · rintro (h1 | h1)
        · exact absurd (by injection h1) ht2
        · exact h1.1
      · exact fun h1 => .inr ⟨h1, fun e => ht2 (by injection e)⟩
/-- No span of a tuple begins where a new one does. -/
theorem SMOk.fresh {M : SM} (h : SMOk M) {t : Tp} {rev : Int} (hr : latestB (M.sp t) < rev) : ∀ y ∈ M.sp t, y.s ≠ rev := by
  intro y hy
  rcases h.sp_cases t with h1 | h1
  · rw [h1] at hy; exact absurd hy (by simp)
  · have := h1.le_latest y hy
    omega
end Go.Proofs.Yteimgebfbnmdcaa
/- Changes in a row, what is collected, dropped and loaded: of the store of spans, and of the document's rows. -/
namespace Go.Proofs.Yteimgebfbnmdcaa
open Go.RowKit

/-- A tuple's spans behind one change. -/
def oneSp (l : List Sp) (rev : Int) (d : Bool) : List Sp := if d then (if openB l then endB l rev else l) else (if openB l then l else l ++ [⟨rev, 0⟩])
theorem SM.one_same (M : SM) (rev : Int) (d : Bool) (t : Tp) : (M.one rev d t).sp t = oneSp (M.sp t) rev d := by
  unfold SM.one oneSp
  cases d <;> cases openB (M.sp t) <;> simp [SM.put_same]
theorem SM.one_other (M : SM) (rev : Int) (d : Bool) {t x : Tp} (h : x ≠ t) : (M.one rev d t).sp x = M.sp x := by
  unfold SM.one
  cases d <;> cases openB (M.sp t) <;> simp [SM.put_other, h]
/-- The document's open row, of the first n. -/
def openAt (R : List Rw) (t : Tp) : Nat → Option Nat
  | 0 => none
  | n + 1 => if (R[n]?).any (isOpen t) then some n else openAt R t n
theorem openAt_some {R : List Rw} {t : Tp} : ∀ {n k : Nat}, openAt R t n = some k → ∃ r, R[k]? = some r ∧ r.t = t ∧ r.u = 0 := by
  intro n
  induction n with
  | zero => intro k h; cases h
  | succ n ih =>
    intro k h
    unfold openAt at h
    by_cases h1 : (R[n]?).any (isOpen t) = true
    · rw [if_pos h1] at h
      have hk : n = k := Option.some.inj h
      subst hk
      cases hr : R[n]? with
      | none => rw [hr] at h1; cases h1
      | some r =>
        rw [hr] at h1
        have h2 : isOpen t r = true := h1
        unfold isOpen at h2
        simp at h2
        exact ⟨r, rfl, h2.1, h2.2⟩
    · rw [if_neg h1] at h; exact ih h
theorem openAt_none {R : List Rw} {t : Tp} : ∀ {n : Nat}, openAt R t n = none → ∀ k r, k < n → R[k]? = some r → isOpen t r = false := by
  intro n
  induction n with
  | zero => intro _ k r hk; exact absurd hk (Nat.not_lt_zero _)
  | succ n ih =>
    intro h k r hk hr
    unfold openAt at h
    by_cases h1 : (R[n]?).any (isOpen t) = true
    · rw [if_pos h1] at h; cases h
    · rw [if_neg h1] at h
      by_cases hkn : k = n
      · subst hkn
        rw [hr] at h1
        cases hi : isOpen t r with
        | false => rfl
        | true => exact absurd (show (some r).any (isOpen t) = true from hi) h1
      · exact ih h k r (by omega) hr
theorem openAt_any {R : List Rw} {t : Tp} : (openAt R t R.length).isSome = R.any (isOpen t) := by
  cases h : openAt R t R.length with
  | some k =>
    obtain ⟨r, h1, h2, h3⟩ := openAt_some h
    symm
    rw [Option.isSome_some, List.any_eq_true]
    exact ⟨r, List.mem_of_getElem? h1, by unfold isOpen; simp [h2, h3]⟩
  | none =>
    symm
    rw [Option.isSome_none, List.any_eq_false]
    intro r hr
    obtain ⟨k, hk, hkr⟩ := List.getElem_of_mem hr
    rw [openAt_none h k r hk (by rw [List.getElem?_eq_getElem hk, hkr])]
    decide
/-- The document's one change. -/
def oneR (lt : Tp → Tp → Bool) (R : List Rw) (rev : Int) (d : Bool) (t : Tp) : List Rw := match openAt R t R.length with
  | some k => if d then (match R[k]? with
      | some r => R.set k ⟨t, r.s, rev⟩
      | none => R) else R
  | none => if d then R else withR lt ⟨t, rev, 0⟩ R
theorem Rep.one {lt : Tp → Tp → Bool} (h : TOrd lt) {M : SM} {R : List Rw} (hr : Rep lt M R) (hm : SMOk M) {rev : Int} (d : Bool) (t : Tp) (hl : latestB (M.sp t) < rev) : Rep lt (M.one rev d t) (oneR lt R rev d t) := by
  have ho : (openAt R t R.length).isSome = openB (M.sp t) := openAt_any.trans (hr.open_ hm t)
  unfold SM.one oneR
  cases hk : openAt R t R.length with
  | some k =>
    rw [hk] at ho
    have ho2 : openB (M.sp t) = true := ho.symm
    obtain ⟨r, h1, h2, h3⟩ := openAt_some hk
    cases d with
    | true =>
      simp only [ho2, if_true, h1]
      exact hr.end_ hm h1 h2 h3
    | false => simp only [ho2, if_true, Bool.false_eq_true, if_false]; exact hr
  | none =>
    rw [hk] at ho
    have ho2 : openB (M.sp t) = false := ho.symm
    cases d with
    | true => simp only [ho2, if_true, Bool.false_eq_true, if_false]; exact hr
    | false =>
      simp only [ho2, Bool.false_eq_true, if_false]
      exact hr.with_ (x := ⟨rev, 0⟩) h (hm.fresh hl)
/-- Changes in a row. -/
structure Mu where
  d : Bool
  t : Tp
def SM.apply (M : SM) (rev : Int) (l : List Mu) : SM := l.foldl (fun M m => M.one rev m.d m.t) M
def applyR (lt : Tp → Tp → Bool) (R : List Rw) (rev : Int) (l : List Mu) : List Rw := l.foldl (fun R m => oneR lt R rev m.d m.t) R
/-- What a check asks of changes. -/
structure MuOk (M : SM) (rev : Int) (l : List Mu) : Prop where
  nd : (l.map Mu.t).Nodup
  la : ∀ m ∈ l, latestB (M.sp m.t) < rev
theorem MuOk.tail {M : SM} {rev : Int} {m : Mu} {l : List Mu} (h : MuOk M rev (m :: l)) : MuOk (M.one rev m.d m.t) rev l := by
  have hn := h.nd
  rw [List.map_cons, List.nodup_cons] at hn
  refine ⟨hn.2, fun x hx => ?_⟩
  rw [SM.one_other M rev m.d (fun e => hn.1 (by rw [← e]; exact List.mem_map_of_mem hx))]
  exact h.la x (List.mem_cons_of_mem _ hx)
theorem SMOk.apply {rev : Int} (h1 : 1 ≤ rev) (h2 : rev ≤ maxRev) : ∀ {l : List Mu} {M : SM}, SMOk M → MuOk M rev l → SMOk (M.apply rev l) := by
  intro l
  induction l with
  | nil => exact fun h _ => h
  | cons m l ih => exact fun h hl => ih (h.one m.d m.t h1 h2 (hl.la m (by simp))) hl.tail
theorem Rep.apply {lt : Tp → Tp → Bool} (h : TOrd lt) {rev : Int} (h1 : 1 ≤ rev) (h2 : rev ≤ maxRev) : ∀ {l : List Mu} {M : SM} {R : List Rw}, Rep lt M R → SMOk M → MuOk M rev l → Rep lt (M.apply rev l) (applyR lt R rev l) := by
  intro l
  induction l with
  | nil => exact fun hr _ _ => hr
  | cons m l ih => exact fun hr hm hl => ih (hr.one h hm m.d m.t (hl.la m (by simp))) (hm.one m.d m.t h1 h2 (hl.la m (by simp))) hl.tail
/-- What changes in a row make of a tuple. -/
theorem SM.apply_sp {rev : Int} : ∀ {l : List Mu} {M : SM}, (l.map Mu.t).Nodup → (∀ m ∈ l, (M.apply rev l).sp m.t = oneSp (M.sp m.t) rev m.d) ∧ ∀ t, t ∉ l.map Mu.t → (M.apply rev l).sp t = M.sp t := by
  intro l
  induction l with
  | nil => exact fun {M} _ => ⟨by simp, fun _ _ => rfl⟩
  | cons m l ih =>
    intro M hn
    rw [List.map_cons, List.nodup_cons] at hn
    obtain ⟨i1, i2⟩ := ih (M := M.one rev m.d m.t) hn.2
    refine ⟨fun x hx => ?_, fun t ht => ?_⟩
    · show ((M.one rev m.d m.t).apply rev l).sp x.t = _
      rcases List.mem_cons.1 hx with h1 | h1
      · rw [h1, i2 _ hn.1, SM.one_same]
      · rw [i1 x h1, SM.one_other M rev m.d (fun e => hn.1 (by rw [← e]; exact List.mem_map_of_mem h1))]
    · show ((M.one rev m.d m.t).apply rev l).sp t = _
      rw [List.map_cons, List.mem_cons, not_or] at ht
      rw [i2 t ht.2, SM.one_other M rev m.d ht.1]
/-- In any order. -/
theorem SM.apply_reverse {rev : Int} {l : List Mu} {M : SM} (hn : (l.map Mu.t).Nodup) (t : Tp) : (M.apply rev l.reverse).sp t = (M.apply rev l).sp t := by
  have hn2 : (l.reverse.map Mu.t).Nodup := by rw [List.map_reverse]; exact (List.reverse_perm _).nodup_iff.2 hn
  obtain ⟨a1, a2⟩ := SM.apply_sp (rev := rev) (M := M) hn
  obtain ⟨b1, b2⟩ := SM.apply_sp (rev := rev) (M := M) hn2
  by_cases ht : t ∈ l.map Mu.t
  · obtain ⟨m, hm, rfl⟩ := List.mem_map.1 ht
    rw [a1 m hm, b1 m (List.mem_reverse.2 hm)]
  · rw [a2 t ht, b2 t (by rw [List.map_reverse, List.mem_reverse]; exact ht)]
/-- Spans that are over are gone. -/
def collectB (l : List Sp) (rev : Int) : List Sp := l.filter fun x => !x.over rev
def SM.collect (M : SM) (rev : Int) : SM := ⟨M.K.filter (fun t => !(collectB (M.sp t) rev).isEmpty), fun t => collectB (M.sp t) rev⟩
theorem SpOk.collect {l : List Sp} (h : SpOk l) (rev : Int) (hne : collectB l rev ≠ []) : SpOk (collectB l rev) :=
  ⟨hne, fun x hx => h.all x (List.mem_filter.1 hx).1, h.asc.filter _⟩
theorem SMOk.collect {M : SM} (h : SMOk M) (rev : Int) : SMOk (M.collect rev) := by
  have hK : ∀ t, t ∈ (M.collect rev).K ↔ t ∈ M.K ∧ collectB (M.sp t) rev ≠ [] := fun t => by
    show t ∈ M.K.filter _ ↔ _
    rw [List.mem_filter]
    simp
  refine ⟨h.nd.filter _, fun t ht => ?_, fun t ht => ?_⟩
  · obtain ⟨h1, h2⟩ := (hK t).1 ht
    exact (h.ok t h1).collect rev h2
  · show collectB (M.sp t) rev = []
    by_cases h1 : t ∈ M.K
    · by_cases h2 : collectB (M.sp t) rev = []
      · exact h2
      · exact absurd ((hK t).2 ⟨h1, h2⟩) ht
    · rw [h.no t h1]; rfl
def collectR (R : List Rw) (rev : Int) : List Rw := R.filter fun x => decide (x.u = 0) || decide (rev < x.u)
theorem over_not (x : Sp) (rev : Int) : (!x.over rev) = (decide (x.u = 0) || decide (rev < x.u)) := by
  unfold Sp.over
  by_cases h1 : x.u = 0 <;> by_cases h2 : x.u ≤ rev <;> simp [h1, h2] <;> omega
theorem Rep.collect {lt : Tp → Tp → Bool} {M : SM} {R : List Rw} (hr : Rep lt M R) (rev : Int) : Rep lt (M.collect rev) (collectR R rev) := by
  refine hr.filter _ fun t => ?_
  show (M.sp t).filter _ = _
  congr 1
  funext x
  exact over_not x rev
/-- Some tuples are gone. -/
def SM.drop (M : SM) (g : Tp → Bool) : SM := ⟨M.K.filter (fun t => !g t), fun t => if g t then [] else M.sp t⟩
theorem SMOk.drop {M : SM} (h : SMOk M) (g : Tp → Bool) : SMOk (M.drop g) := by
  have hK : ∀ t, t ∈ (M.drop g).K ↔ t ∈ M.K ∧ g t = false := fun t => by
    show t ∈ M.K.filter _ ↔ _
    rw [List.mem_filter]
    simp
  refine ⟨h.nd.filter _, fun t ht => ?_, fun t ht => ?_⟩
  · obtain ⟨h1, h2⟩ := (hK t).1 ht
    show SpOk (if g t then [] else M.sp t)
    rw [h2]; exact h.ok t h1
  · show (if g t then [] else M.sp t) = []
    cases hg : g t with
    | true => rfl
    | false => exact h.no t (fun h1 => ht ((hK t).2 ⟨h1, hg⟩))
theorem Rep.drop {lt : Tp → Tp → Bool} {M : SM} {R : List Rw} (hr : Rep lt M R) (g : Tp → Bool) : Rep lt (M.drop g) (R.filter fun x => !g x.t) := by
  refine hr.filter _ fun t => ?_
  show (if g t then [] else M.sp t) = (M.sp t).filter (fun _ => !g t)
  cases hg : g t with
  | true => simp
  | false => exact (List.filter_eq_self.2 (fun _ _ => rfl)).symm
/-- One span more, behind the others. -/
structure AddOk (M : SM) (t : Tp) (x : Sp) : Prop where
  ok : x.ok
  la : ∀ y, (M.sp t).getLast? = some y → y.u ≠ 0 ∧ y.u < x.s
theorem SMOk.addSp {M : SM} (h : SMOk M) {t : Tp} {x : Sp} (ha : AddOk M t x) : SMOk (M.put t (M.sp t ++ [x])) := by
  refine h.put t ?_
  rcases h.sp_cases t with h1 | h1
  · rw [h1]; exact ⟨by simp, fun y hy => by rw [List.nil_append, List.mem_singleton] at hy; rw [hy]; exact ha.ok, by simp⟩
  · refine ⟨by simp, fun y hy => ?_, List.pairwise_append.2 ⟨h1.asc, by simp, fun a hma b hmb => ?_⟩⟩
    · rcases List.mem_append.1 hy with h2 | h2
      · exact h1.all y h2
      · rw [List.mem_singleton] at h2; rw [h2]; exact ha.ok
    · rw [List.mem_singleton] at hmb
      rw [hmb]
      cases hl : (M.sp t).getLast? with
      | none => exact absurd (List.getLast?_eq_none_iff.1 hl) h1.ne
      | some y =>
        obtain ⟨l1, l2⟩ := ha.la y hl
        have hs := last_split hl
        rw [hs] at hma
        rcases List.mem_append.1 hma with h2 | h2
        · have hp := h1.asc
          rw [hs] at hp
          have h3 := (List.pairwise_append.1 hp).2.2 a h2 y (by simp)
          have h4 := (h1.all y (List.mem_of_getLast? hl)).2.2
          exact ⟨h3.1, by omega⟩
        · rw [List.mem_singleton] at h2
          rw [h2]; exact ⟨l1, l2⟩
theorem AddOk.fresh {M : SM} (h : SMOk M) {t : Tp} {x : Sp} (ha : AddOk M t x) : ∀ y ∈ M.sp t, y.s ≠ x.s := by
  intro y hy
  rcases h.sp_cases t with h1 | h1
  · rw [h1] at hy; exact absurd hy (by simp)
  · have h2 := (h.addSp ha).ok t ((SM.put_mem M t _ t).2 (.inr rfl))
    rw [SM.put_same] at h2
    have h3 := (List.pairwise_append.1 h2.asc).2.2 y hy x (by simp)
    have h4 := (h1.all y hy).2.2
    rcases h4 with h5 | h5
    · exact absurd h5 h3.1
    · omega
theorem Rep.addSp {lt : Tp → Tp → Bool} (h : TOrd lt) {M : SM} {R : List Rw} (hr : Rep lt M R) (hm : SMOk M) {t : Tp} {x : Sp} (ha : AddOk M t x) : Rep lt (M.put t (M.sp t ++ [x])) (withR lt ⟨t, x.s, x.u⟩ R) := hr.with_ h (ha.fresh hm)
/-- Of a tuple that the store has the last revision is none. -/
theorem SMOk.latest_pos {M : SM} (h : SMOk M) (t : Tp) : t ∈ M.K ↔ latestB (M.sp t) ≠ 0 := by
  constructor
  · intro ht
    have h1 := h.ok t ht
    obtain ⟨x, hx⟩ := List.exists_mem_of_ne_nil _ h1.ne
    have := h1.le_latest x hx
    have := (h1.all x hx).1
    omega
  · intro hne
    by_cases ht : t ∈ M.K
    · exact ht
    · rw [h.no t ht] at hne; exact absurd rfl hne
end Go.Proofs.Yteimgebfbnmdcaa
/- What was there at a revision: of the document's rows, and of the store of spans. -/
namespace Go.Proofs.Yteimgebfbnmdcaa
open Go.RowKit

def TSorted (lt : Tp → Tp → Bool) (l : List Tp) : Prop := l.Pairwise fun a b => lt a b = true
theorem tsorted_unique {lt : Tp → Tp → Bool} (h : TOrd lt) : ∀ {a b : List Tp}, TSorted lt a → TSorted lt b → (∀ x, x ∈ a ↔ x ∈ b) → a = b := by
  intro a
  induction a with
  | nil =>
    intro b _ _ hm
    cases b with
    | nil => rfl
    | cons y b => exact absurd ((hm y).2 (by simp)) (by simp)
  | cons x a ih =>
    intro b ha hb hm
    cases b with
    | nil => exact absurd ((hm x).1 (by simp)) (by simp)
    | cons y b =>
      have ha2 := List.pairwise_cons.1 ha
      have hb2 := List.pairwise_cons.1 hb
      have hxy : x = y := by
        rcases List.mem_cons.1 ((hm x).1 (by simp)) with h1 | h1
        · exact h1
        · rcases List.mem_cons.1 ((hm y).2 (by simp)) with h2 | h2
          · exact h2.symm
          · have := h.tr _ _ _ (hb2.1 x h1) (ha2.1 y h2)
            rw [h.irr] at this; cases this
      subst hxy
      have hx : ∀ z : Tp, lt x z = true → z ≠ x := fun z hz e => by rw [e, h.irr] at hz; cases hz
      congr 1
      refine ih ha2.2 hb2.2 fun z => ⟨fun hz => ?_, fun hz => ?_⟩
      · rcases List.mem_cons.1 ((hm z).1 (List.mem_cons_of_mem _ hz)) with h1 | h1
        · exact absurd h1 (hx z (ha2.1 z hz))
        · exact h1
      · rcases List.mem_cons.1 ((hm z).2 (List.mem_cons_of_mem _ hz)) with h1 | h1
        · exact absurd h1 (hx z (hb2.1 z hz))
        · exact h1
/-- One tuple more in order, if it isn't there. -/
def insT (lt : Tp → Tp → Bool) (t : Tp) : List Tp → List Tp
  | [] => [t]
  | x :: l => if lt t x then t :: x :: l else x :: insT lt t l
theorem insT_mem (lt : Tp → Tp → Bool) (t y : Tp) : ∀ l : List Tp, y ∈ insT lt t l ↔ y = t ∨ y ∈ l := by
  intro l
  induction l with
  | nil => simp [insT]
  | cons x l ih =>
    unfold insT
    by_cases h : lt t x = true
    · rw [if_pos h]; simp
    · rw [if_neg h, List.mem_cons, ih, List.mem_cons]
      constructor
      · rintro (h1 | h1 | h1)
        · exact .inr (.inl h1)
        · exact .inl h1
        · exact .inr (.inr h1)
      · rintro (h1 | h1 | h1)
        · exact .inr (.inl h1)
        · exact .inl h1
        · exact .inr (.inr h1)
theorem insT_sorted {lt : Tp → Tp → Bool} (h : TOrd lt) (t : Tp) : ∀ {l : List Tp}, TSorted lt l → t ∉ l → TSorted lt (insT lt t l) := by
  intro l
  induction l with
  | nil => intro _ _; simp [insT, TSorted]
  | cons x l ih =>
    intro hs hn
    have hs2 := List.pairwise_cons.1 hs
    rw [List.mem_cons, not_or] at hn
    unfold insT
    by_cases hb : lt t x = true
    · rw [if_pos hb]
      refine List.pairwise_cons.2 ⟨fun y hy => ?_, hs⟩
      rcases List.mem_cons.1 hy with h1 | h1
      · rw [h1]; exact hb
      · exact h.tr _ _ _ hb (hs2.1 y h1)
    · rw [if_neg hb]
      refine List.pairwise_cons.2 ⟨fun y hy => ?_, ih hs2.2 hn.2⟩
      rcases (insT_mem lt t y l).1 hy with h1 | h1
      · rw [h1]; exact h.tri _ _ hn.1 (by simpa using hb)
      · exact hs2.1 y h1
def withT (lt : Tp → Tp → Bool) (l : List Tp) (t : Tp) : List Tp := if t ∈ l then l else insT lt t l
theorem withT_mem (lt : Tp → Tp → Bool) (l : List Tp) (t y : Tp) : y ∈ withT lt l t ↔ y = t ∨ y ∈ l := by
  unfold withT
  by_cases h : t ∈ l
  · rw [if_pos h]
    exact ⟨.inr, fun h1 => h1.elim (fun e => e ▸ h) id⟩
  · rw [if_neg h]; exact insT_mem lt t y l
theorem withT_sorted {lt : Tp → Tp → Bool} (h : TOrd lt) {l : List Tp} (hl : TSorted lt l) (t : Tp) : TSorted lt (withT lt l t) := by
  unfold withT
  by_cases h1 : t ∈ l
  · rw [if_pos h1]; exact hl
  · rw [if_neg h1]; exact insT_sorted h t hl h1
/-- The tuples that were there, in order. -/
def atStep (lt : Tp → Tp → Bool) (rev : Int) (l : List Tp) (x : Rw) : List Tp := if (⟨x.s, x.u⟩ : Sp).at_ rev then withT lt l x.t else l
def atR (lt : Tp → Tp → Bool) (R : List Rw) (rev : Int) : List Tp := R.foldl (atStep lt rev) []
theorem atFold {lt : Tp → Tp → Bool} (h : TOrd lt) (rev : Int) : ∀ (R : List Rw) (l : List Tp), TSorted lt l →
    TSorted lt (R.foldl (atStep lt rev) l) ∧ ∀ t, t ∈ R.foldl (atStep lt rev) l ↔ t ∈ l ∨ ∃ x ∈ R, x.t = t ∧ (⟨x.s, x.u⟩ : Sp).at_ rev = true := by
  intro R
  induction R with
  | nil => exact fun l hl => ⟨hl, fun t => by simp⟩
  | cons x R ih =>
    intro l hl
    have h1 : TSorted lt (atStep lt rev l x) := by
      unfold atStep
      by_cases hx : (⟨x.s, x.u⟩ : Sp).at_ rev = true
      · rw [if_pos hx]; exact withT_sorted h hl _
      · rw [if_neg hx]; exact hl
    have h2 : ∀ t, t ∈ atStep lt rev l x ↔ t ∈ l ∨ (x.t = t ∧ (⟨x.s, x.u⟩ : Sp).at_ rev = true) := fun t => by
      unfold atStep
      by_cases hx : (⟨x.s, x.u⟩ : Sp).at_ rev = true
      · rw [if_pos hx, withT_mem]
        exact ⟨fun h3 => h3.elim (fun e => .inr ⟨e.symm, hx⟩) .inl, fun h3 => h3.elim .inr (fun e => .inl e.1.symm)⟩
      · rw [if_neg hx]
        exact ⟨.inl, fun h3 => h3.elim id (fun e => absurd e.2 hx)⟩
    obtain ⟨i1, i2⟩ := ih _ h1
    refine ⟨i1, fun t => ?_⟩
    rw [List.foldl_cons, i2, h2]
    constructor
    · rintro ((h3 | h3) | ⟨y, hy, h3⟩)
      · exact .inl h3
      · exact .inr ⟨x, by simp, h3⟩
      · exact .inr ⟨y, List.mem_cons_of_mem _ hy, h3⟩
    · rintro (h3 | ⟨y, hy, h3⟩)
      · exact .inl (.inl h3)
      · rcases List.mem_cons.1 hy with h4 | h4
        · rw [h4] at h3; exact .inl (.inr h3)
        · exact .inr ⟨y, h4, h3⟩
theorem atR_sorted {lt : Tp → Tp → Bool} (h : TOrd lt) (R : List Rw) (rev : Int) : TSorted lt (atR lt R rev) := (atFold h rev R [] (by simp [TSorted])).1
theorem Rep.at_ {lt : Tp → Tp → Bool} (h : TOrd lt) {M : SM} {R : List Rw} (hr : Rep lt M R) (rev : Int) (t : Tp) : t ∈ atR lt R rev ↔ spThere (M.sp t) rev = true := by
  unfold atR
  rw [(atFold h rev R [] (by simp [TSorted])).2]
  unfold spThere
  rw [List.any_eq_true]
  constructor
  · rintro (h1 | ⟨⟨xt, xs, xu⟩, hx, he, ha⟩)
    · exact absurd h1 (by simp)
    · have he2 : xt = t := he
      subst he2
      exact ⟨⟨xs, xu⟩, (hr.mem _ _ _).1 hx, ha⟩
  · rintro ⟨⟨xs, xu⟩, hx, ha⟩
    exact .inr ⟨⟨t, xs, xu⟩, (hr.mem _ _ _).2 hx, rfl, ha⟩
/-- A list of the tuples that were there, of those that p picks, in order: it is what the document's list has of them. -/
theorem Rep.picks {lt : Tp → Tp → Bool} (h : TOrd lt) {M : SM} {R : List Rw} (hr : Rep lt M R) (rev : Int) (p : Tp → Bool) {l : List Tp} (hs : TSorted lt l) (hl : ∀ t, t ∈ l ↔ p t = true ∧ spThere (M.sp t) rev = true) : l = (atR lt R rev).filter p := by
  refine tsorted_unique h hs ((atR_sorted h R rev).filter p) fun t => ?_
  rw [List.mem_filter, hr.at_ h, hl]
  exact ⟨fun h1 => ⟨h1.2, h1.1⟩, fun h1 => ⟨h1.2, h1.1⟩⟩
/-- What is read at a revision stays so, whatever is changed behind it. -/
theorem oneSp_there {l : List Sp} (h : l = [] ∨ SpOk l) {rev r : Int} (d : Bool) (hlt : r < rev) (h1 : 1 ≤ rev) : spThere (oneSp l rev d) r = spThere l r := by
  unfold oneSp
  cases ho : openB l with
  | false =>
    cases d with
    | true => simp
    | false =>
      simp only [Bool.false_eq_true, if_false]
      unfold spThere
      rw [List.any_append]
      have : ([⟨rev, 0⟩] : List Sp).any (·.at_ r) = false := by
        unfold Sp.at_
        have : ¬ rev ≤ r := by omega
        simp [this]
      rw [this, Bool.or_false]
  | true =>
    cases d with
    | false => simp
    | true =>
      simp only [if_true]
      rcases h with h2 | h2
      · rw [h2] at ho; cases ho
      · cases hl : l.getLast? with
        | none => exact absurd (List.getLast?_eq_none_iff.1 hl) h2.ne
        | some x =>
          have hs := last_split hl
          have hx0 : x.u = 0 := by unfold openB at ho; rw [hl] at ho; simpa using ho
          have he : endB l rev = l.dropLast ++ [⟨x.s, rev⟩] := by unfold endB; rw [hl]
          have hat : (⟨x.s, rev⟩ : Sp).at_ r = x.at_ r := by
            unfold Sp.at_ Sp.over
            have h3 : rev ≠ 0 := by omega
            have h4 : ¬ rev ≤ r := by omega
            simp [hx0, h4]
          unfold spThere
          rw [he, List.any_append]
          conv => rhs; rw [hs, List.any_append]
          simp only [List.any_cons, List.any_nil, hat]
end Go.Proofs.Yteimgebfbnmdcaa
/- What is collected isn't missed; rows loaded are the spans again. -/
namespace Go.Proofs.Yteimgebfbnmdcaa
open Go.RowKit

theorem collect_there {l : List Sp} {mark rev : Int} (h : mark ≤ rev) : spThere (collectB l mark) rev = spThere l rev := by
  unfold spThere collectB
  rw [Bool.eq_iff_iff, List.any_eq_true, List.any_eq_true]
  constructor
  · rintro ⟨x, hx, ha⟩
    exact ⟨x, (List.mem_filter.1 hx).1, ha⟩
  · rintro ⟨x, hx, ha⟩
    refine ⟨x, List.mem_filter.2 ⟨hx, ?_⟩, ha⟩
    unfold Sp.at_ Sp.over at ha
    unfold Sp.over
    simp at ha ⊢
    omega
theorem strict_unique {α : Type} {r : α → α → Prop} (irr : ∀ a, ¬ r a a) (tr : ∀ a b c, r a b → r b c → r a c) : ∀ {a b : List α}, a.Pairwise r → b.Pairwise r → (∀ x, x ∈ a ↔ x ∈ b) → a = b := by
  intro a
  induction a with
  | nil =>
    intro b _ _ hm
    cases b with
    | nil => rfl
    | cons y b => exact absurd ((hm y).2 (by simp)) (by simp)
  | cons x a ih =>
    intro b ha hb hm
    cases b with
    | nil => exact absurd ((hm x).1 (by simp)) (by simp)
    | cons y b =>
      have ha2 := List.pairwise_cons.1 ha
      have hb2 := List.pairwise_cons.1 hb
      have hxy : x = y := by
        rcases List.mem_cons.1 ((hm x).1 (by simp)) with h1 | h1
        · exact h1
        · rcases List.mem_cons.1 ((hm y).2 (by simp)) with h2 | h2
          · exact h2.symm
          · exact absurd (tr _ _ _ (hb2.1 x h1) (ha2.1 y h2)) (irr _)
      subst hxy
      have hx : ∀ z : α, r x z → z ≠ x := fun z hz e => irr x (e ▸ hz)
      congr 1
      refine ih ha2.2 hb2.2 fun z => ⟨fun hz => ?_, fun hz => ?_⟩
      · rcases List.mem_cons.1 ((hm z).1 (List.mem_cons_of_mem _ hz)) with h1 | h1
        · exact absurd h1 (hx z (ha2.1 z hz))
        · exact h1
      · rcases List.mem_cons.1 ((hm z).2 (List.mem_cons_of_mem _ hz)) with h1 | h1
        · exact absurd h1 (hx z (hb2.1 z hz))
        · exact h1
/-- A tuple's rows are its spans. -/
def spOf (R : List Rw) (t : Tp) : List Sp := (R.filter fun x => decide (x.t = t)).map fun x => ⟨x.s, x.u⟩
theorem SpOk.since_asc {l : List Sp} (h : SpOk l) : l.Pairwise fun a b => a.s < b.s := by
  refine List.Pairwise.imp_of_mem ?_ h.asc
  intro a b ha hb hab
  rcases (h.all a ha).2.2 with h1 | h1
  · exact absurd h1 hab.1
  · omega
theorem Rep.spOf {lt : Tp → Tp → Bool} {M : SM} {R : List Rw} (hr : Rep lt M R) (hm : SMOk M) (t : Tp) : spOf R t = M.sp t := by
  have hmem : ∀ x : Sp, x ∈ Proofs.Yteimgebfbnmdcaa.spOf R t ↔ x ∈ M.sp t := by
    intro ⟨s, u⟩
    unfold Proofs.Yteimgebfbnmdcaa.spOf
    rw [List.mem_map]
    constructor
    · rintro ⟨⟨xt, xs, xu⟩, hx, he⟩
      rw [List.mem_filter] at hx
      have h1 : xt = t := by simpa using hx.2
      injection he with h2 h3
      subst h1
      have h2' : xs = s := h2
      have h3' : xu = u := h3
      subst h2'
      subst h3'
      exact (hr.mem _ _ _).1 hx.1
    · intro h1
      exact ⟨⟨t, s, u⟩, List.mem_filter.2 ⟨(hr.mem _ _ _).2 h1, by simp⟩, rfl⟩
  refine strict_unique (r := fun a b : Sp => a.s < b.s) (fun a => Int.lt_irrefl _) (fun a b c => Int.lt_trans) ?_ ?_ hmem
  · unfold Proofs.Yteimgebfbnmdcaa.spOf
    rw [List.pairwise_map]
    refine List.Pairwise.imp_of_mem ?_ (hr.so.filter _)
    intro a b ha hb hab
    have h1 : a.t = t := by simpa using (List.mem_filter.1 ha).2
    have h2 : b.t = t := by simpa using (List.mem_filter.1 hb).2
    unfold rlt at hab
    rw [if_pos (h1.trans h2.symm)] at hab
    simpa using hab
  · rcases hm.sp_cases t with h1 | h1
    · rw [h1]; exact List.Pairwise.nil
    · exact h1.since_asc
/-- Rows are loaded. -/
def SM.loadRow (M : SM) (x : Rw) : SM := M.put x.t (M.sp x.t ++ [⟨x.s, x.u⟩])
def SM.load (M : SM) (l : List Rw) : SM := l.foldl SM.loadRow M
def loadR (lt : Tp → Tp → Bool) (R l : List Rw) : List Rw := l.foldl (fun R x => withR lt x R) R
def LoadOk : SM → List Rw → Prop
  | _, [] => True
  | M, x :: l => AddOk M x.t ⟨x.s, x.u⟩ ∧ LoadOk (M.loadRow x) l
theorem SMOk.load : ∀ {l : List Rw} {M : SM}, SMOk M → LoadOk M l → SMOk (M.load l) := by
  intro l
  induction l with
  | nil => exact fun h _ => h
  | cons x l ih => exact fun h hl => ih (h.addSp hl.1) hl.2
theorem Rep.load {lt : Tp → Tp → Bool} (h : TOrd lt) : ∀ {l : List Rw} {M : SM} {R : List Rw}, Rep lt M R → SMOk M → LoadOk M l → Rep lt (M.load l) (loadR lt R l) := by
  intro l
  induction l with
  | nil => exact fun hr _ _ => hr
  | cons x l ih => exact fun hr hm hl => ih (hr.addSp h hm hl.1) (hm.addSp hl.1) hl.2
theorem SM.load_sp : ∀ (l : List Rw) (M : SM) (t : Tp), (M.load l).sp t = M.sp t ++ Proofs.Yteimgebfbnmdcaa.spOf l t := by
  intro l
  induction l with
  | nil => intro M t; simp [SM.load, spOf]
  | cons x l ih =>
    intro M t
    show ((M.loadRow x).load l).sp t = _
    rw [ih]
    unfold SM.loadRow spOf
    by_cases ht : x.t = t
    · rw [ht, SM.put_same]; simp [ht]
    · rw [SM.put_other M _ (fun e => ht e.symm)]; simp [ht]
theorem SM.load_mem : ∀ (l : List Rw) (M : SM) (t : Tp), t ∈ (M.load l).K ↔ t ∈ M.K ∨ ∃ x ∈ l, x.t = t := by
  intro l
  induction l with
  | nil => intro M t; simp [SM.load]
  | cons x l ih =>
    intro M t
    show t ∈ ((M.loadRow x).load l).K ↔ _
    rw [ih]
    unfold SM.loadRow
    rw [SM.put_mem]
    constructor
    · rintro ((h1 | h1) | ⟨y, hy, h1⟩)
      · exact .inl h1
      · exact .inr ⟨x, by simp, h1.symm⟩
      · exact .inr ⟨y, List.mem_cons_of_mem _ hy, h1⟩
    · rintro (h1 | ⟨y, hy, h1⟩)
      · exact .inl (.inl h1)
      · rcases List.mem_cons.1 hy with h2 | h2
        · rw [h2] at h1; exact .inl (.inr h1.symm)
        · exact .inr ⟨y, h2, h1⟩
/-- A tuple's spans in order: each can be added behind those ahead of it. -/
theorem SpOk.addOk {l : List Sp} (h : SpOk l) {p q : List Sp} {x : Sp} (he : l = p ++ x :: q) {M : SM} {t : Tp} (hM : M.sp t = p) : AddOk M t x := by
  refine ⟨h.all x (by rw [he]; simp), fun y hy => ?_⟩
  rw [hM] at hy
  have hp := h.asc
  rw [he] at hp
  exact (List.pairwise_append.1 hp).2.2 y (List.mem_of_getLast? hy) x (by simp)
/-- A store's rows can be loaded into an empty one. -/
theorem Rep.loadOk {lt : Tp → Tp → Bool} {M : SM} {R : List Rw} (hr : Rep lt M R) (hm : SMOk M) : LoadOk SM.empty R := by
  have key : ∀ (q p : List Rw), R = p ++ q → LoadOk (SM.empty.load p) q := by
    intro q
    induction q with
    | nil => intro p _; exact trivial
    | cons x q ih =>
      intro p he
      refine ⟨?_, ?_⟩
      · have h1 := hr.spOf hm x.t
        have hx : (⟨x.s, x.u⟩ : Sp) ∈ M.sp x.t := (hr.mem x.t x.s x.u).1 (by rw [he]; simp)
        have hok : SpOk (M.sp x.t) := by
          rcases hm.sp_cases x.t with h2 | h2
          · rw [h2] at hx; exact absurd hx (by simp)
          · exact h2
        refine hok.addOk (p := Proofs.Yteimgebfbnmdcaa.spOf p x.t) (q := Proofs.Yteimgebfbnmdcaa.spOf q x.t) ?_ ?_
        · rw [← h1, he]; unfold Proofs.Yteimgebfbnmdcaa.spOf; simp
        · rw [SM.load_sp]; simp [SM.empty]
      · have h2 := ih (p ++ [x]) (by rw [he]; simp)
        have h3 : SM.empty.load (p ++ [x]) = (SM.empty.load p).loadRow x := by unfold SM.load; rw [List.foldl_append]; rfl
        rw [h3] at h2
        exact h2
  exact key R [] rfl
theorem Rep.load_back {lt : Tp → Tp → Bool} {M : SM} {R : List Rw} (hr : Rep lt M R) (hm : SMOk M) (t : Tp) : (SM.empty.load R).sp t = M.sp t := by
  rw [SM.load_sp, hr.spOf hm]; simp [SM.empty]
end Go.Proofs.Yteimgebfbnmdcaa
/- Behind a change: is the tuple there, how many spans has it, what was read ahead of it. -/
namespace Go.Proofs.Yteimgebfbnmdcaa
open Go.RowKit

theorem endB_length {l : List Sp} (h : openB l = true) (rev : Int) : (endB l rev).length = l.length := by
  unfold openB at h
  cases hl : l.getLast? with
  | none => rw [hl] at h; cases h
  | some x =>
    have he : endB l rev = l.dropLast ++ [⟨x.s, rev⟩] := by unfold endB; rw [hl]
    rw [he]
    conv => rhs; rw [last_split hl]
    simp
theorem endB_last {l : List Sp} (h : openB l = true) (rev : Int) : ∃ x, l.getLast? = some x ∧ x.u = 0 ∧ endB l rev = l.dropLast ++ [⟨x.s, rev⟩] := by
  unfold openB at h
  cases hl : l.getLast? with
  | none => rw [hl] at h; cases h
  | some x =>
    rw [hl] at h
    exact ⟨x, rfl, by simpa using h, by unfold endB; rw [hl]⟩
theorem oneSp_length (l : List Sp) (rev : Int) (d : Bool) : (oneSp l rev d).length = l.length + (if !d && !openB l then 1 else 0) := by
  unfold oneSp
  cases ho : openB l with
  | true =>
    cases d with
    | true => simp [endB_length ho]
    | false => simp
  | false => cases d <;> simp
theorem oneSp_open (l : List Sp) {rev : Int} (h1 : 1 ≤ rev) (d : Bool) : openB (oneSp l rev d) = !d := by
  unfold oneSp
  cases ho : openB l with
  | true =>
    cases d with
    | true =>
      obtain ⟨x, _, _, he⟩ := endB_last ho rev
      simp only [if_true]
      rw [he]
      unfold openB
      rw [List.getLast?_concat]
      have : rev ≠ 0 := by omega
      simp [this]
    | false => simp [ho]
  | false =>
    cases d with
    | true => simp [ho]
    | false =>
      simp only [Bool.false_eq_true, if_false]
      unfold openB
      rw [List.getLast?_concat]
      simp
theorem oneSp_latest {l : List Sp} {rev : Int} (hl : latestB l ≤ rev) (h1 : 1 ≤ rev) (d : Bool) : latestB (oneSp l rev d) ≤ rev := by
  unfold oneSp
  cases ho : openB l with
  | true =>
    cases d with
    | true =>
      obtain ⟨x, hx, _, he⟩ := endB_last ho rev
      simp only [if_true]
      rw [he]
      have h2 : latestB l = max x.s x.u := by unfold latestB; rw [hx]
      unfold latestB
      rw [List.getLast?_concat]
      show max x.s rev ≤ rev
      omega
    | false => simpa using hl
  | false =>
    cases d with
    | true => simpa using hl
    | false =>
      simp only [Bool.false_eq_true, if_false]
      unfold latestB
      rw [List.getLast?_concat]
      show max rev 0 ≤ rev
      omega
/-- There it is, or it isn't. -/
theorem oneSp_now {l : List Sp} (h : l = [] ∨ SpOk l) {rev : Int} (hl : latestB l < rev) (d : Bool) : spThere (oneSp l rev d) rev = !d := by
  have hold : ∀ x ∈ l, x.u ≠ 0 → x.at_ rev = false := fun x hx hu => by
    rcases h with h1 | h1
    · rw [h1] at hx; exact absurd hx (by simp)
    · have h2 := h1.le_latest x hx
      unfold Sp.at_ Sp.over
      have : x.u ≤ rev := by omega
      simp [hu, this]
  unfold oneSp
  cases ho : openB l with
  | true =>
    obtain ⟨x, hx, hu, he⟩ := endB_last ho rev
    have hok : SpOk l := by
      rcases h with h1 | h1
      · rw [h1] at ho; cases ho
      · exact h1
    have hs := last_split hx
    cases d with
    | true =>
      simp only [if_true, Bool.not_true]
      rw [he]
      unfold spThere
      rw [List.any_append, Bool.or_eq_false_iff]
      refine ⟨List.any_eq_false.2 fun y hy => ?_, ?_⟩
      · have hp := hok.asc
        rw [hs] at hp
        have h2 := (List.pairwise_append.1 hp).2.2 y hy x (by simp)
        rw [hold y (by rw [hs]; exact List.mem_append_left _ hy) h2.1]
        decide
      · show (Sp.at_ ⟨x.s, rev⟩ rev || false) = false
        have h3 := hok.le_latest x (List.mem_of_getLast? hx)
        have h4 := (hok.all x (List.mem_of_getLast? hx)).1
        unfold Sp.at_ Sp.over
        have h5 : rev ≠ 0 := by omega
        simp [h5]
    | false =>
      simp only [Bool.false_eq_true, if_false, if_true, Bool.not_false]
      unfold spThere
      rw [List.any_eq_true]
      refine ⟨x, List.mem_of_getLast? hx, ?_⟩
      have h3 := hok.le_latest x (List.mem_of_getLast? hx)
      unfold Sp.at_ Sp.over
      have h5 : x.s ≤ rev := by omega
      simp [hu, h5]
  | false =>
    have hall : ∀ x ∈ l, x.u ≠ 0 := fun x hx e => by
      have h2 := (openB_iff h).2 ⟨x, hx, e⟩
      rw [ho] at h2; cases h2
    have hno : spThere l rev = false := by
      unfold spThere
      exact List.any_eq_false.2 fun x hx => by rw [hold x hx (hall x hx)]; decide
    cases d with
    | true => simpa using hno
    | false =>
      simp only [Bool.false_eq_true, if_false, Bool.not_false]
      unfold spThere
      rw [List.any_append, Bool.or_eq_true]
      right
      show (Sp.at_ ⟨rev, 0⟩ rev || false) = true
      unfold Sp.at_ Sp.over
      simp
/-- What was read stays so. -/
theorem SM.apply_there {M : SM} (hm : SMOk M) {rev : Int} (h1 : 1 ≤ rev) {l : List Mu} (hl : MuOk M rev l) {r : Int} (hr : r < rev) (t : Tp) : spThere ((M.apply rev l).sp t) r = spThere (M.sp t) r := by
  obtain ⟨a1, a2⟩ := SM.apply_sp (rev := rev) (M := M) hl.nd
  by_cases ht : t ∈ l.map Mu.t
  · obtain ⟨m, hmm, rfl⟩ := List.mem_map.1 ht
    rw [a1 m hmm, oneSp_there (hm.sp_cases m.t) m.d hr h1]
  · rw [a2 t ht]
/-- Behind changes nothing is later than they are. -/
theorem SM.apply_latest {M : SM} {rev : Int} (h1 : 1 ≤ rev) {l : List Mu} (hl : MuOk M rev l) (hM : ∀ t, latestB (M.sp t) ≤ rev) (t : Tp) : latestB ((M.apply rev l).sp t) ≤ rev := by
  obtain ⟨a1, a2⟩ := SM.apply_sp (rev := rev) (M := M) hl.nd
  by_cases ht : t ∈ l.map Mu.t
  · obtain ⟨m, hmm, rfl⟩ := List.mem_map.1 ht
    rw [a1 m hmm]
    exact oneSp_latest (hM m.t) h1 m.d
  · rw [a2 t ht]; exact hM t
end Go.Proofs.Yteimgebfbnmdcaa
/- How many were there. -/
namespace Go.Proofs.Yteimgebfbnmdcaa
open Go.RowKit

theorem insT_length (lt : Tp → Tp → Bool) (t : Tp) : ∀ l : List Tp, (insT lt t l).length = l.length + 1 := by
  intro l
  induction l with
  | nil => rfl
  | cons x l ih =>
    unfold insT
    by_cases h : lt t x = true
    · rw [if_pos h]; rfl
    · rw [if_neg h, List.length_cons, ih, List.length_cons]
theorem withT_length (lt : Tp → Tp → Bool) (l : List Tp) (t : Tp) : (withT lt l t).length ≤ l.length + 1 := by
  unfold withT
  by_cases h : t ∈ l
  · rw [if_pos h]; omega
  · rw [if_neg h, insT_length]; exact Nat.le_refl _
theorem atFold_length (lt : Tp → Tp → Bool) (rev : Int) : ∀ (R : List Rw) (l : List Tp), (R.foldl (atStep lt rev) l).length ≤ l.length + R.countP fun x => (⟨x.s, x.u⟩ : Sp).at_ rev := by
  intro R
  induction R with
  | nil => intro l; exact Nat.le_refl _
  | cons x R ih =>
    intro l
    rw [List.foldl_cons]
    refine Nat.le_trans (ih _) ?_
    rw [List.countP_cons]
    unfold atStep
    by_cases hx : (⟨x.s, x.u⟩ : Sp).at_ rev = true
    · rw [if_pos hx, if_pos hx]
      have := withT_length lt l x.t
      omega
    · rw [if_neg hx, if_neg hx]; omega
theorem atR_length (lt : Tp → Tp → Bool) (R : List Rw) (rev : Int) : (atR lt R rev).length ≤ R.countP fun x => (⟨x.s, x.u⟩ : Sp).at_ rev := by
  have := atFold_length lt rev R []
  simpa [atR] using this
theorem three_filters {α : Type} (p q r : α → Bool) (h1 : ∀ x, p x = true → q x = false) (h2 : ∀ x, p x = true → r x = false) (h3 : ∀ x, q x = true → r x = false) : ∀ l : List α, (l.filter p).length + (l.filter q).length + (l.filter r).length ≤ l.length := by
  intro l
  induction l with
  | nil => exact Nat.le_refl _
  | cons x l ih =>
    have e := h1 x
    have f := h2 x
    have g := h3 x
    rw [List.filter_cons, List.filter_cons, List.filter_cons]
    cases hp : p x <;> cases hq : q x <;> cases hr : r x <;> simp [hp, hq, hr] at e f g ⊢ <;> omega
/-- In a list without twice the same one a tuple is there once, or not at all. -/
theorem count_one {l : List Tp} (h : l.Nodup) (t : Tp) : l.countP (fun x => decide (x = t)) = if t ∈ l then 1 else 0 := by
  induction l with
  | nil => simp
  | cons x l ih =>
    rw [List.nodup_cons] at h
    rw [List.countP_cons, ih h.2]
    by_cases hx : x = t
    · subst hx
      simp [h.1]
    · have hx2 : ¬ t = x := fun e => hx e.symm
      simp [hx, hx2]
theorem TSorted.nodup {lt : Tp → Tp → Bool} (h : TOrd lt) {l : List Tp} (hl : TSorted lt l) : l.Nodup := by
  unfold List.Nodup
  exact List.Pairwise.imp (fun hab e => by rw [e, h.irr] at hab; cases hab) hl
end Go.Proofs.Yteimgebfbnmdcaa
