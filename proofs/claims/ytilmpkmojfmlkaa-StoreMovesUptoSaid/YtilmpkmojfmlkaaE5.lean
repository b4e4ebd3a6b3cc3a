/- Changes in a row, what is collected, dropped and loaded: of the store of spans, and of the document's rows. -/
import Derived.Test.YtilmpkmojfmlkaaE4
namespace Go.Proofs.Ytilmpkmojfmlkaa
open Go.RowKit

/-- A tuple's spans behind one change. -/
def oneSp (l : List Sp) (rev : Int) (d : Bool) : List Sp := if d then (if openB l then endB l rev else l) else (if openB l then l else l ++ [⟨rev, 0⟩])
theorem SM.one_same (M : SM) (rev : Int) (d : Bool) (t : Tp) : (M.one rev d t).sp t = oneSp (M.sp t) rev d := by
  unfold SM.one oneSp
  cases d <;> cases openB (M.sp t) <;> simp [SM.put_same]
theorem SM.one_other (M : SM) (rev : Int) (d : Bool) {t x : Tp} (h : x ≠ t) : (M.one rev d t).sp x = M.sp x := by
  unfold SM.one
  cases d <;> cases openB (M.sp t) <;> simp [SM.put_other, h]
/-- The document's open row, of the first n. -/
def openAt (R : List Rw) (t : Tp) : Nat → Option Nat
  | 0 => none
  | n + 1 => if (R[n]?).any (isOpen t) then some n else openAt R t n
theorem openAt_some {R : List Rw} {t : Tp} : ∀ {n k : Nat}, openAt R t n = some k → ∃ r, R[k]? = some r ∧ r.t = t ∧ r.u = 0 := by
  intro n
  induction n with
  | zero => intro k h; cases h
  | succ n ih =>
    intro k h
    unfold openAt at h
    by_cases h1 : (R[n]?).any (isOpen t) = true
    · rw [if_pos h1] at h
      have hk : n = k := Option.some.inj h
      subst hk
      cases hr : R[n]? with
      | none => rw [hr] at h1; cases h1
      | some r =>
        rw [hr] at h1
        have h2 : isOpen t r = true := h1
        unfold isOpen at h2
        simp at h2
        exact ⟨r, rfl, h2.1, h2.2⟩
    · rw [if_neg h1] at h; exact ih h
theorem openAt_none {R : List Rw} {t : Tp} : ∀ {n : Nat}, openAt R t n = none → ∀ k r, k < n → R[k]? = some r → isOpen t r = false := by
  intro n
  induction n with
  | zero => intro _ k r hk; exact absurd hk (Nat.not_lt_zero _)
  | succ n ih =>
    intro h k r hk hr
    unfold openAt at h
    by_cases h1 : (R[n]?).any (isOpen t) = true
    · rw [if_pos h1] at h; cases h
    · rw [if_neg h1] at h
      by_cases hkn : k = n
      · subst hkn
        rw [hr] at h1
        cases hi : isOpen t r with
        | false => rfl
        | true => exact absurd (show (some r).any (isOpen t) = true from hi) h1
      · exact ih h k r (by omega) hr
theorem openAt_any {R : List Rw} {t : Tp} : (openAt R t R.length).isSome = R.any (isOpen t) := by
  cases h : openAt R t R.length with
  | some k =>
    obtain ⟨r, h1, h2, h3⟩ := openAt_some h
    symm
    rw [Option.isSome_some, List.any_eq_true]
    exact ⟨r, List.mem_of_getElem? h1, by unfold isOpen; simp [h2, h3]⟩
  | none =>
    symm
    rw [Option.isSome_none, List.any_eq_false]
    intro r hr
    obtain ⟨k, hk, hkr⟩ := List.getElem_of_mem hr
    rw [openAt_none h k r hk (by rw [List.getElem?_eq_getElem hk, hkr])]
    decide
/-- The document's one change. -/
def oneR (lt : Tp → Tp → Bool) (R : List Rw) (rev : Int) (d : Bool) (t : Tp) : List Rw := match openAt R t R.length with
  | some k => if d then (match R[k]? with
      | some r => R.set k ⟨t, r.s, rev⟩
      | none => R) else R
  | none => if d then R else withR lt ⟨t, rev, 0⟩ R
theorem Rep.one {lt : Tp → Tp → Bool} (h : TOrd lt) {M : SM} {R : List Rw} (hr : Rep lt M R) (hm : SMOk M) {rev : Int} (d : Bool) (t : Tp) (hl : latestB (M.sp t) < rev) : Rep lt (M.one rev d t) (oneR lt R rev d t) := by
  have ho : (openAt R t R.length).isSome = openB (M.sp t) := openAt_any.trans (hr.open_ hm t)
  unfold SM.one oneR
  cases hk : openAt R t R.length with
  | some k =>
    rw [hk] at ho
    have ho2 : openB (M.sp t) = true := ho.symm
    obtain ⟨r, h1, h2, h3⟩ := openAt_some hk
    cases d with
    | true =>
      simp only [ho2, if_true, h1]
      exact hr.end_ hm h1 h2 h3
    | false => simp only [ho2, if_true, Bool.false_eq_true, if_false]; exact hr
  | none =>
    rw [hk] at ho
    have ho2 : openB (M.sp t) = false := ho.symm
    cases d with
    | true => simp only [ho2, if_true, Bool.false_eq_true, if_false]; exact hr
    | false =>
      simp only [ho2, Bool.false_eq_true, if_false]
      exact hr.with_ (x := ⟨rev, 0⟩) h (hm.fresh hl)
/-- Changes in a row. -/
structure Mu where
  d : Bool
  t : Tp
def SM.apply (M : SM) (rev : Int) (l : List Mu) : SM := l.foldl (fun M m => M.one rev m.d m.t) M
def applyR (lt : Tp → Tp → Bool) (R : List Rw) (rev : Int) (l : List Mu) : List Rw := l.foldl (fun R m => oneR lt R rev m.d m.t) R
/-- What a check asks of changes. -/
structure MuOk (M : SM) (rev : Int) (l : List Mu) : Prop where
  nd : (l.map Mu.t).Nodup
  la : ∀ m ∈ l, latestB (M.sp m.t) < rev
theorem MuOk.tail {M : SM} {rev : Int} {m : Mu} {l : List Mu} (h : MuOk M rev (m :: l)) : MuOk (M.one rev m.d m.t) rev l := by
  have hn := h.nd
  rw [List.map_cons, List.nodup_cons] at hn
  refine ⟨hn.2, fun x hx => ?_⟩
  rw [SM.one_other M rev m.d (fun e => hn.1 (by rw [← e]; exact List.mem_map_of_mem hx))]
  exact h.la x (List.mem_cons_of_mem _ hx)
theorem SMOk.apply {rev : Int} (h1 : 1 ≤ rev) (h2 : rev ≤ maxRev) : ∀ {l : List Mu} {M : SM}, SMOk M → MuOk M rev l → SMOk (M.apply rev l) := by
  intro l
  induction l with
  | nil => exact fun h _ => h
  | cons m l ih => exact fun h hl => ih (h.one m.d m.t h1 h2 (hl.la m (by simp))) hl.tail
theorem Rep.apply {lt : Tp → Tp → Bool} (h : TOrd lt) {rev : Int} (h1 : 1 ≤ rev) (h2 : rev ≤ maxRev) : ∀ {l : List Mu} {M : SM} {R : List Rw}, Rep lt M R → SMOk M → MuOk M rev l → Rep lt (M.apply rev l) (applyR lt R rev l) := by
  intro l
  induction l with
  | nil => exact fun hr _ _ => hr
  | cons m l ih => exact fun hr hm hl => ih (hr.one h hm m.d m.t (hl.la m (by simp))) (hm.one m.d m.t h1 h2 (hl.la m (by simp))) hl.tail
/-- What changes in a row make of a tuple. -/
theorem SM.apply_sp {rev : Int} : ∀ {l : List Mu} {M : SM}, (l.map Mu.t).Nodup → (∀ m ∈ l, (M.apply rev l).sp m.t = oneSp (M.sp m.t) rev m.d) ∧ ∀ t, t ∉ l.map Mu.t → (M.apply rev l).sp t = M.sp t := by
  intro l
  induction l with
  | nil => exact fun {M} _ => ⟨by simp, fun _ _ => rfl⟩
  | cons m l ih =>
    intro M hn
    rw [List.map_cons, List.nodup_cons] at hn
    obtain ⟨i1, i2⟩ := ih (M := M.one rev m.d m.t) hn.2
    refine ⟨fun x hx => ?_, fun t ht => ?_⟩
    · show ((M.one rev m.d m.t).apply rev l).sp x.t = _
      rcases List.mem_cons.1 hx with h1 | h1
      · rw [h1, i2 _ hn.1, SM.one_same]
      · rw [i1 x h1, SM.one_other M rev m.d (fun e => hn.1 (by rw [← e]; exact List.mem_map_of_mem h1))]
    · show ((M.one rev m.d m.t).apply rev l).sp t = _
      rw [List.map_cons, List.mem_cons, not_or] at ht
      rw [i2 t ht.2, SM.one_other M rev m.d ht.1]
/-- In any order. -/
theorem SM.apply_reverse {rev : Int} {l : List Mu} {M : SM} (hn : (l.map Mu.t).Nodup) (t : Tp) : (M.apply rev l.reverse).sp t = (M.apply rev l).sp t := by
  have hn2 : (l.reverse.map Mu.t).Nodup := by rw [List.map_reverse]; exact (List.reverse_perm _).nodup_iff.2 hn
  obtain ⟨a1, a2⟩ := SM.apply_sp (rev := rev) (M := M) hn
  obtain ⟨b1, b2⟩ := SM.apply_sp (rev := rev) (M := M) hn2
  by_cases ht : t ∈ l.map Mu.t
  · obtain ⟨m, hm, rfl⟩ := List.mem_map.1 ht
    rw [a1 m hm, b1 m (List.mem_reverse.2 hm)]
  · rw [a2 t ht, b2 t (by rw [List.map_reverse, List.mem_reverse]; exact ht)]
/-- Spans that are over are gone. -/
def collectB (l : List Sp) (rev : Int) : List Sp := l.filter fun x => !x.over rev
def SM.collect (M : SM) (rev : Int) : SM := ⟨M.K.filter (fun t => !(collectB (M.sp t) rev).isEmpty), fun t => collectB (M.sp t) rev⟩
theorem SpOk.collect {l : List Sp} (h : SpOk l) (rev : Int) (hne : collectB l rev ≠ []) : SpOk (collectB l rev) :=
  ⟨hne, fun x hx => h.all x (List.mem_filter.1 hx).1, h.asc.filter _⟩
theorem SMOk.collect {M : SM} (h : SMOk M) (rev : Int) : SMOk (M.collect rev) := by
  have hK : ∀ t, t ∈ (M.collect rev).K ↔ t ∈ M.K ∧ collectB (M.sp t) rev ≠ [] := fun t => by
    show t ∈ M.K.filter _ ↔ _
    rw [List.mem_filter]
    simp
  refine ⟨h.nd.filter _, fun t ht => ?_, fun t ht => ?_⟩
  · obtain ⟨h1, h2⟩ := (hK t).1 ht
    exact (h.ok t h1).collect rev h2
  · show collectB (M.sp t) rev = []
    by_cases h1 : t ∈ M.K
    · by_cases h2 : collectB (M.sp t) rev = []
      · exact h2
      · exact absurd ((hK t).2 ⟨h1, h2⟩) ht
    · rw [h.no t h1]; rfl
def collectR (R : List Rw) (rev : Int) : List Rw := R.filter fun x => decide (x.u = 0) || decide (rev < x.u)
theorem over_not (x : Sp) (rev : Int) : (!x.over rev) = (decide (x.u = 0) || decide (rev < x.u)) := by
  unfold Sp.over
  by_cases h1 : x.u = 0 <;> by_cases h2 : x.u ≤ rev <;> simp [h1, h2] <;> omega
theorem Rep.collect {lt : Tp → Tp → Bool} {M : SM} {R : List Rw} (hr : Rep lt M R) (rev : Int) : Rep lt (M.collect rev) (collectR R rev) := by
  refine hr.filter _ fun t => ?_
  show (M.sp t).filter _ = _
  congr 1
  funext x
  exact over_not x rev
/-- Some tuples are gone. -/
def SM.drop (M : SM) (g : Tp → Bool) : SM := ⟨M.K.filter (fun t => !g t), fun t => if g t then [] else M.sp t⟩
theorem SMOk.drop {M : SM} (h : SMOk M) (g : Tp → Bool) : SMOk (M.drop g) := by
  have hK : ∀ t, t ∈ (M.drop g).K ↔ t ∈ M.K ∧ g t = false := fun t => by
    show t ∈ M.K.filter _ ↔ _
    rw [List.mem_filter]
    simp
  refine ⟨h.nd.filter _, fun t ht => ?_, fun t ht => ?_⟩
  · obtain ⟨h1, h2⟩ := (hK t).1 ht
    show SpOk (if g t then [] else M.sp t)
    rw [h2]; exact h.ok t h1
  · show (if g t then [] else M.sp t) = []
    cases hg : g t with
    | true => rfl
    | false => exact h.no t (fun h1 => ht ((hK t).2 ⟨h1, hg⟩))
theorem Rep.drop {lt : Tp → Tp → Bool} {M : SM} {R : List Rw} (hr : Rep lt M R) (g : Tp → Bool) : Rep lt (M.drop g) (R.filter fun x => !g x.t) := by
  refine hr.filter _ fun t => ?_
  show (if g t then [] else M.sp t) = (M.sp t).filter (fun _ => !g t)
  cases hg : g t with
  | true => simp
  | false => exact (List.filter_eq_self.2 (fun _ _ => rfl)).symm
/-- One span more, behind the others. -/
structure AddOk (M : SM) (t : Tp) (x : Sp) : Prop where
  ok : x.ok
  la : ∀ y, (M.sp t).getLast? = some y → y.u ≠ 0 ∧ y.u < x.s
theorem SMOk.addSp {M : SM} (h : SMOk M) {t : Tp} {x : Sp} (ha : AddOk M t x) : SMOk (M.put t (M.sp t ++ [x])) := by
  refine h.put t ?_
  rcases h.sp_cases t with h1 | h1
  · rw [h1]; exact ⟨by simp, fun y hy => by rw [List.nil_append, List.mem_singleton] at hy; rw [hy]; exact ha.ok, by simp⟩
  · refine ⟨by simp, fun y hy => ?_, List.pairwise_append.2 ⟨h1.asc, by simp, fun a hma b hmb => ?_⟩⟩
    · rcases List.mem_append.1 hy with h2 | h2
      · exact h1.all y h2
      · rw [List.mem_singleton] at h2; rw [h2]; exact ha.ok
    · rw [List.mem_singleton] at hmb
      rw [hmb]
      cases hl : (M.sp t).getLast? with
      | none => exact absurd (List.getLast?_eq_none_iff.1 hl) h1.ne
      | some y =>
        obtain ⟨l1, l2⟩ := ha.la y hl
        have hs := last_split hl
        rw [hs] at hma
        rcases List.mem_append.1 hma with h2 | h2
        · have hp := h1.asc
          rw [hs] at hp
          have h3 := (List.pairwise_append.1 hp).2.2 a h2 y (by simp)
          have h4 := (h1.all y (List.mem_of_getLast? hl)).2.2
          exact ⟨h3.1, by omega⟩
        · rw [List.mem_singleton] at h2
          rw [h2]; exact ⟨l1, l2⟩
theorem AddOk.fresh {M : SM} (h : SMOk M) {t : Tp} {x : Sp} (ha : AddOk M t x) : ∀ y ∈ M.sp t, y.s ≠ x.s := by
  intro y hy
  rcases h.sp_cases t with h1 | h1
  · rw [h1] at hy; exact absurd hy (by simp)
  · have h2 := (h.addSp ha).ok t ((SM.put_mem M t _ t).2 (.inr rfl))
    rw [SM.put_same] at h2
    have h3 := (List.pairwise_append.1 h2.asc).2.2 y hy x (by simp)
    have h4 := (h1.all y hy).2.2
    rcases h4 with h5 | h5
    · exact absurd h5 h3.1
    · omega
theorem Rep.addSp {lt : Tp → Tp → Bool} (h : TOrd lt) {M : SM} {R : List Rw} (hr : Rep lt M R) (hm : SMOk M) {t : Tp} {x : Sp} (ha : AddOk M t x) : Rep lt (M.put t (M.sp t ++ [x])) (withR lt ⟨t, x.s, x.u⟩ R) := hr.with_ h (ha.fresh hm)
/-- Of a tuple that the store has the last revision is none. -/
theorem SMOk.latest_pos {M : SM} (h : SMOk M) (t : Tp) : t ∈ M.K ↔ latestB (M.sp t) ≠ 0 := by
  constructor
  · intro ht
    have h1 := h.ok t ht
    obtain ⟨x, hx⟩ := List.exists_mem_of_ne_nil _ h1.ne
    have := h1.le_latest x hx
    have := (h1.all x hx).1
    omega
  · intro hne
    by_cases ht : t ∈ M.K
    · exact ht
    · rw [h.no t ht] at hne; exact absurd rfl hne
end Go.Proofs.Ytilmpkmojfmlkaa
