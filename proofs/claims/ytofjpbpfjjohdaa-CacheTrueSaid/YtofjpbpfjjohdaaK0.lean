/- The cache's ring: the mathematics of links (no memory). -/
import Derived.Test.YtofjpbpfjjohdaaMap
namespace Go.Proofs.Ytofjpbpfjjohdaa
open Go.RowKit

theorem whole_ne {w : World} {g k : Nat} {t u : TypeId} {cs ds : Array Value} (h : Whole w g t cs) (h2 : Whole w k u ds) (hn : t ≠ u) : g ≠ k := by
  rintro rfl
  unfold Whole at h h2
  rw [h] at h2
  injection h2 with h2
  injection h2 with _ h2
  exact hn h2
/-- A node's pointer. -/
def at_ (b : Nat) : Value := .pointer (some ⟨b, 0, none⟩)
/-- From x through l to y: each node's second is the next, each next's first the one before. -/
def Linked (N : Nat → Value × Value) (x : Nat) : List Nat → Nat → Prop
  | [], y => (N x).2 = at_ y ∧ (N y).1 = at_ x
  | p :: l, y => (N x).2 = at_ p ∧ (N p).1 = at_ x ∧ Linked N p l y
def setN (N : Nat → Value × Value) (b : Nat) (v : Value) : Nat → Value × Value := fun p => if p = b then (v, (N b).2) else N p
def setO (N : Nat → Value × Value) (b : Nat) (v : Value) : Nat → Value × Value := fun p => if p = b then ((N b).1, v) else N p
theorem setN_same (N : Nat → Value × Value) (b : Nat) (v : Value) : setN N b v b = (v, (N b).2) := by simp [setN]
theorem setO_same (N : Nat → Value × Value) (b : Nat) (v : Value) : setO N b v b = ((N b).1, v) := by simp [setO]
theorem setN_other (N : Nat → Value × Value) {b p : Nat} (v : Value) (h : p ≠ b) : setN N b v p = N p := by simp [setN, h]
theorem setO_other (N : Nat → Value × Value) {b p : Nat} (v : Value) (h : p ≠ b) : setO N b v p = N p := by simp [setO, h]
theorem setN_snd (N : Nat → Value × Value) (b p : Nat) (v : Value) : (setN N b v p).2 = (N p).2 := by
  by_cases h : p = b
  · subst h; rw [setN_same]
  · rw [setN_other _ _ h]
theorem setO_fst (N : Nat → Value × Value) (b p : Nat) (v : Value) : (setO N b v p).1 = (N p).1 := by
  by_cases h : p = b
  · subst h; rw [setO_same]
  · rw [setO_other _ _ h]
theorem Linked.congr {N M : Nat → Value × Value} : ∀ {l : List Nat} {x y : Nat}, Linked N x l y → (∀ p ∈ x :: l, (M p).2 = (N p).2) → (∀ p ∈ l ++ [y], (M p).1 = (N p).1) → Linked M x l y
  | [], x, y, h, h2, h1 => ⟨(h2 x (by simp)).trans h.1, (h1 y (by simp)).trans h.2⟩
  | p :: l, x, y, h, h2, h1 => ⟨(h2 x (by simp)).trans h.1, (h1 p (by simp)).trans h.2.1, Linked.congr h.2.2 (fun q hq => h2 q (List.mem_cons_of_mem _ hq)) (fun q hq => h1 q (by simp at hq ⊢; exact .inr hq))⟩
theorem Linked.split {N : Nat → Value × Value} : ∀ {l1 l2 : List Nat} {x e y : Nat}, Linked N x (l1 ++ e :: l2) y → Linked N x l1 e ∧ Linked N e l2 y
  | [], _, _, _, _, h => ⟨⟨h.1, h.2.1⟩, h.2.2⟩
  | _ :: _, _, _, _, _, h => ⟨⟨h.1, h.2.1, (Linked.split h.2.2).1⟩, (Linked.split h.2.2).2⟩
theorem Linked.join {N : Nat → Value × Value} : ∀ {l1 l2 : List Nat} {x e y : Nat}, Linked N x l1 e → Linked N e l2 y → Linked N x (l1 ++ e :: l2) y
  | [], _, _, _, _, h, h2 => ⟨h.1, h.2, h2⟩
  | _ :: _, _, _, _, _, h, h2 => ⟨h.1, h.2.1, Linked.join h.2.2 h2⟩
/-- The one before the end, and the one behind the beginning. -/
def lastD (x : Nat) : List Nat → Nat
  | [] => x
  | p :: l => lastD p l
def headD (l : List Nat) (y : Nat) : Nat := match l with
  | [] => y
  | p :: _ => p
theorem Linked.last {N : Nat → Value × Value} : ∀ {l : List Nat} {x y : Nat}, Linked N x l y → (N y).1 = at_ (lastD x l)
  | [], _, _, h => h.2
  | p :: l, _, y, h => Linked.last (l := l) (x := p) (y := y) h.2.2
theorem Linked.head {N : Nat → Value × Value} {l : List Nat} {x y : Nat} (h : Linked N x l y) : (N x).2 = at_ (headD l y) := by
  cases l with
  | nil => exact h.1
  | cons p l => exact h.1
theorem lastD_mem (x : Nat) : ∀ l : List Nat, lastD x l ∈ x :: l
  | [] => by simp [lastD]
  | p :: l => by
    have := lastD_mem p l
    simp only [lastD]
    exact List.mem_cons_of_mem _ this
theorem headD_mem (l : List Nat) (y : Nat) : headD l y ∈ l ++ [y] := by cases l <;> simp [headD]
/-- The end of a row of links tied to another node. -/
theorem Linked.retie {N : Nat → Value × Value} {n : Nat} : ∀ {l : List Nat} {x e : Nat}, Linked N x l e → (x :: l).Nodup → n ∉ l → Linked (setN (setO N (lastD x l) (at_ n)) n (at_ (lastD x l))) x l n
  | [], x, e, _, _, _ => by
    refine ⟨?_, ?_⟩
    · rw [setN_snd]; simp [lastD, setO_same]
    · rw [setN_same]; rfl
  | p :: l, x, e, h, hnd, hn => by
    have hnd2 := List.nodup_cons.1 hnd
    have hxl : x ≠ lastD x (p :: l) := by
      intro e1
      have := lastD_mem p l
      simp only [lastD] at e1
      rw [← e1] at this
      exact hnd2.1 this
    refine ⟨?_, ?_, ?_⟩
    · rw [setN_snd, setO_other _ _ hxl]; exact h.1
    · rw [setN_other _ _ (by intro e1; exact hn (by simp [e1])), setO_fst]; exact h.2.1
    · exact Linked.retie h.2.2 hnd2.2 (fun h1 => hn (List.mem_cons_of_mem _ h1))
/-- A node is taken out. -/
theorem Linked.unlink {N : Nat → Value × Value} {l1 l2 : List Nat} {g e : Nat} (h : Linked N g (l1 ++ e :: l2) g) (hnd : (g :: (l1 ++ e :: l2)).Nodup) :
    (N e).1 = at_ (lastD g l1) ∧ (N e).2 = at_ (headD l2 g) ∧ Linked (setN (setO N (lastD g l1) (at_ (headD l2 g))) (headD l2 g) (at_ (lastD g l1))) g (l1 ++ l2) g := by
  obtain ⟨ha, hb⟩ := h.split
  refine ⟨ha.last, hb.head, ?_⟩
  have hg : g ∉ l1 ++ e :: l2 := (List.nodup_cons.1 hnd).1
  have hnd2 := (List.nodup_cons.1 hnd).2
  have h1 : (g :: l1).Nodup := List.nodup_cons.2 ⟨fun hm => hg (by simp [hm]), (List.nodup_append.1 hnd2).1⟩
  have hdis := (List.nodup_append.1 hnd2).2.2
  have hnl1 : headD l2 g ∉ l1 := by
    cases l2 with
    | nil => exact fun hm => hg (by simp [headD] at hm; simp [hm])
    | cons p l => exact fun hm => hdis p (by simpa [headD] using hm) p (by simp) rfl
  have hr := ha.retie h1 hnl1
  cases l2 with
  | nil => simpa [headD] using hr
  | cons p l =>
    refine Linked.join (l1 := l1) (e := p) (by simpa [headD] using hr) ?_
    have hb2 : Linked N p l g := hb.2.2
    have hp : p ∉ g :: l1 := by
      intro hm
      rcases List.mem_cons.1 hm with rfl | hm
      · exact hg (by simp)
      · exact hdis p hm p (by simp) rfl
    have hpl : p ∉ l := by
      have := (List.nodup_append.1 hnd2).2.1
      exact (List.nodup_cons.1 (List.nodup_cons.1 this).2).1
    have hpg : p ≠ g := by rintro rfl; exact hp (by simp)
    refine hb2.congr (fun q hq => ?_) (fun q hq => ?_)
    · rw [setN_snd]
      have hne : q ≠ lastD g l1 := by
        intro e1
        have hm := lastD_mem g l1
        rw [← e1] at hm
        rcases List.mem_cons.1 hm with rfl | hm
        · exact hg (List.mem_append_right _ (List.mem_cons_of_mem _ hq))
        · exact hdis q hm q (List.mem_cons_of_mem _ hq) rfl
      rw [setO_other _ _ hne]
    · have hne : q ≠ headD (p :: l) g := by
        rintro rfl
        simp at hq
        rcases hq with h1 | h1
        · exact hpl h1
        · exact hpg h1
      rw [setN_other _ _ hne, setO_fst]
/-- A node is put in at the front. -/
theorem Linked.front {N : Nat → Value × Value} {l : List Nat} {g e : Nat} (h : Linked N g l g) (he : e ∉ g :: l) (hnd : (g :: l).Nodup) :
    Linked (setN (setO (setO (setN N e (at_ g)) e (at_ (headD l g))) g (at_ e)) (headD l g) (at_ e)) g (e :: l) g := by
  have heg : e ≠ g := by rintro rfl; exact he (by simp)
  have hel : e ∉ l := fun hm => he (by simp [hm])
  have hen : e ≠ headD l g := by
    intro e1
    have := headD_mem l g
    rw [← e1] at this
    rcases List.mem_append.1 this with h1 | h1
    · exact hel h1
    · exact heg (by simpa using h1)
  refine ⟨?_, ?_, ?_⟩
  · rw [setN_snd, setO_same]
  · rw [setN_other _ _ hen, setO_fst, setO_fst, setN_same]
  · cases l with
    | nil =>
      refine ⟨?_, ?_⟩
      · rw [setN_snd, setO_other _ _ heg, setO_same]; rfl
      · exact congrArg Prod.fst (setN_same _ _ _)
    | cons p l =>
      have hpl : p ∈ p :: l := by simp
      refine ⟨?_, ?_, ?_⟩
      · rw [setN_snd, setO_other _ _ heg, setO_same]; rfl
      · exact congrArg Prod.fst (setN_same _ _ _)
      · have hnd2 := List.nodup_cons.1 hnd
        have hnd3 := List.nodup_cons.1 hnd2.2
        refine Linked.congr h.2.2 (fun q hq => ?_) (fun q hq => ?_)
        · have hqg : q ≠ g := by rintro rfl; exact hnd2.1 hq
          have hqe : q ≠ e := by rintro rfl; exact hel hq
          rw [setN_snd, setO_other _ _ hqg, setO_other _ _ hqe, setN_snd]
        · have hqp : q ≠ headD (p :: l) g := by
            rintro rfl
            rcases List.mem_append.1 hq with h1 | h1
            · exact hnd3.1 h1
            · have h2 : q = g := by simpa using h1
              exact hnd2.1 (by simp [h2])
          have hqe : q ≠ e := by
            rintro rfl
            rcases List.mem_append.1 hq with h1 | h1
            · exact hel (by simp [h1])
            · exact heg (by simpa using h1)
          rw [setN_other _ _ hqp, setO_fst, setO_fst, setN_other _ _ hqe]
end Go.Proofs.Ytofjpbpfjjohdaa
