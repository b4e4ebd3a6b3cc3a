/- What both stores tell of a tuple at a revision, without a run. -/
import Derived.Test.YtmjdngomjjhhiaaGreatE71
import Derived.Test.YtmjdngomjjhhiaaGreatE69
namespace Go.Proofs.YtmjdngomjjhhiaaGreat
open Go.RowKit
open Go.Maps (Keyed)

theorem cb_le : ∀ (l m : List UInt8), Lib.compareBytes l m = -1 → l ≤ m := by
  intro l
  induction l with
  | nil => intro m _; exact List.nil_le m
  | cons a l ih =>
    intro m h
    cases m with
    | nil => simp [Lib.compareBytes] at h
    | cons b m =>
      rw [List.cons_le_cons_iff]
      unfold Lib.compareBytes at h
      split at h
      · next h1 => exact .inl h1
      · next h1 =>
        split at h
        · omega
        · next h2 =>
          exact .inr ⟨UInt8.le_antisymm (UInt8.not_lt.1 h2) (UInt8.not_lt.1 h1), ih m h⟩
theorem ltT_u {a b : Tp} (h : ltT a b = true) (ho : a.o = b.o) (hr : a.r = b.r) : a.u.data.toList ≤ b.u.data.toList := by
  unfold ltT cmpT tq at h
  simp only [decide_eq_true_eq] at h
  rw [ho, hr, (cbs_zero b.o b.o).2 rfl, (cbs_zero b.r b.r).2 rfl] at h
  simp only [ne_eq, not_true, if_false] at h
  exact cb_le _ _ h
/-- Is a tuple of that object and relation? -/
def ofOR (o r : ByteArray) (x : Tp) : Bool := decide (x.o = o) && decide (x.r = r)
def ofU (u : ByteArray) (x : Tp) : Bool := decide (x.u = u)
theorem tsorted_nd {l : List Tp} (h : TSorted ltT l) : l.Nodup := h.imp fun hab e => by rw [e, ordT.irr] at hab; cases hab
theorem usL_picks {M : SM} (hm : SMOk M) {R : List Rw} (hr : Rep ltT M R) {o r : ByteArray} {rev : Int} {ts : List Tp} (h : UsersOk M o r rev ts) : usL ts = ((atR ltT R rev).filter (ofOR o r)).map Tp.u := by
  have hs : TSorted ltT ((atR ltT R rev).filter (ofOR o r)) := (atR_sorted ordT R rev).filter _
  have hp : ts.Perm ((atR ltT R rev).filter (ofOR o r)) := (List.perm_ext_iff_of_nodup h.nd (tsorted_nd hs)).2 fun t => by
    rw [h.mem, List.mem_filter, hr.at_ ordT]
    unfold ofOR
    simp only [Bool.and_eq_true, decide_eq_true_eq]
    exact ⟨fun h => ⟨h.2.2, h.2.1⟩, fun h => ⟨spThere_known hm h.1, h.2, h.1⟩⟩
  have hall : ∀ x ∈ (atR ltT R rev).filter (ofOR o r), x.o = o ∧ x.r = r := fun x hx => by
    have := (List.mem_filter.1 hx).2
    unfold ofOR at this
    simpa using this
  generalize (atR ltT R rev).filter (ofOR o r) = P at *
  have hso : sortS (uOf P) = uOf P := by
    unfold sortS
    refine List.mergeSort_of_pairwise ?_
    unfold uOf
    rw [List.pairwise_map]
    refine List.Pairwise.imp_of_mem (fun {a b} ha hb hab => ?_) hs
    have h1 := hall a ha
    have h2 := hall b hb
    exact decide_eq_true (ltT_u hab (h1.1.trans h2.1.symm) (h1.2.trans h2.2.symm))
  unfold usL
  rw [show sortS (uOf ts) = sortS (uOf P) from sortS_perm (hp.map _), hso]
  unfold uOf
  rw [List.map_map]
  exact List.map_congr_left fun t _ => rfl
theorem of_picks {M : SM} (hm : SMOk M) {R : List Rw} (hr : Rep ltT M R) {u : ByteArray} {rev : Int} {ts : List Tp} (h : OfOk M u rev ts) (hs : TSorted ltT ts) : ts = (atR ltT R rev).filter (ofU u) := by
  refine hr.picks ordT rev _ hs fun t => ?_
  rw [h.mem]
  unfold ofU
  rw [decide_eq_true_eq]
  exact ⟨fun h => h.2, fun h => ⟨spThere_known hm h.2, h⟩⟩
/-- How many of the first i are picked. -/
def pk (p : Tp → Bool) (A : List Tp) (i : Nat) : Nat := ((A.take i).filter p).length
theorem pk_next {p : Tp → Bool} {A : List Tp} {i : Nat} {x : Tp} (h : A[i]? = some x) : pk p A (i + 1) = pk p A i + if p x = true then 1 else 0 := by
  unfold pk
  rw [List.take_add_one, h, List.filter_append, List.length_append]
  cases hp : p x <;> simp [hp]
theorem pk_at {p : Tp → Bool} {A : List Tp} {i : Nat} {x : Tp} (h : A[i]? = some x) (hp : p x = true) : (A.filter p)[pk p A i]? = some x := by
  unfold pk
  have h1 : A = A.take i ++ x :: A.drop (i + 1) := by rw [← drop_get h, List.take_append_drop]
  have h2 : A.filter p = (A.take i).filter p ++ x :: (A.drop (i + 1)).filter p := by
    conv => lhs; rw [h1]
    rw [List.filter_append, List.filter_cons, if_pos hp]
  rw [h2, List.getElem?_append_right (Nat.le_refl _), Nat.sub_self]; rfl
theorem pk_end (p : Tp → Bool) (A : List Tp) : pk p A A.length = (A.filter p).length := by unfold pk; rw [List.take_length]
theorem pk_le (p : Tp → Bool) (A : List Tp) (i : Nat) : pk p A i ≤ i := by
  unfold pk
  have := List.length_filter_le p (A.take i)
  rw [List.length_take] at this
  omega
end Go.Proofs.YtmjdngomjjhhiaaGreat
