/- StoreApart: the walk. -/
import Derived.Test.YtmjdngomjjhhiaaGreatE39
namespace Go.Proofs.YtmjdngomjjhhiaaGreat
open Go.RowKit
open Go.Maps (Keyed)

theorem Rep.same {lt : Tp → Tp → Bool} {M N : SM} {R : List Rw} (h : Rep lt M R) (hs : ∀ t, N.sp t = M.sp t) : Rep lt N R := ⟨h.so, fun t s u => by rw [hs]; exact h.mem t s u⟩
/-- How many spans, at most. -/
theorem SM.one_len (M : SM) (rev : Int) (d : Bool) (t x : Tp) : ((M.one rev d t).sp x).length ≤ (M.sp x).length + 1 := by
  by_cases h : x = t
  · rw [h, SM.one_same, oneSp_length]
    split <;> omega
  · rw [SM.one_other M rev d h]; omega
theorem SM.put_tot {M : SM} (h : SMOk M) (t : Tp) (l : List Sp) : (M.put t l).tot + (M.sp t).length = M.tot + l.length := by
  have hgo : ∀ K : List Tp, K.Nodup → (K.map fun x => ((M.put t l).sp x).length).sum + (if t ∈ K then (M.sp t).length else 0) = (K.map fun x => (M.sp x).length).sum + (if t ∈ K then l.length else 0) := by
    intro K
    induction K with
    | nil => intro _; simp
    | cons a K ih =>
      intro hn
      obtain ⟨h1, h2⟩ := List.nodup_cons.1 hn
      have := ih h2
      rw [List.map_cons, List.sum_cons, List.map_cons, List.sum_cons]
      by_cases hat : a = t
      · subst hat
        rw [SM.put_same]
        simp only [h1, if_false, List.mem_cons, true_or, if_true, Nat.add_zero] at this ⊢
        omega
      · rw [SM.put_other M l hat]
        have hm : (t ∈ a :: K) ↔ t ∈ K := by
          rw [List.mem_cons]
          exact ⟨fun e => e.elim (fun e => absurd e.symm hat) id, .inr⟩
        simp only [hm]
        omega
  unfold SM.tot
  by_cases ht : t ∈ M.K
  · have h1 := hgo M.K h.nd
    simp only [ht, if_true] at h1
    have h2 : (M.put t l).K = M.K := if_pos ht
    rw [h2]; exact h1
  · have h1 := hgo M.K h.nd
    simp only [ht, if_false, Nat.add_zero] at h1
    have h2 : (M.put t l).K = M.K ++ [t] := if_neg ht
    rw [h2, List.map_append, List.sum_append, h1, h.no t ht]
    simp [SM.put_same]
theorem SM.one_tot {M : SM} (h : SMOk M) (rev : Int) (d : Bool) (t : Tp) : (M.one rev d t).tot ≤ M.tot + 1 := by
  unfold SM.one
  cases d with
  | true =>
    simp only [if_true]
    split
    · next ho =>
      have := SM.put_tot h t (endB (M.sp t) rev)
      rw [endB_length ho] at this
      omega
    · omega
  | false =>
    simp only [if_false, Bool.false_eq_true]
    split
    · omega
    · have := SM.put_tot h t (M.sp t ++ [⟨rev, 0⟩])
      rw [List.length_append] at this
      simp at this
      omega
theorem SM.apply_tot {rev : Int} (h1 : 1 ≤ rev) (h2 : rev ≤ maxRev) : ∀ {l : List Mu} {M : SM}, SMOk M → MuOk M rev l → (M.apply rev l).tot ≤ M.tot + l.length := by
  intro l
  induction l with
  | nil => intro M _ _; exact Nat.le_refl _
  | cons m l ih =>
    intro M hm hl
    have h3 := ih (hm.one m.d m.t h1 h2 (hl.la m (by simp))) hl.tail
    have h4 := SM.one_tot hm rev m.d m.t
    show ((M.one rev m.d m.t).apply rev l).tot ≤ _
    rw [List.length_cons]
    omega
theorem SM.empty_tot : SM.empty.tot = 0 := rfl
/-- What is asked of the mutations from the last one on. -/
theorem apart_chk {rev : Int} {l : List Mu} (h : chkE SM.empty 0 rev l = 0) {i : Nat} {m : Mu} (hm : l[i]? = some m) : chkE (SM.empty.apply rev (l.drop (i + 1)).reverse) 0 rev [m] = 0 := by
  obtain ⟨h1, h2, h3, _⟩ := chkE_zero h
  have hgo : chkGo (SM.empty.lat 0) rev [] l = 0 := by
    unfold chkE at h
    rwa [if_neg (by omega)] at h
  have hme := ((chkGo_zero hgo).1 m (List.mem_of_getElem? hm)).1
  have hnd : ((l.drop (i + 1)).reverse.map Mu.t).Nodup := by
    rw [List.map_reverse]
    refine (List.reverse_perm _).nodup_iff.2 ?_
    rw [List.map_drop]
    exact (List.drop_sublist _ _).nodup h3.nd
  have hni : m.t ∉ (l.drop (i + 1)).reverse.map Mu.t := fun e => by
    rw [List.map_reverse, List.mem_reverse, List.map_drop] at e
    obtain ⟨j, hj, hjm⟩ := List.getElem_of_mem e
    rw [List.length_drop] at hj
    rw [List.getElem_drop] at hjm
    have hi := (List.getElem?_eq_some_iff.1 hm)
    have h5 : (l.map Mu.t)[i]'(by simpa using hi.1) = m.t := by simp [hi.2]
    have := (List.getElem_inj h3.nd).1 (hjm.trans h5.symm)
    omega
  have hsp : (SM.empty.apply rev (l.drop (i + 1)).reverse).sp m.t = [] := (SM.apply_sp (rev := rev) (M := SM.empty) hnd).2 _ hni
  unfold chkE chkGo
  rw [if_neg (by omega), if_neg (by simpa using hme), if_neg (by simp)]
  have : ¬ rev ≤ (SM.empty.apply rev (l.drop (i + 1)).reverse).lat 0 m.t := by
    unfold SM.lat
    rw [hsp]
    show ¬ rev ≤ max 0 0
    omega
  rw [if_neg this]; rfl
theorem MuOk.rev_drop {rev : Int} {l : List Mu} (h : MuOk SM.empty rev l) (h1 : 1 ≤ rev) (i : Nat) : MuOk SM.empty rev (l.drop i).reverse :=
  ⟨by rw [List.map_reverse]; refine (List.reverse_perm _).nodup_iff.2 ?_; rw [List.map_drop]; exact (List.drop_sublist _ _).nodup h.nd, fun m _ => by show (0 : Int) < rev; omega⟩
/-- Two stores in one memory. -/
theorem StC.keep2 {w w' : World} {H H' H2 : Gh} {wm : Int} {M2 : SM} {cb2 : Nat} (c : StC w w' H H') (h2 : StAt w wm M2 H2 cb2) (hd : ∀ b, H.own b → ¬ H2.own b) : StAt w' wm M2 H2 cb2 ∧ ∀ b, H'.own b → ¬ H2.own b := by
  refine ⟨h2.chg c.chg (fun b h3 h4 => hd b h4 h3), fun b h3 h4 => ?_⟩
  have hlt := h2.raw.own_lt h4
  exact hd b (c.new b hlt h3) h4
end Go.Proofs.YtmjdngomjjhhiaaGreat
