/- Behind a change: is the tuple there, how many spans has it, what was read ahead of it. -/
import Derived.Test.YtilmpkmojfmlkaaE7
namespace Go.Proofs.Ytilmpkmojfmlkaa
open Go.RowKit

theorem endB_length {l : List Sp} (h : openB l = true) (rev : Int) : (endB l rev).length = l.length := by
  unfold openB at h
  cases hl : l.getLast? with
  | none => rw [hl] at h; cases h
  | some x =>
    have he : endB l rev = l.dropLast ++ [⟨x.s, rev⟩] := by unfold endB; rw [hl]
    rw [he]
    conv => rhs; rw [last_split hl]
    simp
theorem endB_last {l : List Sp} (h : openB l = true) (rev : Int) : ∃ x, l.getLast? = some x ∧ x.u = 0 ∧ endB l rev = l.dropLast ++ [⟨x.s, rev⟩] := by
  unfold openB at h
  cases hl : l.getLast? with
  | none => rw [hl] at h; cases h
  | some x =>
    rw [hl] at h
    exact ⟨x, rfl, by simpa using h, by unfold endB; rw [hl]⟩
theorem oneSp_length (l : List Sp) (rev : Int) (d : Bool) : (oneSp l rev d).length = l.length + (if !d && !openB l then 1 else 0) := by
  unfold oneSp
  cases ho : openB l with
  | true =>
    cases d with
    | true => simp [endB_length ho]
    | false => simp
  | false => cases d <;> simp
theorem oneSp_open (l : List Sp) {rev : Int} (h1 : 1 ≤ rev) (d : Bool) : openB (oneSp l rev d) = !d := by
  unfold oneSp
  cases ho : openB l with
  | true =>
    cases d with
    | true =>
      obtain ⟨x, _, _, he⟩ := endB_last ho rev
      simp only [if_true]
      rw [he]
      unfold openB
      rw [List.getLast?_concat]
      have : rev ≠ 0 := by omega
      simp [this]
    | false => simp [ho]
  | false =>
    cases d with
    | true => simp [ho]
    | false =>
      simp only [Bool.false_eq_true, if_false]
      unfold openB
      rw [List.getLast?_concat]
      simp
theorem oneSp_latest {l : List Sp} {rev : Int} (hl : latestB l ≤ rev) (h1 : 1 ≤ rev) (d : Bool) : latestB (oneSp l rev d) ≤ rev := by
  unfold oneSp
  cases ho : openB l with
  | true =>
    cases d with
    | true =>
      obtain ⟨x, hx, _, he⟩ := endB_last ho rev
      simp only [if_true]
      rw [he]
      have h2 : latestB l = max x.s x.u := by unfold latestB; rw [hx]
      unfold latestB
      rw [List.getLast?_concat]
      show max x.s rev ≤ rev
      omega
    | false => simpa using hl
  | false =>
    cases d with
    | true => simpa using hl
    | false =>
      simp only [Bool.false_eq_true, if_false]
      unfold latestB
      rw [List.getLast?_concat]
      show max rev 0 ≤ rev
      omega
/-- There it is, or it isn't. -/
theorem oneSp_now {l : List Sp} (h : l = [] ∨ SpOk l) {rev : Int} (hl : latestB l < rev) (d : Bool) : spThere (oneSp l rev d) rev = !d := by
  have hold : ∀ x ∈ l, x.u ≠ 0 → x.at_ rev = false := fun x hx hu => by
    rcases h with h1 | h1
    · rw [h1] at hx; exact absurd hx (by simp)
    · have h2 := h1.le_latest x hx
      unfold Sp.at_ Sp.over
      have : x.u ≤ rev := by omega
      simp [hu, this]
  unfold oneSp
  cases ho : openB l with
  | true =>
    obtain ⟨x, hx, hu, he⟩ := endB_last ho rev
    have hok : SpOk l := by
      rcases h with h1 | h1
      · rw [h1] at ho; cases ho
      · exact h1
    have hs := last_split hx
    cases d with
    | true =>
      simp only [if_true, Bool.not_true]
      rw [he]
      unfold spThere
      rw [List.any_append, Bool.or_eq_false_iff]
      refine ⟨List.any_eq_false.2 fun y hy => ?_, ?_⟩
      · have hp := hok.asc
        rw [hs] at hp
        have h2 := (List.pairwise_append.1 hp).2.2 y hy x (by simp)
        rw [hold y (by rw [hs]; exact List.mem_append_left _ hy) h2.1]
        decide
      · show (Sp.at_ ⟨x.s, rev⟩ rev || false) = false
        have h3 := hok.le_latest x (List.mem_of_getLast? hx)
        have h4 := (hok.all x (List.mem_of_getLast? hx)).1
        unfold Sp.at_ Sp.over
        have h5 : rev ≠ 0 := by omega
        simp [h5]
    | false =>
      simp only [Bool.false_eq_true, if_false, if_true, Bool.not_false]
      unfold spThere
      rw [List.any_eq_true]
      refine ⟨x, List.mem_of_getLast? hx, ?_⟩
      have h3 := hok.le_latest x (List.mem_of_getLast? hx)
      unfold Sp.at_ Sp.over
      have h5 : x.s ≤ rev := by omega
      simp [hu, h5]
  | false =>
    have hall : ∀ x ∈ l, x.u ≠ 0 := fun x hx e => by
      have h2 := (openB_iff h).2 ⟨x, hx, e⟩
      rw [ho] at h2; cases h2
    have hno : spThere l rev = false := by
      unfold spThere
      exact List.any_eq_false.2 fun x hx => by rw [hold x hx (hall x hx)]; decide
    cases d with
    | true => simpa using hno
    | false =>
      simp only [Bool.false_eq_true, if_false, Bool.not_false]
      unfold spThere
      rw [List.any_append, Bool.or_eq_true]
      right
      show (Sp.at_ ⟨rev, 0⟩ rev || false) = true
      unfold Sp.at_ Sp.over
      simp
/-- What was read stays so. -/
theorem SM.apply_there {M : SM} (hm : SMOk M) {rev : Int} (h1 : 1 ≤ rev) {l : List Mu} (hl : MuOk M rev l) {r : Int} (hr : r < rev) (t : Tp) : spThere ((M.apply rev l).sp t) r = spThere (M.sp t) r := by
  obtain ⟨a1, a2⟩ := SM.apply_sp (rev := rev) (M := M) hl.nd
  by_cases ht : t ∈ l.map Mu.t
  · obtain ⟨m, hmm, rfl⟩ := List.mem_map.1 ht
    rw [a1 m hmm, oneSp_there (hm.sp_cases m.t) m.d hr h1]
  · rw [a2 t ht]
/-- Behind changes nothing is later than they are. -/
theorem SM.apply_latest {M : SM} {rev : Int} (h1 : 1 ≤ rev) {l : List Mu} (hl : MuOk M rev l) (hM : ∀ t, latestB (M.sp t) ≤ rev) (t : Tp) : latestB ((M.apply rev l).sp t) ≤ rev := by
  obtain ⟨a1, a2⟩ := SM.apply_sp (rev := rev) (M := M) hl.nd
  by_cases ht : t ∈ l.map Mu.t
  · obtain ⟨m, hmm, rfl⟩ := List.mem_map.1 ht
    rw [a1 m hmm]
    exact oneSp_latest (hM m.t) h1 m.d
  · rw [a2 t ht]; exact hM t
end Go.Proofs.Ytilmpkmojfmlkaa
