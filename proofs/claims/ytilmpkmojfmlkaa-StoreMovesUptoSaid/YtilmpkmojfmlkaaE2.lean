/- An index: lists of tuples by a key; an entry knows its spot; the last one takes the spot of one that goes. -/
import Derived.Test.YtilmpkmojfmlkaaE1
namespace Go.Proofs.Ytilmpkmojfmlkaa
open Go.RowKit

/-- The one at i goes, the last one takes its spot. -/
def swapOut {α : Type} (l : List α) (i : Nat) : List α := match l.getLast? with
  | some x => (l.set i x).dropLast
  | none => []
theorem swapOut_concat {α : Type} (ys : List α) (x : α) (i : Nat) : swapOut (ys ++ [x]) i = if i < ys.length then ys.set i x else if i = ys.length then ys else ys := by
  unfold swapOut
  rw [List.getLast?_concat]
  show ((ys ++ [x]).set i x).dropLast = _
  by_cases h : i < ys.length
  · rw [if_pos h, List.set_append_left _ _ h, List.dropLast_concat]
  · rw [if_neg h, List.set_append_right _ _ (by omega)]
    by_cases h2 : i = ys.length
    · rw [if_pos h2, h2, Nat.sub_self]
      show (ys ++ [x]).dropLast = ys
      rw [List.dropLast_concat]
    · rw [if_neg h2]
      have : ([x] : List α).set (i - ys.length) x = [x] := by
        rw [List.set_eq_of_length_le (by simp; omega)]
      rw [this, List.dropLast_concat]
theorem swapOut_length {α : Type} (l : List α) (i : Nat) : (swapOut l i).length = l.length - 1 := by
  unfold swapOut
  cases h : l.getLast? with
  | none => rw [List.getLast?_eq_none_iff.1 h]; rfl
  | some x => simp
/-- What stands where, then. -/
theorem swapOut_at {α : Type} {l : List α} {i j : Nat} (hi : i < l.length) (hj : j < l.length - 1) : (swapOut l i)[j]? = if j = i then l.getLast? else l[j]? := by
  cases h : l.getLast? with
  | none => rw [List.getLast?_eq_none_iff.1 h] at hi; exact absurd hi (Nat.not_lt_zero _)
  | some x =>
    obtain ⟨ys, rfl⟩ := List.getLast?_eq_some_iff.1 h
    rw [swapOut_concat]
    have hj2 : j < ys.length := by simpa using hj
    rw [List.getElem?_append_left hj2]
    by_cases hiy : i < ys.length
    · rw [if_pos hiy, List.getElem?_set]
      by_cases hji : j = i
      · rw [if_pos hji.symm, if_pos hji, if_pos hiy]
      · rw [if_neg (fun e => hji e.symm), if_neg hji]
    · have hji : j ≠ i := by omega
      rw [if_neg hiy, ite_self, if_neg hji]
theorem swapOut_mem {α : Type} {l : List α} {i : Nat} {t : α} (hn : l.Nodup) (hi : l[i]? = some t) (y : α) : y ∈ swapOut l i ↔ y ∈ l ∧ y ≠ t := by
  obtain ⟨hil, hit⟩ := List.getElem?_eq_some_iff.1 hi
  constructor
  · intro hy
    obtain ⟨j, hj, hjy⟩ := List.getElem_of_mem hy
    have hj2 : j < l.length - 1 := by rw [swapOut_length] at hj; exact hj
    have h1 := swapOut_at hil hj2
    rw [List.getElem?_eq_getElem hj, hjy] at h1
    by_cases hji : j = i
    · rw [if_pos hji] at h1
      obtain ⟨ys, he⟩ := List.getLast?_eq_some_iff.1 h1.symm
      refine ⟨by rw [he]; simp, fun e => ?_⟩
      have h2 : l[ys.length]? = some y := by rw [he]; simp
      have h3 : ys.length = i := by
        have h4 := (List.getElem?_eq_some_iff.1 h2)
        exact (List.getElem_inj hn).1 (by rw [h4.2, hit, e]) 
      have h5 : l.length = ys.length + 1 := by rw [he]; simp
      omega
    · rw [if_neg hji] at h1
      obtain ⟨h2, h3⟩ := List.getElem?_eq_some_iff.1 h1.symm
      refine ⟨h3 ▸ List.getElem_mem h2, fun e => hji ?_⟩
      exact (List.getElem_inj hn).1 (by rw [h3, hit, e])
  · rintro ⟨hy, hne⟩
    obtain ⟨j, hj, hjy⟩ := List.getElem_of_mem hy
    by_cases hjl : j < l.length - 1
    · have hji : j ≠ i := fun e => hne (by subst e; rw [← hjy, hit])
      have h1 := swapOut_at hil hjl
      rw [if_neg hji, List.getElem?_eq_getElem hj, hjy] at h1
      exact List.mem_of_getElem? h1
    · have hlast : l.getLast? = some y := by
        rw [List.getLast?_eq_getElem?, List.getElem?_eq_some_iff]
        exact ⟨by omega, by rw [← hjy]; congr 1; omega⟩
      have hi2 : i < l.length - 1 := by
        have : i ≠ j := fun e => hne (by subst e; rw [← hjy, hit])
        omega
      have h1 := swapOut_at hil hi2
      rw [if_pos rfl, hlast] at h1
      exact List.mem_of_getElem? h1
theorem nd_inj {α : Type} {l : List α} (hn : l.Nodup) {a b : Nat} (ha : a < l.length) (hb : b < l.length) (h : l[a]? = l[b]?) : a = b := by
  rw [List.getElem?_eq_getElem ha, List.getElem?_eq_getElem hb] at h
  exact (List.getElem_inj hn).1 (Option.some.inj h)
theorem swapOut_nodup {α : Type} {l : List α} {i : Nat} (hn : l.Nodup) (hi : i < l.length) : (swapOut l i).Nodup := by
  unfold List.Nodup
  rw [List.pairwise_iff_getElem]
  intro a b ha hb hab e
  have h1 : (swapOut l i)[a]? = (swapOut l i)[b]? := by rw [List.getElem?_eq_getElem ha, List.getElem?_eq_getElem hb, e]
  rw [swapOut_length] at ha hb
  rw [swapOut_at hi ha, swapOut_at hi hb, List.getLast?_eq_getElem?] at h1
  by_cases hai : a = i
  · rw [if_pos hai, if_neg (by omega)] at h1
    have := nd_inj hn (by omega) (by omega) h1
    omega
  · rw [if_neg hai] at h1
    by_cases hbi : b = i
    · rw [if_pos hbi] at h1
      have := nd_inj hn (by omega) (by omega) h1
      omega
    · rw [if_neg hbi] at h1
      have := nd_inj hn (by omega) (by omega) h1
      omega

/-- An index of the tuples K. -/
structure IxOk {κ : Type} (key : Tp → κ) (K : List Tp) (L : κ → List Tp) (pos : Tp → Nat) : Prop where
  nd : ∀ k, (L k).Nodup
  mem : ∀ k t, t ∈ L k ↔ t ∈ K ∧ key t = k
  at_ : ∀ t ∈ K, (L (key t))[pos t]? = some t
theorem IxOk.empty {κ : Type} (key : Tp → κ) (pos : Tp → Nat) : IxOk key [] (fun _ => []) pos := ⟨by simp, by simp, by simp⟩
/-- One list is another one. -/
def updK {κ α : Type} [DecidableEq κ] (L : κ → α) (k : κ) (l : α) : κ → α := fun x => if x = k then l else L x
theorem updK_same {κ α : Type} [DecidableEq κ] (L : κ → α) (k : κ) (l : α) : updK L k l k = l := by simp [updK]
theorem updK_other {κ α : Type} [DecidableEq κ] (L : κ → α) {k x : κ} (l : α) (h : x ≠ k) : updK L k l x = L x := by simp [updK, h]
theorem IxOk.add {κ : Type} [DecidableEq κ] {key : Tp → κ} {K : List Tp} {L : κ → List Tp} {pos : Tp → Nat} (h : IxOk key K L pos) {t : Tp} (ht : t ∉ K) :
    IxOk key (K ++ [t]) (updK L (key t) (L (key t) ++ [t])) (updK pos t (L (key t)).length) := by
  have hnot : ∀ k, t ∉ L k := fun k hm => ht ((h.mem k t).1 hm).1
  refine ⟨fun k => ?_, fun k x => ?_, fun x hx => ?_⟩
  · by_cases hk : k = key t
    · rw [hk, updK_same]
      exact List.nodup_append.2 ⟨h.nd _, by simp, fun a ha b hb e => by rw [List.mem_singleton] at hb; rw [e, hb] at ha; exact hnot _ ha⟩
    · rw [updK_other _ _ hk]; exact h.nd k
  · by_cases hk : k = key t
    · rw [hk, updK_same, List.mem_append, List.mem_singleton, List.mem_append, List.mem_singleton, h.mem]
      constructor
      · rintro (h1 | h1)
        · exact ⟨.inl h1.1, h1.2⟩
        · exact ⟨.inr h1, by rw [h1]⟩
      · rintro ⟨h1 | h1, h2⟩
        · exact .inl ⟨h1, h2⟩
        · exact .inr h1
    · rw [updK_other _ _ hk, h.mem, List.mem_append, List.mem_singleton]
      constructor
      · exact fun h1 => ⟨.inl h1.1, h1.2⟩
      · rintro ⟨h1 | h1, h2⟩
        · exact ⟨h1, h2⟩
        · exact absurd (by rw [← h2, h1]) hk
  · by_cases hxt : x = t
    · rw [hxt, updK_same, updK_same]; simp
    · have hxK : x ∈ K := by
        rcases List.mem_append.1 hx with h1 | h1
        · exact h1
        · exact absurd (List.mem_singleton.1 h1) hxt
      rw [updK_other _ _ hxt]
      have h1 := h.at_ x hxK
      by_cases hk : key x = key t
      · rw [hk, updK_same]
        rw [hk] at h1
        rw [List.getElem?_append_left (List.getElem?_eq_some_iff.1 h1).1]
        exact h1
      · rw [updK_other _ _ hk]; exact h1
/-- One tuple goes: the last one of its list stands where it stood. -/
theorem IxOk.remove {κ : Type} [DecidableEq κ] {key : Tp → κ} {K : List Tp} {L : κ → List Tp} {pos : Tp → Nat} (h : IxOk key K L pos) {t last : Tp} (ht : t ∈ K) (hl : (L (key t)).getLast? = some last) :
    IxOk key (K.filter (fun x => decide (x ≠ t))) (updK L (key t) (swapOut (L (key t)) (pos t))) (updK pos last (pos t)) := by
  have hat := h.at_ t ht
  have hlt := (List.getElem?_eq_some_iff.1 hat).1
  have hK : ∀ x, x ∈ K.filter (fun x => decide (x ≠ t)) ↔ x ∈ K ∧ x ≠ t := fun x => by simp
  refine ⟨fun k => ?_, fun k x => ?_, fun x hx => ?_⟩
  · by_cases hk : k = key t
    · rw [hk, updK_same]; exact swapOut_nodup (h.nd _) hlt
    · rw [updK_other _ _ hk]; exact h.nd k
  · rw [hK]
    by_cases hk : k = key t
    · rw [hk, updK_same, swapOut_mem (h.nd _) hat, h.mem]
      exact ⟨fun h1 => ⟨⟨h1.1.1, h1.2⟩, h1.1.2⟩, fun h1 => ⟨⟨h1.1.1, h1.2⟩, h1.1.2⟩⟩
    · rw [updK_other _ _ hk, h.mem]
      exact ⟨fun h1 => ⟨⟨h1.1, fun e => hk (by rw [← h1.2, e])⟩, h1.2⟩, fun h1 => ⟨h1.1.1, h1.2⟩⟩
  · obtain ⟨hxK, hxt⟩ := (hK x).1 hx
    have hx1 := h.at_ x hxK
    by_cases hk : key x = key t
    · rw [hk] at hx1
      rw [hk, updK_same]
      have hxl := (List.getElem?_eq_some_iff.1 hx1).1
      have hne : pos x ≠ pos t := fun e => by rw [e, hat] at hx1; exact hxt (Option.some.inj hx1).symm
      by_cases hxlast : x = last
      · rw [hxlast, updK_same]
        have hp : pos last = (L (key t)).length - 1 := by
          rw [hxlast] at hx1
          have h2 : (L (key t))[(L (key t)).length - 1]? = some last := by rw [← List.getLast?_eq_getElem?]; exact hl
          obtain ⟨a1, a2⟩ := List.getElem?_eq_some_iff.1 hx1
          obtain ⟨b1, b2⟩ := List.getElem?_eq_some_iff.1 h2
          exact (List.getElem_inj (h.nd (key t))).1 (by rw [a2, b2])
        rw [swapOut_at hlt (by rw [hxlast] at hne; omega), if_pos rfl]
        exact hl
      · rw [updK_other _ _ hxlast]
        have hp : pos x < (L (key t)).length - 1 := by
          have : pos x ≠ (L (key t)).length - 1 := fun e => by
            rw [e, ← List.getLast?_eq_getElem?, hl] at hx1
            exact hxlast (Option.some.inj hx1).symm
          omega
        rw [swapOut_at hlt hp, if_neg hne]
        exact hx1
    · rw [updK_other _ _ hk]
      by_cases hxlast : x = last
      · have : last ∈ L (key t) := List.mem_of_getLast? hl
        exact absurd (by rw [hxlast]; exact ((h.mem _ _).1 this).2) hk
      · rw [updK_other _ _ hxlast]; exact hx1
end Go.Proofs.Ytilmpkmojfmlkaa
