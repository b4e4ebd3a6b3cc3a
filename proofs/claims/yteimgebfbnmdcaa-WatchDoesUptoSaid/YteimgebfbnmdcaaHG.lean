/- Tuples, each once: watch's set. -/
import Derived.Test.YteimgebfbnmdcaaHF
namespace Go.Proofs.Yteimgebfbnmdcaa
open Go.RowKit
open Go.Maps (Keyed)

abbrev unitV : Value := .agg #[]
/-- A set in block b: its tuples. -/
structure SetAt (w : World) (b : Nat) (S : List Tp) : Prop where
  map : ∃ m, MapAt w Try.prog 47 b m S.length ∧ (∀ t, t.fits → ((m (kT t)).isSome = true ↔ t ∈ S)) ∧ (∀ kl, (m kl).isSome = true → ∃ t ∈ S, kl = kT t) ∧ ∀ kl v, m kl = some v → v = unitV
  nd : S.Nodup
  fits : ∀ t ∈ S, t.fits
theorem SetAt.lt {w : World} {b : Nat} {S : List Tp} (h : SetAt w b S) : b < w.heap.size := by
  obtain ⟨m, h, _⟩ := h.map
  exact h.lt
theorem SetAt.kept {w w' : World} {b : Nat} {S : List Tp} (h : SetAt w b S) (hb : w'.heap[b]? = w.heap[b]?) : SetAt w' b S := by
  obtain ⟨m, h1, h2⟩ := h.map
  exact ⟨⟨m, h1.kept hb, h2⟩, h.nd, h.fits⟩
theorem SetAt.below {w w' : World} {b : Nat} {S : List Tp} (h : SetAt w b S) (hb : Below w.heap.size w w') : SetAt w' b S := h.kept (hb.block _ h.lt)
theorem SetAt.made (w : World) : SetAt (w.alloc (.map #[] 0)) w.heap.size [] :=
  ⟨⟨_, MapAt.made w _ _, fun t _ => by simp, fun kl h => (by cases h), fun kl v h => (by cases h)⟩, List.nodup_nil, fun t h => by cases h⟩
/-- One more. -/
def addS (S : List Tp) (t : Tp) : List Tp := if t ∈ S then S else S ++ [t]
theorem mem_addS {S : List Tp} {t x : Tp} : x ∈ addS S t ↔ x ∈ S ∨ x = t := by
  unfold addS
  split
  · next h => exact ⟨.inl, fun h2 => h2.elim id (fun e => by rw [e]; exact h)⟩
  · rw [List.mem_append, List.mem_singleton]
theorem nd_addS {S : List Tp} (h : S.Nodup) (t : Tp) : (addS S t).Nodup := by
  unfold addS
  split
  · exact h
  · next hn => exact List.nodup_append.2 ⟨h, by simp, fun a ha b hb e => by rw [List.mem_singleton] at hb; rw [e, hb] at ha; exact hn ha⟩
theorem len_addS (S : List Tp) (t : Tp) : (addS S t).length ≤ S.length + 1 := by
  unfold addS
  split
  · omega
  · simp
theorem zeroU (w : World) : (zeroValue 93).run Try.prog w = .ok unitV w := by kernel_rfl
theorem SetAt.put {w : World} {b : Nat} {S : List Tp} (h : SetAt w b S) (hn : S.length ≤ 1099511627776) {t : Tp} (ht : t.fits) :
    ∃ w', (Instr.mapUpdate 68 (.map (some b)) (tpV t) unitV).run Try.prog w = .ok () w' ∧ SetAt w' b (addS S t) ∧ w.grownBy w' (some b) ∧ w'.heap.size = w.heap.size := by
  obtain ⟨m, h1, h2, h3, h4⟩ := h.map
  obtain ⟨w', r1, r2, r3, r4⟩ := h1.store keyT Try.underlying68 (zeroU _) (by unfold maxLen; omega) (val := unitV) (keyT_of ht)
  refine ⟨w', r1, ⟨⟨mset m (kT t) (some unitV), ?_, fun x hx => ?_, fun kl hkl => ?_, fun kl v hv => ?_⟩, nd_addS h.nd t, fun x hx => ?_⟩, r3, r4⟩
  · have e : (addS S t).length = if (m (kT t)).isSome then S.length else S.length + 1 := by
      unfold addS
      by_cases hm : t ∈ S
      · rw [if_pos hm, if_pos ((h2 t ht).2 hm)]
      · rw [if_neg hm, if_neg (fun h => hm ((h2 t ht).1 h))]; simp
    rw [e]
    exact r2
  · rw [mem_addS]
    by_cases e : x = t
    · subst e
      rw [mset_same (kT_lit _)]
      simp
    · rw [mset_other (fun h => e (kT_inj hx ht h)), h2 x hx]
      simp [e]
  · by_cases e : kl = kT t
    · exact ⟨t, mem_addS.2 (.inr rfl), e⟩
    · rw [mset_other e] at hkl
      obtain ⟨x, hx, he⟩ := h3 kl hkl
      exact ⟨x, mem_addS.2 (.inl hx), he⟩
  · by_cases e : kl = kT t
    · rw [e, mset_same (kT_lit _)] at hv; exact (Option.some.inj hv).symm
    · rw [mset_other e] at hv; exact h4 kl v hv
  · rcases mem_addS.1 hx with hx | hx
    · exact h.fits x hx
    · rw [hx]; exact ht
/-- One away. -/
theorem SetAt.away {w : World} {b : Nat} {S : List Tp} (h : SetAt w b S) {t : Tp} (ht : t.fits) (ty : TypeId) :
    ∃ w', (Builtin.delete_ #[68, 47] ty #[.map (some b), tpV t]).run Try.prog w = .ok (.tuple #[]) w' ∧ SetAt w' b (S.filter fun x => decide (x ≠ t)) ∧ w.grownBy w' (some b) ∧ w'.heap.size = w.heap.size := by
  obtain ⟨m, h1, h2, h3, h4⟩ := h.map
  obtain ⟨w', r1, r2, r3, r4⟩ := h1.drop keyT Try.underlying68 (zeroU _) (keyT_of ht) ty
  refine ⟨w', r1, ⟨⟨mset m (kT t) none, ?_, fun x hx => ?_, fun kl hkl => ?_, fun kl v hv => ?_⟩, h.nd.filter _, fun x hx => h.fits x (List.mem_filter.1 hx).1⟩, r3, r4⟩
  · have e : (S.filter fun x => decide (x ≠ t)).length = if (m (kT t)).isSome then S.length - 1 else S.length := by
      by_cases hm : t ∈ S
      · rw [if_pos ((h2 t ht).2 hm)]
        have := List.Nodup.erase_eq_filter h.nd t
        have h5 : (S.filter fun x => decide (x ≠ t)) = S.erase t := by
          rw [this]
          exact List.filter_congr (fun x _ => by by_cases e : x = t <;> simp [e])
        rw [h5, List.length_erase_of_mem hm]
      · rw [if_neg (fun h => hm ((h2 t ht).1 h)), List.filter_eq_self.2 (fun x hx => by simp; rintro rfl; exact hm hx)]
    rw [e]
    exact r2
  · rw [List.mem_filter]
    by_cases e : x = t
    · subst e
      rw [mset_same (kT_lit _)]
      simp
    · rw [mset_other (fun h => e (kT_inj hx ht h)), h2 x hx]
      simp [e]
  · by_cases e : kl = kT t
    · rw [e, mset_same (kT_lit _)] at hkl; cases hkl
    · rw [mset_other e] at hkl
      obtain ⟨x, hx, he⟩ := h3 kl hkl
      exact ⟨x, List.mem_filter.2 ⟨hx, by simp; rintro rfl; exact e he⟩, he⟩
  · by_cases e : kl = kT t
    · rw [e, mset_same (kT_lit _)] at hv; cases hv
    · rw [mset_other e] at hv; exact h4 kl v hv
theorem SetAt.look {w : World} {b : Nat} {S : List Tp} (h : SetAt w b S) {t : Tp} (ht : t.fits) :
    (Instr.lookup 68 (.map (some b)) (tpV t) true).run Try.prog w = .ok (.tuple #[unitV, .bool (decide (t ∈ S))]) w := by
  obtain ⟨m, h1, h2, _, h4⟩ := h.map
  have := h1.look keyT Try.underlying68 (zeroU _) true (keyT_of ht)
  have e : (m (kT t)).isSome = decide (t ∈ S) := by rw [Bool.eq_iff_iff, h2 t ht]; simp
  have e2 : (m (kT t)).getD unitV = unitV := by
    cases hm : m (kT t) with
    | none => rfl
    | some v => exact h4 _ v hm
  rw [e, e2] at this
  simpa using this
end Go.Proofs.Yteimgebfbnmdcaa
