/- The stable sort: the three ways of merging two parts, once the place is found. -/
import Derived.Test.YteimgebfbnmdcaaH0
namespace Go.Proofs.Yteimgebfbnmdcaa
open Go.Sort
variable {α : Type} [Inhabited α] {lt L : α → α → Bool}

/-- What the true order is asked. -/
structure Tru (L : α → α → Bool) : Prop where
  tr : ∀ x y z, L x y = true → L y z = true → L x z = true
  irr : ∀ x, L x x = false
/-- The parts [a, m) and [m, b), ready to be merged. -/
structure Rdy (L lt : α → α → Bool) (a m b : Nat) (d : Array α) : Prop where
  lo : Asc L a m d
  up : Asc L m b d
  crs : ∀ i j, a ≤ i → i < m → m ≤ j → j < b → Crs lt L d[i]! d[j]!
/-- The left part is one element. -/
theorem Rdy.one {a b i : Nat} {d d' : Array α} (T : Tru L) (h : Rdy L lt a (a + 1) b d) (hi : a + 1 ≤ i) (hib : i ≤ b) (h1 : i = a + 1 ∨ lt d[i - 1]! d[a]! = true) (h2 : i = b ∨ lt d[i]! d[a]! = false) (hr : Rot a (a + 1) i d d') : Asc L a b d' := by
  have k1 : ∀ j, a + 1 ≤ j → j < i → L d[j]! d[a]! = true := fun j j1 j2 => by
    rcases h1 with h1 | h1
    · omega
    · have h3 := (h.crs a (i - 1) (Nat.le_refl _) (by omega) (by omega) (by omega)).1 h1
      by_cases e : j = i - 1
      · rw [e]; exact h3
      · exact T.tr _ _ _ (h.up j (i - 1) j1 (by omega) (by omega)) h3
  have k2 : ∀ j, i ≤ j → j < b → L d[a]! d[j]! = true := fun j j1 j2 => by
    rcases h2 with h2 | h2
    · omega
    · have h3 := (h.crs a i (Nat.le_refl _) (by omega) (by omega) (by omega)).2 h2
      by_cases e : j = i
      · rw [e]; exact h3
      · exact T.tr _ _ _ h3 (h.up i j (by omega) (by omega) (by omega))
  have q : ∀ p, a ≤ p → p < b → d'[p]! = if p < i - 1 then d[p + 1]! else if p = i - 1 then d[a]! else d[p]! := fun p p1 p2 => by
    rw [hr.2]
    repeat' split
    all_goals first | rfl | (exfalso; omega) | (congr 1; omega)
  intro x y x1 xy y2
  rw [q x x1 (by omega), q y (by omega) y2]
  by_cases cx : x < i - 1
  · rw [if_pos cx]
    by_cases cy : y < i - 1
    · rw [if_pos cy]; exact h.up _ _ (by omega) (by omega) (by omega)
    · rw [if_neg cy]
      by_cases cz : y = i - 1
      · rw [if_pos cz]; exact k1 _ (by omega) (by omega)
      · rw [if_neg cz]; exact h.up _ _ (by omega) (by omega) (by omega)
  · rw [if_neg cx, if_neg (show ¬ y < i - 1 by omega), if_neg (show ¬ y = i - 1 by omega)]
    by_cases cz : x = i - 1
    · rw [if_pos cz]; exact k2 _ (by omega) y2
    · rw [if_neg cz]; exact h.up _ _ (by omega) (by omega) (by omega)
/-- The right part is one element. -/
theorem Rdy.last {a m i : Nat} {d d' : Array α} (T : Tru L) (h : Rdy L lt a m (m + 1) d) (hi : a ≤ i) (him : i ≤ m) (h1 : i = a ∨ lt d[m]! d[i - 1]! = false) (h2 : i = m ∨ lt d[m]! d[i]! = true) (hr : Rot i m (m + 1) d d') : Asc L a (m + 1) d' := by
  have k1 : ∀ j, a ≤ j → j < i → L d[j]! d[m]! = true := fun j j1 j2 => by
    rcases h1 with h1 | h1
    · omega
    · have h3 := (h.crs (i - 1) m (by omega) (by omega) (Nat.le_refl _) (by omega)).2 h1
      by_cases e : j = i - 1
      · rw [e]; exact h3
      · exact T.tr _ _ _ (h.lo j (i - 1) j1 (by omega) (by omega)) h3
  have k2 : ∀ j, i ≤ j → j < m → L d[m]! d[j]! = true := fun j j1 j2 => by
    rcases h2 with h2 | h2
    · omega
    · have h3 := (h.crs i m (by omega) (by omega) (Nat.le_refl _) (by omega)).1 h2
      by_cases e : j = i
      · rw [e]; exact h3
      · exact T.tr _ _ _ h3 (h.lo i j (by omega) (by omega) (by omega))
  have q : ∀ p, p ≤ m → d'[p]! = if p < i then d[p]! else if p = i then d[m]! else d[p - 1]! := fun p p2 => by
    rw [hr.2]
    repeat' split
    all_goals first | rfl | (exfalso; omega) | (congr 1; omega)
  intro x y x1 xy y2
  rw [q x (by omega), q y (by omega)]
  by_cases cx : x < i
  · rw [if_pos cx]
    by_cases cy : y < i
    · rw [if_pos cy]; exact h.lo _ _ (by omega) (by omega) (by omega)
    · rw [if_neg cy]
      by_cases cz : y = i
      · rw [if_pos cz]; exact k1 _ (by omega) (by omega)
      · rw [if_neg cz]; exact h.lo _ _ (by omega) (by omega) (by omega)
  · rw [if_neg cx, if_neg (show ¬ y < i by omega), if_neg (show ¬ y = i by omega)]
    by_cases cz : x = i
    · rw [if_pos cz]; exact k2 _ (by omega) (by omega)
    · rw [if_neg cz]; exact h.lo _ _ (by omega) (by omega) (by omega)
/-- The cut of both parts round the middle. -/
theorem Rdy.cut {a m b s mid st r0 : Nat} {d d' : Array α} (T : Tru L) (h : Rdy L lt a m b d) (ham : a < m) (hmb : m < b) (hmid : mid = (a + b) / 2)
    (hst : (mid < m ∧ st = mid + m - b ∧ r0 = mid) ∨ (m ≤ mid ∧ st = a ∧ r0 = m)) (hs1 : st ≤ s) (hs2 : s ≤ r0) (h1 : s = st ∨ lt d[mid + m - 1 - (s - 1)]! d[s - 1]! = false) (h2 : s = r0 ∨ lt d[mid + m - 1 - s]! d[s]! = true) (hr : Rot s m (mid + m - s) d d') : Halves L lt a s m (mid + m - s) b d d' := by
  refine halves hr (by omega) (by omega) (by omega) (by omega) h.lo h.up h.crs (fun i j i1 i2 j1 j2 => ?_) (fun i j i1 i2 j1 j2 => ?_)
  · rcases h1 with h1 | h1
    · omega
    · rw [show mid + m - 1 - (s - 1) = mid + m - s by omega] at h1
      have h3 := (h.crs (s - 1) (mid + m - s) (by omega) (by omega) (by omega) (by omega)).2 h1
      have h4 : L d[i]! d[mid + m - s]! = true := by
        by_cases e : i = s - 1
        · rw [e]; exact h3
        · exact T.tr _ _ _ (h.lo i (s - 1) i1 (by omega) (by omega)) h3
      by_cases e : j = mid + m - s
      · rw [e]; exact h4
      · exact T.tr _ _ _ h4 (h.up (mid + m - s) j (by omega) (by omega) j2)
  · rcases h2 with h2 | h2
    · omega
    · have h3 := (h.crs s (mid + m - 1 - s) (by omega) (by omega) (by omega) (by omega)).1 h2
      have h4 : L d[mid + m - 1 - s]! d[i]! = true := by
        by_cases e : i = s
        · rw [e]; exact h3
        · exact T.tr _ _ _ h3 (h.lo s i (by omega) (by omega) i2)
      by_cases e : j = mid + m - 1 - s
      · rw [e]; exact h4
      · exact T.tr _ _ _ (h.up j (mid + m - 1 - s) (by omega) (by omega) (by omega)) h4
theorem Halves.low {a s m e b : Nat} {d d' : Array α} (h : Halves L lt a s m e b d d') : Rdy L lt a s (s + (e - m)) d' := ⟨h.lo1, h.lo2, h.loC⟩
theorem Halves.high {a s m e b : Nat} {d d' : Array α} (h : Halves L lt a s m e b d d') : Rdy L lt (s + (e - m)) e b d' := ⟨h.up1, h.up2, h.upC⟩
/-- Behind the merging of the lower part the upper one is as it was. -/
theorem Rdy.kept {a m b F : Nat} {d d' : Array α} (h : Rdy L lt F m b d) (hF : F ≤ m) (hp : PermIn a F d d') : Rdy L lt F m b d' := by
  have e : ∀ p, F ≤ p → d'[p]! = d[p]! := fun p hp2 => hp.2.1 p (.inr hp2)
  refine ⟨fun i j i1 ij j2 => ?_, fun i j i1 ij j2 => ?_, fun i j i1 i2 j1 j2 => ?_⟩
  · rw [e i i1, e j (by omega)]; exact h.lo i j i1 ij j2
  · rw [e i (by omega), e j (by omega)]; exact h.up i j i1 ij j2
  · rw [e i i1, e j (by omega)]; exact h.crs i j i1 i2 j1 j2
/-- Both parts merged: the whole. -/
theorem Halves.done {a s m e b mid : Nat} {d d1 d2 d3 : Array α} (h : Halves L lt a s m e b d d1) (hF : s + (e - m) = mid) (ham : a ≤ mid) (hmb : mid ≤ b) (hb : b ≤ d.size) (p0 : PermIn a b d d1) (p1 : PermIn a mid d1 d2) (s1 : Asc L a mid d2) (p2 : PermIn mid b d2 d3) (s2 : Asc L mid b d3) : PermIn a b d d3 ∧ Asc L a b d3 := by
  have z1 : d1.size = d.size := p0.1
  have z2 : d2.size = d.size := by rw [p1.1, z1]
  subst hF
  exact ⟨permIn_trans _ _ _ _ _ p0 (permIn_trans _ _ _ _ _ (permIn_mono _ _ _ _ a b (Nat.le_refl _) hmb (by omega) p1) (permIn_mono _ _ _ _ a b ham (Nat.le_refl _) (by omega) p2)), asc_halves (by omega) h.apart p1 s1 p2 s2⟩
end Go.Proofs.Yteimgebfbnmdcaa
