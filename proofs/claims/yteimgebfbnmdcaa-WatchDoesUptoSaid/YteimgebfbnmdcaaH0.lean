/- The stable sort: plain facts on rows: exchanged ranges, rotations, and what merging comes to. -/
import Derived.Sort.LotA
namespace Go.Proofs.Yteimgebfbnmdcaa
open Go.Sort
variable {α : Type} [Inhabited α]

/-- Two ranges of n are exchanged. -/
def Swr (a b n : Nat) (d d' : Array α) : Prop := d'.size = d.size ∧ ∀ p, d'[p]! = if a ≤ p ∧ p < a + n then d[b + (p - a)]! else if b ≤ p ∧ p < b + n then d[a + (p - b)]! else d[p]!
theorem Swr.start (a b : Nat) (d : Array α) : Swr a b 0 d d := by
  refine ⟨rfl, fun p => ?_⟩
  rw [if_neg (by omega), if_neg (by omega)]
theorem Swr.next {a b n : Nat} {d d' : Array α} (h : Swr a b n d d') (hab : a + n < b) (hb : b + n < d.size) : Swr a b (n + 1) d (swp d' (a + n) (b + n)) := by
  have g := swp_get d' (i := a + n) (j := b + n) (by rw [h.1]; omega) (by rw [h.1]; omega)
  refine ⟨by rw [swp_size]; exact h.1, fun p => ?_⟩
  rw [g]
  simp only [h.2]
  repeat' split
  all_goals first | rfl | (exfalso; omega) | (congr 1; omega)
/-- The parts [a, m) and [m, b) change places. -/
def Rot (a m b : Nat) (d d' : Array α) : Prop := d'.size = d.size ∧ ∀ p, d'[p]! = if a ≤ p ∧ p < a + (b - m) then d[p + (m - a)]! else if a + (b - m) ≤ p ∧ p < b then d[p - (b - m)]! else d[p]!
theorem Rot.idle_left {m b : Nat} (hmb : m ≤ b) (d : Array α) : Rot m m b d d := by
  refine ⟨rfl, fun p => ?_⟩
  repeat' split
  all_goals first | rfl | (exfalso; omega) | (congr 1; omega)
theorem Rot.idle_right {a m : Nat} (d : Array α) : Rot a m m d d := by
  refine ⟨rfl, fun p => ?_⟩
  repeat' split
  all_goals first | rfl | (exfalso; omega) | (congr 1; omega)
/-- i > j: the first j of the left part against the right part. -/
theorem Rot.left {m i j : Nat} {d d' d'' : Array α} (him : i ≤ m) (hj : j ≤ i) (h1 : Swr (m - i) m j d d') (h2 : Rot (m - (i - j)) m (m + j) d' d'') : Rot (m - i) m (m + j) d d'' := by
  refine ⟨h2.1.trans h1.1, fun p => ?_⟩
  rw [h2.2]
  simp only [h1.2]
  repeat' split
  all_goals first | rfl | (exfalso; omega) | (congr 1; omega)
/-- i < j: the left part against the last i of the right part. -/
theorem Rot.right {m i j : Nat} {d d' d'' : Array α} (him : i ≤ m) (hj : i ≤ j) (h1 : Swr (m - i) (m + j - i) i d d') (h2 : Rot (m - i) m (m + (j - i)) d' d'') : Rot (m - i) m (m + j) d d'' := by
  refine ⟨h2.1.trans h1.1, fun p => ?_⟩
  rw [h2.2]
  simp only [h1.2]
  repeat' split
  all_goals first | rfl | (exfalso; omega) | (congr 1; omega)
/-- i = j. -/
theorem Rot.last {m i : Nat} {d d' : Array α} (him : i ≤ m) (h1 : Swr (m - i) m i d d') : Rot (m - i) m (m + i) d d' := by
  refine ⟨h1.1, fun p => ?_⟩
  rw [h1.2]
  repeat' split
  all_goals first | rfl | (exfalso; omega) | (congr 1; omega)
/-- One element to the right, place by place. -/
theorem Rot.up {a k : Nat} {d d' : Array α} (h : Rot a (a + 1) k d d') (hak : a + 1 ≤ k) (hk : k < d.size) : Rot a (a + 1) (k + 1) d (swp d' (k - 1) k) := by
  have g := swp_get d' (i := k - 1) (j := k) (by rw [h.1]; omega) (by rw [h.1]; omega)
  refine ⟨by rw [swp_size]; exact h.1, fun p => ?_⟩
  rw [g]
  simp only [h.2]
  repeat' split
  all_goals first | rfl | (exfalso; omega) | (congr 1; omega)
/-- One element to the left, place by place. -/
theorem Rot.down {k m : Nat} {d d' : Array α} (h : Rot (k + 1) m (m + 1) d d') (hk : k < m) (hm : m < d.size) : Rot k m (m + 1) d (swp d' (k + 1) k) := by
  have g := swp_get d' (i := k + 1) (j := k) (by rw [h.1]; omega) (by rw [h.1]; omega)
  refine ⟨by rw [swp_size]; exact h.1, fun p => ?_⟩
  rw [g]
  simp only [h.2]
  repeat' split
  all_goals first | rfl | (exfalso; omega) | (congr 1; omega)
section
variable (lt L : α → α → Bool)
/-- An earlier element beside a later one: the program's order tells the true one. -/
def Crs (x y : α) : Prop := (lt y x = true → L y x = true) ∧ (lt y x = false → L x y = true)
/-- In the true order. -/
def Asc (a b : Nat) (d : Array α) : Prop := ∀ i j, a ≤ i → i < j → j < b → L d[i]! d[j]! = true
end
variable {lt L : α → α → Bool}
theorem Asc.sub {a b a' b' : Nat} {d : Array α} (h : Asc L a b d) (ha : a ≤ a') (hb : b' ≤ b) : Asc L a' b' d := fun i j h1 h2 h3 => h i j (by omega) h2 (by omega)
theorem Asc.same {a b : Nat} {d d' : Array α} (h : Asc L a b d) (he : ∀ p, a ≤ p → p < b → d'[p]! = d[p]!) : Asc L a b d' := fun i j h1 h2 h3 => by rw [he i h1 (by omega), he j (by omega) h3]; exact h i j h1 h2 h3
/-- Behind the rotation of [s, m) and [m, e): the lower part and the upper part. -/
structure Halves (L : α → α → Bool) (lt : α → α → Bool) (a s m e b : Nat) (d d' : Array α) : Prop where
  apart : ∀ i j, a ≤ i → i < s + (e - m) → s + (e - m) ≤ j → j < b → L d'[i]! d'[j]! = true
  lo1 : Asc L a s d'
  lo2 : Asc L s (s + (e - m)) d'
  up1 : Asc L (s + (e - m)) e d'
  up2 : Asc L e b d'
  loC : ∀ i j, a ≤ i → i < s → s ≤ j → j < s + (e - m) → Crs lt L d'[i]! d'[j]!
  upC : ∀ i j, s + (e - m) ≤ i → i < e → e ≤ j → j < b → Crs lt L d'[i]! d'[j]!
theorem halves {a s m e b : Nat} {d d' : Array α} (hr : Rot s m e d d') (h1 : a ≤ s) (h2 : s ≤ m) (h3 : m ≤ e) (h4 : e ≤ b) (hl : Asc L a m d) (hu : Asc L m b d) (hc : ∀ i j, a ≤ i → i < m → m ≤ j → j < b → Crs lt L d[i]! d[j]!)
    (hA : ∀ i j, a ≤ i → i < s → e ≤ j → j < b → L d[i]! d[j]! = true) (hB : ∀ i j, s ≤ i → i < m → m ≤ j → j < e → L d[j]! d[i]! = true) : Halves L lt a s m e b d d' := by
  have q1 : ∀ p, a ≤ p → p < s → d'[p]! = d[p]! := fun p _ hp => by rw [hr.2, if_neg (by omega), if_neg (by omega)]
  have q2 : ∀ p, s ≤ p → p < s + (e - m) → d'[p]! = d[p + (m - s)]! := fun p hp1 hp2 => by rw [hr.2, if_pos ⟨hp1, hp2⟩]
  have q3 : ∀ p, s + (e - m) ≤ p → p < e → d'[p]! = d[p - (e - m)]! := fun p hp1 hp2 => by rw [hr.2, if_neg (by omega), if_pos ⟨hp1, hp2⟩]
  have q4 : ∀ p, e ≤ p → p < b → d'[p]! = d[p]! := fun p hp1 hp2 => by rw [hr.2, if_neg (by omega), if_neg (by omega)]
  refine ⟨fun i j i1 i2 j1 j2 => ?_, fun i j i1 ij j2 => ?_, fun i j i1 ij j2 => ?_, fun i j i1 ij j2 => ?_, fun i j i1 ij j2 => ?_, fun i j i1 i2 j1 j2 => ?_, fun i j i1 i2 j1 j2 => ?_⟩
  · by_cases ci : i < s
    · rw [q1 i i1 ci]
      by_cases cj : j < e
      · rw [q3 j j1 cj]
        exact hl _ _ i1 (by omega) (by omega)
      · rw [q4 j (by omega) j2]
        exact hA _ _ i1 ci (by omega) j2
    · rw [q2 i (by omega) i2]
      by_cases cj : j < e
      · rw [q3 j j1 cj]
        exact hB _ _ (by omega) (by omega) (by omega) (by omega)
      · rw [q4 j (by omega) j2]
        exact hu _ _ (by omega) (by omega) j2
  · rw [q1 i i1 (by omega), q1 j (by omega) j2]
    exact hl _ _ i1 ij (by omega)
  · rw [q2 i i1 (by omega), q2 j (by omega) j2]
    exact hu _ _ (by omega) (by omega) (by omega)
  · rw [q3 i i1 (by omega), q3 j (by omega) j2]
    exact hl _ _ (by omega) (by omega) (by omega)
  · rw [q4 i i1 (by omega), q4 j (by omega) j2]
    exact hu _ _ (by omega) ij j2
  · rw [q1 i i1 i2, q2 j j1 j2]
    exact hc _ _ i1 (by omega) (by omega) (by omega)
  · rw [q3 i i1 i2, q4 j j1 j2]
    exact hc _ _ (by omega) (by omega) (by omega) j2
/-- Both parts merged. -/
theorem asc_halves {a F b : Nat} {d1 d2 d3 : Array α} (hb : b ≤ d1.size) (hap : ∀ i j, a ≤ i → i < F → F ≤ j → j < b → L d1[i]! d1[j]! = true) (p1 : PermIn a F d1 d2) (s1 : Asc L a F d2) (p2 : PermIn F b d2 d3) (s2 : Asc L F b d3) : Asc L a b d3 := by
  intro i j i1 ij j2
  have hs2 : b ≤ d2.size := by rw [p1.1]; exact hb
  by_cases ci : i < F
  · rw [p2.2.1 i (.inl ci)]
    by_cases cj : j < F
    · rw [p2.2.1 j (.inl cj)]
      exact s1 i j i1 ij cj
    · have h1 : ∀ x y, F ≤ y → y < b → a ≤ x → x < F → L d2[x]! d1[y]! = true := fun x y y1 y2 x1 x2 => permIn_all d1 d2 a F (fun z => L z d1[y]! = true) (by omega) p1 (fun k k1 k2 => hap k y k1 k2 y1 y2) x x1 x2
      refine permIn_all d2 d3 F b (fun z => L d2[i]! z = true) hs2 p2 (fun k k1 k2 => ?_) j (by omega) j2
      rw [p1.2.1 k (.inr k1)]
      exact h1 i k k1 k2 i1 ci
  · exact s2 i j (by omega) ij j2
/-- Behind each bound that stands the later elements. -/
structure Seg (L lt : α → α → Bool) (n : Nat) (B : Nat → Prop) (d : Array α) : Prop where
  crs : ∀ c, B c → ∀ i j, i < c → c ≤ j → j < n → Crs lt L d[i]! d[j]!
  asc : ∀ i j, i < j → j < n → (∀ c, B c → ¬ (i < c ∧ c ≤ j)) → L d[i]! d[j]! = true
theorem Seg.part {n : Nat} {B : Nat → Prop} {d : Array α} (h : Seg L lt n B d) {a b : Nat} (hb : b ≤ n) (hB : ∀ c, B c → c ≤ a ∨ b ≤ c) : Asc L a b d := fun i j i1 ij j2 => h.asc i j ij (by omega) (fun c hc hh => by have := hB c hc; omega)
theorem crs_perm {n a b c : Nat} {d d' : Array α} (hn : n ≤ d.size) (hb : b ≤ n) (hp : PermIn a b d d') (h : ∀ i j, i < c → c ≤ j → j < n → Crs lt L d[i]! d[j]!) (hc : c ≤ a ∨ b ≤ c) : ∀ i j, i < c → c ≤ j → j < n → Crs lt L d'[i]! d'[j]! := by
  intro i j hi hj hjn
  rcases hc with hc | hc
  · rw [hp.2.1 i (.inl (by omega))]
    by_cases cj : a ≤ j ∧ j < b
    · exact permIn_all d d' a b (fun z => Crs lt L d[i]! z) (by omega) hp (fun k k1 k2 => h i k hi (by omega) (by omega)) j cj.1 cj.2
    · rw [hp.2.1 j (by omega)]
      exact h i j hi hj hjn
  · rw [hp.2.1 j (.inr (by omega))]
    by_cases ci : a ≤ i ∧ i < b
    · exact permIn_all d d' a b (fun z => Crs lt L z d[j]!) (by omega) hp (fun k k1 k2 => h k j (by omega) hj hjn) i ci.1 ci.2
    · rw [hp.2.1 i (by omega)]
      exact h i j hi hj hjn
theorem Seg.fuse {n a b : Nat} {B B' : Nat → Prop} {d d' : Array α} (h : Seg L lt n B d) (hn : n ≤ d.size) (hb : b ≤ n) (ha : a = 0 ∨ B' a) (hbn : b = n ∨ B' b) (hp : PermIn a b d d') (hs : Asc L a b d') (hB : ∀ c, B' c → B c ∧ (c ≤ a ∨ b ≤ c)) (hB2 : ∀ c, c ≤ n → B c → B' c ∨ (a < c ∧ c < b)) : Seg L lt n B' d' := by
  refine ⟨fun c hc => crs_perm hn hb hp (h.crs c (hB c hc).1) (hB c hc).2, fun i j ij jn hno => ?_⟩
  by_cases ci : a ≤ i ∧ i < b
  · by_cases cj : j < b
    · exact hs i j ci.1 ij cj
    · rcases hbn with hbn | hbn
      · omega
      · exact absurd ⟨ci.2, by omega⟩ (hno b hbn)
  · by_cases cj : a ≤ j ∧ j < b
    · rcases ha with ha | ha
      · omega
      · exact absurd ⟨by omega, cj.1⟩ (hno a ha)
    · rw [hp.2.1 i (by omega), hp.2.1 j (by omega)]
      refine h.asc i j ij jn (fun c hc hh => ?_)
      rcases hB2 c (by omega) hc with h1 | h1
      · exact hno c h1 hh
      · rcases ha with ha | ha
        · omega
        · exact hno a ha (by omega)

/-! ### The insertion sort, in the true order -/
structure InsL (L lt : α → α → Bool) (a j i : Nat) (d : Array α) : Prop where
  rest : ∀ p q, a ≤ p → p < q → q ≤ i → p ≠ j → q ≠ j → L d[p]! d[q]! = true
  right : ∀ q, j < q → q ≤ i → L d[j]! d[q]! = true
  crs : ∀ p, a ≤ p → p < j → Crs lt L d[p]! d[j]!
theorem insInnerL (tr : ∀ x y z, L x y = true → L y z = true → L x z = true) (a b i : Nat) (hib : i < b) :
    ∀ (j : Nat) (d : Array α), a ≤ j → j ≤ i → b ≤ d.size → InsL L lt a j i d → PermIn a b d (insInner lt a j d) ∧ Asc L a (i + 1) (insInner lt a j d)
  | 0, d, ha, _, _, hI => by
    unfold insInner
    refine ⟨permIn_refl d a b, fun p q hap hpq hqi => ?_⟩
    by_cases hp : p = 0
    · subst hp; exact hI.right q hpq (by omega)
    · exact hI.rest p q hap hpq (by omega) hp (by omega)
  | j + 1, d, haj, hji, hb, hI => by
    have g := swp_get d (i := j + 1) (j := j) (by omega) (by omega)
    unfold insInner
    split
    · rename_i hc
      simp only [Bool.and_eq_true, decide_eq_true_eq] at hc
      have hL := (hI.crs j (by omega) (by omega)).1 hc.2
      have ih := insInnerL tr a b i hib j (swp d (j + 1) j) (by omega) (by omega) (by rw [swp_size]; exact hb) ⟨fun p q hap hpq hqi hp hq => by
          rw [g, g, if_neg hp, if_neg hq]
          by_cases hq1 : q = j + 1
          · subst hq1
            rw [if_pos rfl, if_neg (by omega)]
            exact hI.rest p j hap (by omega) (by omega) (by omega) (by omega)
          · rw [if_neg hq1]
            by_cases hp1 : p = j + 1
            · subst hp1
              rw [if_pos rfl]
              exact hI.rest j q (by omega) (by omega) hqi (by omega) hq1
            · rw [if_neg hp1]
              exact hI.rest p q hap hpq hqi hp1 hq1, fun q hq1 hq2 => by
          rw [g, g, if_pos rfl, if_neg (by omega)]
          by_cases hq : q = j + 1
          · subst hq
            rw [if_pos rfl]; exact hL
          · rw [if_neg hq]; exact hI.right q (by omega) hq2, fun p hp1 hp2 => by
          rw [g, g, if_pos rfl, if_neg (by omega), if_neg (by omega)]
          exact hI.crs p hp1 (by omega)⟩
      exact ⟨permIn_trans _ _ _ a b (swp_permIn d a b (j + 1) j haj (by omega) (by omega) (by omega) hb) ih.1, ih.2⟩
    · rename_i hc
      simp only [Bool.and_eq_true, decide_eq_true_eq, not_and, Bool.not_eq_true] at hc
      refine ⟨permIn_refl d a b, fun p q hap hpq hqi => ?_⟩
      by_cases hp : p = j + 1
      · subst hp; exact hI.right q hpq (by omega)
      · by_cases hq : q = j + 1
        · subst hq
          have hL := (hI.crs j (by omega) (by omega)).2 (hc (by omega))
          by_cases hpj : p = j
          · subst hpj; exact hL
          · exact tr _ _ _ (hI.rest p j hap (by omega) (by omega) hp (by omega)) hL
        · exact hI.rest p q hap hpq (by omega) hp hq
theorem insOuterL (tr : ∀ x y z, L x y = true → L y z = true → L x z = true) (a b : Nat) :
    ∀ (n i : Nat) (d : Array α), b - i = n → a < i → i ≤ b → b ≤ d.size → Asc L a i d → (∀ p q, a ≤ p → p < q → i ≤ q → q < b → Crs lt L d[p]! d[q]!) → PermIn a b d (insOuter lt a b i d) ∧ Asc L a b (insOuter lt a b i d)
  | 0, i, d, hn, _, hib, _, hs, _ => by
    obtain rfl : i = b := by omega
    rw [insOuter, if_neg (by omega)]
    exact ⟨permIn_refl d a i, hs⟩
  | n + 1, i, d, hn, hai, hib, hb, hs, hc => by
    have hlt : i < b := by omega
    rw [insOuter, if_pos hlt]
    have h1 := insInnerL (lt := lt) tr a b i hlt i d (by omega) (Nat.le_refl _) hb ⟨fun p q hap hpq hqi _ hq => hs p q hap hpq (by omega), fun q h1 h2 => by omega, fun p hp1 hp2 => hc p i hp1 hp2 (Nat.le_refl _) hlt⟩
    have h1' := insInnerL (lt := lt) tr a (i + 1) i (by omega) i d (by omega) (Nat.le_refl _) (by omega) ⟨fun p q hap hpq hqi _ hq => hs p q hap hpq (by omega), fun q h1 h2 => by omega, fun p hp1 hp2 => hc p i hp1 hp2 (Nat.le_refl _) hlt⟩
    have h2 := insOuterL tr a b n (i + 1) (insInner lt a i d) (by omega) (by omega) (by omega) (by rw [h1.1.1]; exact hb) h1.2 (fun p q p1 pq q1 q2 => by
      rw [h1'.1.2.1 q (.inr q1)]
      by_cases cp : p < i + 1
      · exact permIn_all d _ a (i + 1) (fun z => Crs lt L z d[q]!) (by omega) h1'.1 (fun k k1 k2 => hc k q k1 (by omega) (by omega) q2) p p1 cp
      · rw [h1'.1.2.1 p (.inr (by omega))]
        exact hc p q p1 pq (by omega) q2)
    exact ⟨permIn_trans _ _ _ a b h1.1 h2.1, h2.2⟩
theorem insertionL (tr : ∀ x y z, L x y = true → L y z = true → L x z = true) (a b : Nat) (d : Array α) (hab : a ≤ b) (hb : b ≤ d.size) (hc : ∀ p q, a ≤ p → p < q → q < b → Crs lt L d[p]! d[q]!) : PermIn a b d (insertionSort lt d a b) ∧ Asc L a b (insertionSort lt d a b) := by
  unfold insertionSort
  by_cases h : a = b
  · subst h
    rw [insOuter, if_neg (by omega)]
    exact ⟨permIn_refl d a a, fun i j h1 h2 h3 => by omega⟩
  · exact insOuterL tr a b (b - (a + 1)) (a + 1) d rfl (by omega) (by omega) hb (fun i j h1 h2 h3 => by omega) (fun p q p1 pq _ q2 => hc p q p1 pq q2)
end Go.Proofs.Yteimgebfbnmdcaa
