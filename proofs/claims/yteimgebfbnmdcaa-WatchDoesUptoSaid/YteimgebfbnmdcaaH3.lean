/- The stable sort: where the bounds stand while the parts are merged. -/
import Derived.Test.YteimgebfbnmdcaaH2
namespace Go.Proofs.Yteimgebfbnmdcaa
open Go.Sort
variable {α : Type} [Inhabited α] {lt L : α → α → Bool}

/-- Bounds at each s-th place. -/
def Bs (s n c : Nat) : Prop := s ∣ c ∨ n ≤ c
/-- Bounds at each 20th place, and at each place from A on. -/
def Bi (A n c : Nat) : Prop := 20 ∣ c ∨ A ≤ c ∨ n ≤ c
/-- Bounds at each 2s-th place, and at each s-th from A on. -/
def Bm (s A n c : Nat) : Prop := 2 * s ∣ c ∨ (s ∣ c ∧ A ≤ c) ∨ n ≤ c
theorem dvd_next {s A c : Nat} (hA : s ∣ A) (hc : s ∣ c) (h : A < c) : A + s ≤ c := by
  obtain ⟨x, rfl⟩ := hA
  obtain ⟨y, rfl⟩ := hc
  have h1 : x < y := Nat.lt_of_mul_lt_mul_left h
  have h2 := Nat.mul_le_mul_left s (show x + 1 ≤ y from h1)
  rw [Nat.mul_add, Nat.mul_one] at h2
  exact h2
theorem Seg.weak {n : Nat} {B B' : Nat → Prop} {d : Array α} (h : Seg L lt n B d) (h1 : ∀ c, B' c → B c) (h2 : ∀ c, c < n → B c → B' c) : Seg L lt n B' d :=
  ⟨fun c hc => h.crs c (h1 c hc), fun i j hij hjn hno => h.asc i j hij hjn (fun c hc hh => hno c (h2 c (by omega) hc) hh)⟩
theorem Seg.ins {n A b : Nat} {d : Array α} (h : Seg L lt n (Bi A n) d) (hb : b ≤ n) : ∀ p q, A ≤ p → p < q → q < b → Crs lt L d[p]! d[q]! := fun p q h1 h2 h3 => h.crs q (.inr (.inl (by omega))) p q h2 (Nat.le_refl _) (by omega)
theorem Seg.ins_next {n A b : Nat} {d d' : Array α} (h : Seg L lt n (Bi A n) d) (hn : n ≤ d.size) (hA : 20 ∣ A) (hb : b ≤ n) (hbA : b ≤ A + 20) (hbe : b = A + 20 ∨ b = n) (hp : PermIn A b d d') (hs : Asc L A b d') : Seg L lt n (Bi (A + 20) n) d' := by
  refine h.fuse hn hb (.inr (.inl hA)) ?_ hp hs (fun c hc => ?_) (fun c hcn hc => ?_)
  · rcases hbe with e | e
    · exact .inr (.inr (.inl (by omega)))
    · exact .inl e
  · rcases hc with hc | hc | hc
    · refine ⟨.inl hc, ?_⟩
      by_cases h1 : c ≤ A
      · exact .inl h1
      · have := dvd_next hA hc (by omega)
        exact .inr (by omega)
    · exact ⟨.inr (.inl (by omega)), .inr (by omega)⟩
    · exact ⟨.inr (.inr hc), .inr (by omega)⟩
  · rcases hc with hc | hc | hc
    · exact .inl (.inl hc)
    · by_cases h1 : c = A
      · rw [h1]; exact .inl (.inl hA)
      · by_cases h2 : c < b
        · exact .inr ⟨by omega, h2⟩
        · rcases hbe with e | e
          · exact .inl (.inr (.inl (by omega)))
          · exact .inl (.inr (.inr (by omega)))
    · exact .inl (.inr (.inr hc))
/-- Behind the insertion sorts. -/
theorem Seg.blocks {n A : Nat} {d : Array α} (h : Seg L lt n (Bi A n) d) (hA : n ≤ A) : Seg L lt n (Bs 20 n) d :=
  h.weak (fun c hc => by rcases hc with hc | hc; exact .inl hc; exact .inr (.inr hc)) (fun c hcn hc => by rcases hc with hc | hc | hc; exact .inl hc; omega; omega)
theorem Seg.round {n s : Nat} {d : Array α} (h : Seg L lt n (Bs s n) d) : Seg L lt n (Bm s 0 n) d :=
  h.weak (fun c hc => by rcases hc with hc | hc | hc; exact .inl (Nat.dvd_trans ⟨2, by omega⟩ hc); exact .inl hc.1; exact .inr hc) (fun c _ hc => by rcases hc with hc | hc; exact .inr (.inl ⟨hc, Nat.zero_le _⟩); exact .inr (.inr hc))
theorem Seg.rdy {n s A b : Nat} {d : Array α} (h : Seg L lt n (Bm s A n) d) (hs : 0 < s) (hA : 2 * s ∣ A) (hb : b ≤ n) (hbA : b ≤ A + 2 * s) (hm : A + s < b) : Rdy L lt A (A + s) b d := by
  have hsA : s ∣ A := Nat.dvd_trans ⟨2, by omega⟩ hA
  have hno : ∀ c, Bm s A n c → c ≤ A ∨ c = A + s ∨ b ≤ c := fun c hc => by
    by_cases h1 : c ≤ A
    · exact .inl h1
    · have hd : s ∣ c ∨ n ≤ c := by
        rcases hc with hc | hc | hc
        · exact .inl (Nat.dvd_trans ⟨2, by omega⟩ hc)
        · exact .inl hc.1
        · exact .inr hc
      rcases hd with hd | hd
      · have h2 := dvd_next hsA hd (by omega)
        by_cases h3 : c = A + s
        · exact .inr (.inl h3)
        · have := dvd_next (Nat.dvd_add hsA (Nat.dvd_refl s)) hd (by omega)
          exact .inr (.inr (by omega))
      · exact .inr (.inr (by omega))
  refine ⟨h.part (by omega) (fun c hc => ?_), h.part hb (fun c hc => ?_), fun i j i1 i2 j1 j2 => h.crs (A + s) (.inr (.inl ⟨Nat.dvd_add hsA (Nat.dvd_refl s), by omega⟩)) i j i2 j1 (by omega)⟩
  · rcases hno c hc with h1 | h1 | h1
    · exact .inl h1
    · exact .inr (by omega)
    · exact .inr (by omega)
  · rcases hno c hc with h1 | h1 | h1
    · exact .inl (by omega)
    · exact .inl (by omega)
    · exact .inr h1
theorem Seg.merge_next {n s A b : Nat} {d d' : Array α} (h : Seg L lt n (Bm s A n) d) (hn : n ≤ d.size) (hs : 0 < s) (hA : 2 * s ∣ A) (hb : b ≤ n) (hbA : b ≤ A + 2 * s) (hbe : b = A + 2 * s ∨ b = n) (hp : PermIn A b d d') (ho : Asc L A b d') : Seg L lt n (Bm s (A + 2 * s) n) d' := by
  refine h.fuse hn hb (.inr (.inl hA)) ?_ hp ho (fun c hc => ?_) (fun c hcn hc => ?_)
  · rcases hbe with e | e
    · exact .inr (.inl (by rw [e]; exact Nat.dvd_add hA (Nat.dvd_refl _)))
    · exact .inl e
  · rcases hc with hc | hc | hc
    · refine ⟨.inl hc, ?_⟩
      by_cases h1 : c ≤ A
      · exact .inl h1
      · have := dvd_next hA hc (by omega)
        exact .inr (by omega)
    · exact ⟨.inr (.inl ⟨hc.1, by omega⟩), .inr (by omega)⟩
    · exact ⟨.inr (.inr hc), .inr (by omega)⟩
  · rcases hc with hc | hc | hc
    · exact .inl (.inl hc)
    · by_cases h1 : c = A
      · rw [h1]; exact .inl (.inl hA)
      · by_cases h2 : c < b
        · exact .inr ⟨by omega, h2⟩
        · rcases hbe with e | e
          · exact .inl (.inr (.inl ⟨hc.1, by omega⟩))
          · exact .inl (.inr (.inr (by omega)))
    · exact .inl (.inr (.inr hc))
/-- The rest of a round that is no longer than one part is as it was. -/
theorem Seg.over {n s A : Nat} {d : Array α} (h : Seg L lt n (Bm s A n) d) (hA : 2 * s ∣ A) (hn : n ≤ A + s) : Seg L lt n (Bs (2 * s) n) d := by
  have hsA : s ∣ A := Nat.dvd_trans ⟨2, by omega⟩ hA
  refine h.weak (fun c hc => by rcases hc with hc | hc; exact .inl hc; exact .inr (.inr hc)) (fun c hcn hc => ?_)
  rcases hc with hc | hc | hc
  · exact .inl hc
  · by_cases h1 : c = A
    · rw [h1]; exact .inl hA
    · have := dvd_next hsA hc.1 (by omega)
      omega
  · omega
theorem Seg.over2 {n s A : Nat} {d : Array α} (h : Seg L lt n (Bm s A n) d) (hA : n ≤ A) : Seg L lt n (Bs (2 * s) n) d :=
  h.weak (fun c hc => by rcases hc with hc | hc; exact .inl hc; exact .inr (.inr hc)) (fun c hcn hc => by rcases hc with hc | hc | hc; exact .inl hc; omega; omega)
theorem Seg.end_ {n s : Nat} {d : Array α} (h : Seg L lt n (Bs s n) d) (hs : n ≤ s) : Asc L 0 n d := fun i j _ hij hjn => h.asc i j hij hjn (fun c hc hh => by
  rcases hc with hc | hc
  · have := Nat.le_of_dvd (by omega) hc
    omega
  · omega)
end Go.Proofs.Yteimgebfbnmdcaa
