/- Rows of elements of k cells each, whatever they are. -/
import Derived.Test.YteimgebfbnmdcaaTB
namespace Go.Proofs.Yteimgebfbnmdcaa
open Go.RowKit

theorem fm_len {α : Type} {f : α → List Value} {k : Nat} (hf : ∀ x, (f x).length = k) (l : List α) : (l.flatMap f).length = l.length * k := by
  induction l with
  | nil => simp
  | cons x l ih => rw [List.flatMap_cons, List.length_append, ih, hf, List.length_cons, Nat.succ_mul]; omega
theorem fm_take {α : Type} {f : α → List Value} {k : Nat} (hf : ∀ x, (f x).length = k) (l : List α) : ∀ m : Nat, (l.flatMap f).take (m * k) = (l.take m).flatMap f := by
  induction l with
  | nil => intro m; simp
  | cons x l ih =>
    intro m
    cases m with
    | zero => simp
    | succ m =>
      rw [List.flatMap_cons, List.take_succ_cons, List.flatMap_cons, List.take_append, hf, List.take_of_length_le (by rw [hf, Nat.succ_mul]; omega), ← ih m]
      congr 2
      rw [Nat.succ_mul]; omega
theorem fm_drop {α : Type} {f : α → List Value} {k : Nat} (hf : ∀ x, (f x).length = k) (l : List α) : ∀ m : Nat, (l.flatMap f).drop (m * k) = (l.drop m).flatMap f := by
  induction l with
  | nil => intro m; simp
  | cons x l ih =>
    intro m
    cases m with
    | zero => simp
    | succ m =>
      rw [List.flatMap_cons, List.drop_succ_cons, List.drop_append, hf, List.drop_eq_nil_of_le (by rw [hf, Nat.succ_mul]; omega), List.nil_append, ← ih m]
      congr 1
      rw [Nat.succ_mul]; omega
theorem fm_at {α : Type} {f : α → List Value} {k : Nat} (hf : ∀ x, (f x).length = k) {l : List α} {i j : Nat} {x : α} (h : l[i]? = some x) (hj : j < k) : (l.flatMap f)[i * k + j]? = (f x)[j]? := by
  induction l generalizing i with
  | nil => simp at h
  | cons y l ih =>
    rw [List.flatMap_cons]
    cases i with
    | zero =>
      simp at h
      subst h
      rw [List.getElem?_append_left (by rw [hf]; omega), Nat.zero_mul, Nat.zero_add]
    | succ i =>
      have h2 : l[i]? = some x := by simpa using h
      rw [List.getElem?_append_right (by rw [hf, Nat.succ_mul]; omega), ← ih h2, hf]
      congr 1
      rw [Nat.succ_mul]; omega
theorem fm_one {α : Type} {f : α → List Value} (h1 : ∀ x, ∀ u ∈ f x, u.oneCell' = true) (l : List α) : ∀ u ∈ l.flatMap f, u.oneCell' = true := by
  intro u hu
  obtain ⟨p, _, hp⟩ := List.mem_flatMap.1 hu
  exact h1 p u hp
/-- These cells lie at an address, k for each of n elements. -/
structure Lies (w : World) (T : TypeId) (k B : Nat) (a : Option Addr) (n c : Nat) (cs : List Value) : Prop where
  len : cs.length = n * k
  nil : a = none → n = 0 ∧ c = 0
  room : n ≤ c
  big : c ≤ maxLen
  at_ : 0 < n → ∀ ad, a = some ad → ad.spot = none ∧ ad.block < w.heap.size ∧ B ≤ ad.block ∧ ∀ (j : Nat) u, cs[j]? = some u → w.cell? (ad.add j) = some u
section
variable {w w' : World} {T : TypeId} {k B B' n c : Nat} {a : Option Addr} {cs : List Value}
theorem Lies.keep (h : Lies w T k B a n c cs) (hs : w.heap.size ≤ w'.heap.size) (hk : 0 < n → ∀ ad, a = some ad → w'.heap[ad.block]? = w.heap[ad.block]?) : Lies w' T k B a n c cs := by
  refine ⟨h.len, h.nil, h.room, h.big, fun hn ad ha => ?_⟩
  obtain ⟨h1, h2, h3, h5⟩ := h.at_ hn ad ha
  have hb := hk hn ad ha
  refine ⟨h1, Nat.lt_of_lt_of_le h2 hs, h3, fun j u hu => ?_⟩
  have := h5 j u hu
  obtain ⟨b, off, spot⟩ := ad
  simp only at h1 hb
  subst h1
  rw [add_plain] at this ⊢
  simp only [World.cell?, hb] at this ⊢
  exact this
theorem Lies.below (h : Lies w T k B a n c cs) (hb : Below w.heap.size w w') : Lies w' T k B a n c cs := h.keep hb.size (fun hn ad ha => hb.block _ (h.at_ hn ad ha).2.1)
theorem Lies.none (w : World) (T : TypeId) (k B : Nat) : Lies w T k B .none 0 0 [] := ⟨by simp, fun _ => ⟨rfl, rfl⟩, Nat.le_refl _, by simp [maxLen], fun _ ad h => by cases h⟩
theorem Lies.mono (h : Lies w T k B a n c cs) (hb : B' ≤ B) : Lies w T k B' a n c cs := ⟨h.len, h.nil, h.room, h.big, fun hn ad ha => by obtain ⟨h1, h2, h3, h4⟩ := h.at_ hn ad ha; exact ⟨h1, h2, by omega, h4⟩⟩
theorem Lies.pos (h : Lies w T k B a n c cs) {j : Nat} {u : Value} (hu : cs[j]? = some u) : 0 < n := by
  have h1 := (List.getElem?_eq_some_iff.1 hu).1
  rw [h.len] at h1
  exact Nat.pos_of_ne_zero (fun e => by rw [e, Nat.zero_mul] at h1; omega)
theorem Lies.news (h : Lies w T k B a n c cs) : ∀ ad, a = some ad → ∀ (j : Nat) u, cs[j]? = some u → w.cell? (ad.add j) = some u := fun ad ha j u hu => (h.at_ (h.pos hu) ad ha).2.2.2 j u hu
theorem Lies.addr (h : Lies w T k B a n c cs) (hn : 0 < n) : ∃ b off, a = some ⟨b, off, Option.none⟩ ∧ b < w.heap.size ∧ B ≤ b := by
  cases a with
  | none => have := (h.nil rfl).1; omega
  | some ad =>
    obtain ⟨b, off, spot⟩ := ad
    obtain ⟨h1, h2, h3, _⟩ := h.at_ hn _ rfl
    simp at h1 h2 h3
    subst h1
    exact ⟨b, off, rfl, h2, h3⟩
theorem Lies.cell {b off : Nat} (h : Lies w T k B (some ⟨b, off, Option.none⟩) n c cs) {j : Nat} {u : Value} (hu : cs[j]? = some u) : w.cell? ⟨b, off + j, Option.none⟩ = some u := by
  have := (h.at_ (h.pos hu) _ rfl).2.2.2 j u hu
  rwa [add_plain] at this
theorem Lies.owned {base : Nat} {v : Value} (h : w.ownsRow base T k v n cs) : ∃ a c, v = .slice a n c ∧ Lies w T k base a n c cs := by
  have hl : cs.length = n * k := h.1
  rcases h.2 with ⟨rfl, h0⟩ | ⟨g, cap, cur, rfl, hb, hh, hnc, hcm, hsz, ht⟩
  · subst h0
    obtain rfl := List.eq_nil_of_length_eq_zero (by omega : cs.length = 0)
    exact ⟨.none, 0, rfl, Lies.none _ _ _ _⟩
  · refine ⟨_, _, rfl, hl, (by intro e; cases e), hnc, hcm, ?_⟩
    rintro _ ad ha
    injection ha with ha
    subst ha
    have hlt : g < w.heap.size := by
      rcases Nat.lt_or_ge g w.heap.size with hl | hl
      · exact hl
      · rw [Array.getElem?_eq_none hl] at hh
        cases hh
    refine ⟨rfl, hlt, hb, fun j u hu => ?_⟩
    rw [add_plain, Nat.zero_add]
    simp only [World.cell?, hh]
    rw [← ht, List.getElem?_take] at hu
    split at hu
    · simpa using hu
    · cases hu
theorem Lies.head {m : Nat} (h : Lies w T k B a n c cs) (hm : m ≤ n) : Lies w T k B a m c (cs.take (m * k)) := by
  refine ⟨by rw [List.length_take, h.len]; exact Nat.min_eq_left (Nat.mul_le_mul_right _ hm), fun ha => by have := h.nil ha; omega, by have := h.room; omega, h.big, fun hn ad ha => ?_⟩
  obtain ⟨h1, h2, h3, h5⟩ := h.at_ (by omega) ad ha
  refine ⟨h1, h2, h3, fun j u hu => h5 j u ?_⟩
  rw [List.getElem?_take] at hu
  split at hu
  · exact hu
  · cases hu
/-- Where a slice's rest begins. -/
def tailK (k : Nat) (a : Option Addr) (c m : Nat) : Option Addr := if c = m then a else a.map (·.add (m * k))
theorem Lies.tail {m : Nat} (h : Lies w T k B a n c cs) (hm : m ≤ n) : Lies w T k B (tailK k a c m) (n - m) (c - m) (cs.drop (m * k)) := by
  have hroom := h.room
  refine ⟨by rw [List.length_drop, h.len, ← Nat.sub_mul], fun ha => ?_, by omega, by have := h.big; omega, fun hn ad ha => ?_⟩
  · unfold tailK at ha
    split at ha
    · have := h.nil ha; omega
    · cases a with
      | none => have := h.nil rfl; omega
      | some ad => simp at ha
  · unfold tailK at ha
    by_cases hc : c = m
    · rw [if_pos hc] at ha
      obtain ⟨h1, h2, h3, h5⟩ := h.at_ (by omega) ad ha
      refine ⟨h1, h2, h3, fun j u hu => ?_⟩
      obtain rfl : n = m := by omega
      rw [List.drop_eq_nil_of_le (by rw [h.len]; exact Nat.le_refl _)] at hu
      simp at hu
    · rw [if_neg hc] at ha
      cases a with
      | none => simp at ha
      | some ad0 =>
        simp only [Option.map_some, Option.some.injEq] at ha
        subst ha
        obtain ⟨h1, h2, h3, h5⟩ := h.at_ (by omega) ad0 rfl
        obtain ⟨b, off, spot⟩ := ad0
        simp only at h1
        subst h1
        rw [add_plain]
        refine ⟨rfl, h2, h3, fun j u hu => ?_⟩
        rw [List.getElem?_drop] at hu
        have := h5 _ _ hu
        rw [add_plain] at this ⊢
        rw [← this]
        congr 2
        omega
end
/-- s[m:], s[:m] of a slice of elements of k cells. -/
theorem slice_tailK {P : Program} {t e : TypeId} {k : Nat} (ht : P.underlying t = some (.slice e)) (he : P.elem t = e) (a : Option Addr) (n c m : Nat) (hm : m ≤ n) (w : World) (hk : (sizeOf e).run P w = .ok k w) :
    (Instr.slice t (.slice a n c) (some (.int .i64 (m : Int))) none none).run P w = .ok (.slice (tailK k a c m) (n - m) (c - m)) w := by
  subst he
  rw [run_slice_l w _ _ _ _ ht .i64 (m : Int) (by omega) (by omega), hk]
  simp [Result.andThen, sliced, tailK]
theorem slice_headK {P : Program} {t e : TypeId} {k : Nat} (ht : P.underlying t = some (.slice e)) (he : P.elem t = e) (a : Option Addr) (n c m : Nat) (hm : m ≤ c) (w : World) (hk : (sizeOf e).run P w = .ok k w) :
    (Instr.slice t (.slice a n c) none (some (.int .i64 (m : Int))) none).run P w = .ok (.slice a m c) w := by
  subst he
  rw [run_slice_h w _ _ _ _ ht .i64 (m : Int) (by omega) (by omega), hk]
  simp [Result.andThen, sliced]
  intro hc
  cases a <;> simp [Addr.add]
/-- A type's zero, its cells and its bytes, out of one closed fact. -/
theorem info_of {P : Program} {T : TypeId} {z : Value} {s y : Nat} (h : (P.info? T).map (fun i => (i.zero, i.size, i.bytes)) = some (some z, s, y)) : ∃ i, P.info? T = some i ∧ i.zero = some z ∧ i.size = s ∧ i.bytes = y := by
  cases hi : P.info? T with
  | none => rw [hi] at h; cases h
  | some i =>
    rw [hi] at h
    simp at h
    exact ⟨i, rfl, h.1, h.2.1, h.2.2⟩
theorem made_row {P : Program} (w : World) (t e : TypeId) (i : TypeInfo) (z : Value) (size bytes : Nat) (ht : P.underlying t = some (.slice e)) (hi : P.info? e = some i) (hz : i.zero = some z) (hsize : i.size = size) (hby : i.bytes = bytes)
    (n m : Nat) (hnm : n ≤ m) (hm : m * bytes ≤ 140737488355328) (hm2 : m ≤ maxLen) :
    ∃ cs, (Instr.makeSlice t (.int .i64 (n : Int)) (.int .i64 (m : Int))).run P w = .ok (.slice (some ⟨w.heap.size, 0, none⟩) n m) (w.alloc (.cells cs e)) ∧ cs.size = m * size := by
  have hmb : bytes * m ≤ 140737488355328 := by rw [Nat.mul_comm]; exact hm
  have hr := run_make (P := P) w t e i z ht hi hz .i64 .i64 n m (by omega) (by omega) (by rw [hby]; omega) (by unfold maxLen at hm2; omega)
  simp only [Int.toNat_natCast] at hr
  rw [hsize] at hr
  exact ⟨_, hr, by rw [size_madeCells]⟩
end Go.Proofs.Yteimgebfbnmdcaa
