/- The document's cache: pairs as they lie; Wrong, find. -/
import Derived.Test.YtfhflijlgejknaaK11
namespace Go.Proofs.Ytfhflijlgejknaa
open Go.RowKit

abbrev Pr := ByteArray × Int
/-- Pairs, cell by cell. -/
def flat (l : List Pr) : List Value := l.flatMap (fun p => [.string p.1, .int .i64 p.2])
theorem flat_nil : flat [] = [] := rfl
theorem flat_cons (p : Pr) (l : List Pr) : flat (p :: l) = .string p.1 :: .int .i64 p.2 :: flat l := rfl
theorem flat_append (l m : List Pr) : flat (l ++ m) = flat l ++ flat m := by unfold flat; rw [List.flatMap_append]
theorem flat_length (l : List Pr) : (flat l).length = l.length * 2 := by
  induction l with
  | nil => rfl
  | cons p l ih => rw [flat_cons, List.length_cons, List.length_cons, List.length_cons, ih]; omega
theorem flat_take (l : List Pr) (m : Nat) : (flat l).take (m * 2) = flat (l.take m) := by
  induction l generalizing m with
  | nil => simp [flat_nil]
  | cons p l ih =>
    cases m with
    | zero => rfl
    | succ m => rw [show (m + 1) * 2 = m * 2 + 1 + 1 by omega, flat_cons, List.take_succ_cons, List.take_succ_cons, List.take_succ_cons, flat_cons, ih]
theorem flat_drop (l : List Pr) (m : Nat) : (flat l).drop (m * 2) = flat (l.drop m) := by
  induction l generalizing m with
  | nil => simp [flat_nil]
  | cons p l ih =>
    cases m with
    | zero => rfl
    | succ m => rw [show (m + 1) * 2 = m * 2 + 1 + 1 by omega, flat_cons, List.drop_succ_cons, List.drop_succ_cons, List.drop_succ_cons, ih]
theorem flat_at {l : List Pr} {i : Nat} {p : Pr} (h : l[i]? = some p) : (flat l)[i * 2]? = some (.string p.1) ∧ (flat l)[i * 2 + 1]? = some (.int .i64 p.2) := by
  induction l generalizing i with
  | nil => simp at h
  | cons q l ih =>
    cases i with
    | zero =>
      simp at h
      subst h
      exact ⟨rfl, rfl⟩
    | succ i =>
      have h2 : l[i]? = some p := by simpa using h
      rw [show (i + 1) * 2 = i * 2 + 1 + 1 by omega, flat_cons]
      simpa using ih h2
theorem flat_one (l : List Pr) : ∀ u ∈ flat l, u.oneCell' = true := by
  intro u hu
  obtain ⟨p, _, hp⟩ := List.mem_flatMap.1 hu
  simp at hp
  rcases hp with rfl | rfl <;> rfl
/-- Pairs that lie in memory. -/
structure Pairs (w : World) (B : Nat) (a : Option Addr) (n c : Nat) (l : List Pr) : Prop where
  len : l.length = n
  nil : a = none → n = 0 ∧ c = 0
  room : n ≤ c
  big : c ≤ maxLen
  at_ : ∀ ad, a = some ad → ad.spot = none ∧ ad.block < w.heap.size ∧ B ≤ ad.block ∧ (∃ cs fr, w.heap[ad.block]? = some (.cells cs 40 fr)) ∧ ∀ (j : Nat) u, (flat l)[j]? = some u → w.cell? (ad.add j) = some u
theorem Pairs.keep {w w' : World} {B n c : Nat} {a : Option Addr} {l : List Pr} (h : Pairs w B a n c l) (hs : w.heap.size ≤ w'.heap.size) (hk : ∀ ad, a = some ad → w'.heap[ad.block]? = w.heap[ad.block]?) : Pairs w' B a n c l := by
  refine ⟨h.len, h.nil, h.room, h.big, fun ad ha => ?_⟩
  obtain ⟨h1, h2, h3, ⟨cs, fr, h4⟩, h5⟩ := h.at_ ad ha
  have hb := hk ad ha
  refine ⟨h1, Nat.lt_of_lt_of_le h2 hs, h3, ⟨cs, fr, hb.trans h4⟩, fun j u hu => ?_⟩
  have := h5 j u hu
  obtain ⟨b, off, spot⟩ := ad
  simp only at h1 hb
  subst h1
  rw [add_plain] at this ⊢
  simp only [World.cell?, hb] at this ⊢
  exact this
theorem Pairs.below {w w' : World} {B n c : Nat} {a : Option Addr} {l : List Pr} (h : Pairs w B a n c l) (hb : Below w.heap.size w w') : Pairs w' B a n c l := h.keep hb.size (fun ad ha => hb.block _ (h.at_ ad ha).2.1)
theorem Pairs.none (w : World) (B : Nat) : Pairs w B .none 0 0 [] := ⟨rfl, fun _ => ⟨rfl, rfl⟩, Nat.le_refl _, by simp [maxLen], fun ad h => by cases h⟩
theorem Pairs.cells {w : World} {B n c i : Nat} {a : Option Addr} {l : List Pr} {p : Pr} (h : Pairs w B a n c l) (hp : l[i]? = some p) : ∃ b off, a = some ⟨b, off, Option.none⟩ ∧ b < w.heap.size ∧ w.cell? ⟨b, off + i * 2, Option.none⟩ = some (.string p.1) ∧ w.cell? ⟨b, off + i * 2 + 1, Option.none⟩ = some (.int .i64 p.2) := by
  cases a with
  | none =>
    have := (h.nil rfl).1
    have hl := (List.getElem?_eq_some_iff.1 hp).1
    rw [h.len] at hl
    omega
  | some ad =>
    obtain ⟨b, off, spot⟩ := ad
    obtain ⟨h1, h2, _, _, h5⟩ := h.at_ _ rfl
    simp at h1 h2
    subst h1
    obtain ⟨f1, f2⟩ := flat_at hp
    have g1 := h5 _ _ f1
    have g2 := h5 _ _ f2
    rw [add_plain] at g1 g2
    exact ⟨b, off, rfl, h2, g1, g2⟩
theorem Pairs.owned {w : World} {base n : Nat} {v : Value} {l : List Pr} (h : w.ownsRow base 40 2 v n (flat l)) : ∃ a c, v = .slice a n c ∧ Pairs w base a n c l := by
  have hl : l.length = n := by have := h.1; rw [flat_length] at this; omega
  rcases h.2 with ⟨rfl, h0⟩ | ⟨g, cap, cur, rfl, hb, hh, hnc, hcm, hsz, ht⟩
  · subst h0
    obtain rfl := List.eq_nil_of_length_eq_zero hl
    exact ⟨.none, 0, rfl, Pairs.none _ _⟩
  · refine ⟨_, _, rfl, hl, (by intro e; cases e), hnc, hcm, ?_⟩
    rintro ad ha
    injection ha with ha
    subst ha
    have hlt : g < w.heap.size := by
      rcases Nat.lt_or_ge g w.heap.size with hl | hl
      · exact hl
      · rw [Array.getElem?_eq_none hl] at hh
        cases hh
    refine ⟨rfl, hlt, hb, ⟨_, _, hh⟩, fun j u hu => ?_⟩
    rw [add_plain, Nat.zero_add]
    simp only [World.cell?, hh]
    rw [← ht, List.getElem?_take] at hu
    split at hu
    · simpa using hu
    · cases hu

theorem wrong_any (r : Int) (w : World) : Calls Try.prog 9 #[.int .i64 r] w fun e w' => e = .returned (.int .i64 (if r < 1 ∨ 4096 < r then 1 else 0)) ∧ w = w' := by
  by_cases h : r < 1
  · go_enter Try.func9, Try.ntmps9
    go_wp2
    go_ret
    exact ⟨rfl, rfl⟩
  · by_cases h2 : 4096 < r
    · go_enter Try.func9, Try.ntmps9
      go_wp2
      go_ret
      exact ⟨rfl, rfl⟩
    · go_enter Try.func9, Try.ntmps9
      go_wp2
      go_ret
      exact ⟨rfl, rfl⟩
/-- Where a key stands. -/
def Found (l : List Pr) (k : ByteArray) (r : Int) : Prop :=
  (∃ l1 v l2, l = l1 ++ (k, v) :: l2 ∧ k ∉ l1.map (·.1) ∧ r = l1.length) ∨ (k ∉ l.map (·.1) ∧ r = -1)
theorem not_more {l : List Pr} {i : Nat} {k x : ByteArray} {y : Int} (h : k ∉ (l.take i).map (·.1)) (hx : l[i]? = some (x, y)) (hne : x ≠ k) : k ∉ (l.take (i + 1)).map (·.1) := by
  obtain ⟨hi, he⟩ := List.getElem?_eq_some_iff.1 hx
  rw [← List.take_append_getElem hi, he, List.map_append]
  simp only [List.mem_append, not_or]
  exact ⟨h, by simpa using hne.symm⟩
theorem found_at {l : List Pr} {i : Nat} {k : ByteArray} {y : Int} (h : k ∉ (l.take i).map (·.1)) (hx : l[i]? = some (k, y)) : Found l k i := by
  obtain ⟨hi, he⟩ := List.getElem?_eq_some_iff.1 hx
  refine .inl ⟨l.take i, y, l.drop (i + 1), ?_, h, ?_⟩
  · rw [← he, List.getElem_cons_drop, List.take_append_drop]
  · rw [List.length_take, Nat.min_eq_left (by omega)]

set_option maxRecDepth 100000 in
set_option maxHeartbeats 4000000 in
theorem rfind_any {B n c : Nat} {a : Option Addr} {l : List Pr} (x y z : Int) (k : ByteArray) (w : World) (h : Pairs w B a n c l) (hn : n ≤ 4096) :
    Calls Try.prog 44 #[.agg #[.slice a n c, .int .i64 x, .int .i64 y, .int .i64 z], .string k] w fun e w' => (∃ r : Int, e = .returned (.int .i64 r) ∧ Found l k r) ∧ Below w.heap.size w w' := by
  have hb0 := below_alloc w (.cells #[.slice a n c, .int .i64 x, .int .i64 y, .int .i64 z] 31)
  have hx0 : Whole (w.alloc (.cells #[.slice a n c, .int .i64 x, .int .i64 y, .int .i64 z] 31)) w.heap.size 31 #[.slice a n c, .int .i64 x, .int .i64 y, .int .i64 z] := heap_alloc_new _ _
  have HP := Lib.hid (h.below hb0)
  have HX := Lib.hid hx0
  have HB := Lib.hid hb0
  clear h hb0 hx0
  go_enter Try.func44, Try.ntmps44
  go_wp2
  have HP2 := Lib.hid HP.out.len
  generalize w.alloc (.cells #[.slice a n c, .int .i64 x, .int .i64 y, .int .i64 z] 31) = w0 at *
  go_loopw [5] (fun iv wr => ∃ i : Nat, i ≤ n ∧ iv = .int .i64 i ∧ k ∉ (l.take i).map (·.1) ∧ Below w0.heap.size w0 wr) (fun iv _ => n - (intOf iv).toNat)
  case atStart => exact ⟨0, by omega, rfl, by simp, Below.refl _ _⟩
  case round =>
    obtain ⟨i, hin, rfl, hnot, hb⟩ := hrel
    have hbx := HX.out.kept (hb.block _ HX.out.lt)
    have c0 : wr.cell? ⟨w.heap.size, 0, none⟩ = some (.slice a n c) := by rw [hbx.cell]; rfl
    by_cases hil : i < n
    · obtain ⟨⟨x1, y1⟩, hx⟩ : ∃ p, l[i]? = some p := ⟨_, List.getElem?_eq_getElem (by rw [HP2.out]; exact hil)⟩
      obtain ⟨b, off, rfl, hbl, z0, _⟩ := HP.out.cells hx
      have c1 := (hb.cell (p := ⟨b, off + i * 2, none⟩) hbl).trans z0
      simp only at c1
      have HB2 := Lib.hid hb
      by_cases hk : x1 = k
      · subst hk
        have HF := Lib.hid (found_at hnot hx)
        clear z0 hbx hb hnot hx
        go_wp2
        go_ret
        exact ⟨⟨_, rfl, HF.out⟩, HB.out.trans (HB2.out.mono HB.out.size)⟩
      · have HN := Lib.hid (not_more hnot hx hk)
        have hk2 := str_ne hk
        clear z0 hbx hb hnot hx
        go_wp2
        go_roundw
        case rel => exact ⟨i + 1, by omega, by go_num, HN.out, HB2.out⟩
        case measure => simp [intOf]; omega
    · obtain rfl : i = n := by omega
      rw [List.take_of_length_le (by rw [HP2.out]; exact Nat.le_refl _)] at hnot
      have HN := Lib.hid hnot
      have HB2 := Lib.hid hb
      clear hnot hb hbx
      go_wp2
      go_ret
      exact ⟨⟨_, rfl, .inr ⟨HN.out, rfl⟩⟩, HB.out.trans (HB2.out.mono HB.out.size)⟩
end Go.Proofs.Ytfhflijlgejknaa
