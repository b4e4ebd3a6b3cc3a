/- The document's order, its tuples with one more, its At. -/
import Derived.Test.YteimgebfbnmdcaaHM
namespace Go.Proofs.Yteimgebfbnmdcaa
open Go.RowKit Go.Shelf
open Go.Maps (Keyed)

structure RowsAt (w : World) (a : Option Addr) (n : Nat) (l : List Rw) : Prop where
  len : l.length = n
  fits : ∀ r ∈ l, r.t.fits
  at_ : n = 0 ∨ ∃ b off, a = some ⟨b, off, none⟩ ∧ b < w.heap.size ∧ ∀ (i : Nat) (r : Rw), l[i]? = some r →
    w.cell? ⟨b, off + i * 5, none⟩ = some (.string r.t.o) ∧ w.cell? ⟨b, off + i * 5 + 1, none⟩ = some (.string r.t.r) ∧ w.cell? ⟨b, off + i * 5 + 2, none⟩ = some (.string r.t.u) ∧ w.cell? ⟨b, off + i * 5 + 3, none⟩ = some (.int .i64 r.s) ∧ w.cell? ⟨b, off + i * 5 + 4, none⟩ = some (.int .i64 r.u)
theorem RowsAt.keep {w w' : World} {a : Option Addr} {n : Nat} {l : List Rw} (h : RowsAt w a n l) (hs : w.heap.size ≤ w'.heap.size) (hk : ∀ ad, a = some ad → ad.block < w.heap.size → w'.heap[ad.block]? = w.heap[ad.block]?) : RowsAt w' a n l := by
  refine ⟨h.len, h.fits, h.at_.imp_right ?_⟩
  rintro ⟨b, off, rfl, hb, hc⟩
  have hbb := hk _ rfl hb
  have hcc : ∀ i, w'.cell? ⟨b, i, none⟩ = w.cell? ⟨b, i, none⟩ := fun i => by
    simp only at hbb
    simp only [World.cell?, hbb]
  refine ⟨b, off, rfl, Nat.lt_of_lt_of_le hb hs, fun i m hm => ?_⟩
  rw [hcc, hcc, hcc, hcc, hcc]
  exact hc i m hm
theorem RowsAt.below {w w' : World} {a : Option Addr} {n : Nat} {l : List Rw} (h : RowsAt w a n l) (hb : Below w.heap.size w w') : RowsAt w' a n l := h.keep hb.size (fun _ _ h => hb.block _ h)
def alive (rev : Int) (x : Rw) : Bool := (⟨x.s, x.u⟩ : Sp).at_ rev
theorem alive_no1 {rev : Int} {x : Rw} (h : ¬ x.s ≤ rev) : alive rev x = false := by unfold alive Sp.at_; simp [h]
theorem alive_open {rev : Int} {x : Rw} (h : x.s ≤ rev) (h2 : x.u = 0) : alive rev x = true := by unfold alive Sp.at_ Sp.over; simp [h, h2]
theorem alive_late {rev : Int} {x : Rw} (h : x.s ≤ rev) (h2 : rev < x.u) : alive rev x = true := by
  unfold alive Sp.at_ Sp.over
  have : ¬ x.u ≤ rev := by omega
  simp [h, this]
theorem alive_over {rev : Int} {x : Rw} (h0 : x.u ≠ 0) (h2 : x.u ≤ rev) : alive rev x = false := by unfold alive Sp.at_ Sp.over; simp [h0, h2]
theorem own_cells {w : World} {B k n : Nat} {e : TypeId} {v : Value} {xs : List Value} (h : w.ownsRow B e k v n xs) (hn : 0 < n) : ∃ b c, v = .slice (some ⟨b, 0, none⟩) n c ∧ b < w.heap.size ∧ ∀ (j : Nat) u, xs[j]? = some u → w.cell? ⟨b, j, none⟩ = some u := by
  rcases h.2 with ⟨_, h0⟩ | ⟨b, cap, cur, rfl, _, hh, _, _, _, ht⟩
  · omega
  · refine ⟨b, cap, rfl, (Array.getElem?_eq_some_iff.1 hh).1, fun j u hu => ?_⟩
    rw [← ht, List.getElem?_take] at hu
    split at hu
    · simp only [World.cell?, hh]
      simpa using hu
    · cases hu
theorem tcs_at {w : World} {B : Nat} {a : Option Addr} {n c : Nat} {l : List Tp} (h : w.ownsRow B 47 3 (.slice a n c) n (l.flatMap tc)) (hn : 0 < n) : ∃ b, a = some ⟨b, 0, none⟩ ∧ b < w.heap.size ∧ ∀ (i : Nat) (t : Tp), l[i]? = some t → w.cell? ⟨b, 0 + i * 3, none⟩ = some (.string t.o) ∧ w.cell? ⟨b, 0 + i * 3 + 1, none⟩ = some (.string t.r) ∧ w.cell? ⟨b, 0 + i * 3 + 2, none⟩ = some (.string t.u) := by
  obtain ⟨b, c', he, hb, hc⟩ := own_cells h hn
  injection he with e1 e2 e3
  subst e1
  refine ⟨b, rfl, hb, fun i t hi => ?_⟩
  rw [Nat.zero_add]
  exact ⟨hc _ _ (fm_at tc_len hi (j := 0) (by omega)), hc _ _ (fm_at tc_len hi (j := 1) (by omega)), hc _ _ (fm_at tc_len hi (j := 2) (by omega))⟩
theorem own_lower {w : World} {B B' n s : Nat} {v : Value} {e : TypeId} {l : List Value} (h : w.ownsRow B e s v n l) (hb : B' ≤ B) : w.ownsRow B' e s v n l :=
  ⟨h.1, h.2.imp_right fun ⟨g, cap, cur, h1, h2, h3⟩ => ⟨g, cap, cur, h1, Nat.le_trans hb h2, h3⟩⟩
set_option maxHeartbeats 2000000 in
set_option maxRecDepth 100000 in
theorem rless_any (x y : Tp) (w : World) :
    Calls Try.prog 49 #[tpV x, tpV y] w fun e w' => e = .returned (.bool (ltT x y)) ∧ Below w.heap.size w w' := by
  obtain ⟨a, b, c⟩ := x
  obtain ⟨a', b', c'⟩ := y
  have hr : ltT ⟨a, b, c⟩ ⟨a', b', c'⟩ = if cb a a' ≠ 0 then decide (cb a a' = -1) else if cb b b' ≠ 0 then decide (cb b b' = -1) else decide (cb c c' = -1) := by
    unfold ltT
    rw [← cmpT_less]; rfl
  rw [hr]
  have e1 := beq_cb a a'
  have e2 := beq_cb b b'
  have f1 := bytesLess_cb a a'
  have f2 := bytesLess_cb b b'
  have f3 := bytesLess_cb c c'
  have hB : Below w.heap.size w ((w.alloc (.cells #[.string a, .string b, .string c] 47)).alloc (.cells #[.string a', .string b', .string c'] 47)) := (below_alloc w _).trans ((below_alloc _ _).mono (by simp))
  have HB := Lib.hid hB
  clear hB hr
  by_cases h1 : cb a a' = 0
  · by_cases h2 : cb b b' = 0
    · rw [if_neg (by simp [h1]), if_neg (by simp [h2])]
      rw [h1] at e1
      rw [h2] at e2
      simp only [decide_true] at e1 e2
      generalize decide (cb c c' = -1) = r at *
      clear h1 h2 f1 f2
      go_enter Try.func49, Try.ntmps49
      go_wp2
      go_ret
      exact ⟨rfl, HB.out⟩
    · rw [if_neg (by simp [h1]), if_pos h2]
      rw [h1] at e1
      simp only [decide_true] at e1
      rw [decide_eq_false h2] at e2
      generalize decide (cb b b' = -1) = r at *
      clear h1 h2 f1 f3
      go_enter Try.func49, Try.ntmps49
      go_wp2
      go_ret
      exact ⟨rfl, HB.out⟩
  · rw [if_pos h1]
    rw [decide_eq_false h1] at e1
    generalize decide (cb a a' = -1) = r at *
    clear h1 f2 f3 e2
    go_enter Try.func49, Try.ntmps49
    go_wp2
    go_ret
    exact ⟨rfl, HB.out⟩
abbrev rwV (r : Rw) : Value := .agg #[.string r.t.o, .string r.t.r, .string r.t.u, .int .i64 r.s, .int .i64 r.u]
/-- Three texts are the same, or which of them is the first that isn't. -/
theorem tp_cases (x y : Tp) : (x = y ∧ (x.o.toList == y.o.toList) = true ∧ (x.r.toList == y.r.toList) = true ∧ (x.u.toList == y.u.toList) = true) ∨ (x ≠ y ∧ (x.o.toList == y.o.toList) = false) ∨
    (x ≠ y ∧ (x.o.toList == y.o.toList) = true ∧ (x.r.toList == y.r.toList) = false) ∨ (x ≠ y ∧ (x.o.toList == y.o.toList) = true ∧ (x.r.toList == y.r.toList) = true ∧ (x.u.toList == y.u.toList) = false) := by
  obtain ⟨a, b, c⟩ := x
  obtain ⟨a', b', c'⟩ := y
  by_cases h1 : a = a'
  · by_cases h2 : b = b'
    · by_cases h3 : c = c'
      · subst h1 h2 h3
        exact .inl ⟨rfl, by simp, by simp, by simp⟩
      · exact .inr (.inr (.inr ⟨fun e => h3 (by injection e), by rw [h1]; simp, by rw [h2]; simp, str_ne h3⟩))
    · exact .inr (.inr (.inl ⟨fun e => h2 (by injection e), by rw [h1]; simp, str_ne h2⟩))
  · exact .inr (.inl ⟨fun e => h1 (by injection e), str_ne h1⟩)
set_option maxHeartbeats 2000000 in
set_option maxRecDepth 100000 in
theorem rbefore_any (x y : Rw) (w : World) :
    Calls Try.prog 40 #[rwV x, rwV y] w fun e w' => e = .returned (.bool (rlt ltT x y)) ∧ Below w.heap.size w w' := by
  obtain ⟨t, s, u⟩ := x
  obtain ⟨t', s', u'⟩ := y
  have HC := Lib.hid (tp_cases t t')
  have hr : rlt ltT ⟨t, s, u⟩ ⟨t', s', u'⟩ = if t = t' then decide (s < s') else ltT t t' := rfl
  rw [hr]
  have hB : Below w.heap.size w ((w.alloc (.cells #[.string t.o, .string t.r, .string t.u, .int .i64 s, .int .i64 u] 49)).alloc (.cells #[.string t'.o, .string t'.r, .string t'.u, .int .i64 s', .int .i64 u'] 49)) := (below_alloc w _).trans ((below_alloc _ _).mono (by simp))
  have HB := Lib.hid hB
  have HL := Lib.hid (fun w => rless_any t t' w)
  clear hr hB
  rcases HC.out with ⟨rfl, h1, h2, h3⟩ | ⟨hn, h1⟩ | ⟨hn, h1, h2⟩ | ⟨hn, h1, h2, h3⟩
  · rw [if_pos rfl]
    clear HC
    go_enter Try.func40, Try.ntmps40
    go_wp2
    go_ret
    exact ⟨rfl, HB.out⟩
  all_goals
    rw [if_neg hn]
    clear HC hn
    go_enter Try.func40, Try.ntmps40
    go_wp2_with fail
    refine (HL.out _).mono ?_
    rintro _ w1 ⟨rfl, hb1⟩
    have HB1 := Lib.hid (bell_up HB.out hb1)
    clear hb1
    go_wp2
    go_ret
    exact ⟨rfl, HB1.out⟩
/-- A row in a list. -/
theorem RowsAt.cells {w : World} {a : Option Addr} {n : Nat} {l : List Rw} (h : RowsAt w a n l) {i : Nat} {r : Rw} (hi : l[i]? = some r) : ∃ b off, a = some ⟨b, off, none⟩ ∧ b < w.heap.size ∧
    w.cell? ⟨b, off + i * 5, none⟩ = some (.string r.t.o) ∧ w.cell? ⟨b, off + i * 5 + 1, none⟩ = some (.string r.t.r) ∧ w.cell? ⟨b, off + i * 5 + 2, none⟩ = some (.string r.t.u) ∧ w.cell? ⟨b, off + i * 5 + 3, none⟩ = some (.int .i64 r.s) ∧ w.cell? ⟨b, off + i * 5 + 4, none⟩ = some (.int .i64 r.u) := by
  have hl := (List.getElem?_eq_some_iff.1 hi).1
  rcases h.at_ with h0 | ⟨b, off, ha, hb, hc⟩
  · have := h.len; omega
  · exact ⟨b, off, ha, hb, hc i r hi⟩
abbrev stV (v : Value) (wm : Int) : Value := .agg #[v, .int .i64 wm]

theorem rthere_any (x : Rw) (rev : Int) (w : World) :
    Calls Try.prog 35 #[rwV x, .int .i64 rev] w fun e w' => e = .returned (.bool (alive rev x)) ∧ Below w.heap.size w w' := by
  have HB := Lib.hid (show Below w.heap.size w (w.alloc (.cells #[.string x.t.o, .string x.t.r, .string x.t.u, .int .i64 x.s, .int .i64 x.u] 49)) from below_alloc _ _)
  obtain ⟨t, s, u⟩ := x
  have hac : (¬ s ≤ rev ∧ alive rev ⟨t, s, u⟩ = false) ∨ (s ≤ rev ∧ u = 0 ∧ alive rev ⟨t, s, u⟩ = true) ∨ (s ≤ rev ∧ u ≠ 0 ∧ rev < u ∧ alive rev ⟨t, s, u⟩ = true) ∨ (s ≤ rev ∧ u ≠ 0 ∧ ¬ rev < u ∧ alive rev ⟨t, s, u⟩ = false) := by
    by_cases h1 : s ≤ rev
    · by_cases h2 : u = 0
      · exact .inr (.inl ⟨h1, h2, alive_open h1 h2⟩)
      · by_cases h3 : rev < u
        · exact .inr (.inr (.inl ⟨h1, h2, h3, alive_late h1 h3⟩))
        · exact .inr (.inr (.inr ⟨h1, h2, h3, alive_over h2 (show u ≤ rev by omega)⟩))
    · exact .inl ⟨h1, alive_no1 h1⟩
  rcases hac with ⟨h1, h⟩ | ⟨h1, h2, h⟩ | ⟨h1, h2, h3, h⟩ | ⟨h1, h2, h3, h⟩
  case' inr.inl => subst h2
  case' inr.inr.inl => have hz : (u == 0) = false := by simp [h2]
  case' inr.inr.inr => have hz : (u == 0) = false := by simp [h2]
  all_goals
    rw [h]
    clear h
    go_enter Try.func35, Try.ntmps35
    go_wp2
    go_ret
    exact ⟨rfl, HB.out⟩
/-- What With has written behind some tuples. -/
def insG (t : Tp) (l : List Tp) : List Tp := if l.any (ltT t) = true then insT ltT t l else l
theorem insT_snoc (t x : Tp) : ∀ l : List Tp, l.any (ltT t) = true → insT ltT t (l ++ [x]) = insT ltT t l ++ [x] := by
  intro l
  induction l with
  | nil => intro h; simp at h
  | cons y l ih =>
    intro h
    by_cases hy : ltT t y = true
    · show (if ltT t y then t :: y :: (l ++ [x]) else y :: insT ltT t (l ++ [x])) = (if ltT t y then t :: y :: l else y :: insT ltT t l) ++ [x]
      rw [if_pos hy, if_pos hy]; rfl
    · have h2 : l.any (ltT t) = true := by
        rw [List.any_cons] at h
        simpa [hy] using h
      show (if ltT t y then t :: y :: (l ++ [x]) else y :: insT ltT t (l ++ [x])) = (if ltT t y then t :: y :: l else y :: insT ltT t l) ++ [x]
      rw [if_neg hy, if_neg hy, ih h2]; rfl
theorem insT_none (t : Tp) (m : List Tp) : ∀ l : List Tp, l.any (ltT t) = false → insT ltT t (l ++ m) = l ++ insT ltT t m := by
  intro l
  induction l with
  | nil => intro _; rfl
  | cons y l ih =>
    intro h
    rw [List.any_cons, Bool.or_eq_false_iff] at h
    show (if ltT t y then t :: y :: (l ++ m) else y :: insT ltT t (l ++ m)) = y :: (l ++ insT ltT t m)
    rw [if_neg (by simp [h.1]), ih h.2]
theorem insG_done {t x : Tp} {l : List Tp} (h : l.any (ltT t) = true) : insG t (l ++ [x]) = insG t l ++ [x] ∧ (l ++ [x]).any (ltT t) = true := by
  have h2 : (l ++ [x]).any (ltT t) = true := by rw [List.any_append, h]; rfl
  unfold insG
  rw [if_pos h, if_pos h2, insT_snoc t x l h]
  exact ⟨rfl, h2⟩
theorem insG_here {t x : Tp} {l : List Tp} (h : l.any (ltT t) = false) (hx : ltT t x = true) : insG t (l ++ [x]) = (insG t l ++ [t]) ++ [x] ∧ (l ++ [x]).any (ltT t) = true := by
  have h2 : (l ++ [x]).any (ltT t) = true := by rw [List.any_append, h]; simp [hx]
  unfold insG
  rw [h, if_neg Bool.false_ne_true, if_pos h2, insT_none t [x] l h]
  refine ⟨?_, h2⟩
  show l ++ (if ltT t x then [t, x] else _) = _
  rw [if_pos hx]; simp
theorem insG_past {t x : Tp} {l : List Tp} (h : l.any (ltT t) = false) (hx : ltT t x = false) : insG t (l ++ [x]) = insG t l ++ [x] ∧ (l ++ [x]).any (ltT t) = false := by
  have h2 : (l ++ [x]).any (ltT t) = false := by rw [List.any_append, h]; simp [hx]
  unfold insG
  rw [h, h2, if_neg Bool.false_ne_true, if_neg Bool.false_ne_true]
  exact ⟨rfl, rfl⟩
theorem insG_end (t : Tp) (l : List Tp) : insT ltT t l = if l.any (ltT t) = true then insG t l else insG t l ++ [t] := by
  unfold insG
  cases h : l.any (ltT t) with
  | true => simp
  | false =>
    have := insT_none t [] l h
    rw [List.append_nil] at this
    simp only [Bool.false_eq_true, if_false]
    rw [this]; rfl
theorem insG_len (t : Tp) (l : List Tp) : (insG t l).length ≤ l.length + 1 := by
  unfold insG
  split
  · have : ∀ l : List Tp, (insT ltT t l).length = l.length + 1 := by
      intro l
      induction l with
      | nil => rfl
      | cons y l ih =>
        show (if ltT t y then t :: y :: l else y :: insT ltT t l).length = _
        split <;> simp [ih]
    rw [this]; exact Nat.le_refl _
  · omega
/-- Tuples that a call writes. -/
structure OutT (w wr : World) (v : Value) (L : List Tp) : Prop where
  below : Below w.heap.size w wr
  row : wr.ownsRow w.heap.size 47 3 v L.length (L.flatMap tc)
theorem OutT.up {w wr w' : World} {v : Value} {L : List Tp} (h : OutT w wr v L) (hb : Below wr.heap.size wr w') : OutT w w' v L :=
  ⟨bell_up h.below hb, owns_keptN h.row (fun k hk => hb.block k (h.row.lt k hk).2)⟩
theorem OutT.next {w wr w' : World} {v v' : Value} {L : List Tp} (h : OutT w wr v L) (t : Tp) (hg : wr.grownBy w' v.ownBlock) (hown : w'.ownsRow w.heap.size 47 3 v' (L.length + 1) (L.flatMap tc ++ [.string t.o, .string t.r, .string t.u])) : OutT w w' v' (L ++ [t]) := by
  refine ⟨h.below.grown hg h.below.size (fun k e => (h.row.lt k e).1), ?_⟩
  rw [List.length_append, List.flatMap_append]
  exact hown
theorem lenAT (L : List Tp) (t : Tp) (h : L.length ≤ 1099511627800) : (L ++ [t]).length + 1 ≤ maxLen := by
  rw [List.length_append, List.length_singleton]; unfold maxLen; omega
theorem lenBT (L : List Tp) (t : Tp) (h : L.length ≤ 1099511627800) : ((L ++ [t]).length + 1) * 48 ≤ 140737488355328 := by
  rw [List.length_append, List.length_singleton]; omega
set_option maxHeartbeats 8000000 in
set_option maxRecDepth 100000 in
theorem twith_any {B : Nat} {v : Value} {R : List Tp} {w : World} (hR : w.ownsRow B 47 3 v R.length (R.flatMap tc)) (hB : B ≤ w.heap.size) (hn : R.length ≤ 1099511627776) (t : Tp) :
    Calls Try.prog 36 #[v, tpV t] w fun e w' => ∃ v', e = .returned v' ∧ w'.ownsRow B 47 3 v' (withT ltT R t).length ((withT ltT R t).flatMap tc) ∧ Below w.heap.size w w' := by
  obtain ⟨a, c, rfl, _, _⟩ := owned_anyE hR
  obtain ⟨j0, hj0, jz0, jz1, jz2⟩ := info_parts infoTp
  obtain ⟨w1, hw1⟩ : ∃ w1, w1 = w.alloc (.cells #[.string t.o, .string t.r, .string t.u] 47) := ⟨_, rfl⟩
  have hb1 : Below w.heap.size w w1 := by rw [hw1]; exact below_alloc _ _
  have hs1 : w1.heap.size = w.heap.size + 1 := by rw [hw1]; simp
  have hX1 : Whole w1 w.heap.size 47 #[.string t.o, .string t.r, .string t.u] := by rw [hw1]; exact heap_alloc_new _ _
  obtain ⟨q, hq⟩ : ∃ q, q = w.heap.size := ⟨_, rfl⟩
  rw [← hq] at hX1
  have HX := Lib.hid hX1
  have HR := Lib.hid (show w1.ownsRow B 47 3 (.slice a R.length c) R.length (R.flatMap tc) from owns_keptN hR (fun k hk => hb1.block k (hR.lt k hk).2))
  have HB1 := Lib.hid hb1
  have HU1 := Lib.hid (show OutT w1 w1 nilS (insG t (R.take 0)) from ⟨Below.refl _ _, World.ownsRow_nil w1 w1.heap.size 47 3⟩)
  have HRB := Lib.hid (fun x w => rless_any t x w)
  have HS1 := Lib.hid hs1
  have HBB := Lib.hid hB
  clear hR hb1 hX1 hs1 hB
  go_enter Try.func36, Try.ntmps36
  go_upto_region 4 with fail
  rw [← hw1, ← hq]
  clear hw1 hq
  go_loopw [5, 6, 7] (fun ov dv iv wr => ∃ i : Nat, i ≤ R.length ∧ iv = .int .i64 i ∧ dv = .bool ((R.take i).any (ltT t)) ∧ t ∉ R.take i ∧ OutT w1 wr ov (insG t (R.take i))) (fun _ _ iv _ => R.length - (intOf iv).toNat)
  case atStart => exact ⟨0, by omega, rfl, by simp, by simp, HU1.out⟩
  case round =>
    clear HU1
    obtain ⟨i, hin, rfl, rfl, hni, hS⟩ := hrel
    obtain ⟨va, vc, rfl, _, _⟩ := owned_anyE hS.row
    by_cases hil : i < R.length
    · obtain ⟨x, hx⟩ : ∃ x, R[i]? = some x := ⟨_, List.getElem?_eq_getElem hil⟩
      obtain ⟨b, rfl, hbB, hcc⟩ := tcs_at HR.out (by omega)
      obtain ⟨k0, k1, k2⟩ := hcc i x hx
      rw [Nat.zero_add] at k0 k1 k2
      have HCC := Lib.hid (show ∀ W : World, Below w1.heap.size w1 W → W.cell? ⟨b, i * 3, none⟩ = some (.string x.o) ∧ W.cell? ⟨b, i * 3 + 1, none⟩ = some (.string x.r) ∧ W.cell? ⟨b, i * 3 + 2, none⟩ = some (.string x.u) from fun W hW =>
        ⟨(hW.cell (p := ⟨b, i * 3, none⟩) hbB).trans k0, (hW.cell (p := ⟨b, i * 3 + 1, none⟩) hbB).trans k1, (hW.cell (p := ⟨b, i * 3 + 2, none⟩) hbB).trans k2⟩)
      have htk : R.take (i + 1) = R.take i ++ [x] := by rw [List.take_add_one, hx]; rfl
      have HTK := Lib.hid htk
      have hln := insG_len t (R.take i)
      rw [List.length_take] at hln
      have hil2 : (i : Int) < (R.length : Int) := by omega
      have hi4 : i ≤ 1099511627776 := by omega
      have HNI := Lib.hid hni
      have HXR := Lib.hid (List.mem_of_getElem? hx)
      obtain ⟨L, hL⟩ : ∃ L, L = insG t (R.take i) := ⟨_, rfl⟩
      rw [← hL] at hS hln ⊢
      have HL := Lib.hid hL
      have hn1 : L.length + 1 ≤ maxLen := by unfold maxLen; omega
      have hn2 : (L.length + 1) * 48 ≤ 140737488355328 := by omega
      have HL8 := Lib.hid (show L.length ≤ 1099511627800 by omega)
      have hx1 := HX.out.kept (hS.below.block _ HX.out.lt)
      have z0 : wr.cell? ⟨q, 0, none⟩ = some (.string t.o) := by rw [hx1.cell]; rfl
      have z1 : wr.cell? ⟨q, 1, none⟩ = some (.string t.r) := by rw [hx1.cell]; rfl
      have z2 : wr.cell? ⟨q, 2, none⟩ = some (.string t.u) := by rw [hx1.cell]; rfl
      obtain ⟨y0, y1, y2⟩ := HCC.out wr hS.below
      have HS := Lib.hid hS
      have HTC := Lib.hid (tp_cases x t)
      clear hL htk k0 k1 k2 hx hS hbB hcc hx1 hni hln
      rcases HTC.out with ⟨he, h1, h2, h3⟩ | hne
      · have HW := Lib.hid (show withT ltT R t = R from if_pos (by rw [← he]; exact HXR.out))
        clear HTC he
        go_wp2_with fail
        go_quiet (fail)
        have HBE := Lib.hid (HB1.out.trans (((HS.out.below).trans ((below_drewN wr nq).mono HS.out.below.size)).mono (by have := HS1.out; omega)))
        have HRE := Lib.hid (owns_keptN HR.out (fun k hk => ((HS.out.below).trans ((below_drewN wr nq).mono HS.out.below.size)).block k (HR.out.lt k hk).2))
        go_wp2
        go_ret
        exact ⟨_, rfl, by rw [HW.out]; exact HRE.out, HBE.out⟩
      · have HNX := Lib.hid (show t ∉ R.take (i + 1) by
          rw [HTK.out, List.mem_append, List.mem_singleton]
          exact fun e => e.elim HNI.out (fun e => hne.elim (fun h => h.1 e.symm) fun h => h.elim (fun h => h.1 e.symm) fun h => h.1 e.symm))
        clear HTC
        rcases hne with ⟨hne, h1⟩ | ⟨hne, h1, h2⟩ | ⟨hne, h1, h2, h3⟩
        all_goals
          clear hne
          go_upto_region 6 with fail
          go_quiet (fail)
          have HS := Lib.hid (HS.out.up (below_drewN wr nq))
          generalize wr.drewN nq = wq at *
          clear z0 z1 z2 y0 y1 y2
          obtain ⟨y0, y1, y2⟩ := HCC.out wq HS.out.below
          have hxq := HX.out.kept (HS.out.below.block _ HX.out.lt)
          have z0 : wq.cell? ⟨q, 0, none⟩ = some (.string t.o) := by rw [hxq.cell]; rfl
          have z1 : wq.cell? ⟨q, 1, none⟩ = some (.string t.r) := by rw [hxq.cell]; rfl
          have z2 : wq.cell? ⟨q, 2, none⟩ = some (.string t.u) := by rw [hxq.cell]; rfl
          clear hxq
          clear h1
          have HBS := Lib.hid (show w1.heap.size ≤ wq.heap.size from HS.out.below.size)
          cases hd : (R.take i).any (ltT t) with
          | true =>
            obtain ⟨g1, g2⟩ := insG_done (x := x) hd
            have HG := Lib.hid g1
            have HG2 := Lib.hid g2
            clear g1 g2 hd
            go_upto_region 8 with fail
            go_quiet (fail)
            have HS := Lib.hid (HS.out.up (below_drewN wq nq))
            go_wp2_with (at_builtin; refine wpList_append_own_at _ rfl (.tmp 35) (.tmp 40) 30 rfl w1.heap.size 47 j0 (.agg #[.string ⟨#[]⟩, .string ⟨#[]⟩, .string ⟨#[]⟩]) 3 48 Try.underlying30 hj0 jz0 jz1 jz2 rfl (by decide) (.slice va L.length vc) L.length (L.flatMap tc) rfl (HS.out.row.alloc _) ⟨(wq.drewN nq).heap.size, 0, none⟩ 1 1 [.string x.o, .string x.r, .string x.u] rfl rfl (three_newT (wq.drewN nq) _ _ _ 47) (by simp [Value.oneCell']) hn1 hn2 (by have := HBS.out; simp; omega) ?_; intro v' w6 hown6 hgr6 _ _
                         have HN := Lib.hid (show OutT w1 w6 v' (insG t (R.take (i + 1))) from by
                           rw [HTK.out, HG.out, ← HL.out]
                           exact (HS.out.up (below_alloc _ _)).next x hgr6 hown6)
                         clear hown6 hgr6)
            go_roundw
            case rel => exact ⟨i + 1, by omega, by go_num, by rw [HTK.out, HG2.out], HNX.out, HN.out⟩
            case measure => simp [intOf]; omega
          | false =>
            have hp0 : ∀ W : World, Below w1.heap.size w1 W → ((W.cell? ⟨q, 0, none⟩ = some (.string t.o) ∧ W.cell? ⟨q, 1, none⟩ = some (.string t.r) ∧ W.cell? ⟨q, 2, none⟩ = some (.string t.u)) ∧ (W.cell? ⟨b, i * 3, none⟩ = some (.string x.o) ∧ W.cell? ⟨b, i * 3 + 1, none⟩ = some (.string x.r) ∧ W.cell? ⟨b, i * 3 + 2, none⟩ = some (.string x.u))) := fun W hW => by
              have hx1 := HX.out.kept (hW.block _ HX.out.lt)
              exact ⟨⟨by rw [hx1.cell]; rfl, by rw [hx1.cell]; rfl, by rw [hx1.cell]; rfl⟩, HCC.out W hW⟩
            have HKK := Lib.hid hp0
            have hbf := HRB.out x
            have hp1 := hp0 wq HS.out.below
            have hp2 := hp0 wq.drew (bell_up HS.out.below (below_drew1 wq))
            clear hp0 y0 y1 y2 z0 z1 z2
            cases hrx : ltT t x with
            | false =>
              rw [hrx] at hbf
              have HBF := Lib.hid hbf
              obtain ⟨g1, g2⟩ := insG_past hd hrx
              have HG := Lib.hid g1
              have HG2 := Lib.hid g2
              clear g1 g2 hd hbf hrx
              go_upto_region 8 with fail
              go_region_held3 (fun W : World => ((W.cell? ⟨q, 0, none⟩ = some (.string t.o) ∧ W.cell? ⟨q, 1, none⟩ = some (.string t.r) ∧ W.cell? ⟨q, 2, none⟩ = some (.string t.u)) ∧ (W.cell? ⟨b, i * 3, none⟩ = some (.string x.o) ∧ W.cell? ⟨b, i * 3 + 1, none⟩ = some (.string x.r) ∧ W.cell? ⟨b, i * 3 + 2, none⟩ = some (.string x.u)))) (first | assumption | with_reducible exact HKK.out _ (bell_up HS.out.below (below_drewN _ 1)) | exact HKK.out _ (bell_up HS.out.below (below_drew1 _))) (first
                | (go_at_call 49; (with_reducible refine (HBF.out _).mono ?_); rintro e w5 ⟨rfl, hb5⟩
                   have HS2 := Lib.hid (HS.out.up (bell_up (below_drew1 wq) hb5))
                   have hk5 := HKK.out w5 HS2.out.below
                   clear hb5))
              all_goals
                have HBS := Lib.hid (show w1.heap.size ≤ w5.heap.size from HS2.out.below.size)
                obtain ⟨⟨z0, z1, z2⟩, y0, y1, y2⟩ := hk5
                clear hp1 hp2
                go_wp2_with (at_builtin; refine wpList_append_own_at _ rfl (.tmp 35) (.tmp 40) 30 rfl w1.heap.size 47 j0 (.agg #[.string ⟨#[]⟩, .string ⟨#[]⟩, .string ⟨#[]⟩]) 3 48 Try.underlying30 hj0 jz0 jz1 jz2 rfl (by decide) (.slice va L.length vc) L.length (L.flatMap tc) rfl (HS2.out.row.alloc _) ⟨w5.heap.size, 0, none⟩ 1 1 [.string x.o, .string x.r, .string x.u] rfl rfl (three_newT w5 _ _ _ 47) (by simp [Value.oneCell']) hn1 hn2 (by have := HBS.out; simp; omega) ?_; intro v' w6 hown6 hgr6 _ _
                             have HN := Lib.hid (show OutT w1 w6 v' (insG t (R.take (i + 1))) from by
                               rw [HTK.out, HG.out, ← HL.out]
                               exact (HS2.out.up (below_alloc _ _)).next x hgr6 hown6)
                             clear hown6 hgr6)
                go_roundw
                case rel => exact ⟨i + 1, by omega, by go_num, by rw [HTK.out, HG2.out], HNX.out, HN.out⟩
                case measure => simp [intOf]; omega
            | true =>
              rw [hrx] at hbf
              have HBF := Lib.hid hbf
              obtain ⟨g1, g2⟩ := insG_here hd hrx
              have HG := Lib.hid g1
              have HG2 := Lib.hid g2
              have HN3 := Lib.hid (lenAT L t HL8.out)
              have HN4 := Lib.hid (lenBT L t HL8.out)
              clear g1 g2 hd hbf hrx
              go_upto_region 8 with fail
              go_region_held3 (fun W : World => ((W.cell? ⟨q, 0, none⟩ = some (.string t.o) ∧ W.cell? ⟨q, 1, none⟩ = some (.string t.r) ∧ W.cell? ⟨q, 2, none⟩ = some (.string t.u)) ∧ (W.cell? ⟨b, i * 3, none⟩ = some (.string x.o) ∧ W.cell? ⟨b, i * 3 + 1, none⟩ = some (.string x.r) ∧ W.cell? ⟨b, i * 3 + 2, none⟩ = some (.string x.u)))) (first | assumption | with_reducible exact HKK.out _ (bell_up HS.out.below (below_drewN _ 1)) | exact HKK.out _ (bell_up HS.out.below (below_drew1 _))) (first
                | (go_at_call 49; (with_reducible refine (HBF.out _).mono ?_); rintro e w5 ⟨rfl, hb5⟩
                   have HS2 := Lib.hid (HS.out.up (bell_up (below_drew1 wq) hb5))
                   have hk5 := HKK.out w5 HS2.out.below
                   clear hb5))
              all_goals
                have HBS := Lib.hid (show w1.heap.size ≤ w5.heap.size from HS2.out.below.size)
                obtain ⟨⟨z0, z1, z2⟩, y0, y1, y2⟩ := hk5
                clear hp1 hp2
                go_wp2_with (first
                  | (at_builtin; refine wpList_append_own_at _ rfl (.tmp 31) (.tmp 33) 30 rfl w1.heap.size 47 j0 (.agg #[.string ⟨#[]⟩, .string ⟨#[]⟩, .string ⟨#[]⟩]) 3 48 Try.underlying30 hj0 jz0 jz1 jz2 rfl (by decide) (.slice va L.length vc) L.length (L.flatMap tc) rfl (HS2.out.row.alloc _) ⟨w5.heap.size, 0, none⟩ 1 1 [.string t.o, .string t.r, .string t.u] rfl rfl (three_newT w5 _ _ _ 47) (by simp [Value.oneCell']) hn1 hn2 (by have := HBS.out; simp; omega) ?_; intro v' w6 hown6 hgr6 _ _
                     have HS3 := Lib.hid ((HS2.out.up (below_alloc _ _)).next t hgr6 hown6)
                     obtain ⟨a3, c3, rfl, _, _⟩ := owned_anyE hown6
                     have HR3 := Lib.hid (show OutT w1 w6 (.slice a3 (L.length + 1) c3) (L ++ [t]) from HS3.out)
                     have hk6 := HKK.out w6 HS3.out.below
                     have HBS := Lib.hid (show w1.heap.size ≤ w6.heap.size from HS3.out.below.size)
                     clear hown6 hgr6
                     obtain ⟨_, y0, y1, y2⟩ := hk6)
                  | (at_builtin; refine wpList_append_own_at _ rfl (.tmp 35) (.tmp 40) 30 rfl w1.heap.size 47 j0 (.agg #[.string ⟨#[]⟩, .string ⟨#[]⟩, .string ⟨#[]⟩]) 3 48 Try.underlying30 hj0 jz0 jz1 jz2 rfl (by decide) (.slice a3 (L.length + 1) c3) (L ++ [t]).length ((L ++ [t]).flatMap tc) rfl (HR3.out.row.alloc _) ⟨w6.heap.size, 0, none⟩ 1 1 [.string x.o, .string x.r, .string x.u] rfl rfl (three_newT w6 _ _ _ 47) (by simp [Value.oneCell']) HN3.out HN4.out (by have := HBS.out; simp; omega) ?_; intro v' w7 hown7 hgr7 _ _
                     have HN := Lib.hid (show OutT w1 w7 v' (insG t (R.take (i + 1))) from by
                       rw [HTK.out, HG.out, ← HL.out]
                       exact (HS3.out.up (below_alloc _ _)).next x hgr7 hown7)
                     clear hown7 hgr7))
                go_roundw
                case rel => exact ⟨i + 1, by omega, by go_num, by rw [HTK.out, HG2.out], HNX.out, HN.out⟩
                case measure => simp [intOf]; omega
    · obtain rfl : i = R.length := by omega
      have htn : R.take R.length = R := List.take_length
      rw [htn] at hS hni ⊢
      have HW := Lib.hid (show withT ltT R t = insT ltT t R from if_neg hni)
      have hend := insG_end t R
      have HLE := Lib.hid (insG_len t R)
      obtain ⟨L, hL⟩ : ∃ L, L = insG t R := ⟨_, rfl⟩
      have hll : L.length ≤ 1099511627800 := by
        have := HLE.out
        rw [hL]; omega
      rw [← hL] at hend hS ⊢
      have HS := Lib.hid hS
      have hn1 : L.length + 1 ≤ maxLen := by unfold maxLen; omega
      have hn2 : (L.length + 1) * 48 ≤ 140737488355328 := by omega
      have HBS := Lib.hid (show w1.heap.size ≤ wr.heap.size from hS.below.size)
      have HLO := Lib.hid (show ∀ (W : World) (v : Value) (l : List Tp), OutT w1 W v l → W.ownsRow B 47 3 v l.length (l.flatMap tc) ∧ Below w.heap.size w W from fun W v l h => ⟨own_lower h.row (by have := HS1.out; have := HBB.out; omega), HB1.out.trans (h.below.mono (by have := HS1.out; omega))⟩)
      have hx1 := HX.out.kept (hS.below.block _ HX.out.lt)
      have z0 : wr.cell? ⟨q, 0, none⟩ = some (.string t.o) := by rw [hx1.cell]; rfl
      have z1 : wr.cell? ⟨q, 1, none⟩ = some (.string t.r) := by rw [hx1.cell]; rfl
      have z2 : wr.cell? ⟨q, 2, none⟩ = some (.string t.u) := by rw [hx1.cell]; rfl
      clear hS hL hll hx1 HLE htn hni
      cases hd : R.any (ltT t) with
      | true =>
        rw [if_pos hd] at hend
        have HE := Lib.hid hend
        clear hend hd
        go_wp2
        go_ret
        exact ⟨_, rfl, by rw [HW.out, HE.out]; exact HLO.out _ _ _ HS.out⟩
      | false =>
        rw [if_neg (by rw [hd]; exact Bool.false_ne_true)] at hend
        have HE := Lib.hid hend
        clear hend hd
        go_wp2_with (at_builtin; refine wpList_append_own_at _ rfl (.tmp 44) (.tmp 46) 30 rfl w1.heap.size 47 j0 (.agg #[.string ⟨#[]⟩, .string ⟨#[]⟩, .string ⟨#[]⟩]) 3 48 Try.underlying30 hj0 jz0 jz1 jz2 rfl (by decide) (.slice va L.length vc) L.length (L.flatMap tc) rfl (HS.out.row.alloc _) ⟨wr.heap.size, 0, none⟩ 1 1 [.string t.o, .string t.r, .string t.u] rfl rfl (three_newT wr _ _ _ 47) (by simp [Value.oneCell']) hn1 hn2 (by have := HBS.out; simp; omega) ?_; intro v' w6 hown6 hgr6 _ _
                     have HN := Lib.hid ((HS.out.up (below_alloc _ _)).next t hgr6 hown6)
                     clear hown6 hgr6)
        go_ret
        exact ⟨_, rfl, by rw [HW.out, HE.out]; exact HLO.out _ _ _ HN.out⟩

theorem atR_take {R : List Rw} {i : Nat} {x : Rw} (rev : Int) (h : R[i]? = some x) : atR ltT (R.take (i + 1)) rev = if alive rev x = true then withT ltT (atR ltT (R.take i) rev) x.t else atR ltT (R.take i) rev := by
  unfold atR
  rw [List.take_add_one, h, List.foldl_append]; rfl
theorem withT_len (l : List Tp) (t : Tp) : (withT ltT l t).length ≤ l.length + 1 := by
  unfold withT
  split
  · omega
  · have : ∀ l : List Tp, (insT ltT t l).length = l.length + 1 := by
      intro l
      induction l with
      | nil => rfl
      | cons y l ih =>
        show (if ltT t y then t :: y :: l else y :: insT ltT t l).length = _
        split <;> simp [ih]
    rw [this]; exact Nat.le_refl _
theorem atR_len (rev : Int) (R : List Rw) : ∀ i, (atR ltT (R.take i) rev).length ≤ i := by
  intro i
  induction i with
  | zero => simp [atR]
  | succ i ih =>
    cases hx : R[i]? with
    | none => rw [List.take_add_one, hx]; simp only [Option.toList_none, List.append_nil]; omega
    | some x =>
      rw [atR_take rev hx]
      split
      · have := withT_len (atR ltT (R.take i) rev) x.t
        omega
      · omega
set_option maxHeartbeats 8000000 in
set_option maxRecDepth 100000 in
theorem rat_any {ra : Option Addr} {n rc : Nat} {R : List Rw} {w : World} (hR : RowsAt w ra n R) (hn : n ≤ 1099511627776) (wm rev : Int) :
    Calls Try.prog 14 #[stV (.slice ra n rc) wm, .int .i64 rev] w fun e w' => ∃ v, e = .returned v ∧ w'.ownsRow w.heap.size 47 3 v (atR ltT R rev).length ((atR ltT R rev).flatMap tc) ∧ Below w.heap.size w w' := by
  obtain ⟨w0, hw0⟩ : ∃ w0, w0 = w.alloc (.cells #[.slice ra n rc, .int .i64 wm] 34) := ⟨_, rfl⟩
  have hb0 : Below w.heap.size w w0 := by rw [hw0]; exact below_alloc _ _
  obtain ⟨q0, hq0⟩ : ∃ q0, q0 = w.heap.size := ⟨_, rfl⟩
  have h0 : Whole w0 q0 34 #[.slice ra n rc, .int .i64 wm] := by rw [hw0, hq0]; exact heap_alloc_new _ _
  have HX0 := Lib.hid h0
  have HR := Lib.hid (hR.below hb0)
  have HB0 := Lib.hid hb0
  have HLN := Lib.hid hR.len
  have HU := Lib.hid (show w0.ownsRow w.heap.size 47 3 nilS (atR ltT (R.take 0) rev).length ((atR ltT (R.take 0) rev).flatMap tc) from World.ownsRow_nil _ _ _ _)
  clear hR hb0 h0
  go_enter Try.func14, Try.ntmps14
  go_upto_region 3 with fail
  rw [← hw0, ← hq0]
  clear hw0 hq0
  go_loopw [5, 6] (fun ov iv wr => ∃ i : Nat, i ≤ n ∧ iv = .int .i64 i ∧ wr.ownsRow w.heap.size 47 3 ov (atR ltT (R.take i) rev).length ((atR ltT (R.take i) rev).flatMap tc) ∧ Below w0.heap.size w0 wr) (fun _ iv _ => n - (intOf iv).toNat)
  case atStart => exact ⟨0, by omega, rfl, HU.out, Below.refl _ _⟩
  case round =>
    clear HU
    obtain ⟨i, hin, rfl, hO, hbr⟩ := hrel
    have hk0 := HX0.out.kept (hbr.block _ HX0.out.lt)
    have s0 : wr.cell? ⟨q0, 0, none⟩ = some (.slice ra n rc) := by rw [hk0.cell]; rfl
    obtain ⟨L, hL⟩ : ∃ L, L = atR ltT (R.take i) rev := ⟨_, rfl⟩
    have hll := atR_len rev R i
    rw [← hL] at hO hll
    have HL := Lib.hid hL
    have HO := Lib.hid hO
    have HBR := Lib.hid hbr
    have HBH := Lib.hid (HB0.out.trans (hbr.mono HB0.out.size))
    by_cases hil : i < n
    · obtain ⟨x, hx⟩ : ∃ x, R[i]? = some x := ⟨_, List.getElem?_eq_getElem (by rw [HLN.out]; exact hil)⟩
      obtain ⟨b, off, rfl, hbB, k0, k1, k2, k3, k4⟩ := (HR.out.below hbr).cells hx
      have HXI := Lib.hid hx
      have hat := atR_take rev hx
      rw [← hL] at hat
      have HAT := Lib.hid hat
      have HTH := Lib.hid (rthere_any x rev wr)
      have hil2 : (i : Int) < (n : Int) := by omega
      have hi4 : i ≤ 1099511627776 := by omega
      have HLL := Lib.hid hll
      clear hx hbB hO hbr hL hat hk0 hll
      go_wp2_with fail
      refine HTH.out.mono ?_
      rintro _ w1 ⟨rfl, hb1⟩
      have HB1 := Lib.hid (bell_up HBR.out hb1)
      have HO1 := Lib.hid (owns_keptN HO.out (fun k hk => hb1.block k (HO.out.lt k hk).2))
      have HBH1 := Lib.hid (bell_up HBH.out hb1)
      have hk1 := HX0.out.kept (HB1.out.block _ HX0.out.lt)
      have s0 : w1.cell? ⟨q0, 0, none⟩ = some (.slice (some ⟨b, off, none⟩) n rc) := by rw [hk1.cell]; rfl
      obtain ⟨b', off', e, _, k0, k1, k2, _, _⟩ := (HR.out.below HB1.out).cells HXI.out
      injection e with e
      injection e with e1 e2 _
      subst e1 e2
      clear hb1 hk1 HTH k3 k4
      cases ha : alive rev x with
      | true =>
        have hat : atR ltT (R.take (i + 1)) rev = withT ltT L x.t := by rw [HAT.out, if_pos ha]
        have HA2 := Lib.hid hat
        have HTW := Lib.hid (twith_any HO1.out HBH1.out.size (by have := HLL.out; omega) x.t)
        clear hat ha
        go_wp2_with fail
        refine HTW.out.mono ?_
        rintro _ w2 ⟨v2, rfl, ho2, hb2⟩
        have HO2 := Lib.hid ho2
        have HB2 := Lib.hid (bell_up HB1.out hb2)
        clear ho2 hb2
        go_wp2
        go_roundw
        case rel => exact ⟨i + 1, by omega, by go_num, by rw [HA2.out]; exact HO2.out, HB2.out⟩
        case measure => simp [intOf]; omega
      | false =>
        have hat : atR ltT (R.take (i + 1)) rev = L := by rw [HAT.out, if_neg (by rw [ha]; exact Bool.false_ne_true)]
        have HA2 := Lib.hid hat
        clear hat ha
        go_wp2
        go_roundw
        case rel => exact ⟨i + 1, by omega, by go_num, by rw [HA2.out]; exact HO1.out, HB1.out⟩
        case measure => simp [intOf]; omega
    · obtain rfl : i = n := by omega
      have htn : R.take i = R := by rw [← HLN.out, List.take_length]
      rw [htn] at hL
      have HLE := Lib.hid hL
      clear hL htn hO hbr hk0 hll
      go_wp2
      go_ret
      exact ⟨_, rfl, by rw [← HLE.out]; exact HO.out, HBH.out⟩
end Go.Proofs.Yteimgebfbnmdcaa
