/- The document's order of tuples and rows; a tuple's last revision in its rows. -/
import Derived.Test.YtmjdngomjjhhiaaGreatE62
namespace Go.Proofs.YtmjdngomjjhhiaaGreat
open Go.RowKit
open Go.Maps (Keyed)

set_option maxHeartbeats 2000000 in
set_option maxRecDepth 100000 in
theorem rless_any (x y : Tp) (w : World) :
    Calls Tryz.prog 106 #[tpV x, tpV y] w fun e w' => e = .returned (.bool (ltT x y)) ∧ Below w.heap.size w w' := by
  obtain ⟨a, b, c⟩ := x
  obtain ⟨a', b', c'⟩ := y
  have hr : ltT ⟨a, b, c⟩ ⟨a', b', c'⟩ = if cb a a' ≠ 0 then decide (cb a a' = -1) else if cb b b' ≠ 0 then decide (cb b b' = -1) else decide (cb c c' = -1) := by
    unfold ltT
    rw [← cmpT_less]; rfl
  rw [hr]
  have e1 := beq_cb a a'
  have e2 := beq_cb b b'
  have f1 := bytesLess_cb a a'
  have f2 := bytesLess_cb b b'
  have f3 := bytesLess_cb c c'
  have hB : Below w.heap.size w ((w.alloc (.cells #[.string a, .string b, .string c] 32)).alloc (.cells #[.string a', .string b', .string c'] 32)) := (below_alloc w _).trans ((below_alloc _ _).mono (by simp))
  have HB := Lib.hid hB
  clear hB hr
  by_cases h1 : cb a a' = 0
  · by_cases h2 : cb b b' = 0
    · rw [if_neg (by simp [h1]), if_neg (by simp [h2])]
      rw [h1] at e1
      rw [h2] at e2
      simp only [decide_true] at e1 e2
      generalize decide (cb c c' = -1) = r at *
      clear h1 h2 f1 f2
      go_enter Tryz.func106, Tryz.ntmps106
      go_wp2
      go_ret
      exact ⟨rfl, HB.out⟩
    · rw [if_neg (by simp [h1]), if_pos h2]
      rw [h1] at e1
      simp only [decide_true] at e1
      rw [decide_eq_false h2] at e2
      generalize decide (cb b b' = -1) = r at *
      clear h1 h2 f1 f3
      go_enter Tryz.func106, Tryz.ntmps106
      go_wp2
      go_ret
      exact ⟨rfl, HB.out⟩
  · rw [if_pos h1]
    rw [decide_eq_false h1] at e1
    generalize decide (cb a a' = -1) = r at *
    clear h1 f2 f3 e2
    go_enter Tryz.func106, Tryz.ntmps106
    go_wp2
    go_ret
    exact ⟨rfl, HB.out⟩
abbrev rwV (r : Rw) : Value := .agg #[.string r.t.o, .string r.t.r, .string r.t.u, .int .i64 r.s, .int .i64 r.u]
/-- Three texts are the same, or which of them is the first that isn't. -/
theorem tp_cases (x y : Tp) : (x = y ∧ (x.o.toList == y.o.toList) = true ∧ (x.r.toList == y.r.toList) = true ∧ (x.u.toList == y.u.toList) = true) ∨ (x ≠ y ∧ (x.o.toList == y.o.toList) = false) ∨
    (x ≠ y ∧ (x.o.toList == y.o.toList) = true ∧ (x.r.toList == y.r.toList) = false) ∨ (x ≠ y ∧ (x.o.toList == y.o.toList) = true ∧ (x.r.toList == y.r.toList) = true ∧ (x.u.toList == y.u.toList) = false) := by
  obtain ⟨a, b, c⟩ := x
  obtain ⟨a', b', c'⟩ := y
  by_cases h1 : a = a'
  · by_cases h2 : b = b'
    · by_cases h3 : c = c'
      · subst h1 h2 h3
        exact .inl ⟨rfl, by simp, by simp, by simp⟩
      · exact .inr (.inr (.inr ⟨fun e => h3 (by injection e), by rw [h1]; simp, by rw [h2]; simp, str_ne h3⟩))
    · exact .inr (.inr (.inl ⟨fun e => h2 (by injection e), by rw [h1]; simp, str_ne h2⟩))
  · exact .inr (.inl ⟨fun e => h1 (by injection e), str_ne h1⟩)
set_option maxHeartbeats 2000000 in
set_option maxRecDepth 100000 in
theorem rbefore_any (x y : Rw) (w : World) :
    Calls Tryz.prog 66 #[rwV x, rwV y] w fun e w' => e = .returned (.bool (rlt ltT x y)) ∧ Below w.heap.size w w' := by
  obtain ⟨t, s, u⟩ := x
  obtain ⟨t', s', u'⟩ := y
  have HC := Lib.hid (tp_cases t t')
  have hr : rlt ltT ⟨t, s, u⟩ ⟨t', s', u'⟩ = if t = t' then decide (s < s') else ltT t t' := rfl
  rw [hr]
  have hB : Below w.heap.size w ((w.alloc (.cells #[.string t.o, .string t.r, .string t.u, .int .i64 s, .int .i64 u] 46)).alloc (.cells #[.string t'.o, .string t'.r, .string t'.u, .int .i64 s', .int .i64 u'] 46)) := (below_alloc w _).trans ((below_alloc _ _).mono (by simp))
  have HB := Lib.hid hB
  have HL := Lib.hid (fun w => rless_any t t' w)
  clear hr hB
  rcases HC.out with ⟨rfl, h1, h2, h3⟩ | ⟨hn, h1⟩ | ⟨hn, h1, h2⟩ | ⟨hn, h1, h2, h3⟩
  · rw [if_pos rfl]
    clear HC
    go_enter Tryz.func66, Tryz.ntmps66
    go_wp2
    go_ret
    exact ⟨rfl, HB.out⟩
  all_goals
    rw [if_neg hn]
    clear HC hn
    go_enter Tryz.func66, Tryz.ntmps66
    go_wp2_with fail
    refine (HL.out _).mono ?_
    rintro _ w1 ⟨rfl, hb1⟩
    have HB1 := Lib.hid (bell_up HB.out hb1)
    clear hb1
    go_wp2
    go_ret
    exact ⟨rfl, HB1.out⟩
/-- A row in a list. -/
theorem RowsAt.cells {w : World} {a : Option Addr} {n : Nat} {l : List Rw} (h : RowsAt w a n l) {i : Nat} {r : Rw} (hi : l[i]? = some r) : ∃ b off, a = some ⟨b, off, none⟩ ∧ b < w.heap.size ∧
    w.cell? ⟨b, off + i * 5, none⟩ = some (.string r.t.o) ∧ w.cell? ⟨b, off + i * 5 + 1, none⟩ = some (.string r.t.r) ∧ w.cell? ⟨b, off + i * 5 + 2, none⟩ = some (.string r.t.u) ∧ w.cell? ⟨b, off + i * 5 + 3, none⟩ = some (.int .i64 r.s) ∧ w.cell? ⟨b, off + i * 5 + 4, none⟩ = some (.int .i64 r.u) := by
  have hl := (List.getElem?_eq_some_iff.1 hi).1
  rcases h.at_ with h0 | ⟨b, off, ha, hb, hc⟩
  · have := h.len; omega
  · exact ⟨b, off, ha, hb, hc i r hi⟩
theorem lastR_take {R : List Rw} {i : Nat} {x : Rw} (t : Tp) (h : R[i]? = some x) : lastR (R.take (i + 1)) t = lastStep t (lastR (R.take i) t) x := by
  unfold lastR
  rw [List.take_add_one, h, List.foldl_append]; rfl
abbrev stV (v : Value) (wm : Int) : Value := .agg #[v, .int .i64 wm]
end Go.Proofs.YtmjdngomjjhhiaaGreat
