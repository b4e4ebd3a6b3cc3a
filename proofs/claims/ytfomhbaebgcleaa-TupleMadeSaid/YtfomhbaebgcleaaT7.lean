/- Layer 5: texts read as tuples, on both sides. -/
import Derived.Test.YtfomhbaebgcleaaT6
namespace Go.Proofs.Ytfomhbaebgcleaa
open Go.RowKit

theorem results_row_tmp {P : Program} {fn : Func} {p u : Tmp} {ty : TypeId} (h : fn.results = #[.cell p ty, .tmp u]) (tmps : Array Value) (w : World) (g : Nat) (t : TypeId) (cs : Array Value) (fr : Nat × Nat) (d : TypeDesc)
    (hp : tmps.getD p undef = .pointer (some ⟨g, 0, none⟩)) (hg : w.heap[g]? = some (.cells cs t fr))
    (hu : P.underlying ty = some d) (hd : (match d with | .struct _ | .array _ _ => true | _ => false) = true) (hi : (P.info? ty).map (·.size) = some cs.size) :
    (results fn tmps).run P w = .ok (.tuple #[.agg cs, tmps.getD u undef]) w := by
  rw [results_cell_tmp h, hp]
  simp [asAddr, Result.andThen, run_loadVar_row w g t ty cs fr d hg hu hd hi]

theorem prs_no {S : ByteArray} (h : has 64 S = false) : prsE S = 51 ∧ prsA S = ByteArray.empty ∧ prsB S = ByteArray.empty ∧ prsC S = ByteArray.empty := by
  have e : prsE S = 51 := by rw [prsE, h]; rfl
  exact ⟨e, by rw [prsA, e, if_neg (by decide)], by rw [prsB, e, if_neg (by decide)], by rw [prsC, e, if_neg (by decide)]⟩
theorem prs_no2 {S : ByteArray} (h : has 64 S = true) (h2 : has 35 (hd 64 S) = false) : prsE S = 51 ∧ prsA S = ByteArray.empty ∧ prsB S = ByteArray.empty ∧ prsC S = ByteArray.empty := by
  have e : prsE S = 51 := by rw [prsE, h, h2]; rfl
  exact ⟨e, by rw [prsA, e, if_neg (by decide)], by rw [prsB, e, if_neg (by decide)], by rw [prsC, e, if_neg (by decide)]⟩
theorem prs_bad {S : ByteArray} (h : has 64 S = true) (h2 : has 35 (hd 64 S) = true) (h3 : tupE (hd 35 (hd 64 S)) (tl 35 (hd 64 S)) (tl 64 S) ≠ 0) :
    prsE S = tupE (hd 35 (hd 64 S)) (tl 35 (hd 64 S)) (tl 64 S) ∧ prsA S = ByteArray.empty ∧ prsB S = ByteArray.empty ∧ prsC S = ByteArray.empty := by
  have e : prsE S = tupE (hd 35 (hd 64 S)) (tl 35 (hd 64 S)) (tl 64 S) := by rw [prsE, h, h2, Bool.and_self, if_pos rfl]
  exact ⟨e, by rw [prsA, e, if_neg h3], by rw [prsB, e, if_neg h3], by rw [prsC, e, if_neg h3]⟩
theorem prs_good {S : ByteArray} (h : has 64 S = true) (h2 : has 35 (hd 64 S) = true) (h3 : tupE (hd 35 (hd 64 S)) (tl 35 (hd 64 S)) (tl 64 S) = 0) :
    prsE S = 0 ∧ prsA S = hd 35 (hd 64 S) ∧ prsB S = tl 35 (hd 64 S) ∧ prsC S = tl 64 S := by
  have e : prsE S = 0 := by rw [prsE, h, h2, h3, Bool.and_self, if_pos rfl]
  exact ⟨e, by rw [prsA, e, if_pos rfl], by rw [prsB, e, if_pos rfl], by rw [prsC, e, if_pos rfl]⟩

abbrev NoTup : Value := .agg #[.string ByteArray.empty, .string ByteArray.empty, .string ByteArray.empty]

theorem tupsE_one (t : Tp) : tupsE [t] = t.e := by
  unfold tupsE
  by_cases h : t.e = 0
  · rw [if_pos h, h]; rfl
  · rw [if_neg h]
theorem tups_one (w : World) (a b c : ByteArray) (fr : Nat × Nat) (ha : a.size ≤ 1000000000000000000) (hb : b.size ≤ 1000000000000000000) (hc : c.size ≤ 1000000000000000000) (t : TypeId) :
    TupsAt (w.alloc (.cells #[.string a, .string b, .string c] t fr)) (some ⟨w.heap.size, 0, none⟩) 1 [(a, b, c)] := by
  refine ⟨rfl, ?_, .inr ⟨_, _, rfl, by simp, ?_⟩⟩
  · intro t ht
    obtain rfl : t = (a, b, c) := by simpa using ht
    exact ⟨ha, hb, hc⟩
  · intro i t ht
    match i, ht with
    | 0, ht =>
      obtain rfl : (a, b, c) = t := by simpa using ht
      exact ⟨by rw [new_cell]; rfl, by rw [new_cell]; rfl, by rw [new_cell]; rfl⟩

theorem below_set {B : Nat} {w w' : World} (h : Below B w w') (g i : Nat) (u : Value) (hg : B ≤ g) : Below B w (w'.setCell ⟨g, i, none⟩ u) :=
  ⟨h.os, h.tape, h.output, by simpa using h.size, fun k hk => (Below.heap_setCell w' ⟨g, i, none⟩ u k (show k ≠ g by omega)).trans (h.block k hk)⟩
theorem three_set {B g : Nat} {w w' : World} (h : Below B w w') (hg : B ≤ g) (x y z : Value) : Below B w (((w'.setCell ⟨g, 0, none⟩ x).setCell ⟨g, 1, none⟩ y).setCell ⟨g, 2, none⟩ z) :=
  below_set (below_set (below_set h g 0 x hg) g 1 y hg) g 2 z hg
theorem three_whole {w : World} {g : Nat} {t : TypeId} {p q r : Value} (h : Whole w g t #[p, q, r]) (x y z : Value) : Whole (((w.setCell ⟨g, 0, none⟩ x).setCell ⟨g, 1, none⟩ y).setCell ⟨g, 2, none⟩ z) g t #[x, y, z] :=
  ((h.store 0 x).store 1 y).store 2 z
theorem Whole.drew {w : World} {g : Nat} {t : TypeId} {cs : Array Value} (h : Whole w g t cs) (n : Nat) : Whole (w.drewN n) g t cs := h

set_option maxRecDepth 100000 in
set_option maxHeartbeats 4000000 in
theorem parse_any (S : ByteArray) (w : World) (hS : S.size ≤ 1000000000000000000) :
    Calls Try.prog 8 #[.string S] w fun e w' => e = .returned (.tuple #[TupV (prsA S) (prsB S) (prsC S), .int .i64 (prsE S)]) ∧ Below w.heap.size w w' := by
  have hs1 := hd_size 64 S
  have hs2 := tl_size 64 S
  have hs3 := hd_size 35 (hd 64 S)
  have hs4 := tl_size 35 (hd 64 S)
  have HC := Lib.hid (fun w => cut_any S 64 w (by omega))
  have HC2 := Lib.hid (fun w => cut_any (hd 64 S) 35 w (by omega))
  have HK := Lib.hid (fun w a => check_any a 1 1 [(hd 35 (hd 64 S), tl 35 (hd 64 S), tl 64 S)] w)
  have HT := Lib.hid (fun w fr t => tups_one w (hd 35 (hd 64 S)) (tl 35 (hd 64 S)) (tl 64 S) fr (by omega) (by omega) (by omega) t)
  have H1 := Lib.hid (@prs_no S)
  have H2 := Lib.hid (@prs_no2 S)
  have H3 := Lib.hid (@prs_bad S)
  have H4 := Lib.hid (@prs_good S)
  rw [tupsE_one] at HK
  unfold Tp.e at HK
  simp only at HK
  clear hs1 hs2 hs3 hs4
  generalize prsA S = pa at *
  generalize prsB S = pb at *
  generalize prsC S = pc at *
  generalize prsE S = pe at *
  generalize tupE (hd 35 (hd 64 S)) (tl 35 (hd 64 S)) (tl 64 S) = te at *
  generalize hd 35 (hd 64 S) = a at *
  generalize tl 35 (hd 64 S) = b at *
  generalize has 35 (hd 64 S) = h2 at *
  generalize hd 64 S = h0 at *
  generalize tl 64 S = c at *
  generalize has 64 S = h1 at *
  have hw0 : Whole (w.alloc (.cells #[.string ByteArray.empty, .string ByteArray.empty, .string ByteArray.empty] 23)) w.heap.size 23 #[.string ByteArray.empty, .string ByteArray.empty, .string ByteArray.empty] := heap_alloc_new w _
  have HW := Lib.hid hw0
  clear hw0
  go_enter Try.func8, Try.ntmps8
  go_wp2_with fail
  refine (HC.out _).mono ?_
  rintro e w1 ⟨rfl, n, rfl⟩
  cases h1 with
  | false =>
    obtain ⟨rfl, rfl, rfl, rfl⟩ := H1.out (by simp)
    go_wp2
    exact ⟨rfl, _, results_row_tmp rfl _ _ w.heap.size _ _ _ _ rfl (three_whole (HW.out.drew n) _ _ _) Try.underlying23 rfl (by kernel_rfl), rfl, three_set (below_box _ _ _) (Nat.le_refl _) _ _ _⟩
  | true =>
    go_wp2_with fail
    refine (HC2.out _).mono ?_
    rintro e w2 ⟨rfl, m, rfl⟩
    cases h2 with
    | false =>
      obtain ⟨rfl, rfl, rfl, rfl⟩ := H2.out (by simp) (by simp)
      go_wp2
      exact ⟨rfl, _, results_row_tmp rfl _ _ w.heap.size _ _ _ _ rfl (three_whole (HW.out.drew (n + m)) _ _ _) Try.underlying23 rfl (by kernel_rfl), rfl, three_set (below_box _ _ _) (Nat.le_refl _) _ _ _⟩
    | true =>
      go_wp2_with fail
      have ht := HT.out (((w.alloc (.cells #[.string ByteArray.empty, .string ByteArray.empty, .string ByteArray.empty] 23)).drewN (n + m)).alloc (.cells #[.string a, .string b, .string c] 23)) (0, 0) 23
      have e1 : (((w.alloc (.cells #[.string ByteArray.empty, .string ByteArray.empty, .string ByteArray.empty] 23)).drewN (n + m)).alloc (.cells #[.string a, .string b, .string c] 23)).heap.size = w.heap.size + 1 + 1 := by simp
      rw [e1] at ht
      refine (HK.out _ _ ht (by omega)).mono ?_
      clear ht
      rintro e w3 ⟨rfl, hb3⟩
      have hw3 : Whole w3 w.heap.size 23 #[.string ByteArray.empty, .string ByteArray.empty, .string ByteArray.empty] := by
        refine Whole.kept (w := ((w.alloc (.cells #[.string ByteArray.empty, .string ByteArray.empty, .string ByteArray.empty] 23)).drewN (n + m))) (HW.out.drew (n + m)) ?_
        rw [hb3.block _ (by simp; omega), Below.heap_alloc _ _ _ (by simp; omega), Below.heap_alloc _ _ _ (by simp)]
      have hbb : Below w.heap.size w w3 := ((((below_box w _ (n + m)).trans ((below_alloc _ _).mono (by simp))).trans ((below_alloc _ _).mono (by simp; omega)))).trans (hb3.mono (by simp; omega))
      have hw4 : Whole w3 (w.heap.size + 1) 23 #[.string a, .string b, .string c] := by
        have e : ((w.alloc (.cells #[.string ByteArray.empty, .string ByteArray.empty, .string ByteArray.empty] 23)).drewN (n + m)).heap.size = w.heap.size + 1 := by simp
        have h4 : Whole (((w.alloc (.cells #[.string ByteArray.empty, .string ByteArray.empty, .string ByteArray.empty] 23)).drewN (n + m)).alloc (.cells #[.string a, .string b, .string c] 23)) (w.heap.size + 1) 23 #[.string a, .string b, .string c] := by
          have := heap_alloc_new ((w.alloc (.cells #[.string ByteArray.empty, .string ByteArray.empty, .string ByteArray.empty] 23)).drewN (n + m)) (.cells #[.string a, .string b, .string c] 23)
          rwa [e] at this
        refine h4.kept ?_
        rw [hb3.block _ (by simp), Below.heap_alloc _ _ _ (by simp)]
      have z0 := hw3.free 0
      have z1 := hw3.free 1
      have z2 := hw3.free 2
      have y0 : w3.cell? ⟨w.heap.size, 0, none⟩ = some (.string ByteArray.empty) := by rw [hw3.cell]; rfl
      have y1 : w3.cell? ⟨w.heap.size, 1, none⟩ = some (.string ByteArray.empty) := by rw [hw3.cell]; rfl
      have y2 : w3.cell? ⟨w.heap.size, 2, none⟩ = some (.string ByteArray.empty) := by rw [hw3.cell]; rfl
      have x0 : w3.cell? ⟨w.heap.size + 1, 0, none⟩ = some (.string a) := by rw [hw4.cell]; rfl
      have x1 : w3.cell? ⟨w.heap.size + 1, 1, none⟩ = some (.string b) := by rw [hw4.cell]; rfl
      have x2 : w3.cell? ⟨w.heap.size + 1, 2, none⟩ = some (.string c) := by rw [hw4.cell]; rfl
      have HW3 := Lib.hid hw3
      have HBB := Lib.hid hbb
      clear hb3 hw3 hw4 hbb
      by_cases hz : te = 0
      · obtain ⟨rfl, rfl, rfl, rfl⟩ := H4.out (by simp) (by simp) hz
        subst hz
        go_wp2
        exact ⟨rfl, _, results_row_tmp rfl _ _ w.heap.size _ _ _ _ rfl (three_whole HW3.out _ _ _) Try.underlying23 rfl (by kernel_rfl), rfl, three_set HBB.out (Nat.le_refl _) _ _ _⟩
      · obtain ⟨rfl, rfl, rfl, rfl⟩ := H3.out (by simp) (by simp) hz
        go_wp2
        exact ⟨rfl, _, results_row_tmp rfl _ _ w.heap.size _ _ _ _ rfl (three_whole HW3.out _ _ _) Try.underlying23 rfl (by kernel_rfl), rfl, three_set HBB.out (Nat.le_refl _) _ _ _⟩
end Go.Proofs.Ytfomhbaebgcleaa
