/- An entry's spans that are over: the first of them. slices.DeleteFunc over spans. slices.DeleteFunc over spans: what is over is gone. An entry's collect. The removes and forget, amid a range over the entries. An entry's collect, and what it leaves of the map of the entries. Collect. Two stores with watermarks; who had a relation, collected or not. -/
import Derived.Test.YtmjdngomjjhhiaaGreatEw
import Derived.Test.YtmjdngomjjhhiaaGreatNLie
import Derived.Laws.CopyRow
import Derived.Maps.RangeWalk
namespace Go.Proofs.YtmjdngomjjhhiaaGreat
open Go.RowKit

/-- The function that asks of a span whether it is over. -/
def ovF (tb : Nat) : Value := .func (.func 73) #[] #[.pointer (some ⟨tb, 0, none⟩)]
set_option maxRecDepth 100000 in
set_option maxHeartbeats 1000000 in
theorem isover_any {tb : Nat} {rev : Int} (x : Sp) (w : World) (h : Whole w tb 2 #[.int .i64 rev]) :
    Calls Tryz.prog 73 #[.agg #[.int .i64 x.s, .int .i64 x.u], .pointer (some ⟨tb, 0, none⟩)] w fun e w' => e = .returned (.bool (x.over rev)) ∧ Below w.heap.size w w' := by
  obtain ⟨w0, hw0⟩ : ∃ w0, w0 = w.alloc (.cells #[.int .i64 x.s, .int .i64 x.u] 90) := ⟨_, rfl⟩
  have hb0 : Below w.heap.size w w0 := by rw [hw0]; exact below_alloc _ _
  have hx0 : Whole w0 w.heap.size 90 #[.int .i64 x.s, .int .i64 x.u] := by rw [hw0]; exact heap_alloc_new _ _
  have a0 : w0.cell? ⟨w.heap.size, 0, none⟩ = some (.int .i64 x.s) := by rw [hx0.cell]; rfl
  have a1 : w0.cell? ⟨w.heap.size, 1, none⟩ = some (.int .i64 x.u) := by rw [hx0.cell]; rfl
  have c0 : w0.cell? ⟨tb, 0, none⟩ = some (.int .i64 rev) := by rw [(h.kept (hb0.block _ h.lt)).cell]; rfl
  have HB := Lib.hid hb0
  have HO := Lib.hid (over_any x rev w0)
  clear h hb0 hx0
  go_enter Tryz.func73, Tryz.ntmps73
  go_upto_region 1 with fail
  rw [← hw0]
  clear hw0
  go_wp2_with fail
  refine HO.out.mono ?_
  rintro _ w1 ⟨rfl, hb1⟩
  have HB1 := Lib.hid (bell_up HB.out hb1)
  clear hb1 HO
  go_wp2
  go_ret
  exact ⟨rfl, HB1.out⟩
theorem not_more {xs : List Sp} {i : Nat} {p : Sp} {rev : Int} (h : ∀ q ∈ xs.take i, q.over rev = false) (hp : xs[i]? = some p) (hx : p.over rev = false) : ∀ q ∈ xs.take (i + 1), q.over rev = false := by
  rw [List.take_add_one, hp]
  intro q hq
  rw [List.mem_append] at hq
  rcases hq with hq | hq
  · exact h q hq
  · simp at hq
    subst hq
    exact hx
/-- Where the first span that is over stands. -/
def FirstO (xs : List Sp) (rev k : Int) : Prop := (∃ (i : Nat) (p : Sp), k = (i : Int) ∧ xs[i]? = some p ∧ p.over rev = true ∧ ∀ q ∈ xs.take i, q.over rev = false) ∨ (k = -1 ∧ ∀ q ∈ xs, q.over rev = false)
set_option maxRecDepth 100000 in
set_option maxHeartbeats 4000000 in
theorem indexO_any {B n c tb : Nat} {a : Option Addr} {rev : Int} {xs : List Sp} (w : World) (h : Spans w B a n c xs) (hn : n ≤ 1099511627776) (htb : Whole w tb 2 #[.int .i64 rev]) :
    Calls Tryz.prog 111 #[.slice a n c, ovF tb] w fun e w' => (∃ k : Int, e = .returned (.int .i64 k) ∧ FirstO xs rev k) ∧ Below w.heap.size w w' := by
  have HP := Lib.hid h
  have HT := Lib.hid htb
  have hl : xs.length = n := h.len
  clear h htb
  unfold ovF
  go_enter Tryz.func111, Tryz.ntmps111
  go_wp2
  go_loopw [8] (fun iv wr => ∃ i : Nat, i ≤ n ∧ iv = .int .i64 i ∧ (∀ q ∈ xs.take i, q.over rev = false) ∧ Below w.heap.size w wr) (fun iv _ => n - (intOf iv).toNat)
  case atStart => exact ⟨0, by omega, rfl, by simp, Below.refl _ _⟩
  case round =>
    obtain ⟨i, hin, rfl, hnot, hb⟩ := hrel
    by_cases hil : i < n
    · obtain ⟨p, hp⟩ : ∃ p, xs[i]? = some p := ⟨_, List.getElem?_eq_getElem (by rw [hl]; exact hil)⟩
      obtain ⟨b, off, rfl, hbl, e0, e1⟩ := HP.out.cells hp
      have d0 := (hb.cell (p := ⟨b, off + i * 2, none⟩) hbl).trans e0
      have d1 := (hb.cell (p := ⟨b, off + i * 2 + 1, none⟩) hbl).trans e1
      have HC := Lib.hid (isover_any p wr (HT.out.kept (hb.block _ HT.out.lt)))
      have HB := Lib.hid hb
      have HNOT := Lib.hid hnot
      have HPI := Lib.hid hp
      have hil2 : (i : Int) < (n : Int) := by omega
      clear e0 e1 hb hnot hp
      go_wp2_with fail
      refine HC.out.mono ?_
      rintro e w1 ⟨rfl, hb1⟩
      have HB1 := Lib.hid (bell_up HB.out hb1)
      clear hb1
      generalize hov : p.over rev = ov at *
      have HOV := Lib.hid hov
      clear hov
      cases ov with
      | true =>
        go_wp2
        go_ret
        exact ⟨⟨_, rfl, .inl ⟨i, p, rfl, HPI.out, HOV.out, HNOT.out⟩⟩, HB1.out⟩
      | false =>
        go_wp2
        go_roundw
        case rel => exact ⟨i + 1, by omega, by go_num, not_more HNOT.out HPI.out HOV.out, HB1.out⟩
        case measure => simp [intOf]; omega
    · obtain rfl : i = n := by omega
      rw [List.take_of_length_le (by rw [hl]; exact Nat.le_refl _)] at hnot
      have HN := Lib.hid hnot
      have HB := Lib.hid hb
      clear hnot hb
      go_wp2
      go_ret
      exact ⟨⟨_, rfl, .inr ⟨rfl, HN.out⟩⟩, HB.out⟩
end Go.Proofs.YtmjdngomjjhhiaaGreat

namespace Go.Proofs.YtmjdngomjjhhiaaGreat
open Go.RowKit

theorem zero_one (n : Nat) : ∀ u ∈ (Builtin.zeroCells #[.int .i64 0, .int .i64 0] n).toList, u.oneCell' = true := by
  intro u hu
  simp only [Builtin.zeroCells, Array.toList_map, List.mem_map] at hu
  obtain ⟨i, _, rfl⟩ := hu
  have h3 : i % 2 < 2 := Nat.mod_lt _ (by decide)
  simp only [List.size_toArray, List.length_cons, List.length_nil, Nat.zero_add, Nat.reduceAdd]
  generalize i % 2 = j at *
  match j, h3 with
  | 0, _ => rfl
  | 1, _ => rfl
theorem run_clear_row (w : World) (ty : TypeId) {q o n c : Nat} {cur : Array Value} (hW : Whole w q 90 cur) (h : o + n * 2 ≤ cur.size) :
    ∃ cur', (Builtin.clear_ #[84] ty #[.slice (some ⟨q, o, none⟩) n c]).run Tryz.prog w = .ok (.tuple #[]) (w.setRow q cur') ∧ cur'.size = cur.size ∧ ∀ m, m ≤ o → cur'.toList.take m = cur.toList.take m := by
  have hsz : (Builtin.zeroCells #[.int .i64 0, .int .i64 0] n).toList.length = n * 2 := by
    rw [Array.length_toList, size_zeroCells]; rfl
  cases n with
  | zero =>
    refine ⟨cur, ?_, rfl, fun _ _ => rfl⟩
    rw [setRow_self w q cur _ (0, 0) hW]
    simp [Builtin.clear_, run_underlying Tryz.underlying84]
  | succ k =>
    have hst := run_storeCells_at Tryz.prog q o 90 (Builtin.zeroCells #[.int .i64 0, .int .i64 0] (k + 1)).toList 0 cur w hW (by rw [hsz]; simpa using h) (zero_one _)
    simp only [Nat.add_zero] at hst
    refine ⟨(cur.toList.take o ++ (Builtin.zeroCells #[.int .i64 0, .int .i64 0] (k + 1)).toList ++ cur.toList.drop (o + (Builtin.zeroCells #[.int .i64 0, .int .i64 0] (k + 1)).toList.length)).toArray, ?_, ?_, ?_⟩
    · simp [Builtin.clear_, run_underlying Tryz.underlying84, Value.cells, hst]
    · simp only [List.size_toArray, List.length_append, List.length_take, List.length_drop, Array.length_toList, hsz]
      omega
    · intro m hm
      simp only [List.append_assoc]
      rw [List.take_append_of_le_length (by rw [List.length_take, Array.length_toList]; omega), List.take_take, Nat.min_eq_left hm]
theorem spc_set (L : List Sp) (p : Sp) : ∀ i, i < L.length → ((spc L).set (i * 2) (.int .i64 p.s)).set (i * 2 + 1) (.int .i64 p.u) = spc (L.set i p) := by
  induction L with
  | nil => intro i hi; simp at hi
  | cons x L ih =>
    intro i hi
    cases i with
    | zero => rfl
    | succ i =>
      have h := ih i (by simpa using hi)
      rw [show (i + 1) * 2 = i * 2 + 1 + 1 by omega]
      show ((Value.int .i64 x.s :: .int .i64 x.u :: spc L).set (i * 2 + 1 + 1) _).set (i * 2 + 1 + 1 + 1) _ = _
      rw [show i * 2 + 1 + 1 + 1 = (i * 2 + 1) + 1 + 1 by omega]
      simp only [List.set_cons_succ]
      rw [h]
      rfl
/-- A row of spans in its block. -/
structure SRow (w : World) (q n c : Nat) (L : List Sp) : Prop where
  ex : ∃ cur, Whole w q 90 cur ∧ cur.size = c * 2 ∧ cur.toList.take (n * 2) = spc L
  len : L.length = n
  room : n ≤ c
  big : c ≤ maxLen
section
variable {w w' : World} {q n c : Nat} {L : List Sp}
theorem SRow.lt (h : SRow w q n c L) : q < w.heap.size := by
  obtain ⟨cur, hW, _⟩ := h.ex
  exact hW.lt
theorem SRow.keep (h : SRow w q n c L) (hb : w'.heap[q]? = w.heap[q]?) : SRow w' q n c L := by
  obtain ⟨cur, hW, r⟩ := h.ex
  exact ⟨⟨cur, hW.kept hb, r⟩, h.len, h.room, h.big⟩
theorem SRow.cells {i : Nat} {p : Sp} (h : SRow w q n c L) (hp : L[i]? = some p) : (w.cell? ⟨q, i * 2, none⟩ = some (.int .i64 p.s) ∧ w.cell? ⟨q, i * 2 + 1, none⟩ = some (.int .i64 p.u)) ∧ (w.frozen? ⟨q, i * 2, none⟩ = false ∧ w.frozen? ⟨q, i * 2 + 1, none⟩ = false) := by
  obtain ⟨cur, hW, _, ht⟩ := h.ex
  obtain ⟨e0, e1⟩ := spc_at hp
  have key : ∀ j u, (spc L)[j]? = some u → w.cell? ⟨q, j, none⟩ = some u := by
    intro j u hu
    rw [hW.cell]
    rw [← ht, List.getElem?_take] at hu
    split at hu
    · simpa using hu
    · cases hu
  exact ⟨⟨key _ _ e0, key _ _ e1⟩, hW.free _, hW.free _⟩
theorem SRow.store {i : Nat} (h : SRow w q n c L) (hi : i < n) (p : Sp) : SRow ((w.setCell ⟨q, i * 2, none⟩ (.int .i64 p.s)).setCell ⟨q, i * 2 + 1, none⟩ (.int .i64 p.u)) q n c (L.set i p) := by
  obtain ⟨cur, hW, hs, ht⟩ := h.ex
  refine ⟨⟨_, (hW.store (i * 2) (.int .i64 p.s)).store (i * 2 + 1) (.int .i64 p.u), by simpa using hs, ?_⟩, by rw [List.length_set]; exact h.len, h.room, h.big⟩
  rw [Array.toList_setIfInBounds, Array.toList_setIfInBounds, List.take_set, List.take_set, ht]
  exact spc_set L p i (by rw [h.len]; exact hi)
theorem owned_srow {B : Nat} {a : Option Addr} (h : w.ownsRow B 90 2 (.slice a n c) n (spc L)) (hn : 0 < n) : ∃ q, a = some ⟨q, 0, none⟩ ∧ B ≤ q ∧ SRow w q n c L := by
  have hl : L.length = n := by have := h.1; rw [spc_length] at this; omega
  obtain ⟨_, ⟨_, h0⟩ | ⟨g, k, cur, hv, hg, hW, hk, hkm, hs, ht⟩⟩ := h
  · omega
  · injection hv with e1 e2 e3
    subst e1 e3
    exact ⟨g, rfl, hg, ⟨cur, hW, hs, ht⟩, hl, hk, hkm⟩
end
/-- What is left. -/
theorem collect_snoc {xs : List Sp} {rev : Int} {j : Nat} {p : Sp} (hp : xs[j]? = some p) : collectB (xs.take (j + 1)) rev = collectB (xs.take j) rev ++ (if p.over rev = true then [] else [p]) := by
  rw [List.take_add_one, hp]
  unfold collectB
  rw [List.filter_append]
  by_cases h : p.over rev = true <;> simp [h]
theorem collect_none {xs : List Sp} {rev : Int} (h : ∀ q ∈ xs, q.over rev = false) : collectB xs rev = xs := by
  unfold collectB
  rw [List.filter_eq_self]
  intro q hq
  simpa using h q hq
theorem set_last (l : List Sp) (x p : Sp) (i : Nat) (h : l.length = i) : (l ++ [x]).set i p = l ++ [p] := by
  subst h
  induction l with
  | nil => rfl
  | cons y l ih => simp only [List.cons_append, List.length_cons, List.set_cons_succ, ih]
/-- In the midst of it: i are kept of the first j. -/
structure Mid (w wr : World) (q n c : Nat) (xs : List Sp) (rev : Int) (i j : Nat) : Prop where
  ex : ∃ L, SRow wr q n c L ∧ L.take i = collectB (xs.take j) rev ∧ L.drop j = xs.drop j
  lt : i < j
  le : j ≤ n
  chg : Chg w wr (fun k => k = q)
theorem Mid.same {w wr w' : World} {q n c : Nat} {xs : List Sp} {rev : Int} {i j : Nat} (h : Mid w wr q n c xs rev i j) (hb : Below wr.heap.size wr w') {p : Sp} (hp : xs[j]? = some p) (hx : p.over rev = true) (hj : j < n) : Mid w w' q n c xs rev i (j + 1) := by
  obtain ⟨L, hR, h1, h2⟩ := h.ex
  refine ⟨⟨L, hR.keep (hb.block _ hR.lt), ?_, ?_⟩, Nat.lt_succ_of_lt h.lt, hj, h.chg.trans (Chg.ofBelow _ hb) (fun _ _ e => e)⟩
  · rw [collect_snoc hp, if_pos hx, List.append_nil]; exact h1
  · rw [← List.drop_drop, h2, List.drop_drop]
theorem Mid.more {w wr w' w3 : World} {q n c : Nat} {xs : List Sp} {rev : Int} {i j : Nat} (h : Mid w wr q n c xs rev i j) (hb : Below wr.heap.size wr w') {p : Sp} (hp : xs[j]? = some p) (hx : p.over rev = false) (hj : j < n)
    (hw : w3 = (w'.setCell ⟨q, i * 2, none⟩ (.int .i64 p.s)).setCell ⟨q, i * 2 + 1, none⟩ (.int .i64 p.u)) : Mid w w3 q n c xs rev (i + 1) (j + 1) := by
  subst hw
  obtain ⟨L, hR, h1, h2⟩ := h.ex
  have hlt := h.lt
  have hi : i < L.length := by rw [hR.len]; omega
  refine ⟨⟨L.set i p, (hR.keep (hb.block _ hR.lt)).store (by omega) p, ?_, ?_⟩, by omega, hj, ((h.chg.trans (Chg.ofBelow _ hb) (fun _ _ e => e)).set (b := q) rfl _ _).set (b := q) rfl _ _⟩
  · rw [collect_snoc hp, if_neg (by rw [hx]; decide), ← h1, List.take_set, List.take_add_one, List.getElem?_eq_getElem hi, Option.toList_some, set_last _ _ _ _ (by rw [List.length_take]; omega)]
  · rw [List.drop_set_of_lt (by omega), ← List.drop_drop, h2, List.drop_drop]
end Go.Proofs.YtmjdngomjjhhiaaGreat

namespace Go.Proofs.YtmjdngomjjhhiaaGreat
open Go.RowKit

theorem chg_row {w w' : World} {q : Nat} {cur' : Array Value} (h : Chg w w' (fun k => k = q)) : Chg w (w'.setRow q cur') (fun k => k = q) :=
  h.trans ⟨rfl, rfl, rfl, by simp [World.setRow], fun k _ hn => setRow_other w' q k _ hn⟩ (fun _ _ e => e)
set_option maxRecDepth 100000 in
set_option maxHeartbeats 8000000 in
theorem delO_any {B n tb : Nat} {v : Value} {rev : Int} {xs : List Sp} (w : World) (h : w.ownsRow B 90 2 v n (spc xs)) (hn : n ≤ 1099511627776) (htb : Whole w tb 2 #[.int .i64 rev]) :
    Calls Tryz.prog 72 #[v, ovF tb] w fun e w' => ∃ v', e = .returned v' ∧ w'.ownsRow B 90 2 v' (collectB xs rev).length (spc (collectB xs rev)) ∧ v'.ownBlock = v.ownBlock ∧ Chg w w' (fun k => v.ownBlock = some k) := by
  obtain ⟨a, c, rfl, hL⟩ := Spans.owned h
  have hl : xs.length = n := hL.len
  have HI := Lib.hid (indexO_any w hL hn htb)
  have HR := Lib.hid h
  have HT := Lib.hid htb
  clear h hL htb
  unfold ovF at *
  go_enter Tryz.func72, Tryz.ntmps72
  go_wp2_with fail
  refine HI.out.mono ?_
  rintro e w1 ⟨⟨k, rfl, hk⟩, hb1⟩
  have HB1 := Lib.hid hb1
  clear hb1 HI
  rcases hk with ⟨i, p, rfl, hp, hpx, hnot⟩ | ⟨rfl, hnot⟩
  · have hin : i < n := by
      rcases Nat.lt_or_ge i n with hlt | hge
      · exact hlt
      · rw [List.getElem?_eq_none (by omega)] at hp; cases hp
    obtain ⟨q, rfl, hBq, hRow⟩ := owned_srow HR.out (by omega)
    have hMid : Mid w w1 q n c xs rev i (i + 1) := ⟨⟨xs, hRow.keep (HB1.out.block _ hRow.lt), by
      rw [collect_snoc hp, if_pos hpx, List.append_nil, collect_none hnot], rfl⟩, by omega, hin, Chg.ofBelow _ HB1.out⟩
    have HM := Lib.hid hMid
    have hqt : tb ≠ q := by
      obtain ⟨cur, hW, _⟩ := hRow.ex
      exact whole_ne HT.out hW (by decide)
    have hqlt := hRow.lt
    have hcn := hRow.room
    have hne : ((i : Int) == -1) = false := by rw [beq_eq_false_iff_ne]; omega
    clear hp hpx hnot hRow hMid
    go_wp2
    go_loopw [5, 6] (fun iv jv wr => ∃ i j : Nat, iv = .int .i64 i ∧ jv = .int .i64 j ∧ Mid w wr q n c xs rev i j) (fun _ jv _ => n - (intOf jv).toNat)
    case atStart => exact ⟨i, i + 1, by go_num, by go_num, HM.out⟩
    case round =>
      clear HM hin hne
      obtain ⟨i, j, rfl, rfl, hM⟩ := hrel
      have hij := hM.lt
      by_cases hjn : j < n
      · obtain ⟨p, hp⟩ : ∃ p, xs[j]? = some p := ⟨_, List.getElem?_eq_getElem (by rw [hl]; exact hjn)⟩
        obtain ⟨L, hR, h1, h2⟩ := hM.ex
        have hpL : L[j]? = some p := by
          have e : (L.drop j)[0]? = (xs.drop j)[0]? := by rw [h2]
          rw [List.getElem?_drop, List.getElem?_drop] at e
          simpa [hp] using e
        obtain ⟨⟨d0, d1⟩, f0, f1⟩ := hR.cells hpL
        obtain ⟨pi, hpi⟩ : ∃ pi, L[i]? = some pi := ⟨_, List.getElem?_eq_getElem (by rw [hR.len]; omega)⟩
        have HM := Lib.hid hM
        have HP := Lib.hid hp
        have hqr := hR.lt
        have hbA := below_alloc wr (.cells #[.int .i64 p.s, .int .i64 p.u] 90)
        have htr : Whole wr tb 2 #[.int .i64 rev] := (HT.out.kept (hM.chg.block _ HT.out.lt hqt))
        have hxA : Whole (wr.alloc (.cells #[.int .i64 p.s, .int .i64 p.u] 90)) wr.heap.size 90 #[.int .i64 p.s, .int .i64 p.u] := heap_alloc_new _ _
        have HXA := Lib.hid hxA
        have HBA := Lib.hid hbA
        have HC := Lib.hid (isover_any p _ (htr.kept (hbA.block _ htr.lt)))
        have HR2 := Lib.hid (fun (w2 : World) (hb : Below wr.heap.size wr w2) => (hR.keep (hb.block _ hR.lt)).cells hpi)
        clear hM hp hR h1 h2 hpL hpi hbA htr hxA
        go_wp2_with fail
        refine HC.out.mono ?_
        rintro e w2 ⟨rfl, hb2⟩
        have hB2 : Below wr.heap.size wr w2 := HBA.out.trans (hb2.mono HBA.out.size)
        have HB2 := Lib.hid hB2
        have hx2 := HXA.out.kept (hb2.block _ HXA.out.lt)
        have b0 : w2.cell? ⟨wr.heap.size, 0, none⟩ = some (.int .i64 p.s) := by rw [hx2.cell]; rfl
        have b1 : w2.cell? ⟨wr.heap.size, 1, none⟩ = some (.int .i64 p.u) := by rw [hx2.cell]; rfl
        obtain ⟨⟨s0, s1⟩, g0, g1⟩ := HR2.out w2 hB2
        have hqw : q < w2.heap.size := by have := hB2.size; omega
        have hne : q ≠ wr.heap.size := by omega
        clear hb2 hB2 hx2 HXA HBA HC HR2
        generalize hov : p.over rev = ov at *
        have HOV := Lib.hid hov
        clear hov
        cases ov with
        | true =>
          have HM2 := Lib.hid (HM.out.same HB2.out HP.out HOV.out hjn)
          go_wp2
          go_roundw
          case rel => exact ⟨i, j + 1, by go_num, by go_num, HM2.out⟩
          case measure => simp [intOf]; omega
        | false =>
          have HM2 := Lib.hid (HM.out.more HB2.out HP.out HOV.out hjn rfl)
          go_wp2
          go_roundw
          case rel => exact ⟨i + 1, j + 1, by go_num, by go_num, HM2.out⟩
          case measure => simp [intOf]; omega
      · obtain ⟨L, hR, h1, h2⟩ := hM.ex
        have hjj := hM.le
        obtain rfl : j = n := by omega
        obtain ⟨cur, hW, hs, ht⟩ := hR.ex
        have hcm := hR.big
        rw [show xs.take j = xs from List.take_of_length_le (by omega)] at h1
        have hst : ∀ w : World, (Instr.slice 84 (.slice (some ⟨q, 0, none⟩) j c) (some (.int .i64 (i : Int))) none none).run Tryz.prog w = .ok (.slice (some ⟨q, i * 2, none⟩) (j - i) (c - i)) w := fun w => by
          have := slice_tailK (k := 2) Tryz.underlying84 rfl (some ⟨q, 0, none⟩) j c i (by omega) w (by kernel_rfl)
          rw [this, tailK, if_neg (by omega)]
          simp [add_plain]
        have hsh : ∀ w : World, (Instr.slice 84 (.slice (some ⟨q, 0, none⟩) j c) none (some (.int .i64 (i : Int))) none).run Tryz.prog w = .ok (.slice (some ⟨q, 0, none⟩) i c) w := fun w =>
          slice_headK (k := 2) Tryz.underlying84 rfl (some ⟨q, 0, none⟩) j c i (by omega) w (by kernel_rfl)
        obtain ⟨cur', hcl, hz, htk⟩ := run_clear_row wr 0 (q := q) (o := i * 2) (n := j - i) (c := c - i) hW (by have := Nat.mul_le_mul_right 2 (show i + (j - i) ≤ c by omega); rw [Nat.add_mul] at this; omega)
        have HCH := Lib.hid (chg_row (cur' := cur') hM.chg)
        have HW' := Lib.hid (setRow_heap wr q cur cur' _ _ hW)
        have hol : (collectB xs rev).length = i := by rw [← h1, List.length_take, hR.len]; omega
        have HF := Lib.hid (show (wr.setRow q cur').ownsRow B 90 2 (.slice (some ⟨q, 0, none⟩) i c) (collectB xs rev).length (spc (collectB xs rev)) from ⟨by rw [spc_length], .inr ⟨q, c, cur', by rw [hol], hBq, HW'.out, by rw [hol]; omega, hcm, by omega, by
          rw [hol, htk _ (Nat.le_refl _), ← h1, ← spc_take, ← ht, List.take_take, Nat.min_eq_left (Nat.mul_le_mul_right 2 (by omega))]⟩⟩)
        clear hM hR h1 h2 hW hs ht hcm hz htk hol
        go_wp2
        go_ret
        exact ⟨_, rfl, HF.out, rfl, HCH.out.mono (fun k _ hk => by rw [hk]; rfl)⟩
  · go_wp2
    go_ret
    refine ⟨_, rfl, ?_, rfl, Chg.ofBelow _ HB1.out⟩
    rw [collect_none hnot, hl]
    exact owns_keptN HR.out (fun k hk => HB1.out.block k (HR.out.lt k hk).2)
end Go.Proofs.YtmjdngomjjhhiaaGreat

namespace Go.Proofs.YtmjdngomjjhhiaaGreat
open Go.RowKit

section
variable {w : World} {wm : Int} {K : List Tp} {sp : Tp → List Sp} {H : Gh} {cb : Nat} {t : Tp}
theorem collectB_len (l : List Sp) (rev : Int) : (collectB l rev).length ≤ l.length := by
  unfold collectB
  exact List.length_filter_le _ _
set_option maxRecDepth 100000 in
set_option maxHeartbeats 8000000 in
theorem ecollect_any (h : StRaw w wm K sp H cb) (hcb : cb ≤ 1099511627000) (ht : t ∈ K) (rev : Int) :
    Calls Tryz.prog 50 #[ptr (H.ge t), .int .i64 rev] w fun e w' => e = .returned (.tuple #[]) ∧ ∃ H', StRaw w' wm K (updK sp t (collectB (sp t) rev)) H' cb ∧ StC w w' H H' ∧ ∀ y, H'.ge y = H.ge y := by
  obtain ⟨w0, hw0⟩ : ∃ w0, w0 = w.alloc (.cells #[.int .i64 rev] 2) := ⟨_, rfl⟩
  have hb0 : Below w.heap.size w w0 := by rw [hw0]; exact below_alloc _ _
  have hx0 : Whole w0 w.heap.size 2 #[.int .i64 rev] := by rw [hw0]; exact heap_alloc_new _ _
  have h0 := h.below hb0
  obtain ⟨sa, sc, hv, hA⟩ := (h0.ents t ht).at_
  have hbg := h.bigS t
  have HD := Lib.hid (delO_any w0 hA.row (by omega) hx0)
  have d3 : w0.cell? ⟨H.ge t, 3, none⟩ = some (.slice sa (sp t).length sc) := by rw [hA.blk.cell]; rfl
  have HA := Lib.hid hA
  have HV := Lib.hid hv
  have H0 := Lib.hid h0
  have HB := Lib.hid hb0
  have HT := Lib.hid ht
  have HNE := Lib.hid (show (Value.slice sa (sp t).length sc).ownBlock ≠ some (H.ge t) from fun e => by
    obtain ⟨_, cur, hW⟩ := owned_block hA.row e
    exact whole_ne hW hA.blk (by decide) rfl)
  have HBG := Lib.hid hbg
  clear hb0 hx0 h0 hv hA ht
  unfold ovF at HD
  go_enter Tryz.func50, Tryz.ntmps50
  go_upto_region 1 with fail
  rw [← hw0]
  clear hw0
  go_wp2_with fail
  refine HD.out.mono ?_
  rintro _ w1 ⟨v1, rfl, hr1, ho1, hc1⟩
  obtain ⟨a1, c1, rfl, _, _⟩ := owned_anyE hr1
  have hE1 := HA.out.blk.kept (hc1.block _ HA.out.blk.lt HNE.out)
  have e3 : w1.cell? ⟨H.ge t, 3, none⟩ = some (.slice sa (sp t).length sc) := by rw [hE1.cell]; rfl
  have f3 : w1.frozen? ⟨H.ge t, 3, none⟩ = false := hE1.free 3
  have HF := Lib.hid (show ∃ H', StRaw (w1.setCell ⟨H.ge t, 3, none⟩ (.slice a1 (collectB (sp t) rev).length c1)) wm K (updK sp t (collectB (sp t) rev)) H' cb ∧ StC w (w1.setCell ⟨H.ge t, 3, none⟩ (.slice a1 (collectB (sp t) rev).length c1)) H H' ∧ ∀ y, H'.ge y = H.ge y from by
    have hvb : ∀ k, (Value.slice a1 (collectB (sp t) rev).length c1).ownBlock = some k → k ≠ H.ge t := fun k hk e => by
      rw [ho1, e] at hk
      exact HNE.out hk
    obtain ⟨g1, g2⟩ := H0.out.spanned (w' := w1.setCell ⟨H.ge t, 3, none⟩ (.slice a1 (collectB (sp t) rev).length c1)) (t := t) HT.out (l := collectB (sp t) rev) (v := .slice a1 (collectB (sp t) rev).length c1) (cb' := cb) (hE1.store 3 _)
      (owns_keptN hr1 (fun k hk => Below.heap_setCell w1 ⟨H.ge t, 3, none⟩ _ k (hvb k hk)))
      (by
        rw [HV.out]
        exact (hc1.mono (fun k _ e => .inr e)).set (.inl rfl) _ _)
      (fun q hq => .inl (by rw [HV.out, ← ho1]; exact hq)) (Nat.le_trans (collectB_len _ _) HBG.out) (Nat.le_refl _)
    exact ⟨_, g1, (StC.ofBelow H HB.out).trans g2, fun _ => rfl⟩)
  clear hr1 ho1 hc1 hE1 HD
  go_wp2
  exact ⟨rfl, .tuple #[], (by simp [results, Tryz.results50, go_sem]), rfl, HF.out⟩
end
end Go.Proofs.YtmjdngomjjhhiaaGreat

namespace Go.Proofs.YtmjdngomjjhhiaaGreat
open Go.RowKit
open Go.Maps (Keyed)

theorem ranges_heap {w w' : World} {P : Program} {k : TypeId} {R : Value → Option (DataW Value × List MemPlace)} {b r n cnt : Nat} {D : DataW Value} {left : Lit → Bool} (h : w.ranges P k R b r n D left cnt) (hb : w'.heap[b]? = w.heap[b]?) (hr : w'.heap[r]? = w.heap[r]?) : w'.ranges P k R b r n D left cnt := by
  obtain ⟨es, clock, since, seen, c0, h1, F, hs, hD, h2, rest⟩ := h
  exact ⟨es, clock, since, seen, c0, hb.trans h1, F, hs, hD, hr.trans h2, rest⟩
/-- 'delete(m, k)' in a region that draws its order, amid a range over m. -/
theorem step_drop_rg {P : Program} (w : World) {ops : Array Oper} {o : Oper} {a : Act} {K : Act → World → Prop} {Q : Exit → Act → World → Prop} {E : Prop} (hg : o.guard = none) (mm x : Operand) (t k : TypeId) (hop : o.op = Op.call { callee := Callee.builtin Builtin.delete, args := #[mm, x], argTypes := #[t, k] })
    (e : TypeId) (KK : Keyed P k) (ht : P.underlying t = some (.map k e)) (z : Value) (hz : (zeroValue e).run P w = .ok z w) (b N : Nat) (m : Lit → Option Value)
    (hm : a.eval mm = .map (some b)) (hown : MapAt w P k b m N) (r n : Nat) (D : DataW Value) (left : Lit → Bool) (cnt : Nat) (hrg : w.ranges P k heldR b r n D left cnt) (key : Value) (kl : Lit) (hx : a.eval x = key) (hkey : keyOf P k key = some kl)
    (hK : ∀ w' cnt', MapAt w' P k b (mset m kl none) (if (m kl).isSome then N - 1 else N) → w'.ranges P k heldR b r n (D.del kl) (fun z => left z && !z.sameKey kl) cnt' → cnt' ≤ cnt → w.grownBy w' (some b) → w'.heap.size = w.heap.size → K (a.put o.dst (.tuple #[])) w') :
    if Region.wanted o (yielded ops a.tmps) = true then Oper.wp P o a w K Q else E := by
  have hw : Region.wanted o (yielded ops a.tmps) = true := by simp [Region.wanted, hg]
  rw [if_pos hw]
  obtain ⟨w', hrun, r1, r2, r3⟩ := hown.drop KK ht hz hkey o.type
  obtain ⟨w2, cnt', hrun2, q1, q2, _⟩ := hrg.drop KK ht hkey o.type
  rw [hrun] at hrun2
  injection hrun2 with _ hw2
  subst hw2
  unfold Oper.wp
  simp [execOp, resolve, invoke, builtin, hop, hm, hx, hrun, Result.andThen]
  exact hK _ _ r1 q1 q2 r2 r3
section
variable {w : World} {wm : Int} {K : List Tp} {sp : Tp → List Sp} {H : Gh} {cb : Nat} {t : Tp}
theorem grem0_be (h : StGen w wm K (kbut K t) (KR K t 0) sp H cb) (ht : t ∈ K) (hK : K.length ≤ 1099511627776) (hcb : cb < maxLen) :
    Calls Tryz.prog 74 #[.agg #[.int .i64 0, fnV 17, .map (some (H.bi 0))], ptr (H.ge t)] w fun e w' => e = .returned (.tuple #[]) ∧ ∃ H', StGen w' wm K (kbut K t) (KR K t 1) sp H' cb ∧ StC w w' H H' ∧ H'.ge = H.ge ∧ H'.bi = H.bi ∧ H'.be = H.be ∧ H'.me = H.me ∧ w'.heap[H.be]? = w.heap[H.be]? := by
  have hE := h.ents t ht
  obtain ⟨a, c, hv, hA⟩ := hE.at_
  have hI := h.ix 0 (by omega)
  have hKI : KR K t 0 0 = K := if_neg (by omega)
  rw [hKI] at hI
  obtain ⟨N, hN, hM⟩ := hI.map
  have hln : (H.L 0 (kI 0 t)).length ≤ K.length := nd_len (hI.ok.nd _) (fun x hx => ((hI.ok.mem _ x).1 hx).1)
  have hat := hI.ok.at_ t ht
  have hpl := (List.getElem?_eq_some_iff.1 hat).1
  obtain ⟨last, hlast⟩ : ∃ last, (H.L 0 (kI 0 t)).getLast? = some last := by
    cases hg : (H.L 0 (kI 0 t)).getLast? with
    | none => rw [List.getLast?_eq_none_iff.1 hg] at hpl; exact absurd hpl (Nat.not_lt_zero _)
    | some x => exact ⟨x, rfl⟩
  have hlK : last ∈ K := ((hI.ok.mem _ last).1 (List.mem_of_getLast? hlast)).1
  obtain ⟨la, lc, hlv, hLA⟩ := (h.ents last hlK).at_
  have hrow := hI.row (kI 0 t)
  obtain ⟨q, cap, hmv⟩ : ∃ q cap, H.m 0 (kI 0 t) = some (.slice (some ⟨q, 0, none⟩) (H.L 0 (kI 0 t)).length cap) := by
    cases hm : H.m 0 (kI 0 t) with
    | none => rw [(hI.none_ _).1 hm] at hpl; exact absurd hpl (Nat.not_lt_zero _)
    | some v =>
      rw [hm] at hrow
      rcases hrow.2 with ⟨_, h0⟩ | ⟨q, cap, cur, he, _⟩
      · omega
      · exact ⟨q, cap, by rw [← he]; rfl⟩
  have hrow2 : w.ownsRow 0 81 1 (.slice (some ⟨q, 0, none⟩) (H.L 0 (kI 0 t)).length cap) (H.L 0 (kI 0 t)).length ((H.L 0 (kI 0 t)).map fun t => ptr (H.ge t)) := by
    rw [hmv] at hrow; exact hrow
  have hob : ((H.m 0 (kI 0 t)).getD nilS).ownBlock = some q := by rw [hmv]; rfl
  refine (rem0_any (t := t) (tl := last) hE.fit hM (by omega) hA.blk hLA.blk hmv hrow2 (by omega) (by omega) hpl (by
    rw [List.getElem?_map, ← List.getLast?_eq_getElem?, hlast]; rfl) (by rw [List.getElem?_map, hat]; rfl)).mono ?_
  rintro _ w' ⟨rfl, r1, ⟨N', hN', r2⟩, r3, r4⟩
  refine ⟨rfl, ?_⟩
  have hbe : w'.heap[H.be]? = w.heap[H.be]? := r4.block H.be (h.lt _ _ h.em.lab) (fun hk => by
    have x1 : ∀ {q : Nat} {lb : Lb}, H.be = q → H.lab q = some lb → lb = .map 3 := fun e1 e2 => by
      rw [← e1, h.em.lab] at e2
      injection e2 with e2
      exact e2.symm
    rcases hk with h1 | h1 | h1
    · exact absurd (x1 h1 (h.ents last hlK).lab) (by simp)
    · exact absurd (x1 h1 hI.lab) (by simp)
    · exact absurd (x1 h1 (hI.lrow (kI 0 t) q hob)) (by simp))
  have hok := @IxOk.remove Lit litDec (kI 0) K (H.L 0) (H.ps 0) hI.ok t last ht hlast
  rw [swap_map (fun t => ptr (H.ge t)) hlast] at r1
  have hsl := swapOut_length (H.L 0 (kI 0 t)) (H.ps 0 t)
  have ho : (if (H.L 0 (kI 0 t)).length = 1 then (none : Option Value) else some (.slice (some ⟨q, 0, none⟩) ((H.L 0 (kI 0 t)).length - 1) cap)) = none ↔ swapOut (H.L 0 (kI 0 t)) (H.ps 0 t) = [] := by
    by_cases h1 : (H.L 0 (kI 0 t)).length = 1
    · rw [if_pos h1]; exact ⟨fun _ => swapOut_nil h1, fun _ => rfl⟩
    · rw [if_neg h1]
      refine ⟨fun e => (by cases e), fun e => ?_⟩
      rw [e] at hsl
      simp at hsl
      omega
  obtain ⟨g1, g2⟩ := h.index (i := 0) (by omega) (k := kI 0 t) (kI_lit _ _) (l := swapOut (H.L 0 (kI 0 t)) (H.ps 0 t)) (o := if (H.L 0 (kI 0 t)).length = 1 then none else some (.slice (some ⟨q, 0, none⟩) ((H.L 0 (kI 0 t)).length - 1) cap)) (x := last) (n := H.ps 0 t) (cb' := cb) (K' := kbut K t) hlK (Nat.le_refl _)
    (by rw [hlv]; exact r3) r2 (by omega) (by
      rw [hsl]
      by_cases h1 : (H.L 0 (kI 0 t)).length = 1
      · rw [if_pos h1, swapOut_nil h1, h1]
        exact World.ownsRow_nil _ _ _ _
      · rw [if_neg h1]; exact r1) ho hok (r4.mono (fun k _ hk => by
        rcases hk with h1 | h1 | h1
        · exact .inl h1
        · exact .inr (.inl h1)
        · exact .inr (.inr (by rw [hob, h1]))))
    (fun q2 hq => .inl (by
      rw [hob]
      by_cases h1 : (H.L 0 (kI 0 t)).length = 1
      · rw [if_pos h1] at hq; cases hq
      · rw [if_neg h1] at hq; exact hq))
  rw [KR_next] at g1
  exact ⟨_, g1, g2, rfl, rfl, rfl, rfl, hbe⟩
theorem grem1_be (h : StGen w wm K (kbut K t) (KR K t 1) sp H cb) (ht : t ∈ K) (hK : K.length ≤ 1099511627776) (hcb : cb < maxLen) :
    Calls Tryz.prog 75 #[.agg #[.int .i64 1, fnV 19, .map (some (H.bi 1))], ptr (H.ge t)] w fun e w' => e = .returned (.tuple #[]) ∧ ∃ H', StGen w' wm K (kbut K t) (KR K t 2) sp H' cb ∧ StC w w' H H' ∧ H'.ge = H.ge ∧ H'.bi = H.bi ∧ H'.be = H.be ∧ H'.me = H.me ∧ w'.heap[H.be]? = w.heap[H.be]? := by
  have hE := h.ents t ht
  obtain ⟨a, c, hv, hA⟩ := hE.at_
  have hI := h.ix 1 (by omega)
  have hKI : KR K t 1 1 = K := if_neg (by omega)
  rw [hKI] at hI
  obtain ⟨N, hN, hM⟩ := hI.map
  have hln : (H.L 1 (kI 1 t)).length ≤ K.length := nd_len (hI.ok.nd _) (fun x hx => ((hI.ok.mem _ x).1 hx).1)
  have hat := hI.ok.at_ t ht
  have hpl := (List.getElem?_eq_some_iff.1 hat).1
  obtain ⟨last, hlast⟩ : ∃ last, (H.L 1 (kI 1 t)).getLast? = some last := by
    cases hg : (H.L 1 (kI 1 t)).getLast? with
    | none => rw [List.getLast?_eq_none_iff.1 hg] at hpl; exact absurd hpl (Nat.not_lt_zero _)
    | some x => exact ⟨x, rfl⟩
  have hlK : last ∈ K := ((hI.ok.mem _ last).1 (List.mem_of_getLast? hlast)).1
  obtain ⟨la, lc, hlv, hLA⟩ := (h.ents last hlK).at_
  have hrow := hI.row (kI 1 t)
  obtain ⟨q, cap, hmv⟩ : ∃ q cap, H.m 1 (kI 1 t) = some (.slice (some ⟨q, 0, none⟩) (H.L 1 (kI 1 t)).length cap) := by
    cases hm : H.m 1 (kI 1 t) with
    | none => rw [(hI.none_ _).1 hm] at hpl; exact absurd hpl (Nat.not_lt_zero _)
    | some v =>
      rw [hm] at hrow
      rcases hrow.2 with ⟨_, h0⟩ | ⟨q, cap, cur, he, _⟩
      · omega
      · exact ⟨q, cap, by rw [← he]; rfl⟩
  have hrow2 : w.ownsRow 0 81 1 (.slice (some ⟨q, 0, none⟩) (H.L 1 (kI 1 t)).length cap) (H.L 1 (kI 1 t)).length ((H.L 1 (kI 1 t)).map fun t => ptr (H.ge t)) := by
    rw [hmv] at hrow; exact hrow
  have hob : ((H.m 1 (kI 1 t)).getD nilS).ownBlock = some q := by rw [hmv]; rfl
  refine (rem1_any (t := t) (tl := last) hE.fit hM (by omega) hA.blk hLA.blk hmv hrow2 (by omega) (by omega) hpl (by
    rw [List.getElem?_map, ← List.getLast?_eq_getElem?, hlast]; rfl) (by rw [List.getElem?_map, hat]; rfl)).mono ?_
  rintro _ w' ⟨rfl, r1, ⟨N', hN', r2⟩, r3, r4⟩
  refine ⟨rfl, ?_⟩
  have hbe : w'.heap[H.be]? = w.heap[H.be]? := r4.block H.be (h.lt _ _ h.em.lab) (fun hk => by
    have x1 : ∀ {q : Nat} {lb : Lb}, H.be = q → H.lab q = some lb → lb = .map 3 := fun e1 e2 => by
      rw [← e1, h.em.lab] at e2
      injection e2 with e2
      exact e2.symm
    rcases hk with h1 | h1 | h1
    · exact absurd (x1 h1 (h.ents last hlK).lab) (by simp)
    · exact absurd (x1 h1 hI.lab) (by simp)
    · exact absurd (x1 h1 (hI.lrow (kI 1 t) q hob)) (by simp))
  have hok := @IxOk.remove Lit litDec (kI 1) K (H.L 1) (H.ps 1) hI.ok t last ht hlast
  rw [swap_map (fun t => ptr (H.ge t)) hlast] at r1
  have hsl := swapOut_length (H.L 1 (kI 1 t)) (H.ps 1 t)
  have ho : (if (H.L 1 (kI 1 t)).length = 1 then (none : Option Value) else some (.slice (some ⟨q, 0, none⟩) ((H.L 1 (kI 1 t)).length - 1) cap)) = none ↔ swapOut (H.L 1 (kI 1 t)) (H.ps 1 t) = [] := by
    by_cases h1 : (H.L 1 (kI 1 t)).length = 1
    · rw [if_pos h1]; exact ⟨fun _ => swapOut_nil h1, fun _ => rfl⟩
    · rw [if_neg h1]
      refine ⟨fun e => (by cases e), fun e => ?_⟩
      rw [e] at hsl
      simp at hsl
      omega
  obtain ⟨g1, g2⟩ := h.index (i := 1) (by omega) (k := kI 1 t) (kI_lit _ _) (l := swapOut (H.L 1 (kI 1 t)) (H.ps 1 t)) (o := if (H.L 1 (kI 1 t)).length = 1 then none else some (.slice (some ⟨q, 0, none⟩) ((H.L 1 (kI 1 t)).length - 1) cap)) (x := last) (n := H.ps 1 t) (cb' := cb) (K' := kbut K t) hlK (Nat.le_refl _)
    (by rw [hlv]; exact r3) r2 (by omega) (by
      rw [hsl]
      by_cases h1 : (H.L 1 (kI 1 t)).length = 1
      · rw [if_pos h1, swapOut_nil h1, h1]
        exact World.ownsRow_nil _ _ _ _
      · rw [if_neg h1]; exact r1) ho hok (r4.mono (fun k _ hk => by
        rcases hk with h1 | h1 | h1
        · exact .inl h1
        · exact .inr (.inl h1)
        · exact .inr (.inr (by rw [hob, h1]))))
    (fun q2 hq => .inl (by
      rw [hob]
      by_cases h1 : (H.L 1 (kI 1 t)).length = 1
      · rw [if_pos h1] at hq; cases hq
      · rw [if_neg h1] at hq; exact hq))
  rw [KR_next] at g1
  exact ⟨_, g1, g2, rfl, rfl, rfl, rfl, hbe⟩
theorem grem2_be (h : StGen w wm K (kbut K t) (KR K t 2) sp H cb) (ht : t ∈ K) (hK : K.length ≤ 1099511627776) (hcb : cb < maxLen) :
    Calls Tryz.prog 74 #[.agg #[.int .i64 2, fnV 20, .map (some (H.bi 2))], ptr (H.ge t)] w fun e w' => e = .returned (.tuple #[]) ∧ ∃ H', StGen w' wm K (kbut K t) (KR K t 3) sp H' cb ∧ StC w w' H H' ∧ H'.ge = H.ge ∧ H'.bi = H.bi ∧ H'.be = H.be ∧ H'.me = H.me ∧ w'.heap[H.be]? = w.heap[H.be]? := by
  have hE := h.ents t ht
  obtain ⟨a, c, hv, hA⟩ := hE.at_
  have hI := h.ix 2 (by omega)
  have hKI : KR K t 2 2 = K := if_neg (by omega)
  rw [hKI] at hI
  obtain ⟨N, hN, hM⟩ := hI.map
  have hln : (H.L 2 (kI 2 t)).length ≤ K.length := nd_len (hI.ok.nd _) (fun x hx => ((hI.ok.mem _ x).1 hx).1)
  have hat := hI.ok.at_ t ht
  have hpl := (List.getElem?_eq_some_iff.1 hat).1
  obtain ⟨last, hlast⟩ : ∃ last, (H.L 2 (kI 2 t)).getLast? = some last := by
    cases hg : (H.L 2 (kI 2 t)).getLast? with
    | none => rw [List.getLast?_eq_none_iff.1 hg] at hpl; exact absurd hpl (Nat.not_lt_zero _)
    | some x => exact ⟨x, rfl⟩
  have hlK : last ∈ K := ((hI.ok.mem _ last).1 (List.mem_of_getLast? hlast)).1
  obtain ⟨la, lc, hlv, hLA⟩ := (h.ents last hlK).at_
  have hrow := hI.row (kI 2 t)
  obtain ⟨q, cap, hmv⟩ : ∃ q cap, H.m 2 (kI 2 t) = some (.slice (some ⟨q, 0, none⟩) (H.L 2 (kI 2 t)).length cap) := by
    cases hm : H.m 2 (kI 2 t) with
    | none => rw [(hI.none_ _).1 hm] at hpl; exact absurd hpl (Nat.not_lt_zero _)
    | some v =>
      rw [hm] at hrow
      rcases hrow.2 with ⟨_, h0⟩ | ⟨q, cap, cur, he, _⟩
      · omega
      · exact ⟨q, cap, by rw [← he]; rfl⟩
  have hrow2 : w.ownsRow 0 81 1 (.slice (some ⟨q, 0, none⟩) (H.L 2 (kI 2 t)).length cap) (H.L 2 (kI 2 t)).length ((H.L 2 (kI 2 t)).map fun t => ptr (H.ge t)) := by
    rw [hmv] at hrow; exact hrow
  have hob : ((H.m 2 (kI 2 t)).getD nilS).ownBlock = some q := by rw [hmv]; rfl
  refine (rem2_any (t := t) (tl := last) hE.fit hM (by omega) hA.blk hLA.blk hmv hrow2 (by omega) (by omega) hpl (by
    rw [List.getElem?_map, ← List.getLast?_eq_getElem?, hlast]; rfl) (by rw [List.getElem?_map, hat]; rfl)).mono ?_
  rintro _ w' ⟨rfl, r1, ⟨N', hN', r2⟩, r3, r4⟩
  refine ⟨rfl, ?_⟩
  have hbe : w'.heap[H.be]? = w.heap[H.be]? := r4.block H.be (h.lt _ _ h.em.lab) (fun hk => by
    have x1 : ∀ {q : Nat} {lb : Lb}, H.be = q → H.lab q = some lb → lb = .map 3 := fun e1 e2 => by
      rw [← e1, h.em.lab] at e2
      injection e2 with e2
      exact e2.symm
    rcases hk with h1 | h1 | h1
    · exact absurd (x1 h1 (h.ents last hlK).lab) (by simp)
    · exact absurd (x1 h1 hI.lab) (by simp)
    · exact absurd (x1 h1 (hI.lrow (kI 2 t) q hob)) (by simp))
  have hok := @IxOk.remove Lit litDec (kI 2) K (H.L 2) (H.ps 2) hI.ok t last ht hlast
  rw [swap_map (fun t => ptr (H.ge t)) hlast] at r1
  have hsl := swapOut_length (H.L 2 (kI 2 t)) (H.ps 2 t)
  have ho : (if (H.L 2 (kI 2 t)).length = 1 then (none : Option Value) else some (.slice (some ⟨q, 0, none⟩) ((H.L 2 (kI 2 t)).length - 1) cap)) = none ↔ swapOut (H.L 2 (kI 2 t)) (H.ps 2 t) = [] := by
    by_cases h1 : (H.L 2 (kI 2 t)).length = 1
    · rw [if_pos h1]; exact ⟨fun _ => swapOut_nil h1, fun _ => rfl⟩
    · rw [if_neg h1]
      refine ⟨fun e => (by cases e), fun e => ?_⟩
      rw [e] at hsl
      simp at hsl
      omega
  obtain ⟨g1, g2⟩ := h.index (i := 2) (by omega) (k := kI 2 t) (kI_lit _ _) (l := swapOut (H.L 2 (kI 2 t)) (H.ps 2 t)) (o := if (H.L 2 (kI 2 t)).length = 1 then none else some (.slice (some ⟨q, 0, none⟩) ((H.L 2 (kI 2 t)).length - 1) cap)) (x := last) (n := H.ps 2 t) (cb' := cb) (K' := kbut K t) hlK (Nat.le_refl _)
    (by rw [hlv]; exact r3) r2 (by omega) (by
      rw [hsl]
      by_cases h1 : (H.L 2 (kI 2 t)).length = 1
      · rw [if_pos h1, swapOut_nil h1, h1]
        exact World.ownsRow_nil _ _ _ _
      · rw [if_neg h1]; exact r1) ho hok (r4.mono (fun k _ hk => by
        rcases hk with h1 | h1 | h1
        · exact .inl h1
        · exact .inr (.inl h1)
        · exact .inr (.inr (by rw [hob, h1]))))
    (fun q2 hq => .inl (by
      rw [hob]
      by_cases h1 : (H.L 2 (kI 2 t)).length = 1
      · rw [if_pos h1] at hq; cases hq
      · rw [if_neg h1] at hq; exact hq))
  rw [KR_next] at g1
  exact ⟨_, g1, g2, rfl, rfl, rfl, rfl, hbe⟩
set_option maxRecDepth 100000 in
set_option maxHeartbeats 8000000 in
theorem forget_rg (h : StRaw w wm K sp H cb) (ht : t ∈ K) (hcb : cb ≤ 1099511627000) {r n cnt : Nat} {D : DataW Value} {left : Lit → Bool} (hrg : w.ranges Tryz.prog 32 heldR H.be r n D left cnt) (hro : ¬ H.own r) :
    Calls Tryz.prog 51 #[ptr H.g, ptr (H.ge t)] w fun e w' => e = .returned (.tuple #[]) ∧ ∃ H', StRaw w' wm (kbut K t) (spBut sp t) H' cb ∧ StC w w' H H' ∧ (∀ y ∈ kbut K t, H'.ge y = H.ge y) ∧ H'.be = H.be ∧ ∃ D' cnt', w'.ranges Tryz.prog 32 heldR H.be r n D' (fun z => left z && !z.sameKey (kT t)) cnt' ∧ cnt' ≤ cnt := by
  have hf := (h.ents t ht).fit
  obtain ⟨a, c, _, hA⟩ := (h.ents t ht).at_
  have hcells : ∀ W : World, W.heap[H.ge t]? = w.heap[H.ge t]? → W.cell? ⟨H.ge t, 0, none⟩ = some (.string t.o) ∧ W.cell? ⟨H.ge t, 1, none⟩ = some (.string t.r) ∧ W.cell? ⟨H.ge t, 2, none⟩ = some (.string t.u) := fun W hW => by
    have hE := hA.blk.kept hW
    exact ⟨by rw [hE.cell]; rfl, by rw [hE.cell]; rfl, by rw [hE.cell]; rfl⟩
  obtain ⟨e0, e1, e2⟩ := hcells w.drew rfl
  have htop : ∀ W : World, W.heap[H.g]? = w.heap[H.g]? → W.cell? ⟨H.g, 1, none⟩ = some (.map (some H.be)) := fun W hW => (StB.mk (h.top.blk.kept hW)).cells.2.1
  have c1 := htop w.drew rfl
  have hmd : (H.me (kT t)).isSome = true := by rw [h.em.has t ht]; rfl
  have HM := Lib.hid (h.em.map.kept (w' := w.drew) rfl)
  have HRG := Lib.hid (ranges_heap hrg (w' := w.drew) rfl rfl)
  have HRO := Lib.hid hro
  have HRL := Lib.hid hrg.lt
  have HH := Lib.hid h
  have HTK := Lib.hid ht
  have HCE := Lib.hid hcells
  have HTO := Lib.hid htop
  have HNE := Lib.hid (show H.g ≠ H.be from h.em.map.ne h.top.blk)
  have HNG := Lib.hid (show H.ge t ≠ H.be from h.em.map.ne hA.blk)
  have HGL := Lib.hid h.top.blk.lt
  have HEL := Lib.hid hA.blk.lt
  have HMD := Lib.hid hmd
  have HKL := Lib.hid (show K.length ≤ 1099511627776 by have := h.bigK; omega)
  have HCB := Lib.hid (show cb < maxLen by unfold maxLen; omega)
  clear h ht hA hcells htop hmd hrg hro
  go_enter Tryz.func51, Tryz.ntmps51
  go_upto_region 0 with fail
  go_region_held3 (fun W : World => W.cell? ⟨H.g, 1, none⟩ = some (.map (some H.be)) ∧ W.cell? ⟨H.ge t, 0, none⟩ = some (.string t.o) ∧ W.cell? ⟨H.ge t, 1, none⟩ = some (.string t.r) ∧ W.cell? ⟨H.ge t, 2, none⟩ = some (.string t.u)) (first | assumption | exact ⟨c1, e0, e1, e2⟩) (first
    | (refine step_drop_rg _ rfl (.tmp 7) (.tmp 11) 56 32 rfl 81 keyT Tryz.underlying56 _ (zeroE _) H.be K.length H.me rfl HM.out r n D left cnt HRG.out (tpV t) (kT t) rfl (keyT_of hf) ?_; intro w1 cnt1 hm1 hrg1 hcn1 hg1 hs1
       have HR1 := Lib.hid hrg1
       have HN1 := Lib.hid hcn1
       rw [HMD.out, if_pos rfl] at hm1
       have hkg : w1.heap[H.g]? = w.heap[H.g]? := hg1.block _ HGL.out (fun e => HNE.out (by injection e))
       have hke : w1.heap[H.ge t]? = w.heap[H.ge t]? := hg1.block _ HEL.out (fun e => HNG.out (by injection e))
       have hk1 : w1.cell? ⟨H.g, 1, none⟩ = some (.map (some H.be)) ∧ w1.cell? ⟨H.ge t, 0, none⟩ = some (.string t.o) ∧ w1.cell? ⟨H.ge t, 1, none⟩ = some (.string t.r) ∧ w1.cell? ⟨H.ge t, 2, none⟩ = some (.string t.u) := ⟨HTO.out w1 hkg, HCE.out w1 hke⟩
       have hcw : Chg w w1 (fun b => b = H.be) := (Chg.ofBelow (w := w) (w' := w.drew) (fun b => b = H.be) (below_drew1 w)).trans (Chg.ofGrown (P := fun b => b = H.be) hg1 (fun k _ e => by injection e with e; exact e.symm)) (fun _ _ e => e)
       obtain ⟨g1, s1⟩ := HH.out.unmap HTK.out hm1 hcw
       have G1 := Lib.hid g1
       have S1 := Lib.hid s1
       have HS1 := Lib.hid hs1
       clear hm1 hrg1 hcn1 hg1 hs1 hkg hke hcw g1 s1))
  all_goals
    obtain ⟨H1, hH1⟩ : ∃ H1, H1 = { H with me := mset H.me (kT t) none } := ⟨_, rfl⟩
    rw [← hH1] at G1 S1
    have hge1 : H1.ge = H.ge := by rw [hH1]
    have hg1 : H1.g = H.g := by rw [hH1]
    have hbe1 : H1.be = H.be := by rw [hH1]
    have hro1 : ¬ H1.own r := by rw [hH1]; exact HRO.out
    have HBE1 := Lib.hid hbe1
    have HRO1 := Lib.hid hro1
    have HRW1 := Lib.hid (show r < w1.heap.size by rw [HS1.out]; exact HRL.out)
    clear hbe1 hro1
    clear hH1 hk1 c1 e0 e1 e2
    have HGE1 := Lib.hid hge1
    have hc1 := G1.out.top.cells
    rw [hg1] at hc1
    obtain ⟨_, _, ⟨p1, p2, p3⟩, _⟩ := hc1
    have hA1 := Lib.hid (grem0_be G1.out HTK.out HKL.out HCB.out)
    rw [hge1] at hA1
    have HG1 := Lib.hid hg1
    clear hge1 hg1
    go_wp2_with fail
    refine hA1.out.mono ?_
    rintro _ w2 ⟨rfl, H2, g2, s2, e1, e2, e3, e4, hb2⟩
    have HR2 := Lib.hid (ranges_heap HR1.out (by rw [← HBE1.out]; exact hb2) (s2.chg.block r HRW1.out HRO1.out))
    have HBE2 := Lib.hid (show H2.be = H.be by rw [e3, HBE1.out])
    have HRW2 := Lib.hid (Nat.lt_of_lt_of_le HRW1.out s2.chg.size)
    have HRO2 := Lib.hid (show ¬ H2.own r from fun ho => HRO1.out (s2.new r HRW1.out ho))
    have G2 := Lib.hid g2
    have S2 := Lib.hid (S1.out.trans s2)
    have HGE2 := Lib.hid (show H2.ge = H.ge by rw [e1])
    have hc2 := g2.top.cells
    rw [show H2.g = H.g by rw [s2.g, HG1.out]] at hc2
    obtain ⟨_, _, _, ⟨q1, q2, q3⟩, _⟩ := hc2
    have HG2 := Lib.hid (show H2.g = H.g by rw [s2.g, HG1.out])
    have hA2 := Lib.hid (grem1_be G2.out HTK.out HKL.out HCB.out)
    rw [HGE2.out] at hA2
    clear g2 s2 e1 e2 e3 e4 hb2 p1 p2 p3 hA1
    go_wp2_with fail
    refine hA2.out.mono ?_
    rintro _ w3 ⟨rfl, H3, g3, s3, e1, e2, e3, e4, hb3⟩
    have HR3 := Lib.hid (ranges_heap HR2.out (by rw [← HBE2.out]; exact hb3) (s3.chg.block r HRW2.out HRO2.out))
    have HBE3 := Lib.hid (show H3.be = H.be by rw [e3, HBE2.out])
    have HRW3 := Lib.hid (Nat.lt_of_lt_of_le HRW2.out s3.chg.size)
    have HRO3 := Lib.hid (show ¬ H3.own r from fun ho => HRO2.out (s3.new r HRW2.out ho))
    have G3 := Lib.hid g3
    have S3 := Lib.hid (S2.out.trans s3)
    have HGE3 := Lib.hid (show H3.ge = H.ge by rw [e1])
    have hc3 := g3.top.cells
    rw [show H3.g = H.g by rw [s3.g, HG2.out]] at hc3
    obtain ⟨_, _, _, _, q1', q2', q3'⟩ := hc3
    have hA3 := Lib.hid (grem2_be G3.out HTK.out HKL.out HCB.out)
    rw [HGE3.out] at hA3
    clear g3 s3 e1 e2 e3 e4 hb3 q1 q2 q3 hA2
    go_wp2_with fail
    refine hA3.out.mono ?_
    rintro _ w4 ⟨rfl, H4, g4, s4, e1, e2, e3, e4, hb4⟩
    have HR4 := Lib.hid (ranges_heap HR3.out (by rw [← HBE3.out]; exact hb4) (s4.chg.block r HRW3.out HRO3.out))
    have HBE4 := Lib.hid (show H4.be = H.be by rw [e3, HBE3.out])
    have hm : ∀ y, y ∈ kbut K t ↔ y ∈ K ∧ y ≠ t := fun y => by unfold kbut; simp
    have HF := Lib.hid (show ∃ H', StRaw w4 wm (kbut K t) (spBut sp t) H' cb ∧ StC w w4 H H' ∧ (∀ y ∈ kbut K t, H'.ge y = H.ge y) ∧ H'.be = H.be ∧ ∃ D' cnt', w4.ranges Tryz.prog 32 heldR H.be r n D' (fun z => left z && !z.sameKey (kT t)) cnt' ∧ cnt' ≤ cnt from by
      refine ⟨H4, ?_, S3.out.trans s4, fun y _ => by rw [e1], HBE4.out, _, cnt1, HR4.out, HN1.out⟩
      have g5 : StGen w4 wm (kbut K t) (kbut K t) (KR K t 3) (spBut sp t) H4 cb := ⟨g4.wm0, g4.lt, g4.top, g4.ltop, g4.em, fun y hy => by
        obtain ⟨h1, h2⟩ := (hm y).1 hy
        have : spBut sp t y = sp y := updK_other _ _ h2
        rw [this]
        exact g4.ents y h1, g4.ix⟩
      refine g5.raw (fun i hi => if_pos hi) (HH.out.nd.filter _) (fun y hy => ?_) ?_ (fun y => ?_)
      · by_cases hyt : y = t
        · rw [hyt]; exact updK_same _ _ _
        · have : spBut sp t y = sp y := updK_other _ _ hyt
          rw [this]
          exact HH.out.no y (fun hk => hy ((hm y).2 ⟨hk, hyt⟩))
      · have := List.length_filter_le (fun x => decide (x ≠ t)) K
        have := HH.out.bigK
        unfold kbut
        omega
      · by_cases hyt : y = t
        · rw [hyt]
          have : spBut sp t t = [] := updK_same _ _ _
          rw [this]; exact Nat.zero_le _
        · have : spBut sp t y = sp y := updK_other _ _ hyt
          rw [this]; exact HH.out.bigS y)
    clear g4 s4 e1 e2 e3 e4 hb4 q1' q2' q3' hA3 hm
    go_wp2
    exact ⟨rfl, .tuple #[], (by simp [results, Tryz.results51, go_sem]), rfl, HF.out⟩
end
end Go.Proofs.YtmjdngomjjhhiaaGreat

namespace Go.Proofs.YtmjdngomjjhhiaaGreat
open Go.RowKit

section
variable {w : World} {wm : Int} {K : List Tp} {sp : Tp → List Sp} {H : Gh} {cb : Nat} {t : Tp}
set_option maxRecDepth 100000 in
set_option maxHeartbeats 8000000 in
theorem ecollect_be (h : StRaw w wm K sp H cb) (hcb : cb ≤ 1099511627000) (ht : t ∈ K) (rev : Int) :
    Calls Tryz.prog 50 #[ptr (H.ge t), .int .i64 rev] w fun e w' => e = .returned (.tuple #[]) ∧ ∃ H', StRaw w' wm K (updK sp t (collectB (sp t) rev)) H' cb ∧ StC w w' H H' ∧ (∀ y, H'.ge y = H.ge y) ∧ H'.be = H.be ∧ w'.heap[H.be]? = w.heap[H.be]? := by
  obtain ⟨w0, hw0⟩ : ∃ w0, w0 = w.alloc (.cells #[.int .i64 rev] 2) := ⟨_, rfl⟩
  have hb0 : Below w.heap.size w w0 := by rw [hw0]; exact below_alloc _ _
  have hx0 : Whole w0 w.heap.size 2 #[.int .i64 rev] := by rw [hw0]; exact heap_alloc_new _ _
  have h0 := h.below hb0
  obtain ⟨sa, sc, hv, hA⟩ := (h0.ents t ht).at_
  have hbg := h.bigS t
  have HD := Lib.hid (delO_any w0 hA.row (by omega) hx0)
  have d3 : w0.cell? ⟨H.ge t, 3, none⟩ = some (.slice sa (sp t).length sc) := by rw [hA.blk.cell]; rfl
  have HA := Lib.hid hA
  have HV := Lib.hid hv
  have H0 := Lib.hid h0
  have HB := Lib.hid hb0
  have HT := Lib.hid ht
  have HNE := Lib.hid (show (Value.slice sa (sp t).length sc).ownBlock ≠ some (H.ge t) from fun e => by
    obtain ⟨_, cur, hW⟩ := owned_block hA.row e
    exact whole_ne hW hA.blk (by decide) rfl)
  have HBG := Lib.hid hbg
  have HLE := Lib.hid (h0.ents t ht).lab
  have HLR := Lib.hid (h0.ents t ht).row
  have HEM := Lib.hid h0.em.lab
  have HBE := Lib.hid (hb0.block H.be (h.lt _ _ h.em.lab))
  clear hb0 hx0 h0 hv hA ht
  unfold ovF at HD
  go_enter Tryz.func50, Tryz.ntmps50
  go_upto_region 1 with fail
  rw [← hw0]
  clear hw0
  go_wp2_with fail
  refine HD.out.mono ?_
  rintro _ w1 ⟨v1, rfl, hr1, ho1, hc1⟩
  obtain ⟨a1, c1, rfl, _, _⟩ := owned_anyE hr1
  have hE1 := HA.out.blk.kept (hc1.block _ HA.out.blk.lt HNE.out)
  have e3 : w1.cell? ⟨H.ge t, 3, none⟩ = some (.slice sa (sp t).length sc) := by rw [hE1.cell]; rfl
  have f3 : w1.frozen? ⟨H.ge t, 3, none⟩ = false := hE1.free 3
  have HF := Lib.hid (show ∃ H', StRaw (w1.setCell ⟨H.ge t, 3, none⟩ (.slice a1 (collectB (sp t) rev).length c1)) wm K (updK sp t (collectB (sp t) rev)) H' cb ∧ StC w (w1.setCell ⟨H.ge t, 3, none⟩ (.slice a1 (collectB (sp t) rev).length c1)) H H' ∧ (∀ y, H'.ge y = H.ge y) ∧ H'.be = H.be ∧ (w1.setCell ⟨H.ge t, 3, none⟩ (.slice a1 (collectB (sp t) rev).length c1)).heap[H.be]? = w.heap[H.be]? from by
    have hvb : ∀ k, (Value.slice a1 (collectB (sp t) rev).length c1).ownBlock = some k → k ≠ H.ge t := fun k hk e => by
      rw [ho1, e] at hk
      exact HNE.out hk
    obtain ⟨g1, g2⟩ := H0.out.spanned (w' := w1.setCell ⟨H.ge t, 3, none⟩ (.slice a1 (collectB (sp t) rev).length c1)) (t := t) HT.out (l := collectB (sp t) rev) (v := .slice a1 (collectB (sp t) rev).length c1) (cb' := cb) (hE1.store 3 _)
      (owns_keptN hr1 (fun k hk => Below.heap_setCell w1 ⟨H.ge t, 3, none⟩ _ k (hvb k hk)))
      (by
        rw [HV.out]
        exact (hc1.mono (fun k _ e => .inr e)).set (.inl rfl) _ _)
      (fun q hq => .inl (by rw [HV.out, ← ho1]; exact hq)) (Nat.le_trans (collectB_len _ _) HBG.out) (Nat.le_refl _)
    refine ⟨_, g1, (StC.ofBelow H HB.out).trans g2, fun _ => rfl, rfl, ?_⟩
    have n1 : H.be ≠ H.ge t := fun e => by
      have := HLE.out
      rw [← e, HEM.out] at this
      injection this with this
      cases this
    have n2 : (Value.slice sa (sp t).length sc).ownBlock ≠ some H.be := fun e => by
      have := HLR.out H.be (by rw [HV.out]; exact e)
      rw [HEM.out] at this
      injection this with this
      cases this
    exact (Below.heap_setCell w1 ⟨H.ge t, 3, none⟩ _ H.be n1).trans ((hc1.block H.be (H0.out.lt _ _ HEM.out) n2).trans HBE.out))
  clear hr1 ho1 hc1 hE1 HD
  go_wp2
  exact ⟨rfl, .tuple #[], (by simp [results, Tryz.results50, go_sem]), rfl, HF.out⟩
end
end Go.Proofs.YtmjdngomjjhhiaaGreat

namespace Go.Proofs.YtmjdngomjjhhiaaGreat
open Go.RowKit
open Go.Maps (Keyed)
open Go.WideElems (Fit rd rg pl rd_val elemAt)

/-- Amid the collecting: what is left of the tuples, and their spans. -/
def colS (left : Lit → Bool) (sp : Tp → List Sp) (rev : Int) : Tp → List Sp := fun t => if left (kT t) then sp t else collectB (sp t) rev
def colK (left : Lit → Bool) (K : List Tp) (sp : Tp → List Sp) (rev : Int) : List Tp := K.filter fun t => left (kT t) || !(collectB (sp t) rev).isEmpty
theorem collectB_nil (rev : Int) : collectB [] rev = [] := rfl
theorem colS_start {left : Lit → Bool} {K : List Tp} {sp : Tp → List Sp} (rev : Int) (hl : ∀ t ∈ K, left (kT t) = true) (hn : ∀ t, t ∉ K → sp t = []) : colS left sp rev = sp := by
  funext t
  unfold colS
  by_cases ht : t ∈ K
  · rw [if_pos (hl t ht)]
  · rw [hn t ht, collectB_nil]; split <;> rfl
theorem colK_start {left : Lit → Bool} {K : List Tp} {sp : Tp → List Sp} (rev : Int) (hl : ∀ t ∈ K, left (kT t) = true) : colK left K sp rev = K := by
  unfold colK
  rw [List.filter_eq_self]
  intro t ht
  rw [hl t ht]; rfl
theorem colS_end {left : Lit → Bool} {M : SM} (rev : Int) (hl : ∀ kl, left kl = false) : colS left M.sp rev = (M.collect rev).sp := by
  funext t
  unfold colS
  rw [hl]; rfl
theorem colK_end {left : Lit → Bool} {M : SM} (rev : Int) (hl : ∀ kl, left kl = false) : colK left M.K M.sp rev = (M.collect rev).K := by
  unfold colK
  show _ = M.K.filter _
  refine List.filter_congr fun t _ => ?_
  rw [hl]; simp
section
variable {left : Lit → Bool} {K : List Tp} {sp : Tp → List Sp} {rev : Int} {t : Tp}
theorem left_self : (left (kT t) && !(kT t).sameKey (kT t)) = false := by rw [WideAt.sameKey_self (kT_lit t)]; simp
theorem left_other {y : Tp} (hy : y.fits) (ht : t.fits) (hn : y ≠ t) : (left (kT y) && !(kT y).sameKey (kT t)) = left (kT y) := by
  have : (kT y).sameKey (kT t) = false := by
    cases h : (kT y).sameKey (kT t) with
    | false => rfl
    | true => exact absurd (kT_inj hy ht (WideAt.sameKey_eq h)) hn
  rw [this]; simp
theorem colS_step (hfit : ∀ y ∈ K, y.fits) (hn : ∀ y, y ∉ K → sp y = []) (ht : t ∈ K) :
    colS (fun z => left z && !z.sameKey (kT t)) sp rev = updK (colS left sp rev) t (collectB (sp t) rev) := by
  funext y
  by_cases hy : y = t
  · subst hy
    rw [updK_same]
    unfold colS
    have e : (left (kT y) && !(kT y).sameKey (kT y)) = false := left_self
    simp only [e]; rfl
  · rw [updK_other _ _ hy]
    unfold colS
    by_cases hyK : y ∈ K
    · simp only [left_other (left := left) (hfit y hyK) (hfit t ht) hy]
    · rw [hn y hyK, collectB_nil]
      split <;> split <;> rfl
theorem colK_keep (hfit : ∀ y ∈ K, y.fits) (ht : t ∈ K) (hne : collectB (sp t) rev ≠ []) : colK (fun z => left z && !z.sameKey (kT t)) K sp rev = colK left K sp rev := by
  unfold colK
  refine List.filter_congr fun y hyK => ?_
  by_cases hy : y = t
  · subst hy
    have : (collectB (sp y) rev).isEmpty = false := by simpa using hne
    rw [this]; simp
  · simp only [left_other (left := left) (hfit y hyK) (hfit t ht) hy]
theorem colK_out (hfit : ∀ y ∈ K, y.fits) (ht : t ∈ K) (he : collectB (sp t) rev = []) : colK (fun z => left z && !z.sameKey (kT t)) K sp rev = kbut (colK left K sp rev) t := by
  unfold colK kbut
  rw [List.filter_filter]
  refine List.filter_congr fun y hyK => ?_
  by_cases hy : y = t
  · subst hy
    have e : (left (kT y) && !(kT y).sameKey (kT y)) = false := left_self
    rw [he]
    simp only [e]; simp
  · simp only [left_other (left := left) (hfit y hyK) (hfit t ht) hy]
    simp [hy]
end
/-- What a range knows of a map is what the map has. -/
theorem view_of {w : World} {P : Program} {k : TypeId} {b r n cnt N : Nat} {D : DataW Value} {left : Lit → Bool} {m : Lit → Option Value} (h : w.ranges P k heldR b r n D left cnt) (hm : MapAt w P k b m N) : ∀ kl, mview D kl = m kl := by
  obtain ⟨es, clock, _, _, _, h1, _, _, rfl, _⟩ := h
  obtain ⟨D', ⟨es', clock', h2, _, _, rfl⟩, _, hv⟩ := hm
  rw [h1] at h2
  injection h2 with h2
  injection h2 with h2 _
  subst h2
  exact hv
section
variable {w : World} {wm : Int} {K : List Tp} {sp : Tp → List Sp} {H : Gh} {cb : Nat} {M : SM}
/-- Another watermark. -/
theorem StRaw.marked (h : StRaw w wm K sp H cb) {rev : Int} (hr : 0 ≤ rev) : StRaw (w.setCell ⟨H.g, 0, none⟩ (.int .i64 rev)) rev K sp H cb ∧ StC w (w.setCell ⟨H.g, 0, none⟩ (.int .i64 rev)) H H := by
  have hC : Chg w (w.setCell ⟨H.g, 0, none⟩ (.int .i64 rev)) (fun b => b = H.g) := Chg.set (P := fun b => b = H.g) (Chg.refl w _) rfl _ _
  have hl : ∀ b lb, H.lab b = some lb → lb ≠ .top → (w.setCell ⟨H.g, 0, none⟩ (.int .i64 rev)).heap[b]? = w.heap[b]? := fun b lb hb hn => hC.block b (h.lt b lb hb) (fun e => by
    rw [e, h.ltop] at hb; injection hb with hb; exact hn hb.symm)
  refine ⟨⟨h.nd, h.no, hr, fun b lb hb => Nat.lt_of_lt_of_le (h.lt b lb hb) hC.size, ⟨h.top.blk.store 0 _⟩, h.ltop, h.em.keep (hl _ _ h.em.lab (by simp)) rfl rfl rfl (fun _ _ => rfl),
    fun t ht => (h.ents t ht).keep (fun b hb => ⟨hb.elim (fun e => hl _ _ e (by simp)) (fun e => hl _ _ e (by simp)), rfl⟩) rfl rfl (fun _ _ => rfl),
    fun i hi => (h.ix i hi).keep (fun b hb => ⟨hb.elim (fun e => hl _ _ e (by simp)) (fun ⟨_, e⟩ => hl _ _ e (by simp)), rfl⟩) rfl rfl rfl (fun _ _ => rfl) (fun _ _ => rfl), h.bigK, h.bigS⟩, ?_⟩
  exact ⟨hC.mono (fun b _ hb => by rw [hb]; exact Gh.own_of h.ltop), rfl, fun _ _ h => h⟩
/-- Amid the collecting. -/
structure Coll (w wr : World) (M : SM) (rev : Int) (H : Gh) (cb r : Nat) (left : Lit → Bool) (cnt : Nat) (D : DataW Value) (Hd : Gh) : Prop where
  rng : wr.ranges Tryz.prog 32 heldR H.be r M.K.length D left cnt
  raw : StRaw wr rev (colK left M.K M.sp rev) (colS left M.sp rev) Hd cb
  stc : StC w wr H Hd
  be : Hd.be = H.be
  new : w.heap.size ≤ r
  nown : ¬ Hd.own r
theorem StC.next {wr w5 : World} {H Hd : Gh} {r : Nat} (h : StC w wr H Hd) (hg : wr.grownBy w5 (some r)) (hr : w.heap.size ≤ r) : StC w w5 H Hd :=
  ⟨⟨hg.os.trans h.chg.os, hg.tape.trans h.chg.tape, hg.output.trans h.chg.output, Nat.le_trans h.chg.size hg.size, fun k hk hn => (hg.block k (Nat.lt_of_lt_of_le hk h.chg.size) (fun e => by injection e with e; omega)).trans (h.chg.block k hk hn)⟩, h.g, h.new⟩
def colE (wm rev : Int) : Int := if rev < 0 ∨ 1125899906842624 < rev then 1 else if rev < wm then 70 else 0
set_option maxRecDepth 100000 in
set_option maxHeartbeats 16000000 in
theorem collect_any (h : StAt w wm M H cb) (hcb : cb ≤ 1099511627000) (rev : Int) :
    Calls Tryz.prog 26 #[ptr H.g, .int .i64 rev] w fun e w' => e = .returned (.int .i64 (colE wm rev)) ∧ ∃ H', StAt w' (if colE wm rev = 0 then rev else wm) (if colE wm rev = 0 then M.collect rev else M) H' cb ∧ StC w w' H H' := by
  obtain ⟨c0, c1, _⟩ := h.raw.top.cells
  have f0 : w.frozen? ⟨H.g, 0, none⟩ = false := h.raw.top.blk.free 0
  have hcase : (rev < 0 ∧ colE wm rev = 1) ∨ (0 ≤ rev ∧ 1125899906842624 < rev ∧ colE wm rev = 1) ∨ (0 ≤ rev ∧ rev ≤ 1125899906842624 ∧ rev < wm ∧ colE wm rev = 70) ∨ (0 ≤ rev ∧ rev ≤ 1125899906842624 ∧ wm ≤ rev ∧ colE wm rev = 0) := by
    unfold colE
    by_cases h1 : rev < 0
    · exact .inl ⟨h1, if_pos (.inl h1)⟩
    · by_cases h2 : 1125899906842624 < rev
      · exact .inr (.inl ⟨by omega, h2, if_pos (.inr h2)⟩)
      · rw [if_neg (by omega)]
        by_cases h3 : rev < wm
        · exact .inr (.inr (.inl ⟨by omega, by omega, h3, if_pos h3⟩))
        · exact .inr (.inr (.inr ⟨by omega, by omega, by omega, if_neg h3⟩))
  have HH := Lib.hid h
  clear h
  rcases hcase with ⟨h1, hc⟩ | ⟨h1, h2, hc⟩ | ⟨h1, h2, h3, hc⟩ | ⟨h1, h2, h3, hc⟩
  · rw [hc, if_neg (by decide), if_neg (by decide)]
    clear hc
    go_enter Tryz.func26, Tryz.ntmps26
    go_wp2
    go_ret
    exact ⟨rfl, H, HH.out, StC.refl _ _⟩
  · rw [hc, if_neg (by decide), if_neg (by decide)]
    clear hc
    go_enter Tryz.func26, Tryz.ntmps26
    go_wp2
    go_ret
    exact ⟨rfl, H, HH.out, StC.refl _ _⟩
  · rw [hc, if_neg (by decide), if_neg (by decide)]
    clear hc
    go_enter Tryz.func26, Tryz.ntmps26
    go_wp2
    go_ret
    exact ⟨rfl, H, HH.out, StC.refl _ _⟩
  · rw [hc, if_pos rfl, if_pos rfl]
    clear hc
    obtain ⟨w0, hw0⟩ : ∃ w0, w0 = w.setCell ⟨H.g, 0, none⟩ (.int .i64 rev) := ⟨_, rfl⟩
    obtain ⟨m1, m2⟩ := HH.out.raw.marked h1
    rw [← hw0] at m1 m2
    obtain ⟨_, c10, _⟩ := m1.top.cells
    obtain ⟨D, hown, hD, hv⟩ := m1.em.map
    have HM1 := Lib.hid m1
    have HM2 := Lib.hid m2
    have HV := Lib.hid hv
    clear m1 m2 hv hD
    go_enter Tryz.func26, Tryz.ntmps26
    go_upto_region 6 with fail
    rw [← hw0]
    clear hw0 c0 c1 f0
    go_wp2_with (first | (at_range; refine wpList_range_own _ rfl _ 56 rfl 32 81 keyT Tryz.underlying56 heldR H.be M.K.length D rfl hown ?_; intro w1 hrg1 hg1 hs1) | go_in)
    go_frame
    have HG1 := Lib.hid (show Coll w w1 M rev H cb w0.heap.size (Maps.has D) (Maps.size D) D H from by
      have hl : ∀ t ∈ M.K, Maps.has D (kT t) = true := fun t ht => by
        have hh := (mview_eq hown keyT Tryz.underlying56 (zeroE _) false (keyT_of ((HH.out.raw.ents t ht).fit))).2
        rw [hh, HV.out, HM1.out.em.has t ht]
        rfl
      have hb1 : Below w0.heap.size w0 w1 := (Below.refl _ _).grown hg1 (Nat.le_refl _) (by simp)
      refine ⟨hrg1, ?_, HM2.out.trans (StC.ofBelow H hb1), rfl, HM2.out.chg.size, fun ho => Nat.lt_irrefl _ (HM1.out.own_lt ho)⟩
      rw [colK_start rev hl, colS_start rev hl HH.out.raw.no]
      exact HM1.out.below hb1)
    clear hown hrg1 hg1 hs1 c10 HM1 HM2 HV
    obtain ⟨r, hr⟩ : ∃ r, r = w0.heap.size := ⟨_, rfl⟩
    rw [← hr] at HG1 ⊢
    clear hr
    have HFIT := Lib.hid (fun y (hy : y ∈ M.K) => (HH.out.raw.ents y hy).fit)
    have HNO := Lib.hid HH.out.raw.no
    have HOK := Lib.hid HH.out.ok
    clear HH
    go_loopw [] (fun wr => ∃ left cnt D Hd, Coll w wr M rev H cb r left cnt D Hd) (fun wr => wr.rangeLeft H.be r)
    case atStart => exact ⟨_, _, _, _, HG1.out⟩
    case round =>
      clear HG1
      obtain ⟨left, cnt, D, Hd, hG⟩ := hrel
      have HG := Lib.hid hG
      have hrg := hG.rng
      clear hG
      go_wp2_with (at_next; refine wpList_next_ranges (α := Value) (β := Value) _ rfl (.tmp 27) rfl 32 keyT heldR id id (fun key kl _ => ⟨key, rfl⟩) (fun v y _ => ⟨v, rfl⟩) H.be _ M.K.length D left cnt rfl hrg ?_ ?_)
      · intro _ hl0
        have HF := Lib.hid (show ∃ H', StAt wr rev (M.collect rev) H' cb ∧ StC w wr H H' from
          ⟨Hd, ⟨HOK.out.collect rev, by
            have := HG.out.raw
            rw [colK_end rev hl0, colS_end rev hl0] at this
            exact this⟩, HG.out.stc⟩)
        clear hl0 hrg HG
        go_wp2
        go_ret
        exact ⟨rfl, HF.out⟩
      · intro x cv kl y1 y2 w5 cnt1 hkx hlx hv hat hrg1 hg1l hg1 hs1 hen
        unfold heldR at hv
        injection hv with hv
        injection hv with hv _
        have hraw := HG.out.raw
        have hem := hraw.em
        have hme : Hd.me kl = some cv := by
          rw [← view_of (m := Hd.me) hrg (by have := hem.map; rw [HG.out.be] at this; exact this) kl]
          unfold mview
          rw [hat .nil, ← hv]
        obtain ⟨t, ht, rfl⟩ := hem.only kl _ hme
        have hcv : cv = ptr (Hd.ge t) := by
          rw [hem.has t ht] at hme
          injection hme with hme
          exact hme.symm
        subst hcv
        have htM : t ∈ M.K := (List.mem_filter.1 ht).1
        have hne : ∀ b, Hd.own b → w5.heap[b]? = wr.heap[b]? := fun b ho => hg1.block b (hraw.own_lt ho) (fun e => by injection e with e; exact HG.out.nown (e ▸ ho))
        have h5 := hraw.keep (w' := w5) (by rw [hs1]; exact Nat.le_refl _) hne
        have s5 := HG.out.stc.next hg1 HG.out.new
        have hsp : colS left M.sp rev t = M.sp t := if_pos hlx
        have he5 := ecollect_be h5 hcb ht rev
        rw [hsp] at he5
        have HE := Lib.hid he5
        clear he5
        have HRG := Lib.hid (show w5.ranges Tryz.prog 32 heldR Hd.be r M.K.length D (fun z => left z && !z.sameKey (kT t)) cnt1 by rw [HG.out.be]; exact hrg1)
        have HS5 := Lib.hid s5
        have HTM := Lib.hid htM
        have HTK := Lib.hid ht
        have HLT := Lib.hid hg1l
        have HRGO := Lib.hid hrg
        have HRW := Lib.hid (show r < w5.heap.size from hrg1.lt)
        clear hkx hlx hat hrg1 hg1 hs1 hg1l hv hme hrg hraw hem hne h5 s5 hsp
        go_wp2_with fail
        refine HE.out.mono ?_
        rintro _ w6 ⟨rfl, H6, r6, s6, ge6, be6, hb6⟩
        have hrg6 := ranges_heap HRG.out (w' := w6) hb6 (s6.chg.block r HRW.out HG.out.nown)
        have hno6 : ¬ H6.own r := fun ho => HG.out.nown (s6.new r HRW.out ho)
        obtain ⟨sa, sc, _, hA⟩ := (r6.ents t HTK.out).at_
        rw [updK_same, ge6] at hA
        have e3 : w6.cell? ⟨Hd.ge t, 3, none⟩ = some (.slice sa (collectB (M.sp t) rev).length sc) := by rw [hA.blk.cell]; rfl
        have s6' := HS5.out.trans s6
        have hbe6 : H6.be = H.be := be6.trans HG.out.be
        by_cases he : collectB (M.sp t) rev = []
        · rw [he] at e3
          have e3 : w6.cell? ⟨Hd.ge t, 3, none⟩ = some (.slice sa 0 sc) := e3
          have hfg := forget_rg r6 HTK.out hcb (by rw [be6]; exact hrg6) hno6
          rw [ge6, s6.g, HS5.out.g] at hfg
          have HFG := Lib.hid hfg
          have HB6 := Lib.hid be6
          have HBE6 := Lib.hid hbe6
          have HS6 := Lib.hid s6'
          have HN6 := Lib.hid hno6
          have HRW6 := Lib.hid (Nat.lt_of_lt_of_le HRW.out s6.chg.size)
          have HEE := Lib.hid he
          clear r6 s6 ge6 be6 hb6 hrg6 hno6 hA s6' hbe6 he hfg
          go_wp2_with fail
          refine HFG.out.mono ?_
          rintro _ w7 ⟨rfl, H7, r7, s7, _, be7, D7, cnt7, hrg7, hcn7⟩
          have HN := Lib.hid (show Coll w w7 M rev H cb r (fun z => left z && !z.sameKey (kT t)) cnt7 D7 H7 from by
            refine ⟨?_, ?_, HS6.out.trans s7, be7.trans HBE6.out, HG.out.new, fun ho => HN6.out (s7.new r HRW6.out ho)⟩
            · rw [HBE6.out, Maps.strike_twice] at hrg7
              exact hrg7
            · rw [colK_out HFIT.out HTM.out HEE.out, colS_step HFIT.out HNO.out HTM.out]
              have e : spBut (updK (colS left M.sp rev) t (collectB (M.sp t) rev)) t = updK (colS left M.sp rev) t (collectB (M.sp t) rev) := by
                funext y
                unfold spBut
                by_cases hy : y = t
                · subst hy
                  rw [updK_same, updK_same, HEE.out]
                · rw [updK_other _ _ hy]
              rw [← e]
              exact r7)
          have HC7 := Lib.hid hcn7
          clear r7 s7 be7 hrg7 hcn7
          go_wp2
          go_roundw
          case rel => exact ⟨_, _, _, _, HN.out⟩
          case measure => rw [HN.out.rng.left_eq, HRGO.out.left_eq]; exact Nat.lt_of_le_of_lt HC7.out HLT.out
        · have hlen : 0 < (collectB (M.sp t) rev).length := List.length_pos_iff.2 he
          have HN := Lib.hid (show Coll w w6 M rev H cb r (fun z => left z && !z.sameKey (kT t)) cnt1 D H6 from by
            refine ⟨by rw [← HG.out.be]; exact hrg6, ?_, s6', hbe6, HG.out.new, hno6⟩
            rw [colK_keep HFIT.out HTM.out he, colS_step HFIT.out HNO.out HTM.out]
            exact r6)
          clear r6 s6 ge6 be6 hb6 hrg6 hno6 hA s6' hbe6 he
          generalize (collectB (M.sp t) rev).length = nl at *
          go_wp2
          go_roundw
          case rel => exact ⟨_, _, _, _, HN.out⟩
          case measure => rw [HN.out.rng.left_eq, HRGO.out.left_eq]; exact HLT.out
end
end Go.Proofs.YtmjdngomjjhhiaaGreat

namespace Go.Proofs.YtmjdngomjjhhiaaGreat
open Go.RowKit
open Go.Maps (Keyed)

theorem sortS_perm {a b : List (List UInt8)} (h : a.Perm b) : sortS a = sortS b := by
  unfold sortS
  have tr : ∀ x y z : List UInt8, decide (x ≤ y) = true → decide (y ≤ z) = true → decide (x ≤ z) = true := fun x y z h1 h2 => decide_eq_true (List.le_trans (of_decide_eq_true h1) (of_decide_eq_true h2))
  have tt : ∀ x y : List UInt8, (decide (x ≤ y) || decide (y ≤ x)) = true := fun x y => by
    rcases List.le_total x y with h | h
    · simp [h]
    · simp [h]
  refine List.Perm.eq_of_pairwise (le := fun x y => decide (x ≤ y) = true) (fun x y _ _ h1 h2 => List.le_antisymm (of_decide_eq_true h1) (of_decide_eq_true h2)) (List.pairwise_mergeSort tr tt a) (List.pairwise_mergeSort tr tt b) (((List.mergeSort_perm a _).trans h).trans (List.mergeSort_perm b _).symm)
theorem spThere_nil (rev : Int) : spThere [] rev = false := rfl
theorem SM.dropL_one (M : SM) (o : ByteArray) (t : Tp) : (M.dropL [o]).sp t = if t.o = o then [] else M.sp t := by
  show (if decide (t.o = o) = true then [] else M.sp t) = _
  by_cases h : t.o = o <;> simp [h]
/-- Of another object, from the watermark on, the same users. -/
theorem users_kept {M : SM} (hm : SMOk M) {mark rev : Int} (hr : mark ≤ rev) {ob o r : ByteArray} (ho : o ≠ ob) {ts us : List Tp} (ha : UsersOk ((M.collect mark).dropL [ob]) o r rev ts) (hb : UsersOk M o r rev us) : sortS (uOf ts) = sortS (uOf us) ∧ ts.length = us.length := by
  have hp : ts.Perm us := (List.perm_ext_iff_of_nodup ha.nd hb.nd).2 fun t => by
    rw [ha.mem, hb.mem, ((hm.collect mark).dropL [ob]).mem_iff, hm.mem_iff, SM.dropL_one]
    constructor
    · rintro ⟨_, ⟨h1, h2⟩, h3⟩
      rw [if_neg (by rw [h1]; exact ho)] at h3
      rw [show (M.collect mark).sp t = collectB (M.sp t) mark from rfl, collect_there hr] at h3
      refine ⟨fun e => ?_, ⟨h1, h2⟩, h3⟩
      rw [e, spThere_nil] at h3; cases h3
    · rintro ⟨_, ⟨h1, h2⟩, h3⟩
      rw [if_neg (by rw [h1]; exact ho)]
      have h4 : spThere ((M.collect mark).sp t) rev = true := by rw [show (M.collect mark).sp t = collectB (M.sp t) mark from rfl, collect_there hr]; exact h3
      refine ⟨fun e => ?_, ⟨h1, h2⟩, h4⟩
      rw [e, spThere_nil] at h4; cases h4
  exact ⟨sortS_perm (hp.map _), hp.length_eq⟩
/-- Of the object that was dropped none. -/
theorem users_gone {M : SM} {mark rev : Int} {o r : ByteArray} {ts : List Tp} (ha : UsersOk ((M.collect mark).dropL [o]) o r rev ts) : ts = [] := by
  refine List.eq_nil_iff_forall_not_mem.2 fun t ht => ?_
  obtain ⟨h1, ⟨h2, _⟩, _⟩ := (ha.mem t).1 ht
  rw [SM.dropL_mem] at h1
  exact h1.2 (by rw [h2]; simp)
/-- Two stores, and their watermarks. -/
structure Tw (W0 wr : World) (g1 g2 : Nat) (wa wb : Int) (Ma Mb : SM) (Ha Hb : Gh) (ca cb : Nat) : Prop where
  a : StAt wr wa Ma Ha ca
  b : StAt wr wb Mb Hb cb
  ga : Ha.g = g1
  gb : Hb.g = g2
  dj : ∀ k, Ha.own k → ¬ Hb.own k
  oa : ∀ k, Ha.own k → W0.heap.size ≤ k
  ob : ∀ k, Hb.own k → W0.heap.size ≤ k
  bel : Below W0.heap.size W0 wr
section
variable {W0 wr w' : World} {g1 g2 : Nat} {wa wb wa' wb' : Int} {Ma Mb Ma' Mb' : SM} {Ha Hb Ha' Hb' : Gh} {ca cb ca' cb' : Nat}
theorem Two.tw (h : Two W0 wr g1 g2 Ma Mb Ha Hb ca cb) : Tw W0 wr g1 g2 0 0 Ma Mb Ha Hb ca cb := ⟨h.a, h.b, h.ga, h.gb, h.dj, h.oa, h.ob, h.bel⟩
theorem Tw.below (h : Tw W0 wr g1 g2 wa wb Ma Mb Ha Hb ca cb) (hb : Below wr.heap.size wr w') : Tw W0 w' g1 g2 wa wb Ma Mb Ha Hb ca cb :=
  ⟨h.a.below hb, h.b.below hb, h.ga, h.gb, h.dj, h.oa, h.ob, bell_up h.bel hb⟩
theorem Tw.stepA (h : Tw W0 wr g1 g2 wa wb Ma Mb Ha Hb ca cb) (hs : StAt w' wa' Ma' Ha' ca') (c : StC wr w' Ha Ha') : Tw W0 w' g1 g2 wa' wb Ma' Mb Ha' Hb ca' cb := by
  obtain ⟨b', d'⟩ := c.keep2 h.b h.dj
  obtain ⟨l', o'⟩ := c.since h.bel h.oa
  exact ⟨hs, b', c.g.trans h.ga, h.gb, d', o', h.ob, l'⟩
theorem Tw.usersA (h : Tw W0 wr g1 g2 wa wb Ma Mb Ha Hb ca cb) (hc : ca ≤ 1099511627776) {o r : ByteArray} (ho : o.size ≤ 1000000000000000000) (hr : r.size ≤ 1000000000000000000) {rev : Int} (h0 : 0 ≤ rev) (hw : wa ≤ rev) :
    Calls Tryz.prog 12 #[ptr g1, .string o, .string r, .int .i64 rev] wr fun e w' => ∃ v ts, e = .returned (.tuple #[v, .int .i64 0]) ∧ UsersOk Ma o r rev ts ∧ w'.ownsRow wr.heap.size 9 1 v ts.length ((sortS (uOf ts)).map encS) ∧ Below wr.heap.size wr w' := by
  have hr0 : readableB wa rev = 0 := by unfold readableB; rw [if_neg (by omega), if_neg (by omega)]
  have hp := users_any h.a hc ho hr rev
  rw [h.ga, hr0] at hp
  refine hp.mono ?_
  rintro e w' ⟨v, ts, he, hu, _, hrow, hb⟩
  exact ⟨v, ts, he, hu rfl, hrow, hb⟩
theorem Tw.usersB (h : Tw W0 wr g1 g2 wa wb Ma Mb Ha Hb ca cb) (hc : cb ≤ 1099511627776) {o r : ByteArray} (ho : o.size ≤ 1000000000000000000) (hr : r.size ≤ 1000000000000000000) {rev : Int} (h0 : 0 ≤ rev) (hw : wb ≤ rev) :
    Calls Tryz.prog 12 #[ptr g2, .string o, .string r, .int .i64 rev] wr fun e w' => ∃ v ts, e = .returned (.tuple #[v, .int .i64 0]) ∧ UsersOk Mb o r rev ts ∧ w'.ownsRow wr.heap.size 9 1 v ts.length ((sortS (uOf ts)).map encS) ∧ Below wr.heap.size wr w' := by
  have hr0 : readableB wb rev = 0 := by unfold readableB; rw [if_neg (by omega), if_neg (by omega)]
  have hp := users_any h.b hc ho hr rev
  rw [h.gb, hr0] at hp
  refine hp.mono ?_
  rintro e w' ⟨v, ts, he, hu, _, hrow, hb⟩
  exact ⟨v, ts, he, hu rfl, hrow, hb⟩
end
/-- A text in a row of a call's own. -/
theorem encS_at {w : World} {B : Nat} {a : Option Addr} {n c : Nat} {l : List (List UInt8)} (h : w.ownsRow B 9 1 (.slice a n c) n (l.map encS)) (hn : 0 < n) : ∃ b, a = some ⟨b, 0, none⟩ ∧ B ≤ b ∧ b < w.heap.size ∧ ∀ (i : Nat) (s : List UInt8), l[i]? = some s → w.cell? ⟨b, i, none⟩ = some (encS s) := by
  obtain ⟨b, c', he, hb, hc⟩ := own_cells h hn
  injection he with e1 e2 e3
  subst e1
  refine ⟨b, rfl, (h.lt b (by simp [Value.ownBlock])).1, hb, fun i s hi => hc _ _ (by rw [List.getElem?_map, hi]; rfl)⟩
end Go.Proofs.YtmjdngomjjhhiaaGreat
