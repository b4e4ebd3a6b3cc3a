/- The network: a row without the packets to a node. -/
import Derived.Test.YtmmjgpdclodlfaaN6
namespace Go.Proofs.Ytmmjgpdclodlfaa
open Go.RowKit

theorem pcs_set (L : List Pk) (p : Pk) : ∀ i, i < L.length → (((pcs L).set (i * 3) (.int .i64 p.fr)).set (i * 3 + 1) (.int .i64 p.dst)).set (i * 3 + 2) p.v = pcs (L.set i p) := by
  induction L with
  | nil => intro i hi; simp at hi
  | cons x L ih =>
    intro i hi
    cases i with
    | zero => rfl
    | succ i =>
      have h := ih i (by simpa using hi)
      rw [show (i + 1) * 3 = i * 3 + 1 + 1 + 1 by omega]
      show (((Value.int .i64 x.fr :: .int .i64 x.dst :: x.v :: pcs L).set (i * 3 + 1 + 1 + 1) _).set (i * 3 + 1 + 1 + 1 + 1) _).set (i * 3 + 1 + 1 + 1 + 2) _ = _
      rw [show i * 3 + 1 + 1 + 1 + 1 = (i * 3 + 1) + 1 + 1 + 1 by omega, show i * 3 + 1 + 1 + 1 + 2 = (i * 3 + 2) + 1 + 1 + 1 by omega]
      simp only [List.set_cons_succ]
      rw [h]
      rfl
/-- A row of packets in its block. -/
structure RowAt (w : World) (q n c : Nat) (L : List Pk) : Prop where
  ex : ∃ cur, Whole w q 32 cur ∧ c * 3 ≤ cur.size ∧ cur.toList.take (n * 3) = pcs L
  len : L.length = n
  room : n ≤ c
  big : c ≤ maxLen
section
variable {w w' : World} {q n c : Nat} {L : List Pk}
theorem RowAt.lt (h : RowAt w q n c L) : q < w.heap.size := by
  obtain ⟨cur, hW, _⟩ := h.ex
  exact hW.lt
theorem RowAt.keep (h : RowAt w q n c L) (hb : w'.heap[q]? = w.heap[q]?) : RowAt w' q n c L := by
  obtain ⟨cur, hW, r⟩ := h.ex
  exact ⟨⟨cur, hW.kept hb, r⟩, h.len, h.room, h.big⟩
theorem RowAt.cells {i : Nat} {p : Pk} (h : RowAt w q n c L) (hp : L[i]? = some p) : (w.cell? ⟨q, i * 3, none⟩ = some (.int .i64 p.fr) ∧ w.cell? ⟨q, i * 3 + 1, none⟩ = some (.int .i64 p.dst) ∧ w.cell? ⟨q, i * 3 + 2, none⟩ = some p.v) ∧ (w.frozen? ⟨q, i * 3, none⟩ = false ∧ w.frozen? ⟨q, i * 3 + 1, none⟩ = false ∧ w.frozen? ⟨q, i * 3 + 2, none⟩ = false) := by
  obtain ⟨cur, hW, _, ht⟩ := h.ex
  obtain ⟨e0, e1, e2⟩ := pcs_at hp
  have key : ∀ j u, (pcs L)[j]? = some u → w.cell? ⟨q, j, none⟩ = some u := by
    intro j u hu
    rw [hW.cell]
    rw [← ht, List.getElem?_take] at hu
    split at hu
    · simpa using hu
    · cases hu
  exact ⟨⟨key _ _ e0, key _ _ e1, key _ _ e2⟩, hW.free _, hW.free _, hW.free _⟩
theorem RowAt.store {i : Nat} (h : RowAt w q n c L) (hi : i < n) (p : Pk) : RowAt (((w.setCell ⟨q, i * 3, none⟩ (.int .i64 p.fr)).setCell ⟨q, i * 3 + 1, none⟩ (.int .i64 p.dst)).setCell ⟨q, i * 3 + 2, none⟩ p.v) q n c (L.set i p) := by
  obtain ⟨cur, hW, hs, ht⟩ := h.ex
  refine ⟨⟨_, ((hW.store (i * 3) (.int .i64 p.fr)).store (i * 3 + 1) (.int .i64 p.dst)).store (i * 3 + 2) p.v, by simpa using hs, ?_⟩, by rw [List.length_set]; exact h.len, h.room, h.big⟩
  rw [Array.toList_setIfInBounds, Array.toList_setIfInBounds, Array.toList_setIfInBounds, List.take_set, List.take_set, List.take_set, ht]
  exact pcs_set L p i (by rw [h.len]; exact hi)
theorem FRow.rowAt {B : Nat} {a : Option Addr} (h : FRow w B (.slice a n c) n (pcs L)) (hl : L.length = n) (hn : 0 < n) : ∃ q, a = some ⟨q, 0, none⟩ ∧ B ≤ q ∧ RowAt w q n c L := by
  obtain ⟨_, ⟨_, h0⟩ | ⟨g, k, cur, hv, hg, hW, hk, hkm, hs, ht⟩⟩ := h
  · omega
  · injection hv with e1 e2 e3
    subst e1 e3
    exact ⟨g, rfl, hg, ⟨cur, hW, hs, ht⟩, hl, hk, hkm⟩
theorem RowAt.frow {B m : Nat} (h : RowAt w q n c L) (hB : B ≤ q) (hm : m ≤ n) : FRow w B (.slice (some ⟨q, 0, none⟩) m c) m (pcs (L.take m)) := by
  obtain ⟨cur, hW, hs, ht⟩ := h.ex
  have hr := h.room
  refine ⟨by rw [pcs_len, List.length_take, h.len, Nat.min_eq_left hm], .inr ⟨q, c, cur, rfl, hB, hW, by omega, h.big, hs, ?_⟩⟩
  rw [← pcs_take, ← ht, List.take_take, Nat.min_eq_left (Nat.mul_le_mul_right _ hm)]
end
/-- The packets that are not to that node. -/
def others (ps : List Pk) (x : Int) : List Pk := ps.filter (fun p => !(p.dst == x))
theorem others_snoc {ps : List Pk} {x : Int} {j : Nat} {p : Pk} (hp : ps[j]? = some p) : others (ps.take (j + 1)) x = others (ps.take j) x ++ (if p.dst = x then [] else [p]) := by
  rw [take_snoc hp]
  unfold others
  rw [List.filter_append]
  by_cases h : p.dst = x <;> simp [h]
theorem others_none {ps : List Pk} {x : Int} (h : ∀ q ∈ ps, q.dst ≠ x) : others ps x = ps := by
  unfold others
  rw [List.filter_eq_self]
  intro q hq
  simpa using h q hq
theorem set_last (l : List Pk) (x p : Pk) (i : Nat) (h : l.length = i) : (l ++ [x]).set i p = l ++ [p] := by
  subst h
  induction l with
  | nil => rfl
  | cons y l ih => simp only [List.cons_append, List.length_cons, List.set_cons_succ, ih]
/-- In the midst of it: i are kept of the first j. -/
structure Mid (w wr : World) (q n c : Nat) (ps : List Pk) (x : Int) (i j : Nat) : Prop where
  ex : ∃ L, RowAt wr q n c L ∧ L.take i = others (ps.take j) x ∧ L.drop j = ps.drop j
  lt : i < j
  le : j ≤ n
  chg : Chg w wr (fun k => k = q)
theorem Mid.same {w wr w' : World} {q n c : Nat} {ps : List Pk} {x : Int} {i j : Nat} (h : Mid w wr q n c ps x i j) (hb : Below wr.heap.size wr w') {p : Pk} (hp : ps[j]? = some p) (hx : p.dst = x) (hj : j < n) : Mid w w' q n c ps x i (j + 1) := by
  obtain ⟨L, hR, h1, h2⟩ := h.ex
  refine ⟨⟨L, hR.keep (hb.block _ hR.lt), ?_, ?_⟩, Nat.lt_succ_of_lt h.lt, hj, h.chg.trans (Chg.ofBelow _ hb)⟩
  · rw [others_snoc hp, if_pos hx, List.append_nil]; exact h1
  · rw [← List.drop_drop, h2, List.drop_drop]
theorem Mid.more {w wr w' w3 : World} {q n c : Nat} {ps : List Pk} {x : Int} {i j : Nat} (h : Mid w wr q n c ps x i j) (hb : Below wr.heap.size wr w') {p : Pk} (hp : ps[j]? = some p) (hx : p.dst ≠ x) (hj : j < n)
    (hw : w3 = ((w'.setCell ⟨q, i * 3, none⟩ (.int .i64 p.fr)).setCell ⟨q, i * 3 + 1, none⟩ (.int .i64 p.dst)).setCell ⟨q, i * 3 + 2, none⟩ p.v) : Mid w w3 q n c ps x (i + 1) (j + 1) := by
  subst hw
  obtain ⟨L, hR, h1, h2⟩ := h.ex
  have hlt := h.lt
  have hi : i < L.length := by rw [hR.len]; omega
  refine ⟨⟨L.set i p, (hR.keep (hb.block _ hR.lt)).store (by omega) p, ?_, ?_⟩, by omega, hj, (((h.chg.trans (Chg.ofBelow _ hb)).set (b := q) rfl _ _).set (b := q) rfl _ _).set (b := q) rfl _ _⟩
  · rw [others_snoc hp, if_neg hx, ← h1, List.take_set, List.take_add_one, List.getElem?_eq_getElem hi, Option.toList_some, set_last _ _ _ _ (by rw [List.length_take]; omega)]
  · rw [List.drop_set_of_lt (by omega), ← List.drop_drop, h2, List.drop_drop]
end Go.Proofs.Ytmmjgpdclodlfaa
