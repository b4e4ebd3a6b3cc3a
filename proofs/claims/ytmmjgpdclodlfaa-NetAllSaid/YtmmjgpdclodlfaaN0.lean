/- The network: packets as they lie. -/
import Derived.Test.YtmmjgpdclodlfaaNLie
import Derived.Deep.AppendLies
import Derived.ArgAppend
import Derived.Deep.Onto
import Derived.Laws.OwnMore
import Derived.Maps.AppendAt
namespace Go.Proofs.Ytmmjgpdclodlfaa
open Go.RowKit

/-- Only these blocks, and new memory, are other than they were. -/
structure Chg (w w' : World) (P : Nat → Prop) : Prop where
  os : w'.os = w.os
  tape : w'.tape = w.tape
  output : w'.output = w.output
  size : w.heap.size ≤ w'.heap.size
  block : ∀ k, k < w.heap.size → ¬ P k → w'.heap[k]? = w.heap[k]?
theorem Chg.refl (w : World) (P : Nat → Prop) : Chg w w P := ⟨rfl, rfl, rfl, Nat.le_refl _, fun _ _ _ => rfl⟩
theorem Chg.set {w w' : World} {P : Nat → Prop} (h : Chg w w' P) {b : Nat} (hb : P b) (i : Nat) (u : Value) : Chg w (w'.setCell ⟨b, i, none⟩ u) P :=
  ⟨h.os, h.tape, h.output, by simpa [World.setCell] using h.size, fun k hk hn => (Below.heap_setCell w' ⟨b, i, none⟩ u k (by rintro rfl; exact hn hb)).trans (h.block k hk hn)⟩
theorem Chg.drew {w w' : World} {P : Nat → Prop} (h : Chg w w' P) : Chg w w'.drew P := ⟨h.os, h.tape, h.output, h.size, h.block⟩
theorem Chg.drewN {w w' : World} {P : Nat → Prop} (h : Chg w w' P) (n : Nat) : Chg w (w'.drewN n) P := ⟨h.os, h.tape, h.output, h.size, h.block⟩
theorem Chg.trans {a b c : World} {P : Nat → Prop} (h : Chg a b P) (k : Chg b c P) : Chg a c P :=
  ⟨k.os.trans h.os, k.tape.trans h.tape, k.output.trans h.output, Nat.le_trans h.size k.size, fun i hi hn => (k.block i (Nat.lt_of_lt_of_le hi h.size) hn).trans (h.block i hi hn)⟩
theorem Chg.mono {w w' : World} {P Q : Nat → Prop} (h : Chg w w' P) (hpq : ∀ k, k < w.heap.size → P k → Q k) : Chg w w' Q := ⟨h.os, h.tape, h.output, h.size, fun k hk hn => h.block k hk (fun hp => hn (hpq k hk hp))⟩
theorem Chg.ofBelow {w w' : World} (P : Nat → Prop) (h : Below w.heap.size w w') : Chg w w' P := ⟨h.os, h.tape, h.output, h.size, fun k hk _ => h.block k hk⟩
theorem Chg.below {w w' : World} {P : Nat → Prop} {B : Nat} (h : Chg w w' P) (hP : ∀ k, P k → B ≤ k) (hB : B ≤ w.heap.size) : Below B w w' := ⟨h.os, h.tape, h.output, h.size, fun k hk => h.block k (by omega) (fun hp => by have := hP k hp; omega)⟩
theorem Chg.ofGrown {w w' : World} {row : Option Nat} (h : w.grownBy w' row) {P : Nat → Prop} (hP : ∀ k, row = some k → P k) : Chg w w' P := ⟨h.os, h.tape, h.output, h.size, fun k hk hn => h.block k hk (fun e => hn (hP k e.symm))⟩

theorem Try.infoP : (Try.prog.info? 32).map (fun i => (i.zero, i.size, i.bytes)) = some (some (.agg #[.int .i64 0, .int .i64 0, .slice none 0 0]), 3, 40) := by kernel_rfl

/-- A row of packets that the network has: of its own, or cut at its end. -/
def FRow (w : World) (B : Nat) (v : Value) (n : Nat) (cs : List Value) : Prop :=
  cs.length = n * 3 ∧ ((v = .slice none 0 0 ∧ n = 0) ∨
  ∃ g c cur, v = .slice (some ⟨g, 0, none⟩) n c ∧ B ≤ g ∧ Whole w g 32 cur ∧ n ≤ c ∧ c ≤ maxLen ∧ c * 3 ≤ cur.size ∧ cur.toList.take (n * 3) = cs)
section
variable {w w' : World} {B n : Nat} {v : Value} {cs : List Value}
theorem FRow.of (h : w.ownsRow B 32 3 v n cs) : FRow w B v n cs := by
  refine ⟨h.1, h.2.imp_right ?_⟩
  rintro ⟨g, cap, cur, rfl, h1, h2, h3, h4, h5, h6⟩
  exact ⟨g, cap, cur, rfl, h1, h2, h3, h4, by omega, h6⟩
theorem FRow.len (h : FRow w B v n cs) : cs.length = n * 3 := h.1
theorem FRow.lies (h : FRow w B v n cs) : ∃ a c, v = .slice a n c ∧ Lies w 32 3 B a n c cs := by
  obtain ⟨hl, ⟨rfl, rfl⟩ | ⟨g, c, cur, rfl, hg, hW, hc, hm, hs, ht⟩⟩ := h
  · obtain rfl := List.eq_nil_of_length_eq_zero (by omega : cs.length = 0)
    exact ⟨.none, 0, rfl, Lies.none _ _ _ _⟩
  · refine ⟨_, _, rfl, hl, (by intro e; cases e), hc, hm, ?_⟩
    rintro ad ha
    injection ha with ha
    subst ha
    refine ⟨rfl, hW.lt, hg, fun j u hu => ?_⟩
    rw [add_plain, Nat.zero_add, hW.cell]
    rw [← ht, List.getElem?_take] at hu
    split at hu
    · simpa using hu
    · cases hu
theorem FRow.block (h : FRow w B v n cs) {q : Nat} (hq : v.ownBlock = some q) : B ≤ q ∧ ∃ cur, Whole w q 32 cur := by
  obtain ⟨hl, ⟨rfl, rfl⟩ | ⟨g, c, cur, rfl, hg, hW, _⟩⟩ := h
  · cases hq
  · obtain rfl : g = q := by simpa [Value.ownBlock] using hq
    exact ⟨hg, cur, hW⟩
theorem FRow.keep (h : FRow w B v n cs) (hk : ∀ q, v.ownBlock = some q → w'.heap[q]? = w.heap[q]?) : FRow w' B v n cs := by
  obtain ⟨hl, h | ⟨g, c, cur, rfl, hg, hW, r⟩⟩ := h
  · exact ⟨hl, .inl h⟩
  · exact ⟨hl, .inr ⟨g, c, cur, rfl, hg, hW.kept (hk g rfl), r⟩⟩
theorem FRow.below (h : FRow w B v n cs) (hb : Below w.heap.size w w') : FRow w' B v n cs :=
  h.keep fun q hq => by
    obtain ⟨_, cur, hW⟩ := h.block hq
    exact hb.block _ hW.lt
theorem FRow.nil (w : World) (B : Nat) : FRow w B (.slice none 0 0) 0 [] := ⟨rfl, .inl ⟨rfl, rfl⟩⟩
end
/-- append of one or more packets onto the row. -/
theorem run_append_row {P : Program} (w : World) (t ty : TypeId)
    (B : Nat) (i : TypeInfo) (z : Value) (ht : P.underlying t = some (.slice 32)) (hi : P.info? 32 = some i) (hz : i.zero = some z)
    (hsize : i.size = 3) (hby : i.bytes = 40) (hzs : z.cells.size = 3)
    (v : Value) (n : Nat) (xs : List Value) (hown : FRow w B v n xs)
    (ad : Addr) (m c : Nat) (news : List Value) (hl : news.length = m * 3)
    (hnews : ∀ j u, news[j]? = some u → w.cell? (ad.add j) = some u) (h1 : ∀ u ∈ news, u.oneCell' = true)
    (h63 : n + m ≤ maxLen) (hbytes : (n + m) * 40 ≤ 140737488355328) (hbase : B ≤ w.heap.size) :
    ∃ v' w', (Builtin.append_ #[t, t] ty #[v, .slice (some ad) m c]).run P w = .ok v' w' ∧ FRow w' B v' (n + m) (xs ++ news) ∧ w.grownBy w' v.ownBlock ∧ (∀ q, v'.ownBlock = some q → v.ownBlock = some q ∨ w.heap.size ≤ q) := by
  obtain ⟨hlen, ⟨rfl, rfl⟩ | ⟨g, k, cur, rfl, hg, hW, hk, hkm, hs, htk⟩⟩ := hown
  · obtain rfl := List.eq_nil_of_length_eq_zero (by omega : xs.length = 0)
    obtain ⟨v', w', hr, h2, h3, _, h4⟩ := run_append_own_at (P := P) w B t ty _ i z 3 40 ht hi hz hsize hby hzs (by decide) (.slice none 0 0) 0 [] (World.ownsRow_nil w _ _ 3) ad m c news hl hnews h1 h63 hbytes hbase
    refine ⟨v', w', hr, .of h2, h3, ?_⟩
    intro q hq
    rcases h4 with h4 | h4
    · exact .inl (h4 ▸ hq)
    · rw [h4] at hq
      injection hq with hq
      exact .inr (by omega)
  · by_cases hroom : n + m ≤ k
    · have hfit : n * i.size + news.length ≤ cur.size := by rw [hsize, hl, ← Nat.add_mul]; exact Nat.le_trans (Nat.mul_le_mul_right _ hroom) hs
      have hr := run_append_room (P := P) w t ty _ i ht hi g n k cur hW ad m c news (by rw [hsize]; exact hl) hnews h1 hroom hfit
      rw [hsize] at hr hfit
      refine ⟨_, _, hr, ⟨by rw [List.length_append, hlen, hl, Nat.add_mul], .inr ⟨g, k, _, rfl, hg, setRow_heap w g cur _ _ _ hW, hroom, hkm, ?_, ?_⟩⟩, ⟨rfl, rfl, rfl, by simp, fun k _ hk => setRow_other w g k _ (fun e => hk (by simp [Value.ownBlock, e]))⟩, fun q hq => .inl hq⟩
      · simp only [List.size_toArray, List.length_append, List.length_take, List.length_drop, Array.length_toList]
        omega
      · rw [htk, List.take_append_of_le_length (by rw [List.length_append, hlen, hl, Nat.add_mul]; exact Nat.le_refl _), List.take_of_length_le (by rw [List.length_append, hlen, hl, Nat.add_mul]; exact Nat.le_refl _)]
    · obtain ⟨v', w', hr, h2, h3⟩ := run_append_arg_grows (P := P) w t ty _ i z 3 40 ht hi hz hsize hby hzs (by decide) ⟨g, 0, none⟩ n k xs hlen (by
        intro j u hu
        rw [add_plain, Nat.zero_add, hW.cell]
        rw [← htk, List.getElem?_take] at hu
        split at hu
        · simpa using hu
        · cases hu) ad m c news hl hnews (by omega) h63 hbytes
      exact ⟨v', w', hr, .of (h2.mono hbase), ⟨h3.os, h3.tape, h3.output, h3.size, fun k hk _ => h3.block k hk (by simp)⟩, fun q hq => .inr (h2.lt q hq).1⟩

/-- A packet: from, to, where its bytes lie, its bytes. -/
structure Pk where
  fr : Int
  dst : Int
  v : Value
  xs : List Int
def pc (p : Pk) : List Value := [.int .i64 p.fr, .int .i64 p.dst, p.v]
theorem pc_len (p : Pk) : (pc p).length = 3 := rfl
/-- Packets, cell by cell. -/
def pcs (l : List Pk) : List Value := l.flatMap pc
theorem pcs_len (l : List Pk) : (pcs l).length = l.length * 3 := fm_len pc_len l
theorem pcs_append (l m : List Pk) : pcs (l ++ m) = pcs l ++ pcs m := by unfold pcs; rw [List.flatMap_append]
theorem pcs_one1 (p : Pk) : pcs [p] = [.int .i64 p.fr, .int .i64 p.dst, p.v] := rfl
theorem pcs_take (l : List Pk) (m : Nat) : (pcs l).take (m * 3) = pcs (l.take m) := fm_take pc_len l m
theorem pcs_drop (l : List Pk) (m : Nat) : (pcs l).drop (m * 3) = pcs (l.drop m) := fm_drop pc_len l m
theorem pcs_at {l : List Pk} {i : Nat} {p : Pk} (h : l[i]? = some p) : (pcs l)[i * 3]? = some (.int .i64 p.fr) ∧ (pcs l)[i * 3 + 1]? = some (.int .i64 p.dst) ∧ (pcs l)[i * 3 + 2]? = some p.v :=
  ⟨fm_at (j := 0) pc_len h (by decide), fm_at (j := 1) pc_len h (by decide), fm_at (j := 2) pc_len h (by decide)⟩
/-- A packet's bytes are its own. -/
structure PkAt (w : World) (B : Nat) (p : Pk) : Prop where
  own : w.ownsRow B 5 1 p.v p.xs.length (p.xs.map (Value.int .u8))
  byte : ∀ x ∈ p.xs, 0 ≤ x ∧ x < 256
  small : p.xs.length ≤ 140737488355328
section
variable {w w' : World} {B : Nat} {p : Pk}
theorem PkAt.keep (h : PkAt w B p) (hk : ∀ q, p.v.ownBlock = some q → w'.heap[q]? = w.heap[q]?) : PkAt w' B p := ⟨owns_kept h.own hk, h.byte, h.small⟩
theorem PkAt.isb (h : PkAt w B p) : ∃ a c, p.v = .slice a p.xs.length c ∧ IsB w a p.xs.length p.xs ∧ (a = none → p.xs.length = 0 ∧ c = 0) ∧ p.xs.length ≤ c ∧ c ≤ maxLen := owned_slice h.own h.byte
theorem PkAt.block (h : PkAt w B p) {q : Nat} (hq : p.v.ownBlock = some q) : B ≤ q ∧ ∃ cur, Whole w q 5 cur := by
  rcases h.own.2 with ⟨hv, _⟩ | ⟨g, cap, cur, hv, hg, hW, _⟩
  · rw [hv] at hq; cases hq
  · rw [hv] at hq
    obtain rfl : g = q := by simpa [Value.ownBlock] using hq
    exact ⟨hg, cur, hW⟩
theorem PkAt.one (h : PkAt w B p) : ∀ u ∈ pc p, u.oneCell' = true := by
  obtain ⟨a, c, hv, _⟩ := h.isb
  intro u hu
  unfold pc at hu
  rw [hv] at hu
  simp at hu
  rcases hu with rfl | rfl | rfl <;> rfl
end
theorem whole_ne {w : World} {g h : Nat} {t u : TypeId} {cs ds : Array Value} (hg : Whole w g t cs) (hh : Whole w h u ds) (ht : t ≠ u) : g ≠ h := by
  rintro rfl
  unfold Whole at hg hh
  rw [hg] at hh
  injection hh with h1
  injection h1 with _ h2
  exact ht h2
/-- The network in block g: its packets, each with bytes of its own. -/
structure NAt (w : World) (B g : Nat) (nodes : Int) (v : Value) (ps : List Pk) : Prop where
  net : Whole w g 58 #[.int .i64 nodes, v]
  geg : B ≤ g
  row : FRow w B v ps.length (pcs ps)
  pks : ∀ p ∈ ps, PkAt w B p
  apart : (ps.filterMap (fun p => p.v.ownBlock)).Nodup
section
variable {w w' : World} {B g : Nat} {nodes : Int} {v : Value} {ps : List Pk}
theorem NAt.cells (h : NAt w B g nodes v ps) : w.cell? ⟨g, 0, none⟩ = some (.int .i64 nodes) ∧ w.cell? ⟨g, 1, none⟩ = some v ∧ w.frozen? ⟨g, 0, none⟩ = false ∧ w.frozen? ⟨g, 1, none⟩ = false := by
  refine ⟨?_, ?_, h.net.free _, h.net.free _⟩ <;> rw [h.net.cell] <;> rfl
theorem NAt.below (h : NAt w B g nodes v ps) (hb : Below w.heap.size w w') : NAt w' B g nodes v ps := by
  refine ⟨h.net.kept (hb.block _ h.net.lt), h.geg, h.row.keep fun q hq => ?_, fun p hp => (h.pks p hp).keep fun q hq => ?_, h.apart⟩
  · obtain ⟨_, cur, hW⟩ := h.row.block hq
    exact hb.block _ hW.lt
  · obtain ⟨_, cur, hW⟩ := (h.pks p hp).block hq
    exact hb.block _ hW.lt
/-- The blocks that the network may write without a packet's byte being another. -/
def NB (g : Nat) (v : Value) (k : Nat) : Prop := k = g ∨ v.ownBlock = some k
theorem NAt.nb (h : NAt w B g nodes v ps) : ∀ k, NB g v k → B ≤ k := by
  rintro k (rfl | hk)
  · exact h.geg
  · exact (h.row.block hk).1
theorem NAt.pksChg (h : NAt w B g nodes v ps) (hc : Chg w w' (NB g v)) : ∀ p ∈ ps, PkAt w' B p := fun p hp => (h.pks p hp).keep fun q hq => by
  obtain ⟨_, cur, hW⟩ := (h.pks p hp).block hq
  refine hc.block _ hW.lt ?_
  rintro (rfl | hk)
  · exact whole_ne h.net hW (by decide) rfl
  · obtain ⟨_, cur2, hW2⟩ := h.row.block hk
    exact whole_ne hW hW2 (by decide) rfl
theorem NAt.up (h : NAt w B g nodes v ps) (hb : B ≤ w.heap.size) (hc : Chg w w' (NB g v)) : Below B w w' := hc.below h.nb hb
end
end Go.Proofs.Ytmmjgpdclodlfaa
