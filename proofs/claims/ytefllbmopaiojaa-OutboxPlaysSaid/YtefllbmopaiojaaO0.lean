/- The outbox: words for worlds and rows. -/
import Derived.Test.YtefllbmopaiojaaK0
import Derived.Laws.Tables
import Derived.LaidEql
import Derived.Tactics
import Derived.Tactics2
import Derived.Defers
import Derived.Recover
import Derived.Deep.RegionLaw
import Derived.Maps.AppendAt
import Derived.Laws.CopyRow
namespace Go.Proofs.Ytefllbmopaiojaa
open Go.RowKit
open Go.Maps (Keyed)

/-- Only these blocks, and new memory, are other than they were. -/
structure Chg (w w' : World) (P : Nat → Prop) : Prop where
  os : w'.os = w.os
  tape : w'.tape = w.tape
  output : w'.output = w.output
  size : w.heap.size ≤ w'.heap.size
  block : ∀ k, k < w.heap.size → ¬ P k → w'.heap[k]? = w.heap[k]?
theorem Chg.refl (w : World) (P : Nat → Prop) : Chg w w P := ⟨rfl, rfl, rfl, Nat.le_refl _, fun _ _ _ => rfl⟩
theorem Chg.set {w w' : World} {P : Nat → Prop} (h : Chg w w' P) {b : Nat} (hb : P b) (i : Nat) (u : Value) : Chg w (w'.setCell ⟨b, i, none⟩ u) P :=
  ⟨h.os, h.tape, h.output, by simpa [World.setCell] using h.size, fun k hk hn => (Below.heap_setCell w' ⟨b, i, none⟩ u k (by rintro rfl; exact hn hb)).trans (h.block k hk hn)⟩
theorem Chg.drew {w w' : World} {P : Nat → Prop} (h : Chg w w' P) : Chg w w'.drew P := ⟨h.os, h.tape, h.output, h.size, h.block⟩
theorem Chg.drewN {w w' : World} {P : Nat → Prop} (h : Chg w w' P) (n : Nat) : Chg w (w'.drewN n) P := ⟨h.os, h.tape, h.output, h.size, h.block⟩
theorem Chg.trans {a b c : World} {P : Nat → Prop} (h : Chg a b P) (k : Chg b c P) : Chg a c P :=
  ⟨k.os.trans h.os, k.tape.trans h.tape, k.output.trans h.output, Nat.le_trans h.size k.size, fun i hi hn => (k.block i (Nat.lt_of_lt_of_le hi h.size) hn).trans (h.block i hi hn)⟩
theorem Chg.mono {w w' : World} {P Q : Nat → Prop} (h : Chg w w' P) (hpq : ∀ k, k < w.heap.size → P k → Q k) : Chg w w' Q := ⟨h.os, h.tape, h.output, h.size, fun k hk hn => h.block k hk (fun hp => hn (hpq k hk hp))⟩
theorem Chg.ofBelow {w w' : World} (P : Nat → Prop) (h : Below w.heap.size w w') : Chg w w' P := ⟨h.os, h.tape, h.output, h.size, fun k hk _ => h.block k hk⟩
theorem Chg.below {w w' : World} {P : Nat → Prop} {B : Nat} (h : Chg w w' P) (hP : ∀ k, P k → B ≤ k) (hB : B ≤ w.heap.size) : Below B w w' := ⟨h.os, h.tape, h.output, h.size, fun k hk => h.block k (by omega) (fun hp => by have := hP k hp; omega)⟩
theorem Chg.toGrown {w w1 w2 : World} {P : Nat → Prop} {b : Nat} (h : Chg w w1 P) (hg : w1.grownBy w2 (some b)) (hb : P b) : Chg w w2 P :=
  ⟨hg.os.trans h.os, hg.tape.trans h.tape, hg.output.trans h.output, Nat.le_trans h.size hg.size, fun k hk hn => (hg.block k (Nat.lt_of_lt_of_le hk h.size) (by intro e; injection e with e; subst e; exact hn hb)).trans (h.block k hk hn)⟩
theorem Chg.grow {w w1 w2 : World} {P : Nat → Prop} {ob : Option Nat} (h : Chg w w1 P) (hg : w1.grownBy w2 ob) (hb : ∀ b, ob = some b → P b ∨ w.heap.size ≤ b) : Chg w w2 P :=
  ⟨hg.os.trans h.os, hg.tape.trans h.tape, hg.output.trans h.output, Nat.le_trans h.size hg.size, fun k hk hn => (hg.block k (Nat.lt_of_lt_of_le hk h.size) (by
    intro e
    rcases hb k e.symm with h1 | h1
    · exact hn h1
    · omega)).trans (h.block k hk hn)⟩
theorem Chg.up {w a b : World} {P : Nat → Prop} (h : Chg w a P) (hb : Below w.heap.size a b) : Chg w b P :=
  ⟨hb.os.trans h.os, hb.tape.trans h.tape, hb.output.trans h.output, Nat.le_trans h.size hb.size, fun k hk hn => (hb.block k hk).trans (h.block k hk hn)⟩
theorem step_append_any {P : Program} (w : World) {ops : Array Oper} {o : Oper} {a : Act} {K : Act → World → Prop} {Q : Exit → Act → World → Prop} {E : Prop} (hgd : o.guard = none) (s x : Operand) (t : TypeId)
    (ho : o.op = .call { callee := .builtin .append, args := #[s, x], argTypes := #[t, t] })
    (base : Nat) (e : TypeId) (i : TypeInfo) (z : Value) (size bytes : Nat) (ht : P.underlying t = some (.slice e)) (hi : P.info? e = some i) (hz : i.zero = some z)
    (hsize : i.size = size) (hby : i.bytes = bytes) (hzs : z.cells.size = size) (hsz : 0 < size)
    (v : Value) (n : Nat) (xs : List Value) (hs : a.eval s = v) (hown : w.ownsRow base e size v n xs)
    (ao : Option Addr) (m c : Nat) (news : List Value) (hx : a.eval x = .slice ao m c) (hl : news.length = m * size) (hnone : ao = none → m = 0 ∧ c = 0)
    (hnews : ∀ ad, ao = some ad → ∀ j u, news[j]? = some u → w.cell? (ad.add j) = some u) (h1 : ∀ u ∈ news, u.oneCell' = true)
    (h63 : n + m ≤ maxLen) (hbytes : (n + m) * bytes ≤ 140737488355328) (hbase : base ≤ w.heap.size)
    (h : ∀ v' w', w'.ownsRow base e size v' (n + m) (xs ++ news) → w.grownBy w' v.ownBlock → K (a.put o.dst v') w') :
    if Region.wanted o (yielded ops a.tmps) = true then Oper.wp P o a w K Q else E := by
  have hw : Region.wanted o (yielded ops a.tmps) = true := by simp [Region.wanted, hgd]
  rw [if_pos hw]
  cases ao with
  | some ad =>
    obtain ⟨v', w', hr, h2, h3, _, _⟩ := run_append_own_at (P := P) w base t o.type e i z size bytes ht hi hz hsize hby hzs hsz v n xs hown ad m c news hl (hnews ad rfl) h1 h63 hbytes hbase
    unfold Oper.wp execOp
    simp only [ho, resolve, invoke, builtin, Sem.run_bind, Sem.run_pure, Result.andThen_ok, List.map_toArray, List.map_cons, List.map_nil, hs, hx, hr]
    exact h v' w' h2 h3
  | none =>
    obtain ⟨rfl, rfl⟩ := hnone rfl
    have hn : news = [] := List.eq_nil_of_length_eq_zero (by simpa using hl)
    subst hn
    have hrun := run_append_owned_none (P := P) (w := w) base t o.type e i size ht hi v n xs hown
    unfold Oper.wp
    simp [execOp, ho, resolve, invoke, builtin, hs, hx, hrun, Result.andThen]
    exact h v w (by simpa using hown) (World.grownBy.refl _ _)
theorem info_of {P : Program} {t : TypeId} {z : Value} {s b : Nat} (h : (P.info? t).map (fun i => (i.zero, i.size, i.bytes)) = some (some z, s, b)) : ∃ i, P.info? t = some i ∧ i.zero = some z ∧ i.size = s ∧ i.bytes = b := by
  obtain ⟨i, hi, hx⟩ := Option.map_eq_some_iff.1 h
  injection hx with a b
  injection b with b c
  exact ⟨i, hi, a, b, c⟩
theorem make_row {P : Program} (w : World) (t e : TypeId) (i : TypeInfo) (z : Value) (by_ : Nat) (ht : P.underlying t = some (.slice e)) (hi : P.info? e = some i) (hz : i.zero = some z) (hsize : i.size = 1) (hz1 : z.cells = #[z]) (hby : i.bytes = by_)
    (m : Nat) (hm : by_ * m ≤ 281474976710656) (hm2 : m ≤ 281474976710656) :
    (Instr.makeSlice t (.int .i64 0) (.int .i64 (m : Int))).run P w = .ok (.slice (some ⟨w.heap.size, 0, none⟩) 0 m) (w.alloc (.cells (madeCells #[z] m) e)) := by
  have hb2 : (i.bytes : Int) * (m : Int) ≤ 281474976710656 := by
    rw [hby, ← Int.natCast_mul]; omega
  have hr := run_make (P := P) w t e i z ht hi hz .i64 .i64 0 m (by omega) (by omega) hb2 (by omega)
  simp only [Int.toNat_natCast, hsize, Nat.mul_one, hz1] at hr
  exact hr
theorem owned_cells {w : World} {base n : Nat} {v : Value} {e : TypeId} {l : List Value} (h : w.ownsRow base e 1 v n l) : ∃ a c, v = .slice a n c ∧ (a = none → n = 0 ∧ c = 0) ∧ n ≤ c ∧ ∀ b, a = some b → b.off = 0 ∧ b.spot = none ∧ b.block < w.heap.size ∧ base ≤ b.block ∧ ∀ (j : Nat) u, l[j]? = some u → w.cell? (b.add j) = some u := by
  have hlt := h.lt
  rcases h.2 with ⟨rfl, h0⟩ | ⟨g, cap, cur, rfl, hb, hh, hnc, hcm, hsz, ht⟩
  · exact ⟨none, 0, by rw [h0], fun _ => ⟨h0, rfl⟩, by omega, fun b hb => by cases hb⟩
  · refine ⟨_, _, rfl, (by intro e; cases e), hnc, ?_⟩
    rintro b hbb
    injection hbb with hbb
    subst hbb
    refine ⟨rfl, rfl, (hlt g rfl).2, hb, fun j u hj => ?_⟩
    rw [add_plain, Nat.zero_add]
    simp only [World.cell?, hh]
    rw [← ht, Nat.mul_one] at hj
    have h1 : (cur.toList.take n)[j]? = some u := hj
    rw [List.getElem?_take] at h1
    split at h1
    · simpa using h1
    · cases h1
theorem owned_at {w : World} {base n c i : Nat} {a : Option Addr} {e : TypeId} {l : List Value} {u : Value} (h : w.ownsRow base e 1 (.slice a n c) n l) (hu : l[i]? = some u) : ∃ b, a = some ⟨b, 0, none⟩ ∧ b < w.heap.size ∧ base ≤ b ∧ w.cell? ⟨b, i, none⟩ = some u := by
  obtain ⟨a', c', hv, hn, _, hc⟩ := owned_cells h
  injection hv with h1 h2 h3
  subst h1 h3
  cases a with
  | none =>
    have h0 := (hn rfl).1
    have hl := h.1
    rw [h0] at hl
    simp at hl
    rw [hl] at hu
    simp at hu
  | some ad =>
    obtain ⟨b, off, sp⟩ := ad
    obtain ⟨q1, q2, q3, q4, q5⟩ := hc _ rfl
    simp at q1 q2 q3 q4
    subst q1 q2
    have := q5 i u hu
    rw [add_plain, Nat.zero_add] at this
    exact ⟨b, rfl, q3, q4, this⟩
/-- A row of the call's own that isn't nil lies in a block of that type. -/
theorem owned_block {w : World} {base n k : Nat} {v : Value} {e : TypeId} {l : List Value} (h : w.ownsRow base e 1 v n l) (hk : v.ownBlock = some k) : base ≤ k ∧ ∃ cur, Whole w k e cur := by
  rcases h.2 with ⟨rfl, _⟩ | ⟨g, cap, cur, rfl, hb, hh, _⟩
  · cases hk
  · have : g = k := by simpa [Value.ownBlock] using hk
    subst this
    exact ⟨hb, cur, hh⟩
theorem take_snoc {α : Type} {l : List α} {i : Nat} {x : α} (h : l[i]? = some x) : l.take (i + 1) = l.take i ++ [x] := by
  obtain ⟨hi, he⟩ := List.getElem?_eq_some_iff.1 h
  rw [← he]
  exact (List.take_append_getElem hi).symm
@[simp] theorem size_drew (w : World) : w.drew.heap.size = w.heap.size := rfl
theorem str_lit_inj {k k' : ByteArray} (h : (.string k.data.toList : Lit) = .string k'.data.toList) : k = k' := by
  injection h with h
  exact ByteArray.ext (Array.toList_inj.1 h)
theorem key_str (k : ByteArray) (h : k.size ≤ 9223372036854775807) : keyOf Try.prog 9 (Value.string k) = some (.string k.data.toList) := Go.WideMaps.keyOf_string_mk Try.underlying9 (by unfold maxLen; omega)
theorem Try.keyS : Keyed Try.prog 9 := Go.Maps.string_keyed Try.underlying9
theorem Try.infoStr : (Try.prog.info? 9).map (fun i => (i.zero, i.size, i.bytes)) = some (some (Value.string ⟨#[]⟩), 1, 16) := by kernel_rfl
theorem Try.infoInt : (Try.prog.info? 3).map (fun i => (i.zero, i.size, i.bytes)) = some (some (Value.int .i64 0), 1, 8) := by kernel_rfl
set_option maxHeartbeats 1000000 in
theorem door_idle (w : World) : CallsD Try.prog 36 #[] .returning w fun e u' w' => e = .returned (.tuple #[]) ∧ u' = .returning ∧ w' = w := by
  refine callsD_of_wpS Try.func36 rfl fun c₀ cs hu => ?_
  apply wpS_region
  simp [wpOpsS, go_sem, recoverD, hu, Try.ntmps36]
  cases c₀
  simp_all [bodyPostS, results, Try.results36]
set_option maxHeartbeats 1000000 in
theorem findable_any (k : ByteArray) (w : World) :
    Calls Try.prog 27 #[Value.string k] w fun e w' => e = .returned (.bool true) ∧ w = w' := by
  have heq : (k.toList == k.toList) = true := by simp
  go_enter_defers Try.func27, Try.ntmps27
  go_wp2
  refine leaves_cons (f := 36) (args := #[]) (by simp) (by simp [go_sem]) ?_
  refine (door_idle _).mono ?_
  rintro e u' w'' ⟨rfl, rfl, rfl⟩
  simp [Leaves, settle, results, Try.results27, go_sem]
end Go.Proofs.Ytefllbmopaiojaa
