/- A coordinator in memory: what it knows of a transaction. A coordinator's ballots: Begin, Vote, Abort. A coordinator's ballots: Vote, Abort. A coordinator takes a record. -/
import Derived.Test.YtkailiifgdjgmaaGreatWa
namespace Go.Proofs.YtkailiifgdjgmaaGreat
open Go.RowKit
open Go.Maps (Keyed)

/-- Only these blocks, and new memory, are other than they were. -/
structure Chg (w w' : World) (P : Nat → Prop) : Prop where
  os : w'.os = w.os
  tape : w'.tape = w.tape
  output : w'.output = w.output
  size : w.heap.size ≤ w'.heap.size
  block : ∀ k, k < w.heap.size → ¬ P k → w'.heap[k]? = w.heap[k]?
theorem Chg.refl (w : World) (P : Nat → Prop) : Chg w w P := ⟨rfl, rfl, rfl, Nat.le_refl _, fun _ _ _ => rfl⟩
theorem Chg.set {w w' : World} {P : Nat → Prop} (h : Chg w w' P) {b : Nat} (hb : P b) (i : Nat) (u : Value) : Chg w (w'.setCell ⟨b, i, none⟩ u) P :=
  ⟨h.os, h.tape, h.output, by simpa [World.setCell] using h.size, fun k hk hn => (Below.heap_setCell w' ⟨b, i, none⟩ u k (by rintro rfl; exact hn hb)).trans (h.block k hk hn)⟩
theorem Chg.drew {w w' : World} {P : Nat → Prop} (h : Chg w w' P) : Chg w w'.drew P := ⟨h.os, h.tape, h.output, h.size, h.block⟩
theorem Chg.drewN {w w' : World} {P : Nat → Prop} (h : Chg w w' P) (n : Nat) : Chg w (w'.drewN n) P := ⟨h.os, h.tape, h.output, h.size, h.block⟩
theorem Chg.trans {a b c : World} {P : Nat → Prop} (h : Chg a b P) (k : Chg b c P) : Chg a c P :=
  ⟨k.os.trans h.os, k.tape.trans h.tape, k.output.trans h.output, Nat.le_trans h.size k.size, fun i hi hn => (k.block i (Nat.lt_of_lt_of_le hi h.size) hn).trans (h.block i hi hn)⟩
theorem Chg.mono {w w' : World} {P Q : Nat → Prop} (h : Chg w w' P) (hpq : ∀ k, k < w.heap.size → P k → Q k) : Chg w w' Q := ⟨h.os, h.tape, h.output, h.size, fun k hk hn => h.block k hk (fun hp => hn (hpq k hk hp))⟩
theorem Chg.ofBelow {w w' : World} (P : Nat → Prop) (h : Below w.heap.size w w') : Chg w w' P := ⟨h.os, h.tape, h.output, h.size, fun k hk _ => h.block k hk⟩
theorem Chg.below {w w' : World} {P : Nat → Prop} {B : Nat} (h : Chg w w' P) (hP : ∀ k, P k → B ≤ k) (hB : B ≤ w.heap.size) : Below B w w' := ⟨h.os, h.tape, h.output, h.size, fun k hk => h.block k (by omega) (fun hp => by have := hP k hp; omega)⟩
theorem Chg.toGrown {w w1 w2 : World} {P : Nat → Prop} {b : Nat} (h : Chg w w1 P) (hg : w1.grownBy w2 (some b)) (hb : P b) : Chg w w2 P :=
  ⟨hg.os.trans h.os, hg.tape.trans h.tape, hg.output.trans h.output, Nat.le_trans h.size hg.size, fun k hk hn => (hg.block k (Nat.lt_of_lt_of_le hk h.size) (by intro e; injection e with e; subst e; exact hn hb)).trans (h.block k hk hn)⟩
theorem Chg.grow {w w1 w2 : World} {P : Nat → Prop} {ob : Option Nat} (h : Chg w w1 P) (hg : w1.grownBy w2 ob) (hb : ∀ b, ob = some b → P b ∨ w.heap.size ≤ b) : Chg w w2 P :=
  ⟨hg.os.trans h.os, hg.tape.trans h.tape, hg.output.trans h.output, Nat.le_trans h.size hg.size, fun k hk hn => (hg.block k (Nat.lt_of_lt_of_le hk h.size) (by
    intro e
    rcases hb k e.symm with h1 | h1
    · exact hn h1
    · omega)).trans (h.block k hk hn)⟩
theorem Chg.up {w a b : World} {P : Nat → Prop} (h : Chg w a P) (hb : Below w.heap.size a b) : Chg w b P :=
  ⟨hb.os.trans h.os, hb.tape.trans h.tape, hb.output.trans h.output, Nat.le_trans h.size hb.size, fun k hk hn => (hb.block k hk).trans (h.block k hk hn)⟩
theorem whole_ne {w : World} {g k : Nat} {t u : TypeId} {cs ds : Array Value} (h : Whole w g t cs) (h2 : Whole w k u ds) (hn : t ≠ u) : g ≠ k := by
  rintro rfl
  unfold Whole at h h2
  rw [h] at h2
  injection h2 with h2
  injection h2 with _ h2
  exact hn h2
theorem owned_block {w : World} {base n s k : Nat} {v : Value} {e : TypeId} {l : List Value} (h : w.ownsRow base e s v n l) (hk : v.ownBlock = some k) : base ≤ k ∧ ∃ cur, Whole w k e cur := by
  rcases h.2 with ⟨rfl, _⟩ | ⟨g, cap, cur, rfl, hb, hh, _⟩
  · cases hk
  · have : g = k := by simpa [Value.ownBlock] using hk
    subst this
    exact ⟨hb, cur, hh⟩
theorem owns_keepk {w w' : World} {base n k : Nat} {e : TypeId} {v : Value} {l : List Value} (h : w.ownsRow base e k v n l) (hb : ∀ q, v.ownBlock = some q → w'.heap[q]? = w.heap[q]?) : w'.ownsRow base e k v n l := by
  refine ⟨h.1, ?_⟩
  rcases h.2 with h2 | ⟨g, cap, cur, rfl, h3, h4, r⟩
  · exact .inl h2
  · exact .inr ⟨g, cap, cur, rfl, h3, (hb g rfl).trans h4, r⟩
theorem Tryz.keyL : Keyed Tryz.prog 2 := Go.Maps.int_keyed Tryz.underlying2
theorem key_long (k : Int) (h : InI k) : keyOf Tryz.prog 2 (Value.int .i64 k) = some (.int .i64 k) := Go.Maps.keyOf_int_mk Tryz.underlying2 (by unfold InI at h; simp [Lit.wf, IntKind.min, IntKind.max, IntKind.signed, IntKind.bits]; omega)
theorem bell_up {w W W' : World} (hb : Below w.heap.size w W) (h : Below W.heap.size W W') : Below w.heap.size w W' := hb.trans (h.mono hb.size)

/-- A transaction that is committed: its nodes, those that haven't applied it, its place among the commits. -/
structure Debt where
  id : Int
  ns : Nat
  lf : Nat
  ah : Nat
  rev : Int
/-- What a coordinator knows. -/
structure Co where
  node : Int
  opened : Nat
  begun : Nat
  bal : Int → Option (Nat × Nat)
  deb : List Debt
  don : Int → Option Int
  com : Nat
def dget (L : List Debt) (k : Int) : Option Debt := L.find? fun d => decide (d.id = k)
def updF {α : Type} (f : Int → Option α) (k : Int) (v : Option α) : Int → Option α := fun x => if x = k then v else f x
def stat (c : Co) (k : Int) : Int × Int := match c.bal k with
  | some _ => (1, 0)
  | none => match dget c.deb k with
    | some d => (2, d.rev)
    | none => match c.don k with
      | some r => (3, r)
      | none => (0, 0)
def debV (d : Debt) : Value := .agg #[.int .u8 (d.ns : Int), .int .u8 (d.lf : Int), .int .i64 (d.ah : Int), .int .i64 d.rev]
def balV (b : Nat × Nat) : Value := .agg #[.int .u8 (b.1 : Int), .int .u8 (b.2 : Int)]
structure Co.ok (c : Co) : Prop where
  node : isN c.node
  opened : c.opened ≤ 1048576
  begun : c.begun < 16777216
  com : c.com ≤ 1048576
  bal : ∀ k b, c.bal k = some b → b.1 < 256 ∧ b.2 < 256
  deb : ∀ d ∈ c.deb, InI d.id ∧ d.ns < 256 ∧ d.lf < 256 ∧ d.ah < c.com ∧ InI d.rev
  nd : (c.deb.map (·.id)).Nodup
  asc : (c.deb.map (·.ah)).Pairwise (· < ·)
  don : ∀ k r, c.don k = some r → InI r
  apart : ∀ k b, c.bal k = some b → dget c.deb k = none ∧ c.don k = none
/-- A coordinator lies in block gc, its maps in blocks b1, b2, b3; it writes to the log in block gl. -/
structure CoAt (w : World) (B gc gl b1 b2 b3 : Nat) (c : Co) : Prop where
  own : Whole w gc 83 #[.pointer (some ⟨gl, 0, none⟩), .int .i64 c.node, .int .i64 (c.opened : Int), .int .i64 (c.begun : Int), .map (some b1), .map (some b2), .map (some b3), .int .i64 (c.com : Int)]
  bal : ∃ mm N, MapAt w Tryz.prog 2 b1 mm N ∧ N ≤ c.begun ∧ ∀ k, InI k → mm (.int .i64 k) = (c.bal k).map balV
  deb : ∃ mm, MapAt w Tryz.prog 2 b2 mm c.deb.length ∧ ∀ k, InI k → mm (.int .i64 k) = (dget c.deb k).map debV
  don : ∃ mm N, MapAt w Tryz.prog 2 b3 mm N ∧ N + c.deb.length ≤ c.com ∧ ∀ k, InI k → mm (.int .i64 k) = (c.don k).map (Value.int .i64)
  ok : c.ok
  ge : B ≤ gc ∧ B ≤ b1 ∧ B ≤ b2 ∧ B ≤ b3
  ne : b1 ≠ b2 ∧ b1 ≠ b3 ∧ b2 ≠ b3
def CB (gc b1 b2 b3 k : Nat) : Prop := k = gc ∨ k = b1 ∨ k = b2 ∨ k = b3
theorem Tryz.zeroBal (w : World) : (zeroValue 88).run Tryz.prog w = .ok (.agg #[.int .u8 0, .int .u8 0]) w := by kernel_rfl
theorem Tryz.zeroDeb (w : World) : (zeroValue 95).run Tryz.prog w = .ok (.agg #[.int .u8 0, .int .u8 0, .int .i64 0, .int .i64 0]) w := by kernel_rfl
theorem Tryz.zeroDon (w : World) : (zeroValue 2).run Tryz.prog w = .ok (.int .i64 0) w := by kernel_rfl
theorem mset_int (m : Lit → Option Value) (id k : Int) (hid : InI id) (v : Option Value) : mset m (.int .i64 id) v (.int .i64 k) = if k = id then v else m (.int .i64 k) := by
  by_cases h : k = id
  · subst h
    rw [if_pos rfl]
    exact mset_same (Tryz.keyL.key (key_long k hid))
  · rw [if_neg h]
    exact mset_other (by intro e; injection e with _ e; exact h e)
section
variable {w w' : World} {B gc gl b1 b2 b3 : Nat} {c : Co}
theorem CoAt.geB (h : CoAt w B gc gl b1 b2 b3 c) {k : Nat} (hk : CB gc b1 b2 b3 k) : B ≤ k := by
  obtain ⟨h1, h2, h3, h4⟩ := h.ge
  rcases hk with rfl | rfl | rfl | rfl <;> assumption
theorem CoAt.lt (h : CoAt w B gc gl b1 b2 b3 c) {k : Nat} (hk : CB gc b1 b2 b3 k) : k < w.heap.size := by
  obtain ⟨_, _, h1, _⟩ := h.bal
  obtain ⟨_, h2, _⟩ := h.deb
  obtain ⟨_, _, h3, _⟩ := h.don
  rcases hk with rfl | rfl | rfl | rfl
  · exact h.own.lt
  · exact h1.lt
  · exact h2.lt
  · exact h3.lt
theorem CoAt.other (h : CoAt w B gc gl b1 b2 b3 c) {k : Nat} {T : TypeId} {cs : Array Value} (hk : Whole w k T cs) (h1 : T ≠ 83) : ¬ CB gc b1 b2 b3 k := by
  obtain ⟨_, _, m1, _⟩ := h.bal
  obtain ⟨_, m2, _⟩ := h.deb
  obtain ⟨_, _, m3, _⟩ := h.don
  rintro (hb | hb | hb | hb)
  · exact whole_ne hk h.own h1 hb
  · exact m1.ne hk hb
  · exact m2.ne hk hb
  · exact m3.ne hk hb
theorem CoAt.kept (h : CoAt w B gc gl b1 b2 b3 c) (hb : ∀ k, CB gc b1 b2 b3 k → w'.heap[k]? = w.heap[k]?) : CoAt w' B gc gl b1 b2 b3 c := by
  obtain ⟨m1, n1, h1, r1⟩ := h.bal
  obtain ⟨m2, h2, r2⟩ := h.deb
  obtain ⟨m3, n3, h3, r3⟩ := h.don
  exact ⟨h.own.kept (hb gc (.inl rfl)), ⟨m1, n1, h1.kept (hb b1 (.inr (.inl rfl))), r1⟩, ⟨m2, h2.kept (hb b2 (.inr (.inr (.inl rfl)))), r2⟩, ⟨m3, n3, h3.kept (hb b3 (.inr (.inr (.inr rfl)))), r3⟩, h.ok, h.ge, h.ne⟩
theorem CoAt.below (h : CoAt w B gc gl b1 b2 b3 c) (hb : Below w.heap.size w w') : CoAt w' B gc gl b1 b2 b3 c := h.kept fun _ hk => hb.block _ (h.lt hk)
theorem CoAt.lower {B' : Nat} (h : CoAt w B gc gl b1 b2 b3 c) (hb : B' ≤ B) : CoAt w B' gc gl b1 b2 b3 c := ⟨h.own, h.bal, h.deb, h.don, h.ok, by obtain ⟨h1, h2, h3, h4⟩ := h.ge; omega, h.ne⟩
theorem CoAt.cells (h : CoAt w B gc gl b1 b2 b3 c) : w.cell? ⟨gc, 0, none⟩ = some (.pointer (some ⟨gl, 0, none⟩)) ∧ w.cell? ⟨gc, 1, none⟩ = some (.int .i64 c.node) ∧ w.cell? ⟨gc, 2, none⟩ = some (.int .i64 (c.opened : Int)) ∧ w.cell? ⟨gc, 3, none⟩ = some (.int .i64 (c.begun : Int)) ∧ w.cell? ⟨gc, 4, none⟩ = some (.map (some b1)) ∧ w.cell? ⟨gc, 5, none⟩ = some (.map (some b2)) ∧ w.cell? ⟨gc, 6, none⟩ = some (.map (some b3)) ∧ w.cell? ⟨gc, 7, none⟩ = some (.int .i64 (c.com : Int)) ∧ w.frozen? ⟨gc, 2, none⟩ = false ∧ w.frozen? ⟨gc, 3, none⟩ = false ∧ w.frozen? ⟨gc, 7, none⟩ = false := by
  refine ⟨?_, ?_, ?_, ?_, ?_, ?_, ?_, ?_, h.own.free 2, h.own.free 3, h.own.free 7⟩ <;> rw [h.own.cell] <;> rfl
theorem CoAt.lookBal (h : CoAt w B gc gl b1 b2 b3 c) {k : Int} (hk : InI k) : (Instr.lookup 80 (.map (some b1)) (.int .i64 k) true).run Tryz.prog w = .ok (.tuple #[((c.bal k).map balV).getD (.agg #[.int .u8 0, .int .u8 0]), .bool (c.bal k).isSome]) w := by
  obtain ⟨mm, N, hm, _, hf⟩ := h.bal
  have := hm.look Tryz.keyL Tryz.underlying80 (Tryz.zeroBal w) true (key_long k hk)
  rw [hf k hk] at this
  simpa using this
theorem CoAt.lookDeb (h : CoAt w B gc gl b1 b2 b3 c) {k : Int} (hk : InI k) : (Instr.lookup 81 (.map (some b2)) (.int .i64 k) true).run Tryz.prog w = .ok (.tuple #[((dget c.deb k).map debV).getD (.agg #[.int .u8 0, .int .u8 0, .int .i64 0, .int .i64 0]), .bool (dget c.deb k).isSome]) w := by
  obtain ⟨mm, hm, hf⟩ := h.deb
  have := hm.look Tryz.keyL Tryz.underlying81 (Tryz.zeroDeb w) true (key_long k hk)
  rw [hf k hk] at this
  simpa using this
theorem CoAt.lookDeb1 (h : CoAt w B gc gl b1 b2 b3 c) {k : Int} (hk : InI k) : (Instr.lookup 81 (.map (some b2)) (.int .i64 k) false).run Tryz.prog w = .ok (((dget c.deb k).map debV).getD (.agg #[.int .u8 0, .int .u8 0, .int .i64 0, .int .i64 0])) w := by
  obtain ⟨mm, hm, hf⟩ := h.deb
  have := hm.look Tryz.keyL Tryz.underlying81 (Tryz.zeroDeb w) false (key_long k hk)
  rw [hf k hk] at this
  simpa using this
theorem CoAt.lookDon (h : CoAt w B gc gl b1 b2 b3 c) {k : Int} (hk : InI k) : (Instr.lookup 34 (.map (some b3)) (.int .i64 k) true).run Tryz.prog w = .ok (.tuple #[((c.don k).map (Value.int .i64)).getD (.int .i64 0), .bool (c.don k).isSome]) w := by
  obtain ⟨mm, N, hm, _, hf⟩ := h.don
  have := hm.look Tryz.keyL Tryz.underlying34 (Tryz.zeroDon w) true (key_long k hk)
  rw [hf k hk] at this
  simpa using this
/-- A box of so many cells, made anew. -/
theorem box_new (w : World) (t : TypeId) (cs : Array Value) : ∃ X, X = w.alloc (.cells cs t) ∧ Whole X w.heap.size t cs ∧ Below w.heap.size w X := ⟨_, rfl, heap_alloc_new w _, below_alloc w _⟩
set_option maxRecDepth 100000 in
set_option maxHeartbeats 4000000 in
theorem status_any (w : World) (h : CoAt w B gc gl b1 b2 b3 c) (k : Int) (hk : InI k) :
    Calls Tryz.prog 18 #[.pointer (some ⟨gc, 0, none⟩), .int .i64 k] w fun e w' => e = .returned (.tuple #[.int .i64 (stat c k).1, .int .i64 (stat c k).2]) ∧ Below w.heap.size w w' := by
  have hl1 := h.lookBal hk
  obtain ⟨c0, c1, c2, c3, c4, c5, c6, c7, _, _, _⟩ := h.cells
  unfold stat
  cases hb : c.bal k with
  | some b =>
    rw [hb] at hl1
    simp only [Option.map_some, Option.getD_some, Option.isSome_some, balV] at hl1
    clear h hb
    go_enter Tryz.func18, Tryz.ntmps18
    go_wp2
    go_ret2
    exact ⟨rfl, below_alloc _ _⟩
  | none =>
    rw [hb] at hl1
    simp only [Option.map_none, Option.getD_none, Option.isSome_none] at hl1
    obtain ⟨W1, hW1, hw1, hB1⟩ := box_new w 88 #[.int .u8 0, .int .u8 0]
    have h1 := h.below hB1
    have hl2 := h1.lookDeb hk
    obtain ⟨d0, d1, d2, d3, d4, d5, d6, d7, _, _, _⟩ := h1.cells
    cases hd : dget c.deb k with
    | some d =>
      rw [hd] at hl2
      simp only [Option.map_some, Option.getD_some, Option.isSome_some, debV] at hl2
      obtain ⟨W2, hW2, hw2, hB2⟩ := box_new W1 95 #[.int .u8 (d.ns : Int), .int .u8 (d.lf : Int), .int .i64 (d.ah : Int), .int .i64 d.rev]
      have HB := Lib.hid (hB1.trans (hB2.mono hB1.size))
      have k3 := hw2.cell 3
      clear h h1 hb hd hB1 hB2 hw1
      go_enter Tryz.func18, Tryz.ntmps18
      go_upto_region 2 with fail
      rw [← hW1]
      clear hW1
      go_upto_region 5 with fail
      rw [← hW2]
      clear hW2
      go_wp2_with fail
      go_quiet (fail)
      go_wp2
      go_ret2
      exact ⟨rfl, HB.out.trans (below_drewN _ _ |>.mono HB.out.size)⟩
    | none =>
      rw [hd] at hl2
      simp only [Option.map_none, Option.getD_none, Option.isSome_none] at hl2
      obtain ⟨W2, hW2, hw2, hB2⟩ := box_new W1 95 #[.int .u8 0, .int .u8 0, .int .i64 0, .int .i64 0]
      have h2 := h1.below hB2
      have hl3 := h2.lookDon hk
      obtain ⟨e0, e1, e2, e3, e4, e5, e6, e7, _, _, _⟩ := h2.cells
      have HB := Lib.hid (hB1.trans (hB2.mono hB1.size))
      cases hn : c.don k with
      | some r =>
        rw [hn] at hl3
        simp only [Option.map_some, Option.getD_some, Option.isSome_some] at hl3
        clear h h1 h2 hb hd hn hB1 hB2 hw1 hw2
        go_enter Tryz.func18, Tryz.ntmps18
        go_upto_region 2 with fail
        rw [← hW1]
        clear hW1
        go_upto_region 5 with fail
        rw [← hW2]
        clear hW2
        go_wp2
        go_ret2
        exact ⟨rfl, HB.out⟩
      | none =>
        rw [hn] at hl3
        simp only [Option.map_none, Option.getD_none, Option.isSome_none] at hl3
        clear h h1 h2 hb hd hn hB1 hB2 hw1 hw2
        go_enter Tryz.func18, Tryz.ntmps18
        go_upto_region 2 with fail
        rw [← hW1]
        clear hW1
        go_upto_region 5 with fail
        rw [← hW2]
        clear hW2
        go_wp2
        go_ret2
        exact ⟨rfl, HB.out⟩
set_option maxRecDepth 100000 in
set_option maxHeartbeats 4000000 in
theorem ready_any (w : World) (h : CoAt w B gc gl b1 b2 b3 c) (k : Int) (hk : InI k) :
    Calls Tryz.prog 21 #[.pointer (some ⟨gc, 0, none⟩), .int .i64 k] w fun e w' => e = .returned (.bool ((c.bal k).any fun b => decide (b.2 = 0))) ∧ Below w.heap.size w w' := by
  have hl1 := h.lookBal hk
  obtain ⟨c0, c1, c2, c3, c4, c5, c6, c7, _, _, _⟩ := h.cells
  cases hb : c.bal k with
  | some b =>
    rw [hb] at hl1
    simp only [Option.map_some, Option.getD_some, Option.isSome_some, balV] at hl1
    clear h hb
    simp only [Option.any_some]
    have he := fun W => empty_any W b.2
    generalize decide (b.2 = 0) = q at *
    obtain ⟨W1, hW1, hw1, hB1⟩ := box_new w 88 #[.int .u8 (b.1 : Int), .int .u8 (b.2 : Int)]
    have k1 := hw1.cell 1
    have HB := Lib.hid hB1
    clear hw1 hB1
    go_enter Tryz.func21, Tryz.ntmps21
    go_upto_region 2 with fail
    rw [← hW1]
    clear hW1
    go_wp2_with (go_at_call 29; refine (he _).mono ?_; rintro e w1 ⟨rfl, rfl⟩)
    go_ret
    exact ⟨rfl, HB.out⟩
  | none =>
    rw [hb] at hl1
    simp only [Option.map_none, Option.getD_none, Option.isSome_none] at hl1
    clear h hb
    simp only [Option.any_none]
    go_enter Tryz.func21, Tryz.ntmps21
    go_wp2
    go_ret
    exact ⟨rfl, below_alloc _ _⟩
end
end Go.Proofs.YtkailiifgdjgmaaGreat

namespace Go.Proofs.YtkailiifgdjgmaaGreat
open Go.RowKit
open Go.Maps (Keyed)

/-- The number of the next transaction. -/
def newId (c : Co) : Int := (c.node + 1) * 1099511627776 + (c.opened : Int) * 16777216 + ((c.begun : Int) + 1)
def cbegin (c : Co) (l : List Int) : Co := { c with begun := c.begun + 1, bal := updF c.bal (newId c) (some (sset l, sset l)) }
def cvote (c : Co) (k n : Int) (yes : Bool) : Int × Co := match c.bal k with
  | none => (4, c)
  | some b => if shas b.1 n then (if yes then (0, { c with bal := updF c.bal k (some (b.1, swo b.2 n)) }) else (0, { c with bal := updF c.bal k none })) else (1, c)
def cabort (c : Co) (k : Int) : Int × Co := match c.bal k with
  | none => (4, c)
  | some _ => (0, { c with bal := updF c.bal k none })
theorem newId_in {c : Co} (h : c.ok) : InI (newId c) := by
  obtain ⟨h1, h2⟩ := h.node
  have h3 := h.opened
  have h4 := h.begun
  unfold InI newId
  constructor <;> omega
theorem Co.ok.balSet {c : Co} (h : c.ok) (k : Int) (v : Option (Nat × Nat)) (hv : ∀ b, v = some b → b.1 < 256 ∧ b.2 < 256 ∧ dget c.deb k = none ∧ c.don k = none) (n : Nat) (hn : n < 16777216) : ({ c with begun := n, bal := updF c.bal k v } : Co).ok := by
  refine ⟨h.node, h.opened, hn, h.com, fun x b hb => ?_, h.deb, h.nd, h.asc, h.don, fun x b hb => ?_⟩
  · simp only [updF] at hb
    split at hb
    · exact ⟨(hv b hb).1, (hv b hb).2.1⟩
    · exact h.bal x b hb
  · simp only [updF] at hb
    split at hb
    · next e => rw [e]; exact (hv b hb).2.2
    · exact h.apart x b hb
section
variable {w w' : World} {B gc gl b1 b2 b3 : Nat} {c : Co}
/-- Only the ballots' map has changed. -/
theorem CoAt.bal_put (h : CoAt w B gc gl b1 b2 b3 c) {w1 : World} {k : Int} (hk : InI k) {v : Option (Nat × Nat)} {mm : Lit → Option Value} {N n : Nat} (hm : MapAt w' Tryz.prog 2 b1 (mset mm (.int .i64 k) (v.map balV)) N) (hN : N ≤ n) (hf : ∀ k, InI k → mm (.int .i64 k) = (c.bal k).map balV)
    (hown : Whole w1 gc 83 #[.pointer (some ⟨gl, 0, none⟩), .int .i64 c.node, .int .i64 (c.opened : Int), .int .i64 (n : Int), .map (some b1), .map (some b2), .map (some b3), .int .i64 (c.com : Int)]) (h1 : ∀ k, CB gc b1 b2 b3 k → k ≠ gc → w1.heap[k]? = w.heap[k]?)
    (hg : w1.grownBy w' (some b1)) (hok : ({ c with begun := n, bal := updF c.bal k v } : Co).ok) : CoAt w' B gc gl b1 b2 b3 { c with begun := n, bal := updF c.bal k v } := by
  obtain ⟨m2, d1, d2⟩ := h.deb
  obtain ⟨m3, n3, d3, d4, d5⟩ := h.don
  obtain ⟨x1, x2, x3⟩ := h.ne
  have e1 : gc ≠ b1 := by
    obtain ⟨_, _, h2, _⟩ := h.bal
    exact h2.ne h.own
  have e2 : gc ≠ b2 := d1.ne h.own
  have e3 : gc ≠ b3 := d3.ne h.own
  have q1 := h1 b2 (.inr (.inr (.inl rfl))) e2.symm
  have q2 := h1 b3 (.inr (.inr (.inr rfl))) e3.symm
  have d1' := d1.kept q1
  have d3' := d3.kept q2
  refine ⟨hown.kept (hg.block gc hown.lt (by intro e; injection e with e; exact e1 e)), ⟨_, N, hm, hN, fun x hx => ?_⟩, ⟨m2, d1'.kept (hg.block b2 d1'.lt (by intro e; injection e with e; exact x1 e.symm)), d2⟩, ⟨m3, n3, d3'.kept (hg.block b3 d3'.lt (by intro e; injection e with e; exact x2 e.symm)), d4, d5⟩, hok, h.ge, h.ne⟩
  rw [mset_int _ _ _ hk, hf x hx]
  simp only [updF]
  split <;> rfl
set_option maxRecDepth 100000 in
set_option maxHeartbeats 2000000 in
theorem indexFunc_any (w : World) (a : Option Addr) (n c : Nat) (l : List Int) (B : Nat) (hx : IntsAt w B a n l) (hn : n ≤ 9223372036854775807) :
    Calls Tryz.prog 43 #[.slice a n c, .func (.func 25) #[] #[]] w fun e w' => ∃ i : Int, e = .returned (.int .i64 i) ∧ (0 ≤ i ↔ ∃ x ∈ l, ¬ isN x) ∧ w' = w := by
  have HX := Lib.hid hx
  clear hx
  go_enter Tryz.func43, Tryz.ntmps43
  go_wp2
  go_loopw [8] (fun iv wr => wr = w ∧ ∃ i : Nat, i ≤ n ∧ iv = .int .i64 i ∧ ∀ x ∈ l.take i, isN x) (fun iv _ => n - (intOf iv).toNat)
  case atStart => exact ⟨rfl, 0, by omega, rfl, by simp⟩
  case round =>
    obtain ⟨rfl, i, hin, rfl, hall⟩ := hrel
    have HA := Lib.hid hall
    clear hall
    by_cases hil : i < n
    · obtain ⟨b, off, z, rfl, hb, hz, hc, hzi⟩ := HX.out.cellp hil
      have hij : (0:Int) ≤ (i:Int) ∧ (i:Int) < (n:Int) := by omega
      have htk : l.take (i + 1) = l.take i ++ [z] := take_snoc hz
      have HTK := Lib.hid htk
      have HZ := Lib.hid hz
      have hnn := noNode_any wr z
      clear htk hz
      by_cases hzn : isN z
      · rw [show decide (isN z) = true by simpa using hzn] at hnn
        have HR := Lib.hid (show ∃ j : Nat, j ≤ n ∧ Value.int .i64 ((i : Int) + 1) = .int .i64 j ∧ ∀ x ∈ l.take j, isN x from ⟨i + 1, by omega, by simp, by
          rw [HTK.out]
          intro x hx
          rcases List.mem_append.1 hx with h1 | h1
          · exact HA.out x h1
          · rw [List.mem_singleton] at h1; rw [h1]; exact hzn⟩)
        go_wp2_with (go_at_call 25; refine hnn.mono ?_; rintro e w1 ⟨rfl, rfl⟩)
        go_roundw
        case rel => exact ⟨trivial, HR.out⟩
        case measure => simp [intOf]; omega
      · rw [show decide (isN z) = false by simpa using hzn] at hnn
        go_wp2_with (go_at_call 25; refine hnn.mono ?_; rintro e w1 ⟨rfl, rfl⟩)
        go_ret
        exact ⟨_, rfl, ⟨fun _ => ⟨z, List.mem_of_getElem? HZ.out, hzn⟩, fun _ => by omega⟩, rfl⟩
    · obtain rfl : i = n := by omega
      have htk : l.take i = l := List.take_of_length_le (by rw [HX.out.1]; omega)
      rw [htk] at HA
      go_wp2
      go_ret
      exact ⟨-1, rfl, ⟨fun h => absurd h (by omega), fun ⟨x, hx, hn⟩ => absurd (HA.out x hx) hn⟩, rfl⟩
set_option maxRecDepth 100000 in
theorem containsFunc_any (w : World) (a : Option Addr) (n c : Nat) (l : List Int) (B : Nat) (hx : IntsAt w B a n l) (hn : n ≤ 9223372036854775807) :
    Calls Tryz.prog 24 #[.slice a n c, .func (.func 25) #[] #[]] w fun e w' => e = .returned (.bool (l.any fun x => !decide (isN x))) ∧ w' = w := by
  have hi := indexFunc_any w a n c l B hx hn
  go_enter Tryz.func24, Tryz.ntmps24
  go_wp2_with (go_at_call 43; refine hi.mono ?_; rintro e w1 ⟨i, rfl, hi2, rfl⟩; have HI := Lib.hid hi2; clear hi2)
  go_ret
  refine ⟨?_, rfl⟩
  rw [show (l.any fun x => !decide (isN x)) = decide (i ≥ 0) by
    rw [Bool.eq_iff_iff, List.any_eq_true, decide_eq_true_eq, ge_iff_le, HI.out]
    simp]
  rfl
/-- May these be the nodes of a transaction? -/
def beginOk (c : Co) (l : List Int) : Prop := l ≠ [] ∧ (∀ x ∈ l, isN x) ∧ c.begun < 16777215
set_option maxRecDepth 100000 in
set_option maxHeartbeats 4000000 in
theorem begin_bad (w : World) (h : CoAt w B gc gl b1 b2 b3 c) (a : Option Addr) (n cp : Nat) (l : List Int) (B' : Nat) (hx : IntsAt w B' a n l) (hn : n ≤ 9223372036854775807) (hbad : ¬ beginOk c l) :
    Calls Tryz.prog 11 #[.pointer (some ⟨gc, 0, none⟩), .slice a n cp] w fun e w' => e = .returned (.tuple #[.int .i64 0, .int .i64 1]) ∧ w' = w := by
  have hcf := containsFunc_any w a n cp l B' hx hn
  have hb := h.ok.begun
  obtain ⟨c0, c1, c2, c3, c4, c5, c6, c7, _, _, _⟩ := h.cells
  rcases Nat.eq_zero_or_pos n with h0 | h0
  · subst h0
    clear h hbad hx
    go_enter Tryz.func11, Tryz.ntmps11
    go_wp2
    go_ret2
    exact ⟨rfl, rfl⟩
  · have hne : l ≠ [] := by intro e; have := hx.1; rw [e] at this; simp at this; omega
    have hnz : ¬ (n : Int) = 0 := by omega
    by_cases hall : ∀ x ∈ l, isN x
    · have hany : (l.any fun x => !decide (isN x)) = false := by simpa using hall
      rw [hany] at hcf
      have hbg : ¬ c.begun < 16777215 := fun h5 => hbad ⟨hne, hall, h5⟩
      have hge : (c.begun : Int) ≥ 16777215 := by omega
      clear h hbad hx hbg hb
      go_enter Tryz.func11, Tryz.ntmps11
      go_wp2_with (go_at_call 24; refine hcf.mono ?_; rintro e w1 ⟨rfl, rfl⟩)
      go_ret2
      exact ⟨rfl, rfl⟩
    · have hany : (l.any fun x => !decide (isN x)) = true := by simpa using hall
      rw [hany] at hcf
      clear h hbad hx hb
      go_enter Tryz.func11, Tryz.ntmps11
      go_wp2_with (go_at_call 24; refine hcf.mono ?_; rintro e w1 ⟨rfl, rfl⟩)
      go_ret2
      exact ⟨rfl, rfl⟩
theorem i64_wrap {x : Int} (h : InI x) : IntKind.i64.wrap x = x := IntWalk.i64_in _ (by unfold InI at h; omega)
set_option maxRecDepth 100000 in
set_option maxHeartbeats 8000000 in
theorem begin_good (w : World) (h : CoAt w B gc gl b1 b2 b3 c) (a : Option Addr) (n cp : Nat) (l : List Int) (B' : Nat) (hx : IntsAt w B' a n l) (hB' : B' ≤ w.heap.size) (hapart : ∀ b off, a = some ⟨b, off, none⟩ → ¬ CB gc b1 b2 b3 b) (hn : n ≤ 9223372036854775807) (hgood : beginOk c l) (hfr : dget c.deb (newId c) = none ∧ c.don (newId c) = none) :
    Calls Tryz.prog 11 #[.pointer (some ⟨gc, 0, none⟩), .slice a n cp] w fun e w' => e = .returned (.tuple #[.int .i64 (newId c), .int .i64 0]) ∧ CoAt w' B gc gl b1 b2 b3 (cbegin c l) ∧ Chg w w' (CB gc b1 b2 b3) := by
  have hcf := containsFunc_any w a n cp l B' hx hn
  obtain ⟨c0, c1, c2, c3, c4, c5, c6, c7, _, z3, _⟩ := h.cells
  obtain ⟨hne, hall, hbg⟩ := hgood
  have hany : (l.any fun x => !decide (isN x)) = false := by simpa using hall
  rw [hany] at hcf
  have hnz : ¬ (n : Int) = 0 := by intro e; apply hne; exact List.eq_nil_of_length_eq_zero (by rw [hx.1]; omega)
  have hge : decide ((c.begun : Int) ≥ 16777215) = false := decide_eq_false (by omega)
  have hnid := newId_in h.ok
  obtain ⟨hn1, hn2⟩ := h.ok.node
  have hop := h.ok.opened
  have hadd : IntKind.i64.wrap ((c.begun : Int) + 1) = (c.begun : Int) + 1 := i64_wrap ⟨by omega, by omega⟩
  have hnode : IntKind.i64.wrap (c.node + 1) = c.node + 1 := i64_wrap ⟨by omega, by omega⟩
  have hs1 : IntKind.i64.wrap ((c.node + 1) * 1099511627776) = (c.node + 1) * 1099511627776 := i64_wrap ⟨by omega, by omega⟩
  have hs2 : IntKind.i64.wrap ((c.opened : Int) * 16777216) = (c.opened : Int) * 16777216 := i64_wrap ⟨by omega, by omega⟩
  have hs3 : IntKind.i64.wrap ((c.node + 1) * 1099511627776 + (c.opened : Int) * 16777216) = (c.node + 1) * 1099511627776 + (c.opened : Int) * 16777216 := i64_wrap ⟨by omega, by omega⟩
  have hs4 : IntKind.i64.wrap ((c.node + 1) * 1099511627776 + (c.opened : Int) * 16777216 + ((c.begun : Int) + 1)) = newId c := by rw [i64_wrap ⟨by omega, by omega⟩]; rfl
  obtain ⟨w1, hw1⟩ : ∃ w1, w1 = w.setCell ⟨gc, 3, none⟩ (.int .i64 ((c.begun : Int) + 1)) := ⟨_, rfl⟩
  have hown1 : Whole w1 gc 83 #[.pointer (some ⟨gl, 0, none⟩), .int .i64 c.node, .int .i64 (c.opened : Int), .int .i64 ((c.begun + 1 : Nat) : Int), .map (some b1), .map (some b2), .map (some b3), .int .i64 (c.com : Int)] := by
    rw [hw1]
    simpa using h.own.store 3 (.int .i64 ((c.begun : Int) + 1))
  have hk1 : ∀ k, k ≠ gc → w1.heap[k]? = w.heap[k]? := fun k hk => by rw [hw1]; exact Below.heap_setCell w ⟨gc, 3, none⟩ _ k hk
  have hchg1 : Chg w w1 (CB gc b1 b2 b3) := by rw [hw1]; exact (Chg.refl _ _).set (.inl rfl) 3 _
  have hx1 : IntsAt w1 B' a n l := by
    refine ⟨hx.1, hx.2.imp_right ?_⟩
    rintro ⟨b, off, rfl, h2, h3⟩
    refine ⟨b, off, rfl, h2, fun i z hz => ⟨?_, (h3 i z hz).2⟩⟩
    have := hk1 b (fun e => hapart b off rfl (.inl e))
    have h4 := (h3 i z hz).1
    simp only [World.cell?, this] at h4 ⊢
    exact h4
  have q0 := hown1.cell 0
  have q1 := hown1.cell 1
  have q2 := hown1.cell 2
  have q3 := hown1.cell 3
  have q4 := hown1.cell 4
  have HSO := Lib.hid (show ∀ W, (∃ m, W = w1.drewN m) → Calls Tryz.prog 26 #[.slice a n cp] W fun e w' => e = .returned (.int .u8 ((sset l : Nat) : Int)) ∧ w' = W from fun W ⟨m, hm⟩ => setOf_any W a n cp l B' (by rw [hm]; exact hx1) hn)
  have HK := Lib.hid (show ∀ (W : World) (hW : ∃ m, W = w1.drewN m) (w' : World) (mm : Lit → Option Value) (N : Nat), MapAt w Tryz.prog 2 b1 mm N → N ≤ c.begun → (∀ k, InI k → mm (.int .i64 k) = (c.bal k).map balV) → MapAt w' Tryz.prog 2 b1 (mset mm (.int .i64 (newId c)) (some (balV (sset l, sset l)))) (if (mm (.int .i64 (newId c))).isSome then N else N + 1) → W.grownBy w' (some b1) → CoAt w' B gc gl b1 b2 b3 (cbegin c l) ∧ Chg w w' (CB gc b1 b2 b3) from fun W ⟨m, hW⟩ w' mm N e1 e2 e3 e4 e5 => by subst hW; exact ⟨h.bal_put hnid (v := some (sset l, sset l)) e4 (by split <;> omega) e3 (w1 := w1.drewN m) hown1 (fun k _ hk => hk1 k hk) e5 (h.ok.balSet _ _ (fun b hb => by injection hb with hb; rw [← hb]; exact ⟨sset_lt _, sset_lt _, hfr⟩) _ (by omega)), (hchg1.drewN m).toGrown e5 (.inr (.inl rfl))⟩)
  obtain ⟨mm, N, hm, hN, hf⟩ := h.bal
  have HM := Lib.hid (show ∀ W, (∃ m, W = w1.drewN m) → MapAt W Tryz.prog 2 b1 mm N from fun W ⟨m, hW⟩ => by subst hW; exact hm.kept (w' := w1.drewN m) (hk1 b1 (hm.ne h.own).symm))
  have HM0 := Lib.hid hm
  have HN := Lib.hid hN
  have HF := Lib.hid hf
  have hN6 : N < maxLen := by unfold maxLen; omega
  clear h hx hx1 hall hbg hfr hn1 hn2 hop hown1 hk1 hchg1 hm hN hf hany hne hapart
  rw [Int.natCast_add] at q3
  simp only [Int.natCast_one] at q3
  generalize newId c = id at *
  have H1 := Lib.hid hs1
  have H2 := Lib.hid hs2
  have H3 := Lib.hid hs3
  have H4 := Lib.hid hs4
  have HN2 := Lib.hid hnode
  clear hs1 hs2 hs3 hs4 hnode
  go_enter Tryz.func11, Tryz.ntmps11
  go_upto_region 2 with (go_at_call 24; refine hcf.mono ?_; rintro e w9 ⟨rfl, rfl⟩)
  go_upto_region 4 with fail
  rw [← hw1]
  clear hw1 c0 c1 c2 c3 c4 c5 c6 c7 z3
  have hs1 := H1.out
  have hs2 := H2.out
  have hs3 := H3.out
  have hs4 := H4.out
  have hnode := HN2.out
  go_quiet (fail)
  obtain ⟨W2, hW2⟩ : ∃ W, W = w1.drewN nq := ⟨_, rfl⟩
  rw [← hW2]
  have HD := Lib.hid (show ∃ m, W2.drew = w1.drewN m from ⟨nq + 1, by rw [hW2]; rfl⟩)
  have q4 : W2.drew.cell? ⟨gc, 4, none⟩ = some (.map (some b1)) := by rw [hW2]; exact q4
  clear hW2 q0 q1 q2 q3
  go_upto_region 5 with fail
  clear hs1 hs2 hs3 hs4 hnode hadd
  refine wp_region_still_tail 10 (by kernel_rfl) (by kernel_rfl) ?_
  simp only [List.take_succ_cons, List.take_zero, List.drop_succ_cons, List.drop_zero]
  still_step
  still_step
  still_step
  still_step
  still_step
  still_step
  still_call (HSO.out W2.drew HD.out)
  still_step
  still_call (HSO.out W2.drew HD.out)
  still_step
  refine wpStill_nil ?_
  change wpList _ _ _ _ _ W2.drew
  have hM := HM.out W2.drew HD.out
  have HK2 := Lib.hid (HK.out W2.drew HD.out)
  generalize W2.drew = W3 at *
  have hid2 := key_long id hnid
  go_wp2_with (at_mapUpdate; refine wpList_store_map _ rfl _ _ _ 80 rfl 2 88 Tryz.keyL Tryz.underlying80 _ (Tryz.zeroBal _) b1 N mm rfl hM hN6 (.int .i64 id) (balV (sset l, sset l)) (.int .i64 id) rfl rfl hid2 ?_; intro w5 hm5 hg5 hs5)
  have HE := Lib.hid (HK2.out w5 mm N HM0.out HN.out HF.out hm5 hg5)
  clear hm5 hg5 hs5
  go_wp2
  go_ret2
  exact ⟨rfl, HE.out⟩
end
end Go.Proofs.YtkailiifgdjgmaaGreat

namespace Go.Proofs.YtkailiifgdjgmaaGreat
open Go.RowKit
open Go.Maps (Keyed)

section
variable {w w' : World} {B gc gl b1 b2 b3 : Nat} {c : Co}
/-- Only the ballots' map has changed, and new memory. -/
theorem CoAt.bal_step (h : CoAt w B gc gl b1 b2 b3 c) {k : Int} (hk : InI k) {v : Option (Nat × Nat)} {mm : Lit → Option Value} {N : Nat} (hm : MapAt w' Tryz.prog 2 b1 (mset mm (.int .i64 k) (v.map balV)) N) (hN : N ≤ c.begun) (hf : ∀ k, InI k → mm (.int .i64 k) = (c.bal k).map balV)
    (hg : w.grownBy w' (some b1)) (hv : ∀ b, v = some b → b.1 < 256 ∧ b.2 < 256 ∧ dget c.deb k = none ∧ c.don k = none) : CoAt w' B gc gl b1 b2 b3 { c with bal := updF c.bal k v } :=
  h.bal_put hk hm hN hf (w1 := w) h.own (fun _ _ _ => rfl) hg (h.ok.balSet k v hv c.begun h.ok.begun)
/-- What a call about a ballot comes to. -/
def BalR (w : World) (B gc gl b1 b2 b3 : Nat) (r : Int × Co) (e : Ending) (w' : World) : Prop := e = .returned (.int .i64 r.1) ∧ CoAt w' B gc gl b1 b2 b3 r.2 ∧ Chg w w' (CB gc b1 b2 b3)
set_option maxRecDepth 100000 in
set_option maxHeartbeats 8000000 in
theorem abort_any (w : World) (h : CoAt w B gc gl b1 b2 b3 c) (k : Int) (hk : InI k) :
    Calls Tryz.prog 14 #[.pointer (some ⟨gc, 0, none⟩), .int .i64 k] w (BalR w B gc gl b1 b2 b3 (cabort c k)) := by
  have hl1 := h.lookBal hk
  obtain ⟨c0, c1, c2, c3, c4, c5, c6, c7, _, _, _⟩ := h.cells
  unfold cabort
  cases hb : c.bal k with
  | none =>
    rw [hb] at hl1
    simp only [Option.map_none, Option.getD_none, Option.isSome_none] at hl1
    have HE := Lib.hid (fun W (hW : Below w.heap.size w W) => (show BalR w B gc gl b1 b2 b3 (4, c) (.returned (.int .i64 4)) W from ⟨rfl, h.below hW, Chg.ofBelow _ hW⟩))
    clear h hb
    go_enter Tryz.func14, Tryz.ntmps14
    go_wp2
    go_ret
    exact HE.out _ (below_alloc _ _)
  | some b =>
    rw [hb] at hl1
    simp only [Option.map_some, Option.getD_some, Option.isSome_some, balV] at hl1
    obtain ⟨W1, hW1, hw1, hB1⟩ := box_new w 88 #[.int .u8 (b.1 : Int), .int .u8 (b.2 : Int)]
    have h1 := h.below hB1
    obtain ⟨mm, N, hm, hN, hf⟩ := h1.bal
    have HE := Lib.hid (fun w' N' (e1 : MapAt w' Tryz.prog 2 b1 (mset mm (.int .i64 k) none) N') (e2 : N' ≤ N) (e3 : W1.grownBy w' (some b1)) => (show BalR w B gc gl b1 b2 b3 (0, { c with bal := updF c.bal k none }) (.returned (.int .i64 0)) w' from ⟨rfl, h1.bal_step hk (v := none) e1 (Nat.le_trans e2 hN) hf e3 (by intro b hb; cases hb), (Chg.ofBelow _ hB1).toGrown e3 (.inr (.inl rfl))⟩))
    have c4' := h1.cells.2.2.2.2.1
    have hid2 := key_long k hk
    clear h h1 hb hw1 hB1 hN hf
    go_enter Tryz.func14, Tryz.ntmps14
    go_upto_region 2 with fail
    rw [← hW1]
    clear hW1 c0 c1 c2 c3 c4 c5 c6 c7
    go_wp2_with (at_delete; refine wpList_drop_map _ rfl _ _ 80 2 rfl 88 Tryz.keyL Tryz.underlying80 _ (Tryz.zeroBal _) b1 N mm rfl hm (.int .i64 k) (.int .i64 k) rfl hid2 ?_; intro w5 hm5 hg5 hs5)
    have HE2 := Lib.hid (HE.out w5 _ hm5 (by split <;> omega) hg5)
    clear hm5 hg5 hs5
    go_wp2
    go_ret
    exact HE2.out
set_option maxRecDepth 100000 in
set_option maxHeartbeats 8000000 in
theorem vote_any (w : World) (h : CoAt w B gc gl b1 b2 b3 c) (k n : Int) (yes : Bool) (hk : InI k) (hn : InI n) :
    Calls Tryz.prog 12 #[.pointer (some ⟨gc, 0, none⟩), .int .i64 k, .int .i64 n, .bool yes] w (BalR w B gc gl b1 b2 b3 (cvote c k n yes)) := by
  have hl1 := h.lookBal hk
  obtain ⟨c0, c1, c2, c3, c4, c5, c6, c7, _, _, _⟩ := h.cells
  unfold cvote
  cases hb : c.bal k with
  | none =>
    rw [hb] at hl1
    simp only [Option.map_none, Option.getD_none, Option.isSome_none] at hl1
    have HE := Lib.hid (fun W (hW : Below w.heap.size w W) => (show BalR w B gc gl b1 b2 b3 (4, c) (.returned (.int .i64 4)) W from ⟨rfl, h.below hW, Chg.ofBelow _ hW⟩))
    clear h hb
    go_enter Tryz.func12, Tryz.ntmps12
    go_wp2
    go_ret
    exact HE.out _ (below_alloc _ _)
  | some b =>
    rw [hb] at hl1
    simp only [Option.map_some, Option.getD_some, Option.isSome_some, balV] at hl1
    obtain ⟨W1, hW1, hw1, hB1⟩ := box_new w 88 #[.int .u8 (b.1 : Int), .int .u8 (b.2 : Int)]
    have h1 := h.below hB1
    obtain ⟨hs1, hs2⟩ := h.ok.bal k b hb
    have hap := h.ok.apart k b hb
    have HH := Lib.hid (fun W => has_any W b.1 hs1 n hn)
    have HWO := Lib.hid (fun W => without_any W b.2 hs2 n hn)
    have k0 := hw1.cell 0
    have k1 := hw1.cell 1
    have klt := hw1.lt
    have HC1 := Lib.hid (Chg.ofBelow (CB gc b1 b2 b3) hB1)
    have HAP := Lib.hid hap
    have HS := Lib.hid (show b.1 < 256 ∧ (∀ x, swo b.2 x < 256) from ⟨hs1, fun x => swo_lt hs2 x⟩)
    have hid2 := key_long k hk
    simp only []
    obtain ⟨s1, s2⟩ := b
    simp only [] at *
    have HX1 := Lib.hid h1
    have HWB := Lib.hid hw1
    have HBK := Lib.hid hb
    clear h h1 hb hw1 hB1 hs1 hs2 hap
    cases hsh : shas s1 n
    · rw [hsh] at HH
      simp only [Bool.false_eq_true, if_false]
      clear hsh
      go_enter Tryz.func12, Tryz.ntmps12
      go_upto_region 5 with fail
      rw [← hW1]
      clear hW1 c0 c1 c2 c3 c4 c5 c6 c7
      go_wp2_with fail
      refine (HH.out _).mono ?_
      rintro e w2 ⟨rfl, hb2⟩
      have HE2 := Lib.hid (show BalR w B gc gl b1 b2 b3 (1, c) (.returned (.int .i64 1)) w2 from ⟨rfl, HX1.out.below hb2, HC1.out.trans (Chg.ofBelow _ hb2)⟩)
      clear hb2
      go_wp2
      go_ret
      exact HE2.out
    · rw [hsh] at HH
      simp only [if_true]
      clear hsh
      cases yes
      · simp only [Bool.false_eq_true, if_false]
        go_enter Tryz.func12, Tryz.ntmps12
        go_upto_region 5 with fail
        rw [← hW1]
        clear hW1 c0 c1 c2 c3 c4 c5 c6 c7
        go_wp2_with fail
        refine (HH.out _).mono ?_
        rintro e w2 ⟨rfl, hb2⟩
        have h2 := HX1.out.below hb2
        have HC2 := Lib.hid (HC1.out.trans (Chg.ofBelow _ hb2))
        obtain ⟨mm, N, hm, hN, hf⟩ := h2.bal
        have HE := Lib.hid (fun w' N' (e1 : MapAt w' Tryz.prog 2 b1 (mset mm (.int .i64 k) none) N') (e2 : N' ≤ N) (e3 : w2.grownBy w' (some b1)) => (show BalR w B gc gl b1 b2 b3 (0, { c with bal := updF c.bal k none }) (.returned (.int .i64 0)) w' from ⟨rfl, h2.bal_step hk (v := none) e1 (Nat.le_trans e2 hN) hf e3 (by intro b hb; cases hb), HC2.out.toGrown e3 (.inr (.inl rfl))⟩))
        have c4' := h2.cells.2.2.2.2.1
        clear h2 hb2 hN hf k0 k1
        go_wp2_with (at_delete; refine wpList_drop_map _ rfl _ _ 80 2 rfl 88 Tryz.keyL Tryz.underlying80 _ (Tryz.zeroBal _) b1 N mm rfl hm (.int .i64 k) (.int .i64 k) rfl hid2 ?_; intro w5 hm5 hg5 hs5)
        have HE2 := Lib.hid (HE.out w5 _ hm5 (by split <;> omega) hg5)
        clear hm5 hg5 hs5
        go_wp2
        go_ret
        exact HE2.out
      · simp only [if_true]
        go_enter Tryz.func12, Tryz.ntmps12
        go_upto_region 5 with fail
        rw [← hW1]
        clear hW1 c0 c1 c2 c3 c4 c5 c6 c7
        go_wp2_with fail
        refine (HH.out _).mono ?_
        rintro e w2 ⟨rfl, hb2⟩
        have h2 := HX1.out.below hb2
        have HC2 := Lib.hid (HC1.out.trans (Chg.ofBelow _ hb2))
        have HX2 := Lib.hid h2
        have HSK := Lib.hid (fun W (hW : Below w2.heap.size w2 W) => (show W.cell? ⟨w.heap.size, 0, none⟩ = some (.int .u8 (s1 : Int)) ∧ W.cell? ⟨w.heap.size, 1, none⟩ = some (.int .u8 (s2 : Int)) ∧ W.cell? ⟨gc, 4, none⟩ = some (.map (some b1)) from
          ⟨((hb2.trans (hW.mono hb2.size)).cell (p := ⟨w.heap.size, 0, none⟩) klt).trans k0, ((hb2.trans (hW.mono hb2.size)).cell (p := ⟨w.heap.size, 1, none⟩) klt).trans k1, (HX2.out.below hW).cells.2.2.2.2.1⟩))
        have hw2k : Whole w2 w.heap.size 88 #[.int .u8 (s1 : Int), .int .u8 (s2 : Int)] := HWB.out.kept (hb2.block _ klt)
        have HST := Lib.hid (fun W (hW : Below w2.heap.size w2 W) => (show ∃ w5, (Instr.mapUpdate 80 (.map (some b1)) (.int .i64 k) (.agg #[.int .u8 (s1 : Int), .int .u8 ((swo s2 n : Nat) : Int)])).run Tryz.prog W = .ok () w5 ∧ (w5.cell? ⟨w.heap.size, 0, none⟩ = some (.int .u8 (s1 : Int)) ∧ w5.cell? ⟨w.heap.size, 1, none⟩ = some (.int .u8 (s2 : Int)) ∧ w5.cell? ⟨gc, 4, none⟩ = some (.map (some b1))) ∧ BalR w B gc gl b1 b2 b3 (0, { c with bal := updF c.bal k (some (s1, swo s2 n)) }) (.returned (.int .i64 0)) w5 from by
          have h3 := HX2.out.below hW
          have hw3 := hw2k.kept (hW.block _ hw2k.lt)
          obtain ⟨mm, N, hm, hN, hf⟩ := h3.bal
          obtain ⟨w5, r1, r2, r3, r4⟩ := hm.store (val := balV (s1, swo s2 n)) Tryz.keyL Tryz.underlying80 (Tryz.zeroBal _) (by unfold maxLen; have := h3.ok.begun; omega) hid2
          have hsome : (mm (.int .i64 k)).isSome = true := by rw [hf k hk, HBK.out]; rfl
          rw [if_pos hsome] at r2
          have hcc := h3.bal_step hk (v := some (s1, swo s2 n)) r2 hN hf r3 (by intro b hb; injection hb with hb; rw [← hb]; exact ⟨HS.out.1, HS.out.2 n, HAP.out⟩)
          have hx5 := hw3.kept (r3.block _ hw3.lt (by intro e; injection e with e; exact hm.ne hw3 e))
          exact ⟨w5, r1, ⟨hx5.cell 0, hx5.cell 1, hcc.cells.2.2.2.2.1⟩, rfl, hcc, (HC2.out.trans (Chg.ofBelow _ hW)).toGrown r3 (.inr (.inl rfl))⟩))
        clear h2 hb2 k0 k1 klt hw2k
        generalize w.heap.size = g1 at *
        go_upto_region 8 with fail
        go_region_held3 (fun W : World => W.cell? ⟨g1, 0, none⟩ = some (.int .u8 (s1 : Int)) ∧ W.cell? ⟨g1, 1, none⟩ = some (.int .u8 (s2 : Int)) ∧ W.cell? ⟨gc, 4, none⟩ = some (.map (some b1))) (first | exact HSK.out _ (below_drewN _ 1) | assumption) (first
          | (go_at_call 28; refine (HWO.out _).mono ?_; rintro e w4 ⟨rfl, hb4⟩; have hb5 := bell_up (below_drewN w2 1) hb4; have hs5 := HSK.out w4 hb5; obtain ⟨w5, hr5, hs6, hbr⟩ := HST.out w4 hb5; have HBR := Lib.hid hbr; clear hb4 hb5 hbr))
        all_goals
          have HE2 := Lib.hid HBR.out
          go_wp2
          go_ret
          exact HE2.out
end
end Go.Proofs.YtkailiifgdjgmaaGreat

namespace Go.Proofs.YtkailiifgdjgmaaGreat
open Go.RowKit
open Go.Maps (Keyed)

/-- What comes of a record. -/
def ctake (c : Co) (m : MsgD) : Co :=
  if m.kind = 5 then { c with opened := c.opened + 1 }
  else if m.kind = 6 ∧ ((stat c m.id).1 = 0 ∨ (stat c m.id).1 = 1) then { c with bal := updF c.bal m.id none, deb := c.deb ++ [⟨m.id, sset m.nodes, sset m.nodes, c.com, m.rev⟩], com := c.com + 1 }
  else if m.kind = 7 ∧ (stat c m.id).1 = 2 then { c with deb := c.deb.filter fun d => decide (d.id ≠ m.id), don := updF c.don m.id (some (stat c m.id).2) }
  else c
theorem dget_append {L : List Debt} {d : Debt} {k : Int} (h : dget L d.id = none) : dget (L ++ [d]) k = if k = d.id then some d else dget L k := by
  unfold dget at h ⊢
  rw [List.find?_append]
  by_cases hk : k = d.id
  · subst hk
    rw [h, if_pos rfl]
    simp
  · rw [if_neg hk]
    have : ¬ d.id = k := fun e => hk e.symm
    simp [this]
theorem dget_filter {L : List Debt} {id k : Int} : dget (L.filter fun d => decide (d.id ≠ id)) k = if k = id then none else dget L k := by
  unfold dget
  rw [List.find?_filter]
  by_cases hk : k = id
  · subst hk
    rw [if_pos rfl]
    rw [List.find?_eq_none]
    intro d _
    simp
  · rw [if_neg hk]
    congr 1
    funext d
    by_cases h : d.id = k
    · subst h; simp [hk]
    · simp [h]
theorem dget_some {L : List Debt} {k : Int} {d : Debt} (h : dget L k = some d) : d ∈ L ∧ d.id = k := ⟨List.mem_of_find?_eq_some h, by simpa using List.find?_some h⟩
theorem dget_none {L : List Debt} {k : Int} (h : dget L k = none) : k ∉ L.map (·.id) := by
  intro hm
  obtain ⟨d, hd, e⟩ := List.mem_map.1 hm
  have := List.find?_eq_none.1 h d hd
  simp at this
  exact this e
theorem filter_len {L : List Debt} {id : Int} {d : Debt} (hnd : (L.map (·.id)).Nodup) (h : dget L id = some d) : (L.filter fun d => decide (d.id ≠ id)).length + 1 = L.length := by
  induction L with
  | nil => simp [dget] at h
  | cons x L ih =>
    rw [List.map_cons, List.nodup_cons] at hnd
    by_cases hx : x.id = id
    · have hall : (L.filter fun d => decide (d.id ≠ id)) = L := by
        rw [List.filter_eq_self]
        intro y hy
        simp
        intro e
        exact hnd.1 (List.mem_map.2 ⟨y, hy, by rw [e, hx]⟩)
      rw [List.filter_cons, if_neg (by simp [hx]), hall]
      rfl
    · have h2 : dget L id = some d := by
        unfold dget at h ⊢
        rw [List.find?_cons_of_neg (by simp [hx])] at h
        exact h
      rw [List.filter_cons, if_pos (by simp [hx]), List.length_cons, ih hnd.2 h2, List.length_cons]
theorem stat_cases {c : Co} {k : Int} : ((stat c k).1 = 1 ∧ ∃ b, c.bal k = some b) ∨ (c.bal k = none ∧ (((stat c k).1 = 2 ∧ ∃ d, dget c.deb k = some d ∧ (stat c k).2 = d.rev) ∨ (dget c.deb k = none ∧ (((stat c k).1 = 3 ∧ ∃ r, c.don k = some r ∧ (stat c k).2 = r) ∨ ((stat c k).1 = 0 ∧ c.don k = none ∧ (stat c k).2 = 0))))) := by
  unfold stat
  cases c.bal k with
  | some b => exact .inl ⟨rfl, b, rfl⟩
  | none =>
    refine .inr ⟨rfl, ?_⟩
    cases dget c.deb k with
    | some d => exact .inl ⟨rfl, d, rfl, rfl⟩
    | none =>
      refine .inr ⟨rfl, ?_⟩
      cases c.don k with
      | some r => exact .inl ⟨rfl, r, rfl, rfl⟩
      | none => exact .inr ⟨rfl, rfl, rfl⟩
theorem stat_nodebt {c : Co} (h : c.ok) {k : Int} (hs : (stat c k).1 = 0 ∨ (stat c k).1 = 1) : dget c.deb k = none := by
  rcases stat_cases (c := c) (k := k) with ⟨h1, b, hb⟩ | ⟨_, ⟨h1, _⟩ | ⟨h1, _⟩⟩
  · exact (h.apart k b hb).1
  · omega
  · exact h1
theorem stat_in {c : Co} (h : c.ok) (k : Int) : InI (stat c k).2 ∧ 0 ≤ (stat c k).1 ∧ (stat c k).1 ≤ 3 := by
  rcases stat_cases (c := c) (k := k) with ⟨h1, b, hb⟩ | ⟨hb, ⟨h1, d, hd, h2⟩ | ⟨hd, ⟨h1, r, hr, h2⟩ | ⟨h1, h2, h3⟩⟩⟩
  · have : (stat c k).2 = 0 := by unfold stat; rw [hb]
    rw [this, h1]; exact ⟨⟨by omega, by omega⟩, by omega, by omega⟩
  · rw [h2, h1]; exact ⟨(h.deb d (dget_some hd).1).2.2.2.2, by omega, by omega⟩
  · rw [h2, h1]; exact ⟨h.don k r hr, by omega, by omega⟩
  · rw [h3, h1]; exact ⟨⟨by omega, by omega⟩, by omega, by omega⟩
theorem Co.ok.boot {c : Co} (h : c.ok) (ho : c.opened < 1048576) : ({ c with opened := c.opened + 1 } : Co).ok := ⟨h.node, by show c.opened + 1 ≤ 1048576; omega, h.begun, h.com, h.bal, h.deb, h.nd, h.asc, h.don, h.apart⟩
theorem Co.ok.commit {c : Co} (h : c.ok) (hc : c.com < 1048576) {id rev : Int} (hid : InI id) (hrev : InI rev) (l : List Int) (hd : dget c.deb id = none) : ({ c with bal := updF c.bal id none, deb := c.deb ++ [⟨id, sset l, sset l, c.com, rev⟩], com := c.com + 1 } : Co).ok := by
  refine ⟨h.node, h.opened, h.begun, by show c.com + 1 ≤ 1048576; omega, fun k b hb => ?_, fun d hm => ?_, ?_, ?_, h.don, fun k b hb => ?_⟩
  · simp only [updF] at hb
    split at hb
    · cases hb
    · exact h.bal k b hb
  · rcases List.mem_append.1 hm with h1 | h1
    · obtain ⟨e1, e2, e3, e4, e5⟩ := h.deb d h1
      exact ⟨e1, e2, e3, by show d.ah < c.com + 1; omega, e5⟩
    · rw [List.mem_singleton] at h1
      rw [h1]
      exact ⟨hid, sset_lt l, sset_lt l, Nat.lt_succ_self _, hrev⟩
  · rw [List.map_append]
    refine List.nodup_append.2 ⟨h.nd, by simp, ?_⟩
    intro a ha b hb e
    simp at hb
    rw [e, hb] at ha
    exact dget_none hd ha
  · rw [List.map_append]
    refine List.pairwise_append.2 ⟨h.asc, by simp, ?_⟩
    intro a ha b hb
    simp at hb
    obtain ⟨d, hd, rfl⟩ := List.mem_map.1 ha
    rw [hb]
    exact (h.deb d hd).2.2.2.1
  · simp only [updF] at hb
    split at hb
    · cases hb
    · next hk =>
      obtain ⟨e1, e2⟩ := h.apart k b hb
      refine ⟨?_, e2⟩
      show dget (c.deb ++ [⟨id, sset l, sset l, c.com, rev⟩]) k = none
      rw [dget_append (by exact hd), if_neg hk, e1]
theorem Co.ok.done {c : Co} (h : c.ok) {id : Int} {rev : Int} (hrev : InI rev) (hb0 : c.bal id = none) : ({ c with deb := c.deb.filter fun d => decide (d.id ≠ id), don := updF c.don id (some rev) } : Co).ok := by
  refine ⟨h.node, h.opened, h.begun, h.com, h.bal, fun d hm => h.deb d (List.mem_filter.1 hm).1, ?_, ?_, fun k r hr => ?_, fun k b hb => ?_⟩
  · exact h.nd.sublist (List.filter_sublist.map _)
  · exact h.asc.sublist (List.filter_sublist.map _)
  · simp only [updF] at hr
    split at hr
    · injection hr with hr; rw [← hr]; exact hrev
    · exact h.don k r hr
  · have hk : ¬ k = id := by rintro rfl; rw [hb0] at hb; cases hb
    obtain ⟨e1, e2⟩ := h.apart k b hb
    refine ⟨?_, ?_⟩
    · show dget (c.deb.filter fun d => decide (d.id ≠ id)) k = none
      rw [dget_filter, if_neg hk, e1]
    · show updF c.don id (some rev) k = none
      simp only [updF, if_neg hk, e2]
theorem MapAt.nocell {w : World} {P : Program} {k : TypeId} {b N : Nat} {m : Lit → Option Value} (h : MapAt w P k b m N) (i : Nat) : w.cell? ⟨b, i, none⟩ = none := by
  obtain ⟨D, ⟨es, clock, h1, _⟩, _⟩ := h
  simp [World.cell?, h1]
theorem IntsAt.grown {w w' : World} {P : Program} {k : TypeId} {b1 N B : Nat} {m : Lit → Option Value} {a : Option Addr} {n : Nat} {l : List Int} (h : IntsAt w B a n l) (hB : B ≤ w.heap.size) (hm : MapAt w P k b1 m N) (hg : w.grownBy w' (some b1)) : IntsAt w' B a n l := by
  refine ⟨h.1, ?_⟩
  rcases Nat.eq_zero_or_pos n with h0 | h0
  · exact .inl h0
  · obtain ⟨b, off, rfl, h2, h3⟩ := h.2.resolve_left (by omega)
    refine .inr ⟨b, off, rfl, h2, fun i z hz => ⟨?_, (h3 i z hz).2⟩⟩
    have hne : b ≠ b1 := by
      rintro rfl
      obtain ⟨z0, hz0⟩ : ∃ z, l[0]? = some z := ⟨_, List.getElem?_eq_getElem (by have := h.1; omega)⟩
      have := (h3 0 z0 hz0).1
      rw [hm.nocell] at this
      cases this
    have hb := hg.block b (by omega) (by intro e; injection e with e; exact hne e)
    have h4 := (h3 i z hz).1
    simp only [World.cell?, hb] at h4 ⊢
    exact h4
/-- The coordinator's blocks as they are. -/
structure Raw (w : World) (gc b1 b2 b3 : Nat) (cs : Array Value) (m1 m2 m3 : Lit → Option Value) (n1 n2 n3 : Nat) : Prop where
  own : Whole w gc 83 cs
  r1 : MapAt w Tryz.prog 2 b1 m1 n1
  r2 : MapAt w Tryz.prog 2 b2 m2 n2
  r3 : MapAt w Tryz.prog 2 b3 m3 n3
  ne : b1 ≠ b2 ∧ b1 ≠ b3 ∧ b2 ≠ b3
section
variable {w w' : World} {B gc gl b1 b2 b3 : Nat} {c : Co} {cs : Array Value} {m1 m2 m3 m' : Lit → Option Value} {n1 n2 n3 n' : Nat}
theorem Raw.below (h : Raw w gc b1 b2 b3 cs m1 m2 m3 n1 n2 n3) (hb : Below w.heap.size w w') : Raw w' gc b1 b2 b3 cs m1 m2 m3 n1 n2 n3 := ⟨h.own.kept (hb.block _ h.own.lt), h.r1.below hb, h.r2.below hb, h.r3.below hb, h.ne⟩
theorem Raw.g1 (h : Raw w gc b1 b2 b3 cs m1 m2 m3 n1 n2 n3) (hm : MapAt w' Tryz.prog 2 b1 m' n') (hg : w.grownBy w' (some b1)) : Raw w' gc b1 b2 b3 cs m' m2 m3 n' n2 n3 := by
  obtain ⟨x1, x2, x3⟩ := h.ne
  have e1 := h.r1.ne h.own
  exact ⟨h.own.kept (hg.block gc h.own.lt (by intro e; injection e with e; exact e1 e)), hm, h.r2.kept (hg.block b2 h.r2.lt (by intro e; injection e with e; exact x1 e.symm)), h.r3.kept (hg.block b3 h.r3.lt (by intro e; injection e with e; exact x2 e.symm)), h.ne⟩
theorem Raw.g2 (h : Raw w gc b1 b2 b3 cs m1 m2 m3 n1 n2 n3) (hm : MapAt w' Tryz.prog 2 b2 m' n') (hg : w.grownBy w' (some b2)) : Raw w' gc b1 b2 b3 cs m1 m' m3 n1 n' n3 := by
  obtain ⟨x1, x2, x3⟩ := h.ne
  have e1 := h.r2.ne h.own
  exact ⟨h.own.kept (hg.block gc h.own.lt (by intro e; injection e with e; exact e1 e)), h.r1.kept (hg.block b1 h.r1.lt (by intro e; injection e with e; exact x1 e)), hm, h.r3.kept (hg.block b3 h.r3.lt (by intro e; injection e with e; exact x3 e.symm)), h.ne⟩
theorem Raw.g3 (h : Raw w gc b1 b2 b3 cs m1 m2 m3 n1 n2 n3) (hm : MapAt w' Tryz.prog 2 b3 m' n') (hg : w.grownBy w' (some b3)) : Raw w' gc b1 b2 b3 cs m1 m2 m' n1 n2 n' := by
  obtain ⟨x1, x2, x3⟩ := h.ne
  have e1 := h.r3.ne h.own
  exact ⟨h.own.kept (hg.block gc h.own.lt (by intro e; injection e with e; exact e1 e)), h.r1.kept (hg.block b1 h.r1.lt (by intro e; injection e with e; exact x2 e)), h.r2.kept (hg.block b2 h.r2.lt (by intro e; injection e with e; exact x3 e)), hm, h.ne⟩
theorem Raw.set (h : Raw w gc b1 b2 b3 cs m1 m2 m3 n1 n2 n3) (i : Nat) (u : Value) : Raw (w.setCell ⟨gc, i, none⟩ u) gc b1 b2 b3 (cs.setIfInBounds i u) m1 m2 m3 n1 n2 n3 := by
  refine ⟨h.own.store i u, h.r1.kept (Below.heap_setCell w ⟨gc, i, none⟩ u b1 (h.r1.ne h.own).symm), h.r2.kept (Below.heap_setCell w ⟨gc, i, none⟩ u b2 (h.r2.ne h.own).symm), h.r3.kept (Below.heap_setCell w ⟨gc, i, none⟩ u b3 (h.r3.ne h.own).symm), h.ne⟩
theorem CoAt.raw (h : CoAt w B gc gl b1 b2 b3 c) : ∃ m1 m2 m3 n1 n3, Raw w gc b1 b2 b3 #[.pointer (some ⟨gl, 0, none⟩), .int .i64 c.node, .int .i64 (c.opened : Int), .int .i64 (c.begun : Int), .map (some b1), .map (some b2), .map (some b3), .int .i64 (c.com : Int)] m1 m2 m3 n1 c.deb.length n3 ∧
    (n1 ≤ c.begun ∧ n3 + c.deb.length ≤ c.com) ∧ (∀ k, InI k → m1 (.int .i64 k) = (c.bal k).map balV) ∧ (∀ k, InI k → m2 (.int .i64 k) = (dget c.deb k).map debV) ∧ (∀ k, InI k → m3 (.int .i64 k) = (c.don k).map (Value.int .i64)) := by
  obtain ⟨m1, n1, h1, r1, s1⟩ := h.bal
  obtain ⟨m2, h2, s2⟩ := h.deb
  obtain ⟨m3, n3, h3, r3, s3⟩ := h.don
  exact ⟨m1, m2, m3, n1, n3, ⟨h.own, h1, h2, h3, h.ne⟩, ⟨r1, r3⟩, s1, s2, s3⟩
theorem CoAt.ofRaw (h : Raw w gc b1 b2 b3 #[.pointer (some ⟨gl, 0, none⟩), .int .i64 c.node, .int .i64 (c.opened : Int), .int .i64 (c.begun : Int), .map (some b1), .map (some b2), .map (some b3), .int .i64 (c.com : Int)] m1 m2 m3 n1 n2 n3) (hn : n1 ≤ c.begun ∧ n3 + c.deb.length ≤ c.com ∧ n2 = c.deb.length)
    (s1 : ∀ k, InI k → m1 (.int .i64 k) = (c.bal k).map balV) (s2 : ∀ k, InI k → m2 (.int .i64 k) = (dget c.deb k).map debV) (s3 : ∀ k, InI k → m3 (.int .i64 k) = (c.don k).map (Value.int .i64)) (hok : c.ok) (hge : B ≤ gc ∧ B ≤ b1 ∧ B ≤ b2 ∧ B ≤ b3) : CoAt w B gc gl b1 b2 b3 c :=
  ⟨h.own, ⟨m1, n1, h.r1, hn.1, s1⟩, ⟨m2, by rw [← hn.2.2]; exact h.r2, s2⟩, ⟨m3, n3, h.r3, hn.2.1, s3⟩, hok, hge, h.ne⟩
end
end Go.Proofs.YtkailiifgdjgmaaGreat
