/- The reader: a message, all of it. -/
import Derived.Test.YteodldmbnghfcaaGreatC18
import Derived.Deep.DeepCutAuto
namespace Go.Proofs.YteodldmbnghfcaaGreat
open Go.RowKit

/-- A message that was read. -/
structure MsgR where
  kind : Int
  frm : Int
  too : Int
  id : Int
  rev : Int
  epoch : Int
  slot : Int
  flag : Bool
  nodes : List Int
  muts : List (Bool × Tx)
  pre : List (Bool × Tx)
  rows : List (Tx × Int × Int)
/-- One thing read behind another. -/
def rb {α β : Type} (r : Except Int (α × List Int)) (f : α → List Int → Except Int (β × List Int)) : Except Int (β × List Int) := match r with
  | .error c => .error c
  | .ok (x, l) => f x l
theorem rb_ok {α β : Type} {r : Except Int (α × List Int)} {f : α → List Int → Except Int (β × List Int)} {x : α} {l : List Int} (h : r = .ok (x, l)) : rb r f = f x l := by rw [h]; rfl
theorem rb_bad {α β : Type} {r : Except Int (α × List Int)} {f : α → List Int → Except Int (β × List Int)} {c : Int} (h : r = .error c) : rb r f = .error c := by rw [h]; rfl

def m11 (a0 : Int) (a1 : Int) (a2 : Int) (a3 : Int) (a4 : Int) (a5 : Int) (a6 : Int) (a7 : Bool) (a8 : List Int) (a9 : List (Bool × Tx)) (a10 : List (Bool × Tx)) (xs : List Int) : Except Int (MsgR × List Int) := rb (rlst rrow xs) fun x l => .ok (⟨a0, a1, a2, a3, a4, a5, a6, a7, a8, a9, a10, x⟩, l)
def m10 (a0 : Int) (a1 : Int) (a2 : Int) (a3 : Int) (a4 : Int) (a5 : Int) (a6 : Int) (a7 : Bool) (a8 : List Int) (a9 : List (Bool × Tx)) (xs : List Int) : Except Int (MsgR × List Int) := rb (rlst rflag xs) fun x l => m11 a0 a1 a2 a3 a4 a5 a6 a7 a8 a9 x l
def m9 (a0 : Int) (a1 : Int) (a2 : Int) (a3 : Int) (a4 : Int) (a5 : Int) (a6 : Int) (a7 : Bool) (a8 : List Int) (xs : List Int) : Except Int (MsgR × List Int) := rb (rlst rflag xs) fun x l => m10 a0 a1 a2 a3 a4 a5 a6 a7 a8 x l
def m8 (a0 : Int) (a1 : Int) (a2 : Int) (a3 : Int) (a4 : Int) (a5 : Int) (a6 : Int) (a7 : Bool) (xs : List Int) : Except Int (MsgR × List Int) := rb (rlst rnum xs) fun x l => m9 a0 a1 a2 a3 a4 a5 a6 a7 x l
def m7 (a0 : Int) (a1 : Int) (a2 : Int) (a3 : Int) (a4 : Int) (a5 : Int) (a6 : Int) (xs : List Int) : Except Int (MsgR × List Int) := rb (rtruth xs) fun x l => m8 a0 a1 a2 a3 a4 a5 a6 x l
def m6 (a0 : Int) (a1 : Int) (a2 : Int) (a3 : Int) (a4 : Int) (a5 : Int) (xs : List Int) : Except Int (MsgR × List Int) := rb (rnum xs) fun x l => m7 a0 a1 a2 a3 a4 a5 x l
def m5 (a0 : Int) (a1 : Int) (a2 : Int) (a3 : Int) (a4 : Int) (xs : List Int) : Except Int (MsgR × List Int) := rb (rnum xs) fun x l => m6 a0 a1 a2 a3 a4 x l
def m4 (a0 : Int) (a1 : Int) (a2 : Int) (a3 : Int) (xs : List Int) : Except Int (MsgR × List Int) := rb (rnum xs) fun x l => m5 a0 a1 a2 a3 x l
def m3 (a0 : Int) (a1 : Int) (a2 : Int) (xs : List Int) : Except Int (MsgR × List Int) := rb (rnum xs) fun x l => m4 a0 a1 a2 x l
def m2 (a0 : Int) (a1 : Int) (xs : List Int) : Except Int (MsgR × List Int) := rb (rnum xs) fun x l => m3 a0 a1 x l
def m1 (a0 : Int) (xs : List Int) : Except Int (MsgR × List Int) := rb (rnum xs) fun x l => m2 a0 x l
def rmsg  (xs : List Int) : Except Int (MsgR × List Int) := rb (rnum xs) fun x l => m1  x l
theorem Whole.far {w : World} {k : Nat} {t : TypeId} {cs : Array Value} (h : Whole w k t cs) (b i : Nat) (hb : k ≠ b) (u : Value) : Whole (w.setCell ⟨b, i, none⟩ u) k t cs :=
  h.kept (Below.heap_setCell w ⟨b, i, none⟩ u k hb)
theorem owns_fars {w : World} {base n s : Nat} {e : TypeId} {v : Value} {l : List Value} (h : w.ownsRow base e s v n l) (b i : Nat) (hb : b < base) (u : Value) : (w.setCell ⟨b, i, none⟩ u).ownsRow base e s v n l := by
  refine ⟨h.1, ?_⟩
  rcases h.2 with h2 | ⟨q, cap, cur, rfl, h3, h4, r⟩
  · exact .inl h2
  · exact .inr ⟨q, cap, cur, rfl, h3, (Below.heap_setCell w ⟨b, i, none⟩ u q (show q ≠ b by omega)).trans h4, r⟩
theorem owns_lower {w : World} {base base' n s : Nat} {e : TypeId} {v : Value} {l : List Value} (h : w.ownsRow base e s v n l) (hb : base' ≤ base) : w.ownsRow base' e s v n l := by
  refine ⟨h.1, ?_⟩
  rcases h.2 with h2 | ⟨q, cap, cur, rfl, h3, h4, r⟩
  · exact .inl h2
  · exact .inr ⟨q, cap, cur, rfl, by omega, h4, r⟩
theorem owns_below {w w' : World} {base n s : Nat} {e : TypeId} {v : Value} {l : List Value} (h : w.ownsRow base e s v n l) (hb : Below w.heap.size w w') : w'.ownsRow base e s v n l := by
  refine ⟨h.1, ?_⟩
  rcases h.2 with h2 | ⟨q, cap, cur, rfl, h3, h4, r⟩
  · exact .inl h2
  · refine .inr ⟨q, cap, cur, rfl, h3, (hb.block q ?_).trans h4, r⟩
    exact (h.lt q rfl).2
/-- The lists of a message that was read lie in memory of the call's own. -/
structure MOwn (w : World) (base : Nat) (m : MsgR) (v8 v9 v10 v11 : Value) : Prop where
  nodes : w.ownsRow base 3 1 v8 m.nodes.length (m.nodes.map (Value.int .i64))
  muts : w.ownsRow base 116 4 v9 m.muts.length (m.muts.flatMap flagC)
  pre : w.ownsRow base 119 4 v10 m.pre.length (m.pre.flatMap flagC)
  rows : w.ownsRow base 121 5 v11 m.rows.length (m.rows.flatMap rowC)
def msgC (m : MsgR) (v8 v9 v10 v11 : Value) : Array Value := #[.int .i64 m.kind, .int .i64 m.frm, .int .i64 m.too, .int .i64 m.id, .int .i64 m.rev, .int .i64 m.epoch, .int .i64 m.slot, .bool m.flag, v8, v9, v10, v11]
/-- What the reading of a message comes to. -/
def MDone (w : World) (B g : Nat) (r : Except Int (MsgR × List Int)) (e : Ending) (w' : World) : Prop :=
  (∃ m ys u v8 v9 v10 v11, r = .ok (m, ys) ∧ e = .returned (.agg (msgC m v8 v9 v10 v11)) ∧ MOwn w' w.heap.size m v8 v9 v10 v11 ∧ RAt w' B g u ys ∧ RF g w w') ∨ (∃ c, r = .error c ∧ e = Bad c ∧ RF g w w')

theorem twelve_store {w : World} {g : Nat} {t : TypeId} {x0 x1 x2 x3 x4 x5 x6 x7 x8 x9 x10 x11 : Value} (h : Whole w g t #[x0, x1, x2, x3, x4, x5, x6, x7, x8, x9, x10, x11]) (y0 y1 y2 y3 y4 y5 y6 y7 y8 y9 y10 y11 : Value) : Whole ((((((((((((w.setCell ⟨g, 0, none⟩ y0).setCell ⟨g, 1, none⟩ y1).setCell ⟨g, 2, none⟩ y2).setCell ⟨g, 3, none⟩ y3).setCell ⟨g, 4, none⟩ y4).setCell ⟨g, 5, none⟩ y5).setCell ⟨g, 6, none⟩ y6).setCell ⟨g, 7, none⟩ y7).setCell ⟨g, 8, none⟩ y8).setCell ⟨g, 9, none⟩ y9).setCell ⟨g, 10, none⟩ y10).setCell ⟨g, 11, none⟩ y11) g t #[y0, y1, y2, y3, y4, y5, y6, y7, y8, y9, y10, y11] := by
  have h0 : Whole (w.setCell ⟨g, 0, none⟩ y0) g t #[y0, x1, x2, x3, x4, x5, x6, x7, x8, x9, x10, x11] := h.store 0 y0
  have h1 : Whole ((w.setCell ⟨g, 0, none⟩ y0).setCell ⟨g, 1, none⟩ y1) g t #[y0, y1, x2, x3, x4, x5, x6, x7, x8, x9, x10, x11] := h0.store 1 y1
  have h2 : Whole (((w.setCell ⟨g, 0, none⟩ y0).setCell ⟨g, 1, none⟩ y1).setCell ⟨g, 2, none⟩ y2) g t #[y0, y1, y2, x3, x4, x5, x6, x7, x8, x9, x10, x11] := h1.store 2 y2
  have h3 : Whole ((((w.setCell ⟨g, 0, none⟩ y0).setCell ⟨g, 1, none⟩ y1).setCell ⟨g, 2, none⟩ y2).setCell ⟨g, 3, none⟩ y3) g t #[y0, y1, y2, y3, x4, x5, x6, x7, x8, x9, x10, x11] := h2.store 3 y3
  have h4 : Whole (((((w.setCell ⟨g, 0, none⟩ y0).setCell ⟨g, 1, none⟩ y1).setCell ⟨g, 2, none⟩ y2).setCell ⟨g, 3, none⟩ y3).setCell ⟨g, 4, none⟩ y4) g t #[y0, y1, y2, y3, y4, x5, x6, x7, x8, x9, x10, x11] := h3.store 4 y4
  have h5 : Whole ((((((w.setCell ⟨g, 0, none⟩ y0).setCell ⟨g, 1, none⟩ y1).setCell ⟨g, 2, none⟩ y2).setCell ⟨g, 3, none⟩ y3).setCell ⟨g, 4, none⟩ y4).setCell ⟨g, 5, none⟩ y5) g t #[y0, y1, y2, y3, y4, y5, x6, x7, x8, x9, x10, x11] := h4.store 5 y5
  have h6 : Whole (((((((w.setCell ⟨g, 0, none⟩ y0).setCell ⟨g, 1, none⟩ y1).setCell ⟨g, 2, none⟩ y2).setCell ⟨g, 3, none⟩ y3).setCell ⟨g, 4, none⟩ y4).setCell ⟨g, 5, none⟩ y5).setCell ⟨g, 6, none⟩ y6) g t #[y0, y1, y2, y3, y4, y5, y6, x7, x8, x9, x10, x11] := h5.store 6 y6
  have h7 : Whole ((((((((w.setCell ⟨g, 0, none⟩ y0).setCell ⟨g, 1, none⟩ y1).setCell ⟨g, 2, none⟩ y2).setCell ⟨g, 3, none⟩ y3).setCell ⟨g, 4, none⟩ y4).setCell ⟨g, 5, none⟩ y5).setCell ⟨g, 6, none⟩ y6).setCell ⟨g, 7, none⟩ y7) g t #[y0, y1, y2, y3, y4, y5, y6, y7, x8, x9, x10, x11] := h6.store 7 y7
  have h8 : Whole (((((((((w.setCell ⟨g, 0, none⟩ y0).setCell ⟨g, 1, none⟩ y1).setCell ⟨g, 2, none⟩ y2).setCell ⟨g, 3, none⟩ y3).setCell ⟨g, 4, none⟩ y4).setCell ⟨g, 5, none⟩ y5).setCell ⟨g, 6, none⟩ y6).setCell ⟨g, 7, none⟩ y7).setCell ⟨g, 8, none⟩ y8) g t #[y0, y1, y2, y3, y4, y5, y6, y7, y8, x9, x10, x11] := h7.store 8 y8
  have h9 : Whole ((((((((((w.setCell ⟨g, 0, none⟩ y0).setCell ⟨g, 1, none⟩ y1).setCell ⟨g, 2, none⟩ y2).setCell ⟨g, 3, none⟩ y3).setCell ⟨g, 4, none⟩ y4).setCell ⟨g, 5, none⟩ y5).setCell ⟨g, 6, none⟩ y6).setCell ⟨g, 7, none⟩ y7).setCell ⟨g, 8, none⟩ y8).setCell ⟨g, 9, none⟩ y9) g t #[y0, y1, y2, y3, y4, y5, y6, y7, y8, y9, x10, x11] := h8.store 9 y9
  have h10 : Whole (((((((((((w.setCell ⟨g, 0, none⟩ y0).setCell ⟨g, 1, none⟩ y1).setCell ⟨g, 2, none⟩ y2).setCell ⟨g, 3, none⟩ y3).setCell ⟨g, 4, none⟩ y4).setCell ⟨g, 5, none⟩ y5).setCell ⟨g, 6, none⟩ y6).setCell ⟨g, 7, none⟩ y7).setCell ⟨g, 8, none⟩ y8).setCell ⟨g, 9, none⟩ y9).setCell ⟨g, 10, none⟩ y10) g t #[y0, y1, y2, y3, y4, y5, y6, y7, y8, y9, y10, x11] := h9.store 10 y10
  have h11 : Whole ((((((((((((w.setCell ⟨g, 0, none⟩ y0).setCell ⟨g, 1, none⟩ y1).setCell ⟨g, 2, none⟩ y2).setCell ⟨g, 3, none⟩ y3).setCell ⟨g, 4, none⟩ y4).setCell ⟨g, 5, none⟩ y5).setCell ⟨g, 6, none⟩ y6).setCell ⟨g, 7, none⟩ y7).setCell ⟨g, 8, none⟩ y8).setCell ⟨g, 9, none⟩ y9).setCell ⟨g, 10, none⟩ y10).setCell ⟨g, 11, none⟩ y11) g t #[y0, y1, y2, y3, y4, y5, y6, y7, y8, y9, y10, y11] := h10.store 11 y11
  exact h11
theorem twelve_rat {w : World} {B g b : Nat} {v : Value} {xs : List Int} (h : RAt w B g v xs) (hb : g ≠ b) (hB : B ≤ b) (y0 y1 y2 y3 y4 y5 y6 y7 y8 y9 y10 y11 : Value) : RAt ((((((((((((w.setCell ⟨b, 0, none⟩ y0).setCell ⟨b, 1, none⟩ y1).setCell ⟨b, 2, none⟩ y2).setCell ⟨b, 3, none⟩ y3).setCell ⟨b, 4, none⟩ y4).setCell ⟨b, 5, none⟩ y5).setCell ⟨b, 6, none⟩ y6).setCell ⟨b, 7, none⟩ y7).setCell ⟨b, 8, none⟩ y8).setCell ⟨b, 9, none⟩ y9).setCell ⟨b, 10, none⟩ y10).setCell ⟨b, 11, none⟩ y11) B g v xs := by
  have h0 : RAt (w.setCell ⟨b, 0, none⟩ y0) B g v xs := h.far b 0 hb hB y0
  have h1 : RAt ((w.setCell ⟨b, 0, none⟩ y0).setCell ⟨b, 1, none⟩ y1) B g v xs := h0.far b 1 hb hB y1
  have h2 : RAt (((w.setCell ⟨b, 0, none⟩ y0).setCell ⟨b, 1, none⟩ y1).setCell ⟨b, 2, none⟩ y2) B g v xs := h1.far b 2 hb hB y2
  have h3 : RAt ((((w.setCell ⟨b, 0, none⟩ y0).setCell ⟨b, 1, none⟩ y1).setCell ⟨b, 2, none⟩ y2).setCell ⟨b, 3, none⟩ y3) B g v xs := h2.far b 3 hb hB y3
  have h4 : RAt (((((w.setCell ⟨b, 0, none⟩ y0).setCell ⟨b, 1, none⟩ y1).setCell ⟨b, 2, none⟩ y2).setCell ⟨b, 3, none⟩ y3).setCell ⟨b, 4, none⟩ y4) B g v xs := h3.far b 4 hb hB y4
  have h5 : RAt ((((((w.setCell ⟨b, 0, none⟩ y0).setCell ⟨b, 1, none⟩ y1).setCell ⟨b, 2, none⟩ y2).setCell ⟨b, 3, none⟩ y3).setCell ⟨b, 4, none⟩ y4).setCell ⟨b, 5, none⟩ y5) B g v xs := h4.far b 5 hb hB y5
  have h6 : RAt (((((((w.setCell ⟨b, 0, none⟩ y0).setCell ⟨b, 1, none⟩ y1).setCell ⟨b, 2, none⟩ y2).setCell ⟨b, 3, none⟩ y3).setCell ⟨b, 4, none⟩ y4).setCell ⟨b, 5, none⟩ y5).setCell ⟨b, 6, none⟩ y6) B g v xs := h5.far b 6 hb hB y6
  have h7 : RAt ((((((((w.setCell ⟨b, 0, none⟩ y0).setCell ⟨b, 1, none⟩ y1).setCell ⟨b, 2, none⟩ y2).setCell ⟨b, 3, none⟩ y3).setCell ⟨b, 4, none⟩ y4).setCell ⟨b, 5, none⟩ y5).setCell ⟨b, 6, none⟩ y6).setCell ⟨b, 7, none⟩ y7) B g v xs := h6.far b 7 hb hB y7
  have h8 : RAt (((((((((w.setCell ⟨b, 0, none⟩ y0).setCell ⟨b, 1, none⟩ y1).setCell ⟨b, 2, none⟩ y2).setCell ⟨b, 3, none⟩ y3).setCell ⟨b, 4, none⟩ y4).setCell ⟨b, 5, none⟩ y5).setCell ⟨b, 6, none⟩ y6).setCell ⟨b, 7, none⟩ y7).setCell ⟨b, 8, none⟩ y8) B g v xs := h7.far b 8 hb hB y8
  have h9 : RAt ((((((((((w.setCell ⟨b, 0, none⟩ y0).setCell ⟨b, 1, none⟩ y1).setCell ⟨b, 2, none⟩ y2).setCell ⟨b, 3, none⟩ y3).setCell ⟨b, 4, none⟩ y4).setCell ⟨b, 5, none⟩ y5).setCell ⟨b, 6, none⟩ y6).setCell ⟨b, 7, none⟩ y7).setCell ⟨b, 8, none⟩ y8).setCell ⟨b, 9, none⟩ y9) B g v xs := h8.far b 9 hb hB y9
  have h10 : RAt (((((((((((w.setCell ⟨b, 0, none⟩ y0).setCell ⟨b, 1, none⟩ y1).setCell ⟨b, 2, none⟩ y2).setCell ⟨b, 3, none⟩ y3).setCell ⟨b, 4, none⟩ y4).setCell ⟨b, 5, none⟩ y5).setCell ⟨b, 6, none⟩ y6).setCell ⟨b, 7, none⟩ y7).setCell ⟨b, 8, none⟩ y8).setCell ⟨b, 9, none⟩ y9).setCell ⟨b, 10, none⟩ y10) B g v xs := h9.far b 10 hb hB y10
  have h11 : RAt ((((((((((((w.setCell ⟨b, 0, none⟩ y0).setCell ⟨b, 1, none⟩ y1).setCell ⟨b, 2, none⟩ y2).setCell ⟨b, 3, none⟩ y3).setCell ⟨b, 4, none⟩ y4).setCell ⟨b, 5, none⟩ y5).setCell ⟨b, 6, none⟩ y6).setCell ⟨b, 7, none⟩ y7).setCell ⟨b, 8, none⟩ y8).setCell ⟨b, 9, none⟩ y9).setCell ⟨b, 10, none⟩ y10).setCell ⟨b, 11, none⟩ y11) B g v xs := h10.far b 11 hb hB y11
  exact h11
theorem twelve_rf {w0 w : World} {g b : Nat} (h : RF g w0 w) (hb : w0.heap.size ≤ b) (y0 y1 y2 y3 y4 y5 y6 y7 y8 y9 y10 y11 : Value) : RF g w0 ((((((((((((w.setCell ⟨b, 0, none⟩ y0).setCell ⟨b, 1, none⟩ y1).setCell ⟨b, 2, none⟩ y2).setCell ⟨b, 3, none⟩ y3).setCell ⟨b, 4, none⟩ y4).setCell ⟨b, 5, none⟩ y5).setCell ⟨b, 6, none⟩ y6).setCell ⟨b, 7, none⟩ y7).setCell ⟨b, 8, none⟩ y8).setCell ⟨b, 9, none⟩ y9).setCell ⟨b, 10, none⟩ y10).setCell ⟨b, 11, none⟩ y11) := by
  have h0 : RF g w0 (w.setCell ⟨b, 0, none⟩ y0) := h.far b 0 hb y0
  have h1 : RF g w0 ((w.setCell ⟨b, 0, none⟩ y0).setCell ⟨b, 1, none⟩ y1) := h0.far b 1 hb y1
  have h2 : RF g w0 (((w.setCell ⟨b, 0, none⟩ y0).setCell ⟨b, 1, none⟩ y1).setCell ⟨b, 2, none⟩ y2) := h1.far b 2 hb y2
  have h3 : RF g w0 ((((w.setCell ⟨b, 0, none⟩ y0).setCell ⟨b, 1, none⟩ y1).setCell ⟨b, 2, none⟩ y2).setCell ⟨b, 3, none⟩ y3) := h2.far b 3 hb y3
  have h4 : RF g w0 (((((w.setCell ⟨b, 0, none⟩ y0).setCell ⟨b, 1, none⟩ y1).setCell ⟨b, 2, none⟩ y2).setCell ⟨b, 3, none⟩ y3).setCell ⟨b, 4, none⟩ y4) := h3.far b 4 hb y4
  have h5 : RF g w0 ((((((w.setCell ⟨b, 0, none⟩ y0).setCell ⟨b, 1, none⟩ y1).setCell ⟨b, 2, none⟩ y2).setCell ⟨b, 3, none⟩ y3).setCell ⟨b, 4, none⟩ y4).setCell ⟨b, 5, none⟩ y5) := h4.far b 5 hb y5
  have h6 : RF g w0 (((((((w.setCell ⟨b, 0, none⟩ y0).setCell ⟨b, 1, none⟩ y1).setCell ⟨b, 2, none⟩ y2).setCell ⟨b, 3, none⟩ y3).setCell ⟨b, 4, none⟩ y4).setCell ⟨b, 5, none⟩ y5).setCell ⟨b, 6, none⟩ y6) := h5.far b 6 hb y6
  have h7 : RF g w0 ((((((((w.setCell ⟨b, 0, none⟩ y0).setCell ⟨b, 1, none⟩ y1).setCell ⟨b, 2, none⟩ y2).setCell ⟨b, 3, none⟩ y3).setCell ⟨b, 4, none⟩ y4).setCell ⟨b, 5, none⟩ y5).setCell ⟨b, 6, none⟩ y6).setCell ⟨b, 7, none⟩ y7) := h6.far b 7 hb y7
  have h8 : RF g w0 (((((((((w.setCell ⟨b, 0, none⟩ y0).setCell ⟨b, 1, none⟩ y1).setCell ⟨b, 2, none⟩ y2).setCell ⟨b, 3, none⟩ y3).setCell ⟨b, 4, none⟩ y4).setCell ⟨b, 5, none⟩ y5).setCell ⟨b, 6, none⟩ y6).setCell ⟨b, 7, none⟩ y7).setCell ⟨b, 8, none⟩ y8) := h7.far b 8 hb y8
  have h9 : RF g w0 ((((((((((w.setCell ⟨b, 0, none⟩ y0).setCell ⟨b, 1, none⟩ y1).setCell ⟨b, 2, none⟩ y2).setCell ⟨b, 3, none⟩ y3).setCell ⟨b, 4, none⟩ y4).setCell ⟨b, 5, none⟩ y5).setCell ⟨b, 6, none⟩ y6).setCell ⟨b, 7, none⟩ y7).setCell ⟨b, 8, none⟩ y8).setCell ⟨b, 9, none⟩ y9) := h8.far b 9 hb y9
  have h10 : RF g w0 (((((((((((w.setCell ⟨b, 0, none⟩ y0).setCell ⟨b, 1, none⟩ y1).setCell ⟨b, 2, none⟩ y2).setCell ⟨b, 3, none⟩ y3).setCell ⟨b, 4, none⟩ y4).setCell ⟨b, 5, none⟩ y5).setCell ⟨b, 6, none⟩ y6).setCell ⟨b, 7, none⟩ y7).setCell ⟨b, 8, none⟩ y8).setCell ⟨b, 9, none⟩ y9).setCell ⟨b, 10, none⟩ y10) := h9.far b 10 hb y10
  have h11 : RF g w0 ((((((((((((w.setCell ⟨b, 0, none⟩ y0).setCell ⟨b, 1, none⟩ y1).setCell ⟨b, 2, none⟩ y2).setCell ⟨b, 3, none⟩ y3).setCell ⟨b, 4, none⟩ y4).setCell ⟨b, 5, none⟩ y5).setCell ⟨b, 6, none⟩ y6).setCell ⟨b, 7, none⟩ y7).setCell ⟨b, 8, none⟩ y8).setCell ⟨b, 9, none⟩ y9).setCell ⟨b, 10, none⟩ y10).setCell ⟨b, 11, none⟩ y11) := h10.far b 11 hb y11
  exact h11
theorem twelve_owns {w : World} {base n s b : Nat} {e : TypeId} {v : Value} {l : List Value} (h : w.ownsRow base e s v n l) (hb : b < base) (y0 y1 y2 y3 y4 y5 y6 y7 y8 y9 y10 y11 : Value) : ((((((((((((w.setCell ⟨b, 0, none⟩ y0).setCell ⟨b, 1, none⟩ y1).setCell ⟨b, 2, none⟩ y2).setCell ⟨b, 3, none⟩ y3).setCell ⟨b, 4, none⟩ y4).setCell ⟨b, 5, none⟩ y5).setCell ⟨b, 6, none⟩ y6).setCell ⟨b, 7, none⟩ y7).setCell ⟨b, 8, none⟩ y8).setCell ⟨b, 9, none⟩ y9).setCell ⟨b, 10, none⟩ y10).setCell ⟨b, 11, none⟩ y11).ownsRow base e s v n l := by
  have h0 : (w.setCell ⟨b, 0, none⟩ y0).ownsRow base e s v n l := owns_fars h b 0 hb y0
  have h1 : ((w.setCell ⟨b, 0, none⟩ y0).setCell ⟨b, 1, none⟩ y1).ownsRow base e s v n l := owns_fars h0 b 1 hb y1
  have h2 : (((w.setCell ⟨b, 0, none⟩ y0).setCell ⟨b, 1, none⟩ y1).setCell ⟨b, 2, none⟩ y2).ownsRow base e s v n l := owns_fars h1 b 2 hb y2
  have h3 : ((((w.setCell ⟨b, 0, none⟩ y0).setCell ⟨b, 1, none⟩ y1).setCell ⟨b, 2, none⟩ y2).setCell ⟨b, 3, none⟩ y3).ownsRow base e s v n l := owns_fars h2 b 3 hb y3
  have h4 : (((((w.setCell ⟨b, 0, none⟩ y0).setCell ⟨b, 1, none⟩ y1).setCell ⟨b, 2, none⟩ y2).setCell ⟨b, 3, none⟩ y3).setCell ⟨b, 4, none⟩ y4).ownsRow base e s v n l := owns_fars h3 b 4 hb y4
  have h5 : ((((((w.setCell ⟨b, 0, none⟩ y0).setCell ⟨b, 1, none⟩ y1).setCell ⟨b, 2, none⟩ y2).setCell ⟨b, 3, none⟩ y3).setCell ⟨b, 4, none⟩ y4).setCell ⟨b, 5, none⟩ y5).ownsRow base e s v n l := owns_fars h4 b 5 hb y5
  have h6 : (((((((w.setCell ⟨b, 0, none⟩ y0).setCell ⟨b, 1, none⟩ y1).setCell ⟨b, 2, none⟩ y2).setCell ⟨b, 3, none⟩ y3).setCell ⟨b, 4, none⟩ y4).setCell ⟨b, 5, none⟩ y5).setCell ⟨b, 6, none⟩ y6).ownsRow base e s v n l := owns_fars h5 b 6 hb y6
  have h7 : ((((((((w.setCell ⟨b, 0, none⟩ y0).setCell ⟨b, 1, none⟩ y1).setCell ⟨b, 2, none⟩ y2).setCell ⟨b, 3, none⟩ y3).setCell ⟨b, 4, none⟩ y4).setCell ⟨b, 5, none⟩ y5).setCell ⟨b, 6, none⟩ y6).setCell ⟨b, 7, none⟩ y7).ownsRow base e s v n l := owns_fars h6 b 7 hb y7
  have h8 : (((((((((w.setCell ⟨b, 0, none⟩ y0).setCell ⟨b, 1, none⟩ y1).setCell ⟨b, 2, none⟩ y2).setCell ⟨b, 3, none⟩ y3).setCell ⟨b, 4, none⟩ y4).setCell ⟨b, 5, none⟩ y5).setCell ⟨b, 6, none⟩ y6).setCell ⟨b, 7, none⟩ y7).setCell ⟨b, 8, none⟩ y8).ownsRow base e s v n l := owns_fars h7 b 8 hb y8
  have h9 : ((((((((((w.setCell ⟨b, 0, none⟩ y0).setCell ⟨b, 1, none⟩ y1).setCell ⟨b, 2, none⟩ y2).setCell ⟨b, 3, none⟩ y3).setCell ⟨b, 4, none⟩ y4).setCell ⟨b, 5, none⟩ y5).setCell ⟨b, 6, none⟩ y6).setCell ⟨b, 7, none⟩ y7).setCell ⟨b, 8, none⟩ y8).setCell ⟨b, 9, none⟩ y9).ownsRow base e s v n l := owns_fars h8 b 9 hb y9
  have h10 : (((((((((((w.setCell ⟨b, 0, none⟩ y0).setCell ⟨b, 1, none⟩ y1).setCell ⟨b, 2, none⟩ y2).setCell ⟨b, 3, none⟩ y3).setCell ⟨b, 4, none⟩ y4).setCell ⟨b, 5, none⟩ y5).setCell ⟨b, 6, none⟩ y6).setCell ⟨b, 7, none⟩ y7).setCell ⟨b, 8, none⟩ y8).setCell ⟨b, 9, none⟩ y9).setCell ⟨b, 10, none⟩ y10).ownsRow base e s v n l := owns_fars h9 b 10 hb y10
  have h11 : ((((((((((((w.setCell ⟨b, 0, none⟩ y0).setCell ⟨b, 1, none⟩ y1).setCell ⟨b, 2, none⟩ y2).setCell ⟨b, 3, none⟩ y3).setCell ⟨b, 4, none⟩ y4).setCell ⟨b, 5, none⟩ y5).setCell ⟨b, 6, none⟩ y6).setCell ⟨b, 7, none⟩ y7).setCell ⟨b, 8, none⟩ y8).setCell ⟨b, 9, none⟩ y9).setCell ⟨b, 10, none⟩ y10).setCell ⟨b, 11, none⟩ y11).ownsRow base e s v n l := owns_fars h10 b 11 hb y11
  exact h11
abbrev MsgZ : Array Value := #[.int .i64 0, .int .i64 0, .int .i64 0, .int .i64 0, .int .i64 0, .int .i64 0, .int .i64 0, .bool false, .slice none 0 0, .slice none 0 0, .slice none 0 0, .slice none 0 0]

set_option maxRecDepth 100000 in
set_option maxHeartbeats 2000000 in
theorem rmessage_any (B g : Nat) (v : Value) (xs : List Int) (w : World) (h : RAt w B g v xs) :
    Calls Tryz.prog 74 #[.pointer (some ⟨g, 0, none⟩)] w (MDone w B g (rmsg xs)) := by
  have hgl := h.blk.lt
  obtain ⟨wa, hwa⟩ : ∃ wa, wa = w.alloc (.cells #[.pointer (some ⟨g, 0, none⟩)] 151) := ⟨_, rfl⟩
  obtain ⟨wb, hwb⟩ : ∃ wb, wb = wa.alloc (.cells MsgZ 43) := ⟨_, rfl⟩
  obtain ⟨wc, hwc⟩ : ∃ wc, wc = wb.alloc (.cells MsgZ 43) := ⟨_, rfl⟩
  have ea : wa.heap.size = w.heap.size + 1 := by rw [hwa]; simp
  have eb : wb.heap.size = w.heap.size + 1 + 1 := by rw [hwb, ← ea]; simp
  have ec : wc.heap.size = w.heap.size + 1 + 1 + 1 := by rw [hwc, ← eb]; simp
  obtain ⟨gv, hgv⟩ : ∃ gv, gv = w.heap.size := ⟨_, rfl⟩
  obtain ⟨gr, hgr⟩ : ∃ gr, gr = w.heap.size + 1 := ⟨_, rfl⟩
  obtain ⟨gm, hgm⟩ : ∃ gm, gm = w.heap.size + 1 + 1 := ⟨_, rfl⟩
  have hB := h.ge
  have hA0 : RAt wc B g v xs := by rw [hwc, hwb, hwa]; exact ((h.alloc _).alloc _).alloc _
  have hV0 : Whole wc gv 151 #[.pointer (some ⟨g, 0, none⟩)] := by
    have h1 : Whole wa gv 151 #[.pointer (some ⟨g, 0, none⟩)] := by rw [hwa, hgv]; exact heap_alloc_new w _
    refine h1.kept ?_
    rw [hwc, Below.heap_alloc _ _ _ (by rw [eb]; omega), hwb, Below.heap_alloc _ _ _ (by rw [ea]; omega)]
  have hR0 : Whole wc gr 43 MsgZ := by
    have h1 : Whole wb gr 43 MsgZ := by rw [hwb, hgr, ← ea]; exact heap_alloc_new wa _
    refine h1.kept ?_
    rw [hwc, Below.heap_alloc _ _ _ (by rw [eb]; omega)]
  have hW0 : Whole wc gm 43 MsgZ := by rw [hwc, hgm, ← eb]; exact heap_alloc_new wb _
  have hF0 : RF g w wc := by rw [hwc, hwb, hwa]; exact ((RF.alloc w _).trans (RF.alloc _ _)).trans (RF.alloc _ _)
  have cv : wc.cell? ⟨gv, 0, none⟩ = some (.pointer (some ⟨g, 0, none⟩)) := by rw [hV0.cell]; rfl
  have gvg : gv ≠ g := by omega
  have grg : gr ≠ g := by omega
  have gmg : gm ≠ g := by omega
  have gvm : gv ≠ gm := by omega
  have grm : gr ≠ gm := by omega
  have lem : w.heap.size ≤ gm := by omega
  have ler : w.heap.size ≤ gr := by omega
  have hBm : B ≤ gm := by omega
  have hBr : B ≤ gr := by omega
  have grlt : gr < gm := by omega
  have hml : gm < wc.heap.size := by omega
  have HA0 := Lib.hid hA0
  have HV0 := Lib.hid hV0
  have HR0 := Lib.hid hR0
  have HW0 := Lib.hid hW0
  have HF0 := Lib.hid hF0
  have HI := Lib.hid (⟨gvg, grg, gmg, gvm, grm, lem, ler, hBm, hBr, grlt, hml, hgl⟩ : gv ≠ g ∧ gr ≠ g ∧ gm ≠ g ∧ gv ≠ gm ∧ gr ≠ gm ∧ w.heap.size ≤ gm ∧ w.heap.size ≤ gr ∧ B ≤ gm ∧ B ≤ gr ∧ gr < gm ∧ gm < wc.heap.size ∧ g < w.heap.size)
  have HN := Lib.hid (⟨hwa, hwb, hwc, hgv, hgr, hgm⟩ : wa = w.alloc (.cells #[.pointer (some ⟨g, 0, none⟩)] 151) ∧ wb = wa.alloc (.cells MsgZ 43) ∧ wc = wb.alloc (.cells MsgZ 43) ∧ gv = w.heap.size ∧ gr = w.heap.size + 1 ∧ gm = w.heap.size + 1 + 1)
  rw [hwc, hwb, hwa, hgv] at cv
  clear h hgl hB hA0 hV0 hR0 hW0 hF0 gvg grg gmg gvm grm lem ler hBm hBr grlt hml ea eb ec hwa hwb hwc hgv hgr hgm
  go_enter Tryz.func74, Tryz.ntmps74
  go_wp2_with fail
  rw [← HN.out.2.2.2.2.2, ← HN.out.2.2.2.2.1, ← HN.out.2.2.2.1]
  have hww : ((w.alloc (.cells #[.pointer (some ⟨g, 0, none⟩)] 151)).alloc (.cells MsgZ 43)).alloc (.cells MsgZ 43) = wc := by rw [HN.out.2.2.1, HN.out.2.1, HN.out.1]
  rw [hww]
  clear cv hww
  obtain ⟨gvg, grg, gmg, gvm, grm, lem, ler, hBm, hBr, grlt, hml, hgl⟩ := HI.out
  refine (rnumber_any B g v xs _ HA0.out).mono ?_
  rintro e w1 (⟨a0, ys1, u1, hr, rfl, hA, hF⟩ | ⟨c, hr, rfl, hF⟩)
  rotate_left
  · have HQ := Lib.hid (show MDone w B g (rmsg xs) (Bad c) w1 from .inr ⟨c, rb_bad hr, rfl, HF0.out.trans hF⟩)
    clear hr hF
    go_wp2
    exact ⟨rfl, HQ.out⟩
  have hW := hF.whole HW0.out gmg
  have hsz := hF.size
  have HSZ1 := Lib.hid (show gm < (w1.setCell ⟨gm, 0, none⟩ (.int .i64 a0)).heap.size by simp; omega)
  have km : w1.cell? ⟨gm, 0, none⟩ = some (.int .i64 0) := by rw [hW.cell]; rfl
  have zm : w1.frozen? ⟨gm, 0, none⟩ = false := hW.free 0
  have HA1 := Lib.hid (hA.far gm 0 (Ne.symm gmg) hBm (.int .i64 a0))
  have HF1 := Lib.hid ((HF0.out.trans hF).far gm 0 lem (.int .i64 a0))
  have HW1 : Hid (Whole (w1.setCell ⟨gm, 0, none⟩ (.int .i64 a0)) gm 43 #[.int .i64 a0, .int .i64 0, .int .i64 0, .int .i64 0, .int .i64 0, .int .i64 0, .int .i64 0, .bool false, .slice none 0 0, .slice none 0 0, .slice none 0 0, .slice none 0 0]) := Lib.hid (hW.store 0 (.int .i64 a0))
  have hV := (hF.whole HV0.out gvg).far gm 0 gvm (.int .i64 a0)
  have HV1 := Lib.hid hV
  have HR1 := Lib.hid ((hF.whole HR0.out grg).far gm 0 grm (.int .i64 a0))
  have cv : (w1.setCell ⟨gm, 0, none⟩ (.int .i64 a0)).cell? ⟨gv, 0, none⟩ = some (.pointer (some ⟨g, 0, none⟩)) := by rw [hV.cell]; rfl
  have HE1 := Lib.hid (show rmsg xs = m1 a0 ys1 from rb_ok hr)
  clear hr hA hF hW hV hsz
  go_wp2_with fail
  clear km zm cv
  refine (rnumber_any B g u1 ys1 _ HA1.out).mono ?_
  rintro e w2 (⟨a1, ys2, u2, hr, rfl, hA, hF⟩ | ⟨c, hr, rfl, hF⟩)
  rotate_left
  · have HQ := Lib.hid (show MDone w B g (rmsg xs) (Bad c) w2 from .inr ⟨c, HE1.out.trans (rb_bad hr), rfl, HF1.out.trans hF⟩)
    clear hr hF
    go_wp2
    exact ⟨rfl, HQ.out⟩
  have hW := hF.whole HW1.out gmg
  have hsz := hF.size
  have HSZ2 := Lib.hid (show gm < (w2.setCell ⟨gm, 1, none⟩ (.int .i64 a1)).heap.size by have := HSZ1.out; simp; omega)
  have km : w2.cell? ⟨gm, 1, none⟩ = some (.int .i64 0) := by rw [hW.cell]; rfl
  have zm : w2.frozen? ⟨gm, 1, none⟩ = false := hW.free 1
  have HA2 := Lib.hid (hA.far gm 1 (Ne.symm gmg) hBm (.int .i64 a1))
  have HF2 := Lib.hid ((HF1.out.trans hF).far gm 1 lem (.int .i64 a1))
  have HW2 : Hid (Whole (w2.setCell ⟨gm, 1, none⟩ (.int .i64 a1)) gm 43 #[.int .i64 a0, .int .i64 a1, .int .i64 0, .int .i64 0, .int .i64 0, .int .i64 0, .int .i64 0, .bool false, .slice none 0 0, .slice none 0 0, .slice none 0 0, .slice none 0 0]) := Lib.hid (hW.store 1 (.int .i64 a1))
  have hV := (hF.whole HV1.out gvg).far gm 1 gvm (.int .i64 a1)
  have HV2 := Lib.hid hV
  have HR2 := Lib.hid ((hF.whole HR1.out grg).far gm 1 grm (.int .i64 a1))
  have cv : (w2.setCell ⟨gm, 1, none⟩ (.int .i64 a1)).cell? ⟨gv, 0, none⟩ = some (.pointer (some ⟨g, 0, none⟩)) := by rw [hV.cell]; rfl
  have HE2 := Lib.hid (HE1.out.trans (rb_ok hr))
  clear hr hA hF hW hV hsz
  go_wp2_with fail
  clear km zm cv
  refine (rnumber_any B g u2 ys2 _ HA2.out).mono ?_
  rintro e w3 (⟨a2, ys3, u3, hr, rfl, hA, hF⟩ | ⟨c, hr, rfl, hF⟩)
  rotate_left
  · have HQ := Lib.hid (show MDone w B g (rmsg xs) (Bad c) w3 from .inr ⟨c, HE2.out.trans (rb_bad hr), rfl, HF2.out.trans hF⟩)
    clear hr hF
    go_wp2
    exact ⟨rfl, HQ.out⟩
  have hW := hF.whole HW2.out gmg
  have hsz := hF.size
  have HSZ3 := Lib.hid (show gm < (w3.setCell ⟨gm, 2, none⟩ (.int .i64 a2)).heap.size by have := HSZ2.out; simp; omega)
  have km : w3.cell? ⟨gm, 2, none⟩ = some (.int .i64 0) := by rw [hW.cell]; rfl
  have zm : w3.frozen? ⟨gm, 2, none⟩ = false := hW.free 2
  have HA3 := Lib.hid (hA.far gm 2 (Ne.symm gmg) hBm (.int .i64 a2))
  have HF3 := Lib.hid ((HF2.out.trans hF).far gm 2 lem (.int .i64 a2))
  have HW3 : Hid (Whole (w3.setCell ⟨gm, 2, none⟩ (.int .i64 a2)) gm 43 #[.int .i64 a0, .int .i64 a1, .int .i64 a2, .int .i64 0, .int .i64 0, .int .i64 0, .int .i64 0, .bool false, .slice none 0 0, .slice none 0 0, .slice none 0 0, .slice none 0 0]) := Lib.hid (hW.store 2 (.int .i64 a2))
  have hV := (hF.whole HV2.out gvg).far gm 2 gvm (.int .i64 a2)
  have HV3 := Lib.hid hV
  have HR3 := Lib.hid ((hF.whole HR2.out grg).far gm 2 grm (.int .i64 a2))
  have cv : (w3.setCell ⟨gm, 2, none⟩ (.int .i64 a2)).cell? ⟨gv, 0, none⟩ = some (.pointer (some ⟨g, 0, none⟩)) := by rw [hV.cell]; rfl
  have HE3 := Lib.hid (HE2.out.trans (rb_ok hr))
  clear hr hA hF hW hV hsz
  go_wp2_with fail
  clear km zm cv
  refine (rnumber_any B g u3 ys3 _ HA3.out).mono ?_
  rintro e w4 (⟨a3, ys4, u4, hr, rfl, hA, hF⟩ | ⟨c, hr, rfl, hF⟩)
  rotate_left
  · have HQ := Lib.hid (show MDone w B g (rmsg xs) (Bad c) w4 from .inr ⟨c, HE3.out.trans (rb_bad hr), rfl, HF3.out.trans hF⟩)
    clear hr hF
    go_wp2
    exact ⟨rfl, HQ.out⟩
  have hW := hF.whole HW3.out gmg
  have hsz := hF.size
  have HSZ4 := Lib.hid (show gm < (w4.setCell ⟨gm, 3, none⟩ (.int .i64 a3)).heap.size by have := HSZ3.out; simp; omega)
  have km : w4.cell? ⟨gm, 3, none⟩ = some (.int .i64 0) := by rw [hW.cell]; rfl
  have zm : w4.frozen? ⟨gm, 3, none⟩ = false := hW.free 3
  have HA4 := Lib.hid (hA.far gm 3 (Ne.symm gmg) hBm (.int .i64 a3))
  have HF4 := Lib.hid ((HF3.out.trans hF).far gm 3 lem (.int .i64 a3))
  have HW4 : Hid (Whole (w4.setCell ⟨gm, 3, none⟩ (.int .i64 a3)) gm 43 #[.int .i64 a0, .int .i64 a1, .int .i64 a2, .int .i64 a3, .int .i64 0, .int .i64 0, .int .i64 0, .bool false, .slice none 0 0, .slice none 0 0, .slice none 0 0, .slice none 0 0]) := Lib.hid (hW.store 3 (.int .i64 a3))
  have hV := (hF.whole HV3.out gvg).far gm 3 gvm (.int .i64 a3)
  have HV4 := Lib.hid hV
  have HR4 := Lib.hid ((hF.whole HR3.out grg).far gm 3 grm (.int .i64 a3))
  have cv : (w4.setCell ⟨gm, 3, none⟩ (.int .i64 a3)).cell? ⟨gv, 0, none⟩ = some (.pointer (some ⟨g, 0, none⟩)) := by rw [hV.cell]; rfl
  have HE4 := Lib.hid (HE3.out.trans (rb_ok hr))
  clear hr hA hF hW hV hsz
  go_wp2_with fail
  clear km zm cv
  refine (rnumber_any B g u4 ys4 _ HA4.out).mono ?_
  rintro e w5 (⟨a4, ys5, u5, hr, rfl, hA, hF⟩ | ⟨c, hr, rfl, hF⟩)
  rotate_left
  · have HQ := Lib.hid (show MDone w B g (rmsg xs) (Bad c) w5 from .inr ⟨c, HE4.out.trans (rb_bad hr), rfl, HF4.out.trans hF⟩)
    clear hr hF
    go_wp2
    exact ⟨rfl, HQ.out⟩
  have hW := hF.whole HW4.out gmg
  have hsz := hF.size
  have HSZ5 := Lib.hid (show gm < (w5.setCell ⟨gm, 4, none⟩ (.int .i64 a4)).heap.size by have := HSZ4.out; simp; omega)
  have km : w5.cell? ⟨gm, 4, none⟩ = some (.int .i64 0) := by rw [hW.cell]; rfl
  have zm : w5.frozen? ⟨gm, 4, none⟩ = false := hW.free 4
  have HA5 := Lib.hid (hA.far gm 4 (Ne.symm gmg) hBm (.int .i64 a4))
  have HF5 := Lib.hid ((HF4.out.trans hF).far gm 4 lem (.int .i64 a4))
  have HW5 : Hid (Whole (w5.setCell ⟨gm, 4, none⟩ (.int .i64 a4)) gm 43 #[.int .i64 a0, .int .i64 a1, .int .i64 a2, .int .i64 a3, .int .i64 a4, .int .i64 0, .int .i64 0, .bool false, .slice none 0 0, .slice none 0 0, .slice none 0 0, .slice none 0 0]) := Lib.hid (hW.store 4 (.int .i64 a4))
  have hV := (hF.whole HV4.out gvg).far gm 4 gvm (.int .i64 a4)
  have HV5 := Lib.hid hV
  have HR5 := Lib.hid ((hF.whole HR4.out grg).far gm 4 grm (.int .i64 a4))
  have cv : (w5.setCell ⟨gm, 4, none⟩ (.int .i64 a4)).cell? ⟨gv, 0, none⟩ = some (.pointer (some ⟨g, 0, none⟩)) := by rw [hV.cell]; rfl
  have HE5 := Lib.hid (HE4.out.trans (rb_ok hr))
  clear hr hA hF hW hV hsz
  go_wp2_with fail
  clear km zm cv
  refine (rnumber_any B g u5 ys5 _ HA5.out).mono ?_
  rintro e w6 (⟨a5, ys6, u6, hr, rfl, hA, hF⟩ | ⟨c, hr, rfl, hF⟩)
  rotate_left
  · have HQ := Lib.hid (show MDone w B g (rmsg xs) (Bad c) w6 from .inr ⟨c, HE5.out.trans (rb_bad hr), rfl, HF5.out.trans hF⟩)
    clear hr hF
    go_wp2
    exact ⟨rfl, HQ.out⟩
  have hW := hF.whole HW5.out gmg
  have hsz := hF.size
  have HSZ6 := Lib.hid (show gm < (w6.setCell ⟨gm, 5, none⟩ (.int .i64 a5)).heap.size by have := HSZ5.out; simp; omega)
  have km : w6.cell? ⟨gm, 5, none⟩ = some (.int .i64 0) := by rw [hW.cell]; rfl
  have zm : w6.frozen? ⟨gm, 5, none⟩ = false := hW.free 5
  have HA6 := Lib.hid (hA.far gm 5 (Ne.symm gmg) hBm (.int .i64 a5))
  have HF6 := Lib.hid ((HF5.out.trans hF).far gm 5 lem (.int .i64 a5))
  have HW6 : Hid (Whole (w6.setCell ⟨gm, 5, none⟩ (.int .i64 a5)) gm 43 #[.int .i64 a0, .int .i64 a1, .int .i64 a2, .int .i64 a3, .int .i64 a4, .int .i64 a5, .int .i64 0, .bool false, .slice none 0 0, .slice none 0 0, .slice none 0 0, .slice none 0 0]) := Lib.hid (hW.store 5 (.int .i64 a5))
  have hV := (hF.whole HV5.out gvg).far gm 5 gvm (.int .i64 a5)
  have HV6 := Lib.hid hV
  have HR6 := Lib.hid ((hF.whole HR5.out grg).far gm 5 grm (.int .i64 a5))
  have cv : (w6.setCell ⟨gm, 5, none⟩ (.int .i64 a5)).cell? ⟨gv, 0, none⟩ = some (.pointer (some ⟨g, 0, none⟩)) := by rw [hV.cell]; rfl
  have HE6 := Lib.hid (HE5.out.trans (rb_ok hr))
  clear hr hA hF hW hV hsz
  go_wp2_with fail
  clear km zm cv
  refine (rnumber_any B g u6 ys6 _ HA6.out).mono ?_
  rintro e w7 (⟨a6, ys7, u7, hr, rfl, hA, hF⟩ | ⟨c, hr, rfl, hF⟩)
  rotate_left
  · have HQ := Lib.hid (show MDone w B g (rmsg xs) (Bad c) w7 from .inr ⟨c, HE6.out.trans (rb_bad hr), rfl, HF6.out.trans hF⟩)
    clear hr hF
    go_wp2
    exact ⟨rfl, HQ.out⟩
  have hW := hF.whole HW6.out gmg
  have hsz := hF.size
  have HSZ7 := Lib.hid (show gm < (w7.setCell ⟨gm, 6, none⟩ (.int .i64 a6)).heap.size by have := HSZ6.out; simp; omega)
  have km : w7.cell? ⟨gm, 6, none⟩ = some (.int .i64 0) := by rw [hW.cell]; rfl
  have zm : w7.frozen? ⟨gm, 6, none⟩ = false := hW.free 6
  have HA7 := Lib.hid (hA.far gm 6 (Ne.symm gmg) hBm (.int .i64 a6))
  have HF7 := Lib.hid ((HF6.out.trans hF).far gm 6 lem (.int .i64 a6))
  have HW7 : Hid (Whole (w7.setCell ⟨gm, 6, none⟩ (.int .i64 a6)) gm 43 #[.int .i64 a0, .int .i64 a1, .int .i64 a2, .int .i64 a3, .int .i64 a4, .int .i64 a5, .int .i64 a6, .bool false, .slice none 0 0, .slice none 0 0, .slice none 0 0, .slice none 0 0]) := Lib.hid (hW.store 6 (.int .i64 a6))
  have hV := (hF.whole HV6.out gvg).far gm 6 gvm (.int .i64 a6)
  have HV7 := Lib.hid hV
  have HR7 := Lib.hid ((hF.whole HR6.out grg).far gm 6 grm (.int .i64 a6))
  have cv : (w7.setCell ⟨gm, 6, none⟩ (.int .i64 a6)).cell? ⟨gv, 0, none⟩ = some (.pointer (some ⟨g, 0, none⟩)) := by rw [hV.cell]; rfl
  have HE7 := Lib.hid (HE6.out.trans (rb_ok hr))
  clear hr hA hF hW hV hsz
  go_wp2_with fail
  clear km zm cv
  refine (rtruth_any B g u7 ys7 _ HA7.out).mono ?_
  rintro e w8 (⟨a7, ys8, u8, hr, rfl, hA, hF⟩ | ⟨c, hr, rfl, hF⟩)
  rotate_left
  · have HQ := Lib.hid (show MDone w B g (rmsg xs) (Bad c) w8 from .inr ⟨c, HE7.out.trans (rb_bad hr), rfl, HF7.out.trans hF⟩)
    clear hr hF
    go_wp2
    exact ⟨rfl, HQ.out⟩
  have hW := hF.whole HW7.out gmg
  have hsz := hF.size
  have HSZ8 := Lib.hid (show gm < (w8.setCell ⟨gm, 7, none⟩ (.bool a7)).heap.size by have := HSZ7.out; simp; omega)
  have km : w8.cell? ⟨gm, 7, none⟩ = some (.bool false) := by rw [hW.cell]; rfl
  have zm : w8.frozen? ⟨gm, 7, none⟩ = false := hW.free 7
  have HA8 := Lib.hid (hA.far gm 7 (Ne.symm gmg) hBm (.bool a7))
  have HF8 := Lib.hid ((HF7.out.trans hF).far gm 7 lem (.bool a7))
  have HW8 : Hid (Whole (w8.setCell ⟨gm, 7, none⟩ (.bool a7)) gm 43 #[.int .i64 a0, .int .i64 a1, .int .i64 a2, .int .i64 a3, .int .i64 a4, .int .i64 a5, .int .i64 a6, .bool a7, .slice none 0 0, .slice none 0 0, .slice none 0 0, .slice none 0 0]) := Lib.hid (hW.store 7 (.bool a7))
  have hV := (hF.whole HV7.out gvg).far gm 7 gvm (.bool a7)
  have HV8 := Lib.hid hV
  have HR8 := Lib.hid ((hF.whole HR7.out grg).far gm 7 grm (.bool a7))
  have cv : (w8.setCell ⟨gm, 7, none⟩ (.bool a7)).cell? ⟨gv, 0, none⟩ = some (.pointer (some ⟨g, 0, none⟩)) := by rw [hV.cell]; rfl
  have HE8 := Lib.hid (HE7.out.trans (rb_ok hr))
  clear hr hA hF hW hV hsz
  go_wp2_with fail
  clear km zm cv
  refine (glist_int B g gv u8 ys8 _ HA8.out HV8.out).mono ?_
  rintro e w9 (⟨a8, ys9, u9, v8, hr, rfl, hO, hA, hF⟩ | ⟨c, hr, rfl, hF⟩)
  rotate_left
  · have HQ := Lib.hid (show MDone w B g (rmsg xs) (Bad c) w9 from .inr ⟨c, HE8.out.trans (rb_bad hr), rfl, HF8.out.trans hF⟩)
    clear hr hF
    go_wp2
    exact ⟨rfl, HQ.out⟩
  obtain ⟨p8, q8, rfl, _, _⟩ := owned_any hO
  have hW := hF.whole HW8.out gmg
  have hsz := hF.size
  have HSZ9 := Lib.hid (show gm < (w9.setCell ⟨gm, 8, none⟩ (.slice p8 a8.length q8)).heap.size by have := HSZ8.out; simp; omega)
  have km : w9.cell? ⟨gm, 8, none⟩ = some (.slice none 0 0) := by rw [hW.cell]; rfl
  have zm : w9.frozen? ⟨gm, 8, none⟩ = false := hW.free 8
  have HA9 := Lib.hid (hA.far gm 8 (Ne.symm gmg) hBm (.slice p8 a8.length q8))
  have HF9 := Lib.hid ((HF8.out.trans hF).far gm 8 lem (.slice p8 a8.length q8))
  have HW9 : Hid (Whole (w9.setCell ⟨gm, 8, none⟩ (.slice p8 a8.length q8)) gm 43 #[.int .i64 a0, .int .i64 a1, .int .i64 a2, .int .i64 a3, .int .i64 a4, .int .i64 a5, .int .i64 a6, .bool a7, .slice p8 a8.length q8, .slice none 0 0, .slice none 0 0, .slice none 0 0]) := Lib.hid (hW.store 8 (.slice p8 a8.length q8))
  have hV := (hF.whole HV8.out gvg).far gm 8 gvm (.slice p8 a8.length q8)
  have HV9 := Lib.hid hV
  have HR9 := Lib.hid ((hF.whole HR8.out grg).far gm 8 grm (.slice p8 a8.length q8))
  have cv : (w9.setCell ⟨gm, 8, none⟩ (.slice p8 a8.length q8)).cell? ⟨gv, 0, none⟩ = some (.pointer (some ⟨g, 0, none⟩)) := by rw [hV.cell]; rfl
  have HE9 := Lib.hid (HE8.out.trans (rb_ok hr))
  have HB8 := Lib.hid HSZ8.out
  have HL8_9 := Lib.hid (owns_fars hO gm 8 HSZ8.out (.slice p8 a8.length q8))
  clear hr hA hF hW hV hsz hO
  go_wp2_with fail
  clear km zm cv
  refine (glist_mut B g gv u9 ys9 _ HA9.out HV9.out).mono ?_
  rintro e w10 (⟨a9, ys10, u10, v9, hr, rfl, hO, hA, hF⟩ | ⟨c, hr, rfl, hF⟩)
  rotate_left
  · have HQ := Lib.hid (show MDone w B g (rmsg xs) (Bad c) w10 from .inr ⟨c, HE9.out.trans (rb_bad hr), rfl, HF9.out.trans hF⟩)
    clear hr hF
    go_wp2
    exact ⟨rfl, HQ.out⟩
  obtain ⟨p9, q9, rfl, _, _⟩ := owned_some hO
  have hW := hF.whole HW9.out gmg
  have hsz := hF.size
  have HSZ10 := Lib.hid (show gm < (w10.setCell ⟨gm, 9, none⟩ (.slice p9 a9.length q9)).heap.size by have := HSZ9.out; simp; omega)
  have km : w10.cell? ⟨gm, 9, none⟩ = some (.slice none 0 0) := by rw [hW.cell]; rfl
  have zm : w10.frozen? ⟨gm, 9, none⟩ = false := hW.free 9
  have HA10 := Lib.hid (hA.far gm 9 (Ne.symm gmg) hBm (.slice p9 a9.length q9))
  have HF10 := Lib.hid ((HF9.out.trans hF).far gm 9 lem (.slice p9 a9.length q9))
  have HW10 : Hid (Whole (w10.setCell ⟨gm, 9, none⟩ (.slice p9 a9.length q9)) gm 43 #[.int .i64 a0, .int .i64 a1, .int .i64 a2, .int .i64 a3, .int .i64 a4, .int .i64 a5, .int .i64 a6, .bool a7, .slice p8 a8.length q8, .slice p9 a9.length q9, .slice none 0 0, .slice none 0 0]) := Lib.hid (hW.store 9 (.slice p9 a9.length q9))
  have hV := (hF.whole HV9.out gvg).far gm 9 gvm (.slice p9 a9.length q9)
  have HV10 := Lib.hid hV
  have HR10 := Lib.hid ((hF.whole HR9.out grg).far gm 9 grm (.slice p9 a9.length q9))
  have cv : (w10.setCell ⟨gm, 9, none⟩ (.slice p9 a9.length q9)).cell? ⟨gv, 0, none⟩ = some (.pointer (some ⟨g, 0, none⟩)) := by rw [hV.cell]; rfl
  have HE10 := Lib.hid (HE9.out.trans (rb_ok hr))
  have HL8_10 := Lib.hid (owns_fars (owns_rfs HL8_9.out hF (Nat.lt_trans (Nat.lt_of_lt_of_le hgl lem) HSZ8.out)) gm 9 HB8.out (.slice p9 a9.length q9))
  have HB9 := Lib.hid HSZ9.out
  have HL9_10 := Lib.hid (owns_fars hO gm 9 HSZ9.out (.slice p9 a9.length q9))
  clear hr hA hF hW hV hsz hO
  go_wp2_with fail
  clear km zm cv
  refine (glist_con B g gv u10 ys10 _ HA10.out HV10.out).mono ?_
  rintro e w11 (⟨a10, ys11, u11, v10, hr, rfl, hO, hA, hF⟩ | ⟨c, hr, rfl, hF⟩)
  rotate_left
  · have HQ := Lib.hid (show MDone w B g (rmsg xs) (Bad c) w11 from .inr ⟨c, HE10.out.trans (rb_bad hr), rfl, HF10.out.trans hF⟩)
    clear hr hF
    go_wp2
    exact ⟨rfl, HQ.out⟩
  obtain ⟨p10, q10, rfl, _, _⟩ := owned_some hO
  have hW := hF.whole HW10.out gmg
  have hsz := hF.size
  have HSZ11 := Lib.hid (show gm < (w11.setCell ⟨gm, 10, none⟩ (.slice p10 a10.length q10)).heap.size by have := HSZ10.out; simp; omega)
  have km : w11.cell? ⟨gm, 10, none⟩ = some (.slice none 0 0) := by rw [hW.cell]; rfl
  have zm : w11.frozen? ⟨gm, 10, none⟩ = false := hW.free 10
  have HA11 := Lib.hid (hA.far gm 10 (Ne.symm gmg) hBm (.slice p10 a10.length q10))
  have HF11 := Lib.hid ((HF10.out.trans hF).far gm 10 lem (.slice p10 a10.length q10))
  have HW11 : Hid (Whole (w11.setCell ⟨gm, 10, none⟩ (.slice p10 a10.length q10)) gm 43 #[.int .i64 a0, .int .i64 a1, .int .i64 a2, .int .i64 a3, .int .i64 a4, .int .i64 a5, .int .i64 a6, .bool a7, .slice p8 a8.length q8, .slice p9 a9.length q9, .slice p10 a10.length q10, .slice none 0 0]) := Lib.hid (hW.store 10 (.slice p10 a10.length q10))
  have hV := (hF.whole HV10.out gvg).far gm 10 gvm (.slice p10 a10.length q10)
  have HV11 := Lib.hid hV
  have HR11 := Lib.hid ((hF.whole HR10.out grg).far gm 10 grm (.slice p10 a10.length q10))
  have cv : (w11.setCell ⟨gm, 10, none⟩ (.slice p10 a10.length q10)).cell? ⟨gv, 0, none⟩ = some (.pointer (some ⟨g, 0, none⟩)) := by rw [hV.cell]; rfl
  have HE11 := Lib.hid (HE10.out.trans (rb_ok hr))
  have HL8_11 := Lib.hid (owns_fars (owns_rfs HL8_10.out hF (Nat.lt_trans (Nat.lt_of_lt_of_le hgl lem) HSZ8.out)) gm 10 HB8.out (.slice p10 a10.length q10))
  have HL9_11 := Lib.hid (owns_fars (owns_rfs HL9_10.out hF (Nat.lt_trans (Nat.lt_of_lt_of_le hgl lem) HSZ9.out)) gm 10 HB9.out (.slice p10 a10.length q10))
  have HB10 := Lib.hid HSZ10.out
  have HL10_11 := Lib.hid (owns_fars hO gm 10 HSZ10.out (.slice p10 a10.length q10))
  clear hr hA hF hW hV hsz hO
  go_wp2_with fail
  clear km zm cv
  refine (glist_row B g gv u11 ys11 _ HA11.out HV11.out).mono ?_
  rintro e w12 (⟨a11, ys12, u12, v11, hr, rfl, hO, hA, hF⟩ | ⟨c, hr, rfl, hF⟩)
  rotate_left
  · have HQ := Lib.hid (show MDone w B g (rmsg xs) (Bad c) w12 from .inr ⟨c, HE11.out.trans (rb_bad hr), rfl, HF11.out.trans hF⟩)
    clear hr hF
    go_wp2
    exact ⟨rfl, HQ.out⟩
  obtain ⟨p11, q11, rfl, _, _⟩ := owned_some hO
  have hW := hF.whole HW11.out gmg
  have hsz := hF.size
  have HSZ12 := Lib.hid (show gm < (w12.setCell ⟨gm, 11, none⟩ (.slice p11 a11.length q11)).heap.size by have := HSZ11.out; simp; omega)
  have km : w12.cell? ⟨gm, 11, none⟩ = some (.slice none 0 0) := by rw [hW.cell]; rfl
  have zm : w12.frozen? ⟨gm, 11, none⟩ = false := hW.free 11
  have HA12 := Lib.hid (hA.far gm 11 (Ne.symm gmg) hBm (.slice p11 a11.length q11))
  have HF12 := Lib.hid ((HF11.out.trans hF).far gm 11 lem (.slice p11 a11.length q11))
  have HW12 : Hid (Whole (w12.setCell ⟨gm, 11, none⟩ (.slice p11 a11.length q11)) gm 43 #[.int .i64 a0, .int .i64 a1, .int .i64 a2, .int .i64 a3, .int .i64 a4, .int .i64 a5, .int .i64 a6, .bool a7, .slice p8 a8.length q8, .slice p9 a9.length q9, .slice p10 a10.length q10, .slice p11 a11.length q11]) := Lib.hid (hW.store 11 (.slice p11 a11.length q11))
  have hV := (hF.whole HV11.out gvg).far gm 11 gvm (.slice p11 a11.length q11)
  have HV12 := Lib.hid hV
  have HR12 := Lib.hid ((hF.whole HR11.out grg).far gm 11 grm (.slice p11 a11.length q11))
  have cv : (w12.setCell ⟨gm, 11, none⟩ (.slice p11 a11.length q11)).cell? ⟨gv, 0, none⟩ = some (.pointer (some ⟨g, 0, none⟩)) := by rw [hV.cell]; rfl
  have HE12 := Lib.hid (show rmsg xs = .ok ((⟨a0, a1, a2, a3, a4, a5, a6, a7, a8, a9, a10, a11⟩ : MsgR), ys12) from HE11.out.trans (rb_ok hr))
  have HL8_12 := Lib.hid (owns_fars (owns_rfs HL8_11.out hF (Nat.lt_trans (Nat.lt_of_lt_of_le hgl lem) HSZ8.out)) gm 11 HB8.out (.slice p11 a11.length q11))
  have HL9_12 := Lib.hid (owns_fars (owns_rfs HL9_11.out hF (Nat.lt_trans (Nat.lt_of_lt_of_le hgl lem) HSZ9.out)) gm 11 HB9.out (.slice p11 a11.length q11))
  have HL10_12 := Lib.hid (owns_fars (owns_rfs HL10_11.out hF (Nat.lt_trans (Nat.lt_of_lt_of_le hgl lem) HSZ10.out)) gm 11 HB10.out (.slice p11 a11.length q11))
  have HB11 := Lib.hid HSZ11.out
  have HL11_12 := Lib.hid (owns_fars hO gm 11 HSZ11.out (.slice p11 a11.length q11))
  clear hr hA hF hW hV hsz hO
  go_upto_region 14 with fail
  clear km zm cv
  have hwm := HW12.out
  have hwr := HR12.out
  have hwa := HA12.out
  have hwf := HF12.out
  have hl8 := HL8_12.out
  have hl9 := HL9_12.out
  have hl10 := HL10_12.out
  have hl11 := HL11_12.out
  clear HW12 HR12 HA12 HF12 HV12 HSZ12 HL8_12 HL9_12 HL10_12 HL11_12
  generalize (w12.setCell ⟨gm, 11, none⟩ (.slice p11 a11.length q11)) = W13 at *
  have HW12 := Lib.hid hwm
  have HR12 := Lib.hid hwr
  have HA12 := Lib.hid hwa
  have HF12 := Lib.hid hwf
  have HL8_12 := Lib.hid hl8
  have HL9_12 := Lib.hid hl9
  have HL10_12 := Lib.hid hl10
  have HL11_12 := Lib.hid hl11
  have mk0 : W13.cell? ⟨gm, 0, none⟩ = some (.int .i64 a0) := by rw [hwm.cell]; rfl
  have rk0 : W13.cell? ⟨gr, 0, none⟩ = some (.int .i64 0) := by rw [hwr.cell]; rfl
  have rz0 : W13.frozen? ⟨gr, 0, none⟩ = false := hwr.free 0
  have mk1 : W13.cell? ⟨gm, 1, none⟩ = some (.int .i64 a1) := by rw [hwm.cell]; rfl
  have rk1 : W13.cell? ⟨gr, 1, none⟩ = some (.int .i64 0) := by rw [hwr.cell]; rfl
  have rz1 : W13.frozen? ⟨gr, 1, none⟩ = false := hwr.free 1
  have mk2 : W13.cell? ⟨gm, 2, none⟩ = some (.int .i64 a2) := by rw [hwm.cell]; rfl
  have rk2 : W13.cell? ⟨gr, 2, none⟩ = some (.int .i64 0) := by rw [hwr.cell]; rfl
  have rz2 : W13.frozen? ⟨gr, 2, none⟩ = false := hwr.free 2
  have mk3 : W13.cell? ⟨gm, 3, none⟩ = some (.int .i64 a3) := by rw [hwm.cell]; rfl
  have rk3 : W13.cell? ⟨gr, 3, none⟩ = some (.int .i64 0) := by rw [hwr.cell]; rfl
  have rz3 : W13.frozen? ⟨gr, 3, none⟩ = false := hwr.free 3
  have mk4 : W13.cell? ⟨gm, 4, none⟩ = some (.int .i64 a4) := by rw [hwm.cell]; rfl
  have rk4 : W13.cell? ⟨gr, 4, none⟩ = some (.int .i64 0) := by rw [hwr.cell]; rfl
  have rz4 : W13.frozen? ⟨gr, 4, none⟩ = false := hwr.free 4
  have mk5 : W13.cell? ⟨gm, 5, none⟩ = some (.int .i64 a5) := by rw [hwm.cell]; rfl
  have rk5 : W13.cell? ⟨gr, 5, none⟩ = some (.int .i64 0) := by rw [hwr.cell]; rfl
  have rz5 : W13.frozen? ⟨gr, 5, none⟩ = false := hwr.free 5
  have mk6 : W13.cell? ⟨gm, 6, none⟩ = some (.int .i64 a6) := by rw [hwm.cell]; rfl
  have rk6 : W13.cell? ⟨gr, 6, none⟩ = some (.int .i64 0) := by rw [hwr.cell]; rfl
  have rz6 : W13.frozen? ⟨gr, 6, none⟩ = false := hwr.free 6
  have mk7 : W13.cell? ⟨gm, 7, none⟩ = some (.bool a7) := by rw [hwm.cell]; rfl
  have rk7 : W13.cell? ⟨gr, 7, none⟩ = some (.bool false) := by rw [hwr.cell]; rfl
  have rz7 : W13.frozen? ⟨gr, 7, none⟩ = false := hwr.free 7
  have mk8 : W13.cell? ⟨gm, 8, none⟩ = some (.slice p8 a8.length q8) := by rw [hwm.cell]; rfl
  have rk8 : W13.cell? ⟨gr, 8, none⟩ = some (.slice none 0 0) := by rw [hwr.cell]; rfl
  have rz8 : W13.frozen? ⟨gr, 8, none⟩ = false := hwr.free 8
  have mk9 : W13.cell? ⟨gm, 9, none⟩ = some (.slice p9 a9.length q9) := by rw [hwm.cell]; rfl
  have rk9 : W13.cell? ⟨gr, 9, none⟩ = some (.slice none 0 0) := by rw [hwr.cell]; rfl
  have rz9 : W13.frozen? ⟨gr, 9, none⟩ = false := hwr.free 9
  have mk10 : W13.cell? ⟨gm, 10, none⟩ = some (.slice p10 a10.length q10) := by rw [hwm.cell]; rfl
  have rk10 : W13.cell? ⟨gr, 10, none⟩ = some (.slice none 0 0) := by rw [hwr.cell]; rfl
  have rz10 : W13.frozen? ⟨gr, 10, none⟩ = false := hwr.free 10
  have mk11 : W13.cell? ⟨gm, 11, none⟩ = some (.slice p11 a11.length q11) := by rw [hwm.cell]; rfl
  have rk11 : W13.cell? ⟨gr, 11, none⟩ = some (.slice none 0 0) := by rw [hwr.cell]; rfl
  have rz11 : W13.frozen? ⟨gr, 11, none⟩ = false := hwr.free 11
  have HI2 := Lib.hid (⟨grg, hBr, ler, lem, grlt⟩ : gr ≠ g ∧ B ≤ gr ∧ w.heap.size ≤ gr ∧ w.heap.size ≤ gm ∧ gr < gm)
  clear hwm hwr hwa hwf gvg grg gmg gvm grm lem ler hBm hBr grlt hml hgl hl8 hl9 hl10 hl11
  go_wp2
  obtain ⟨grg, hBr, ler, lem, grlt⟩ := HI2.out
  have hWW := twelve_store HR12.out (.int .i64 a0) (.int .i64 a1) (.int .i64 a2) (.int .i64 a3) (.int .i64 a4) (.int .i64 a5) (.int .i64 a6) (.bool a7) (.slice p8 a8.length q8) (.slice p9 a9.length q9) (.slice p10 a10.length q10) (.slice p11 a11.length q11)
  refine ⟨rfl, .agg #[.int .i64 a0, .int .i64 a1, .int .i64 a2, .int .i64 a3, .int .i64 a4, .int .i64 a5, .int .i64 a6, .bool a7, .slice p8 a8.length q8, .slice p9 a9.length q9, .slice p10 a10.length q10, .slice p11 a11.length q11], results_cell_row rfl _ _ gr _ _ _ _ rfl hWW Tryz.underlying43 rfl (by kernel_rfl), ?_⟩
  exact .inl ⟨⟨a0, a1, a2, a3, a4, a5, a6, a7, a8, a9, a10, a11⟩, ys12, u12, .slice p8 a8.length q8, .slice p9 a9.length q9, .slice p10 a10.length q10, .slice p11 a11.length q11, HE12.out, rfl, ⟨owns_lower (twelve_owns HL8_12.out (Nat.lt_trans grlt HB8.out) (.int .i64 a0) (.int .i64 a1) (.int .i64 a2) (.int .i64 a3) (.int .i64 a4) (.int .i64 a5) (.int .i64 a6) (.bool a7) (.slice p8 a8.length q8) (.slice p9 a9.length q9) (.slice p10 a10.length q10) (.slice p11 a11.length q11)) (Nat.le_trans lem (Nat.le_of_lt HB8.out)), owns_lower (twelve_owns HL9_12.out (Nat.lt_trans grlt HB9.out) (.int .i64 a0) (.int .i64 a1) (.int .i64 a2) (.int .i64 a3) (.int .i64 a4) (.int .i64 a5) (.int .i64 a6) (.bool a7) (.slice p8 a8.length q8) (.slice p9 a9.length q9) (.slice p10 a10.length q10) (.slice p11 a11.length q11)) (Nat.le_trans lem (Nat.le_of_lt HB9.out)), owns_lower (twelve_owns HL10_12.out (Nat.lt_trans grlt HB10.out) (.int .i64 a0) (.int .i64 a1) (.int .i64 a2) (.int .i64 a3) (.int .i64 a4) (.int .i64 a5) (.int .i64 a6) (.bool a7) (.slice p8 a8.length q8) (.slice p9 a9.length q9) (.slice p10 a10.length q10) (.slice p11 a11.length q11)) (Nat.le_trans lem (Nat.le_of_lt HB10.out)), owns_lower (twelve_owns HL11_12.out (Nat.lt_trans grlt HB11.out) (.int .i64 a0) (.int .i64 a1) (.int .i64 a2) (.int .i64 a3) (.int .i64 a4) (.int .i64 a5) (.int .i64 a6) (.bool a7) (.slice p8 a8.length q8) (.slice p9 a9.length q9) (.slice p10 a10.length q10) (.slice p11 a11.length q11)) (Nat.le_trans lem (Nat.le_of_lt HB11.out))⟩, twelve_rat HA12.out (Ne.symm grg) hBr (.int .i64 a0) (.int .i64 a1) (.int .i64 a2) (.int .i64 a3) (.int .i64 a4) (.int .i64 a5) (.int .i64 a6) (.bool a7) (.slice p8 a8.length q8) (.slice p9 a9.length q9) (.slice p10 a10.length q10) (.slice p11 a11.length q11), twelve_rf HF12.out ler (.int .i64 a0) (.int .i64 a1) (.int .i64 a2) (.int .i64 a3) (.int .i64 a4) (.int .i64 a5) (.int .i64 a6) (.bool a7) (.slice p8 a8.length q8) (.slice p9 a9.length q9) (.slice p10 a10.length q10) (.slice p11 a11.length q11)⟩
end Go.Proofs.YteodldmbnghfcaaGreat
