/- StorePlays: one step's state: both stores, beside the boxes of the step. -/
import Derived.Test.YtmjdngomjjhhiaaGreatE77
import Derived.Test.YtmjdngomjjhhiaaGreatE76
import Derived.Test.YtmjdngomjjhhiaaGreatE74
import Derived.Test.YtmjdngomjjhhiaaGreatE73
namespace Go.Proofs.YtmjdngomjjhhiaaGreat
open Go.RowKit
open Go.Maps (Keyed)

theorem RowsAt.apart {w0 : World} {a : Option Addr} {n : Nat} {l : List Rw} (h : RowsAt w0 a n l) {H : Gh} (ho : ∀ k, H.own k → w0.heap.size ≤ k) : 0 < n → ∀ ad, a = some ad → ¬ H.own ad.block := by
  intro hn ad ha hk
  obtain ⟨b, off, he, hb, _⟩ := h.at_.resolve_left (by omega)
  rw [ha] at he
  injection he with he
  subst he
  have := ho _ hk
  simp only at this
  omega
theorem StrsAt.apart {w0 : World} {a : Option Addr} {n : Nat} {l : List ByteArray} (h : StrsAt w0 a n l) {H : Gh} (ho : ∀ k, H.own k → w0.heap.size ≤ k) : 0 < n → ∀ ad, a = some ad → ¬ H.own ad.block := by
  intro hn ad ha hk
  obtain ⟨b, off, he, hb, _⟩ := h.at_.resolve_left (by omega)
  rw [ha] at he
  injection he with he
  subst he
  have := ho _ hk
  simp only at this
  omega
/-- A step under way: the program's store, the document's rows, the boxes of the operation, the answer and the document's new store. -/
structure Rs (W0 w : World) (H0 : Gh) (V : World) (g : Nat) (M : SM) (H : Gh) (wm : Int) (c : Nat) (q1 : Nat) (oc : Array Value) (q2 qx : Nat) (R : List Rw) (v : Value) (wn : Int) (st : Bool) : Prop where
  one : OneW W0 V g M H wm c
  dr : DR V (fun b => H.own b ∨ b = q2) R v
  x1 : Whole V q1 34 oc
  x2 : Whole V q2 28 (if st = true then #[v, .int .i64 wn] else #[.slice none 0 0, .int .i64 0])
  xx : Whole V qx 28 #[v, .int .i64 wn]
  n1 : ¬ H.own q1
  n2 : ¬ H.own q2
  nx : ¬ H.own qx
  d1 : q1 ≠ q2
  dx : qx ≠ q2
  lo : W0.heap.size ≤ q2
  k : StC w V H0 H
  lw : w.heap.size ≤ q2
section
variable {W0 w V V' : World} {H0 : Gh} {g : Nat} {M M' : SM} {H H' : Gh} {wm wm' : Int} {c c' : Nat} {q1 : Nat} {oc : Array Value} {q2 qx : Nat} {R : List Rw} {v : Value} {wn : Int} {st : Bool}
theorem Rs.below (h : Rs W0 w H0 V g M H wm c q1 oc q2 qx R v wn st) (hb : Below V.heap.size V V') : Rs W0 w H0 V' g M H wm c q1 oc q2 qx R v wn st :=
  ⟨h.one.below hb, h.dr.below hb, h.x1.kept (hb.block _ h.x1.lt), h.x2.kept (hb.block _ h.x2.lt), h.xx.kept (hb.block _ h.xx.lt), h.n1, h.n2, h.nx, h.d1, h.dx, h.lo, h.k.trans (StC.ofBelow H hb), h.lw⟩
theorem Rs.drew (h : Rs W0 w H0 V g M H wm c q1 oc q2 qx R v wn st) : Rs W0 w H0 V.drew g M H wm c q1 oc q2 qx R v wn st := h.below (below_drew1 V)
theorem Rs.call (h : Rs W0 w H0 V g M H wm c q1 oc q2 qx R v wn st) (hs : StAt V' wm' M' H' c') (k : StC V V' H H') : Rs W0 w H0 V' g M' H' wm' c' q1 oc q2 qx R v wn st := by
  refine ⟨h.one.step hs k, h.dr.chg k.chg (fun b hb => .inl hb) (fun b hl hb => hb.elim (fun ho => .inl (k.new b hl ho)) .inr), h.x1.kept (k.chg.block _ h.x1.lt h.n1), h.x2.kept (k.chg.block _ h.x2.lt h.n2), h.xx.kept (k.chg.block _ h.xx.lt h.nx), fun ho => h.n1 (k.new _ h.x1.lt ho), fun ho => h.n2 (k.new _ h.x2.lt ho), fun ho => h.nx (k.new _ h.xx.lt ho), h.d1, h.dx, h.lo, h.k.trans k, h.lw⟩
theorem Rs.put (h : Rs W0 w H0 V g M H wm c q1 oc q2 qx R v wn false) : Rs W0 w H0 ((V.setCell ⟨q2, 0, none⟩ v).setCell ⟨q2, 1, none⟩ (.int .i64 wn)) g M H wm c q1 oc q2 qx R v wn true := by
  have hc : Chg V ((V.setCell ⟨q2, 0, none⟩ v).setCell ⟨q2, 1, none⟩ (.int .i64 wn)) (fun b => b = q2) := ((Chg.refl V (fun b => b = q2)).set rfl 0 v).set rfl 1 _
  have hk := fun k (hk : k < V.heap.size) (hne : k ≠ q2) => hc.block k hk hne
  refine ⟨⟨h.one.a.chg hc (fun b ho e => h.n2 (e ▸ ho)), h.one.ga, h.one.oa, (h.one.bel.setCell (p := ⟨q2, 0, none⟩) h.lo _).setCell (p := ⟨q2, 1, none⟩) h.lo _⟩, h.dr.chg hc (fun b hb => .inr hb) (fun b _ hb => hb), h.x1.kept (hk _ h.x1.lt h.d1), ?_, h.xx.kept (hk _ h.xx.lt h.dx), h.n1, h.n2, h.nx, h.d1, h.dx, h.lo, ⟨h.k.chg.trans hc (fun i hi e => by have := h.lw; omega), h.k.g, h.k.new⟩, h.lw⟩
  have := (h.x2.store 0 v).store 1 (.int .i64 wn)
  exact this
theorem Rs.cells (h : Rs W0 w H0 V g M H wm c q1 oc q2 qx R v wn st) : (V.cell? ⟨qx, 0, none⟩ = some v ∧ V.cell? ⟨qx, 1, none⟩ = some (.int .i64 wn)) ∧ (V.frozen? ⟨q2, 0, none⟩ = false ∧ V.frozen? ⟨q2, 1, none⟩ = false) := by
  refine ⟨⟨by rw [h.xx.cell]; rfl, by rw [h.xx.cell]; rfl⟩, h.x2.free 0, h.x2.free 1⟩
theorem Rs.old (h : Rs W0 w H0 V g M H wm c q1 oc q2 qx R v wn false) : V.cell? ⟨q2, 0, none⟩ = some (.slice none 0 0) ∧ V.cell? ⟨q2, 1, none⟩ = some (.int .i64 0) := ⟨by rw [h.x2.cell]; rfl, by rw [h.x2.cell]; rfl⟩
theorem Rs.new (h : Rs W0 w H0 V g M H wm c q1 oc q2 qx R v wn true) : V.cell? ⟨q2, 0, none⟩ = some v ∧ V.cell? ⟨q2, 1, none⟩ = some (.int .i64 wn) := ⟨by rw [h.x2.cell]; rfl, by rw [h.x2.cell]; rfl⟩
end
/-- The boxes that a step begins with. -/
theorem three_boxes (w : World) (v : Value) (wm : Int) (oc : Array Value) : Below w.heap.size w (((w.alloc (.cells #[v, .int .i64 wm] 28)).alloc (.cells oc 34)).alloc (.cells #[.slice none 0 0, .int .i64 0] 28)) ∧
    Whole (((w.alloc (.cells #[v, .int .i64 wm] 28)).alloc (.cells oc 34)).alloc (.cells #[.slice none 0 0, .int .i64 0] 28)) w.heap.size 28 #[v, .int .i64 wm] ∧
    Whole (((w.alloc (.cells #[v, .int .i64 wm] 28)).alloc (.cells oc 34)).alloc (.cells #[.slice none 0 0, .int .i64 0] 28)) (w.heap.size + 1) 34 oc ∧
    Whole (((w.alloc (.cells #[v, .int .i64 wm] 28)).alloc (.cells oc 34)).alloc (.cells #[.slice none 0 0, .int .i64 0] 28)) (w.heap.size + 2) 28 #[.slice none 0 0, .int .i64 0] := by
  have a1 := below_alloc w (.cells #[v, .int .i64 wm] 28)
  have s1 : (w.alloc (.cells #[v, .int .i64 wm] 28)).heap.size = w.heap.size + 1 := by simp
  have x1 : Whole (w.alloc (.cells #[v, .int .i64 wm] 28)) w.heap.size 28 #[v, .int .i64 wm] := heap_alloc_new _ _
  generalize w.alloc (.cells #[v, .int .i64 wm] 28) = W1 at *
  have a2 := below_alloc W1 (.cells oc 34)
  have s2 : (W1.alloc (.cells oc 34)).heap.size = W1.heap.size + 1 := by simp
  have x2 : Whole (W1.alloc (.cells oc 34)) W1.heap.size 34 oc := heap_alloc_new _ _
  generalize W1.alloc (.cells oc 34) = W2 at *
  have a3 := below_alloc W2 (.cells #[.slice none 0 0, .int .i64 0] 28)
  have x3 : Whole (W2.alloc (.cells #[.slice none 0 0, .int .i64 0] 28)) W2.heap.size 28 #[.slice none 0 0, .int .i64 0] := heap_alloc_new _ _
  generalize W2.alloc (.cells #[.slice none 0 0, .int .i64 0] 28) = W3 at *
  have y1 := x1.kept (a2.block _ x1.lt)
  have z1 := y1.kept (a3.block _ y1.lt)
  have z2 := x2.kept (a3.block _ x2.lt)
  rw [s1] at z2
  rw [s2, s1] at x3
  exact ⟨bell_up (bell_up a1 a2) a3, z1, z2, x3⟩
end Go.Proofs.YtmjdngomjjhhiaaGreat
