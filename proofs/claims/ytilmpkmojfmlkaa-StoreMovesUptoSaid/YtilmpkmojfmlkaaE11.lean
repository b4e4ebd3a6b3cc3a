/- The last span of an entry. -/
import Derived.Test.YtilmpkmojfmlkaaE10
namespace Go.Proofs.Ytilmpkmojfmlkaa
open Go.RowKit

theorem two_of {V : World} {g : Nat} {t : TypeId} {v0 v1 : Value} (h : Whole V g t #[v0, v1]) : (V.cell? ⟨g, 0, none⟩ = some v0 ∧ V.cell? ⟨g, 1, none⟩ = some v1) ∧ V.frozen? ⟨g, 0, none⟩ = false ∧ V.frozen? ⟨g, 1, none⟩ = false :=
  ⟨⟨by rw [h.cell]; rfl, by rw [h.cell]; rfl⟩, h.free 0, h.free 1⟩
set_option maxHeartbeats 1000000 in
/-- The last span. -/
theorem elast_any {w : World} {B g : Nat} {t : Tp} {l : List Sp} {p0 p1 p2 : Nat} {a : Option Addr} {n c : Nat} (h : EntAt w B g t l p0 p1 p2 a n c) {x : Sp} (hx : l.getLast? = some x) :
    Calls Try.prog 54 #[.pointer (some ⟨g, 0, none⟩)] w fun e w' => e = .returned (.agg #[.int .i64 x.s, .int .i64 x.u]) ∧ Below w.heap.size w w' := by
  have hn : 1 ≤ n := by
    have := h.sp.len
    cases l with
    | nil => cases hx
    | cons y l => simp at this; omega
  have hl : l[n - 1]? = some x := by rw [← h.sp.len, ← List.getLast?_eq_getElem?]; exact hx
  have hbig := h.sp.big
  have hroom := h.sp.room
  unfold maxLen at hbig
  have hw : IntKind.i64.wrap ((n : Int) - 1) = ((n - 1 : Nat) : Int) := by rw [IntWalk.i64_in _ (by omega)]; omega
  obtain ⟨w0, hw0⟩ : ∃ w0, w0 = w.alloc (.cells #[.int .i64 0, .int .i64 0] 85) := ⟨_, rfl⟩
  have hb0 : Below w.heap.size w w0 := by rw [hw0]; exact below_alloc _ _
  have hx0 : Whole w0 w.heap.size 85 #[.int .i64 0, .int .i64 0] := by rw [hw0]; exact heap_alloc_new _ _
  have h0 := h.below hb0
  obtain ⟨b, off, rfl, hb, g1, g2⟩ := h0.sp.cells hl
  have hc : w0.cell? ⟨g, 3, none⟩ = some (.slice (some ⟨b, off, none⟩) n c) := by rw [h0.blk.cell]; rfl
  obtain ⟨⟨d0, d1⟩, e0, e1⟩ := two_of hx0
  have HB := Lib.hid hb0
  have HX := Lib.hid hx0
  clear h h0 hb0 hx0 hb hbig hroom hl hx
  go_enter Try.func54, Try.ntmps54
  go_wp2_with fail
  rw [← hw0]
  clear hw0
  have hc2 : w0.drew.cell? ⟨g, 3, none⟩ = some (.slice (some ⟨b, off, none⟩) n c) := hc
  have g12 : w0.drew.cell? ⟨b, off + (n - 1) * 2, none⟩ = some (.int .i64 x.s) := g1
  have g22 : w0.drew.cell? ⟨b, off + (n - 1) * 2 + 1, none⟩ = some (.int .i64 x.u) := g2
  go_region
  go_wp2
  have hW3 := (HX.out.store 0 (.int .i64 x.s)).store 1 (.int .i64 x.u)
  have hb3 := (HB.out.setCell (p := ⟨w.heap.size, 0, none⟩) (Nat.le_refl _) (.int .i64 x.s)).setCell (p := ⟨w.heap.size, 1, none⟩) (Nat.le_refl _) (.int .i64 x.u)
  exact bodyPost_ret (v := .agg #[.int .i64 x.s, .int .i64 x.u]) (results_cell_row Try.results54 _ _ w.heap.size 85 _ (0, 0) _ rfl hW3 Try.underlying85 rfl (by kernel_rfl)) rfl ⟨rfl, hb3.trans ⟨rfl, rfl, rfl, Nat.le_refl _, fun _ _ => rfl⟩⟩
end Go.Proofs.Ytilmpkmojfmlkaa
