/- An index that is new. -/
import Derived.Test.YtilmpkmojfmlkaaE13
namespace Go.Proofs.Ytilmpkmojfmlkaa
open Go.RowKit

theorem three_of {V : World} {g : Nat} {t : TypeId} {v0 v1 v2 : Value} (h : Whole V g t #[v0, v1, v2]) : (V.cell? ⟨g, 0, none⟩ = some v0 ∧ V.cell? ⟨g, 1, none⟩ = some v1 ∧ V.cell? ⟨g, 2, none⟩ = some v2) ∧ V.frozen? ⟨g, 0, none⟩ = false ∧ V.frozen? ⟨g, 1, none⟩ = false ∧ V.frozen? ⟨g, 2, none⟩ = false :=
  ⟨⟨by rw [h.cell]; rfl, by rw [h.cell]; rfl, by rw [h.cell]; rfl⟩, h.free 0, h.free 1, h.free 2⟩
set_option maxHeartbeats 1000000 in
theorem newIndexS_any (w : World) (k : Int) (f : FuncId) :
    Calls Try.prog 22 #[.int .i64 k, .func (.func f) #[] #[]] w fun e w' => e = .returned (.agg #[.int .i64 k, .func (.func f) #[] #[], .map (some (w.heap.size + 1))]) ∧ w'.heap.size = w.heap.size + 2 ∧ MapAt w' Try.prog 9 (w.heap.size + 1) (fun _ => none) 0 ∧ Below w.heap.size w w' := by
  obtain ⟨w0, hw0⟩ : ∃ w0, w0 = (w.alloc (.cells #[.int .i64 0, .nilFunc, .map none] 64)).alloc (.map #[] 0) := ⟨_, rfl⟩
  have hs1 : (w.alloc (.cells #[.int .i64 0, .nilFunc, .map none] 64)).heap.size = w.heap.size + 1 := by simp
  have hs0 : w0.heap.size = w.heap.size + 2 := by rw [hw0]; simp
  have hb0 : Below w.heap.size w w0 := by rw [hw0]; exact (below_alloc w _).trans ((below_alloc _ _).mono (by simp))
  have hx0 : Whole w0 w.heap.size 64 #[.int .i64 0, .nilFunc, .map none] := by
    rw [hw0]
    exact (show Whole (w.alloc (.cells #[.int .i64 0, .nilFunc, .map none] 64)) w.heap.size 64 _ from heap_alloc_new _ _).kept ((below_alloc _ _).block _ (by rw [hs1]; omega))
  have hm0 : MapAt w0 Try.prog 9 (w.heap.size + 1) (fun _ => none) 0 := by
    rw [hw0, ← hs1]
    exact MapAt.made _ _ _
  have hmk : (Instr.makeMap 62 none).run Try.prog (w.alloc (.cells #[.int .i64 0, .nilFunc, .map none] 64)) = .ok (.map (some (w.heap.size + 1))) w0 := by
    rw [run_makeMap, hs1, hw0]
  have HB := Lib.hid hb0
  have HX := Lib.hid hx0
  have HM := Lib.hid hm0
  have HS := Lib.hid hs0
  obtain ⟨⟨a0, a1, a2⟩, b0, b1, b2⟩ := three_of hx0
  clear hb0 hx0 hm0 hs0
  go_enter Try.func22, Try.ntmps22
  clear hw0 hs1
  have W0 := HX.out.store 0 (.int .i64 k)
  have W1 := W0.store 1 (.func (.func f) #[] #[])
  have c1 : (w0.setCell ⟨w.heap.size, 0, none⟩ (.int .i64 k)).cell? ⟨w.heap.size, 1, none⟩ = some .nilFunc := by rw [W0.cell]; rfl
  have f1 := W0.free 1
  have c2 : ((w0.setCell ⟨w.heap.size, 0, none⟩ (.int .i64 k)).setCell ⟨w.heap.size, 1, none⟩ (.func (.func f) #[] #[])).cell? ⟨w.heap.size, 2, none⟩ = some (.map none) := by rw [W1.cell]; rfl
  have f2 := W1.free 2
  have hst1 : (Go.store ⟨w.heap.size, 1, none⟩ (.func (.func f) #[] #[])).run Try.prog (w0.setCell ⟨w.heap.size, 0, none⟩ (.int .i64 k)) = .ok () ((w0.setCell ⟨w.heap.size, 0, none⟩ (.int .i64 k)).setCell ⟨w.heap.size, 1, none⟩ (.func (.func f) #[] #[])) := by
    rw [run_store _ _ _ _ _ rfl]
    simp [c1, f1]
  clear W0 W1
  go_wp2
  have hW3 := ((HX.out.store 0 (.int .i64 k)).store 1 (.func (.func f) #[] #[])).store 2 (.map (some (w.heap.size + 1)))
  have hb3 := ((HB.out.setCell (p := ⟨w.heap.size, 0, none⟩) (Nat.le_refl _) (.int .i64 k)).setCell (p := ⟨w.heap.size, 1, none⟩) (Nat.le_refl _) (.func (.func f) #[] #[])).setCell (p := ⟨w.heap.size, 2, none⟩) (Nat.le_refl _) (.map (some (w.heap.size + 1)))
  exact bodyPost_ret (v := .agg #[.int .i64 k, .func (.func f) #[] #[], .map (some (w.heap.size + 1))]) (results_cell_row Try.results22 _ _ w.heap.size 64 _ (0, 0) _ rfl hW3 Try.underlying64 rfl (by kernel_rfl)) rfl ⟨rfl, by simp [World.setCell, HS.out], HM.out.kept (by rw [Below.heap_setCell _ _ _ _ (by simp), Below.heap_setCell _ _ _ _ (by simp), Below.heap_setCell _ _ _ _ (by simp)]), hb3⟩
end Go.Proofs.Ytilmpkmojfmlkaa
