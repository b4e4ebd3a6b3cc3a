/- The disk: its words, and the walks of its small calls. -/
import Derived.Test.YteodldmbnghfcaaGreatD0
namespace Go.Proofs.YteodldmbnghfcaaGreat.Dk
open Go.RowKit

/-- Block g is just these cells. -/
def Whole (w : World) (g : Nat) (t : TypeId) (cs : Array Value) : Prop := w.heap[g]? = some (.cells cs t (0, 0))
theorem Whole.lt {w : World} {g : Nat} {t : TypeId} {cs : Array Value} (h : Whole w g t cs) : g < w.heap.size := by
  rcases Nat.lt_or_ge g w.heap.size with hl | hl
  · exact hl
  · unfold Whole at h
    rw [Array.getElem?_eq_none hl] at h
    cases h
theorem Whole.cell {w : World} {g : Nat} {t : TypeId} {cs : Array Value} (h : Whole w g t cs) (i : Nat) : w.cell? ⟨g, i, none⟩ = cs[i]? := by
  unfold Whole at h
  simp [World.cell?, h]
theorem Whole.free {w : World} {g : Nat} {t : TypeId} {cs : Array Value} (h : Whole w g t cs) (i : Nat) : w.frozen? ⟨g, i, none⟩ = false := by
  unfold Whole at h
  simp [World.frozen?, h]

/-- A disk lies in block g: its bytes, how many of them are durable, its room. -/
structure DAt (w : World) (B g : Nat) (v : Value) (xs : List Int) (d r : Nat) : Prop where
  blk : Whole w g 73 #[v, .int .i64 d, .int .i64 r]
  ge : B ≤ g
  own : w.ownsRow B 5 1 v xs.length (xs.map (Value.int .u8))
  byte : ∀ x ∈ xs, 0 ≤ x ∧ x < 256
  hd : d ≤ xs.length
  hr : xs.length ≤ r
  hm : r ≤ 1048576

set_option maxRecDepth 100000 in
set_option maxHeartbeats 1000000 in
theorem new_bad (r : Int) (w : World) (h : r < 0 ∨ 1048576 < r) :
    Calls Tryz.prog 5 #[.int .i64 r] w fun e w' => e = .returned (.tuple #[.pointer none, .int .i64 1]) ∧ w = w' := by
  rcases h with h | h
  all_goals
    go_enter Tryz.func5, Tryz.ntmps5
    go_wp2
    go_ret2
    exact ⟨rfl, rfl⟩
set_option maxRecDepth 100000 in
set_option maxHeartbeats 1000000 in
theorem new_good (B r : Nat) (w : World) (h : r ≤ 1048576) (hB : B ≤ w.heap.size) :
    Calls Tryz.prog 5 #[.int .i64 r] w fun e w' => e = .returned (.tuple #[.pointer (some ⟨w.heap.size, 0, none⟩), .int .i64 0]) ∧ DAt w' B w.heap.size (.slice none 0 0) [] 0 r ∧ Below w.heap.size w w' := by
  go_enter Tryz.func5, Tryz.ntmps5
  go_wp2
  go_ret2
  refine ⟨rfl, ⟨heap_alloc_new w _, hB, World.ownsRow_nil _ _ _ _, by simp, Nat.le_refl _, Nat.zero_le _, h⟩, (Below.refl _ _).alloc (Nat.le_refl _) _⟩
end Go.Proofs.YteodldmbnghfcaaGreat.Dk
