/- A tuple, and bools, that came in. -/
import Derived.Test.YtmjdngomjjhhiaaGreatE35
import Derived.Test.YtmjdngomjjhhiaaGreatBulk
import Derived.Deep.Strs
import Derived.Deep.Slices
import Derived.ChangeSlices
import Derived.ChangeArms
import Derived.Lib.SmallJoins
namespace Go.Proofs.YtmjdngomjjhhiaaGreat
open Go.RowKit Go.ChangeShapes Go.WideShapes

theorem str_bulk {H : Type} {l : List UInt8} (h : Rows.uptoBulk (DataW.lit (H := H) (.string l)) ≤ 1048576) : l.length ≤ 1048576 := by
  simp only [Rows.uptoBulk] at h
  omega
set_option maxRecDepth 100000 in
theorem tupU_opened {H : Type} {enc : TypeId × Value → H} {W : World} {r : Reach} {b0 base : Nat} {spare : Nat → Bool} {held : Bool} {v : Value} {d : DataW H} {p : List MemPlace}
    (hv : Value.okWide Tryz.prog W r b0 32 v) (h : DataW.Trod enc Tryz.prog W base spare held 32 v d p) (hw : Rows.uptoBulk d ≤ 1048576) :
    ∃ x y z, v = .agg #[.string x, .string y, .string z] ∧ (⟨x, y, z⟩ : Tp).fits := by
  obtain ⟨c0, c1, c2, y0, y1, y2, m, rfl, rfl, rfl, h0, h1, h2⟩ := Go.Joins.open_agg3 Tryz.underlying32 (by kernel_rfl) (by kernel_rfl) hv h
  obtain ⟨x, e0, rfl, w0⟩ := DataW.trod_string Tryz.underlying9 h0
  obtain ⟨y, e1, rfl, w1⟩ := DataW.trod_string Tryz.underlying9 h1
  obtain ⟨z, e2, rfl, w2⟩ := DataW.trod_string Tryz.underlying9 h2
  simp at e0 e1 e2
  subst e0 e1 e2
  simp only [Rows.uptoBulk, Rows.uptoBulkAll] at hw
  refine ⟨x, y, z, rfl, ?_, ?_, ?_⟩ <;> (simp only [Lib.size_eq]; omega)
end Go.Proofs.YtmjdngomjjhhiaaGreat
