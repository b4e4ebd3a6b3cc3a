/- Tables and pairs that came in, opened; a table is what it is. -/
import Derived.Test.YtobehjlejlaeeaaDoorRMovesG
import Derived.OpenShut
import Derived.ChangeArms
import Derived.DeepKeys
import Derived.SizedLaws
namespace Go.Proofs.YtobehjlejlaeeaaDoor
open Go.RowKit Go.ChangeShapes Go.WideShapes

/-- Numbers of 64 bits. -/
def In64 (x : Int) : Prop := -9223372036854775808 ≤ x ∧ x ≤ 9223372036854775807
theorem in64_wf {x : Int} (h : In64 x) : (Lit.int .i64 x).wf = true := by
  unfold In64 at h
  simp [Lit.wf, IntKind.min, IntKind.max, IntKind.signed, IntKind.bits]
  omega
theorem wf_in64 {x : Int} (h : (Lit.int .i64 x).wf = true) : In64 x := wf_i64 h
theorem arr_ints {H : Type} {enc : TypeId × Value → H} {W : World} {base : Nat} {spare : Nat → Bool} {held : Bool} {fuel : Nat} {T : TypeId} {n : Nat} {cs : List Value} {x : DataW H × List MemPlace}
    (hu : Tryd.prog.underlying T = some (.array n 3)) (hn : Tryd.prog.cellsOf T = n) (hf : DataW.trod enc Tryd.prog W base spare held fuel T cs = some x) : ∃ o : List Int, o.length = n ∧ cs = o.map (Value.int .i64) ∧ ∀ y ∈ o, In64 y := by
  obtain ⟨xs, m, rfl, hd, hl, hxl, hx⟩ := DataW.trod_array hu hf
  have k1 : Tryd.prog.cellsOf 3 = 1 := by kernel_rfl
  rw [hn] at hl
  have key : ∀ i, i < n → ∃ k : Int, cs[i]? = some (.int .i64 k) ∧ In64 k := by
    intro i hi
    have h0 := hx i hi
    rw [k1, Nat.mul_one] at h0
    obtain ⟨y, hy⟩ : ∃ y, xs[i]? = some y := ⟨_, List.getElem?_eq_getElem (by omega)⟩
    rw [hy] at h0
    obtain ⟨k, e1, _, hw⟩ := DataW.trod_int Tryd.underlying3 h0
    refine ⟨k, ?_, wf_in64 hw⟩
    have := congrArg (fun l => l[0]?) e1
    simpa [List.getElem?_take, List.getElem?_drop] using this
  refine ⟨(List.range n).map fun i => if h : i < n then (key i h).choose else 0, by simp, ?_, ?_⟩
  · apply List.ext_getElem?
    intro i
    by_cases hi : i < n
    · rw [(key i hi).choose_spec.1]
      simp [hi]
    · rw [List.getElem?_eq_none (by omega), List.getElem?_eq_none (by simp; omega)]
  · intro y hy
    obtain ⟨i, hi, rfl⟩ := List.mem_map.1 hy
    have hi' : i < n := List.mem_range.1 hi
    simp only [dif_pos hi']
    exact (key i hi').choose_spec.2
theorem pair_opened {H : Type} {enc : TypeId × Value → H} {W : World} {r : Reach} {b0 base : Nat} {spare : Nat → Bool} {held : Bool} {v : Value} {d : DataW H} {p : List MemPlace}
    (hv : Value.okWide Tryd.prog W r b0 29 v) (h : DataW.Trod enc Tryd.prog W base spare held 29 v d p) : ∃ x y, v = .agg #[.int .i64 x, .int .i64 y] ∧ In64 x ∧ In64 y := by
  have hu := Tryd.underlying29
  simp only [Value.okWide, hu] at hv
  obtain ⟨cs, rfl, hsz, _⟩ := hv
  obtain ⟨fuel, hf⟩ := h
  obtain ⟨o, ho, hcs, hin⟩ := arr_ints hu (by kernel_rfl) hf
  match o, ho with
  | [x, y], _ =>
    refine ⟨x, y, ?_, hin x (by simp), hin y (by simp)⟩
    congr 1
    apply Array.toList_inj.1
    simpa [Value.cells] using hcs
theorem tab_opened {H : Type} {enc : TypeId × Value → H} {W : World} {r : Reach} {b0 base : Nat} {spare : Nat → Bool} {held : Bool} {v : Value} {d : DataW H} {p : List MemPlace}
    (hv : Value.okWide Tryd.prog W r b0 32 v) (h : DataW.Trod enc Tryd.prog W base spare held 32 v d p) : ∃ e o, v = .agg (tcs e o) ∧ o.length = 16 ∧ In64 e ∧ ∀ y ∈ o, In64 y := by
  have hu := Tryd.underlying32
  simp only [Value.okWide, hu] at hv
  obtain ⟨cs, rfl, hsz, _⟩ := hv
  obtain ⟨fuel, hf⟩ := h
  obtain ⟨xs, m, rfl, hd, hl, hxl, hx⟩ := DataW.trod_struct hu hf
  match xs, hxl with
  | [y0, y1], _ =>
    have h0 := hx 0 _ rfl
    have h1 := hx 1 _ rfl
    have k1 : Tryd.prog.cellsOf 2 = 1 := by kernel_rfl
    have k16 : Tryd.prog.cellsOf 30 = 16 := by kernel_rfl
    simp only [List.getElem?_cons_zero, List.getElem?_cons_succ] at h0 h1
    obtain ⟨e, q0, _, hw⟩ := DataW.trod_int Tryd.underlying2 h0
    obtain ⟨o, ho, q1, hin⟩ := arr_ints Tryd.underlying30 k16 h1
    have k17 : Tryd.prog.cellsOf 32 = 17 := by kernel_rfl
    rw [k17] at hsz
    simp [k1, Value.cells] at q0
    simp [k16, Value.cells] at q1
    refine ⟨e, o, ?_, ho, wf_in64 hw, hin⟩
    congr 1
    apply Array.toList_inj.1
    have hcl : cs.toList.length = 17 := by simpa using hsz
    have e0 : cs.toList.take 1 = [.int .i64 e] := by simpa using q0
    have e1 : cs.toList.drop 1 = o.map (Value.int .i64) := by
      rw [List.take_of_length_le (by rw [List.length_tail, hcl]; exact Nat.le_refl _)] at q1
      simpa using q1
    rw [← List.take_append_drop 1 cs.toList, e0, e1]
    simp [tcs]
end Go.Proofs.YtobehjlejlaeeaaDoor
