/- Layer 23: the bench; tokens that came in. -/
import Derived.Test.YtpiohfjmfehnoaaTk8
import Derived.Deep.Strs
import Derived.Deep.Slices
import Derived.ChangeSlices
import Derived.ChangeArms
import Derived.SizedLaws
import Derived.Lib.SmallJoins
namespace Go.Proofs.Ytpiohfjmfehnoaa
open Go.RowKit Go.ChangeShapes Go.WideShapes

def text210 : ByteArray := ⟨#[50, 49, 48, 120]⟩
theorem dg31 : dg 31 = [1, 0] := by rw [dg_pos (by decide), dg_pos (by decide), show 31 / 31 / 31 = 0 by decide, dg_zero]; rfl
theorem full231 : full 2 31 = [2, 1, 0, 30] := by
  have h : pre 2 31 = [2, 1, 0] := by
    show (2 : Int).toNat :: dg (31 : Int).toNat = _
    rw [show (31 : Int).toNat = 31 from rfl, dg31]
    rfl
  rw [full, h]
  decide +kernel
theorem fit231 : fitB 2 31 = true := by decide
theorem prT231 : prT 2 31 = text210 := by
  rw [prT, fit231, if_pos rfl, full231]
  decide +kernel
theorem prE231 : prE 2 31 = 0 := by rw [prE, fit231]; rfl
theorem read231 : pE text210 = 0 ∧ pN text210 = 2 ∧ pR text210 = 31 := by
  have h := read_full fit231
  have e : T (full 2 31) = text210 := by have := prT231; rwa [prT, fit231, if_pos rfl] at this
  rwa [e] at h

abbrev Box2 (W : World) (g : Nat) (n r : Int) : Prop := W.cell? ⟨g, 0, none⟩ = some (.int .i64 n) ∧ W.cell? ⟨g, 1, none⟩ = some (.int .i64 r)
theorem box_new (W : World) (n r : Int) (t : TypeId) (fr : Nat × Nat) : Box2 (W.alloc (.cells (TokC n r) t fr)) W.heap.size n r := ⟨by rw [new_cell]; rfl, by rw [new_cell]; rfl⟩
theorem box_below {W W' : World} {g : Nat} {n r : Int} (h : Box2 W g n r) (hb : Below W.heap.size W W') : Box2 W' g n r := by
  have hl := World.block_lt_of_cell? W ⟨g, 0, none⟩ h.1
  exact ⟨(hb.cell (p := ⟨g, 0, none⟩) hl).trans h.1, (hb.cell (p := ⟨g, 1, none⟩) hl).trans h.2⟩

set_option maxRecDepth 100000 in
set_option maxHeartbeats 1000000 in
theorem awake_any (w : World) :
    Calls Try.prog 8 #[] w fun e w' => e = .returned (.bool true) ∧ Below w.heap.size w w' := by
  have HP := Lib.hid (fun w => print_any 2 31 w)
  have HR := Lib.hid (fun w => parse_any text210 (by decide) w)
  rw [prT231, prE231] at HP
  rw [read231.1, read231.2.1, read231.2.2] at HR
  go_enter Try.func8, Try.ntmps8
  go_wp2_with fail
  refine (HP.out _).mono ?_
  rintro e w1 ⟨rfl, hb1⟩
  have HB1 := Lib.hid hb1
  clear hb1
  go_wp2_with fail
  refine (HR.out _).mono ?_
  rintro e w2 ⟨rfl, hb2⟩
  have HB2 := Lib.hid ((HB1.out.trans (hb2.mono HB1.out.size)).alloc (Nat.le_trans HB1.out.size hb2.size) (.cells (TokC 2 31) 23))
  clear hb2
  unfold text210
  have hx3 : (((⟨#[50, 49, 48, 120]⟩ : ByteArray).extract 0 3).toList == [50, 49, 48]) = true := by decide +kernel
  go_wp2
  go_ret
  exact ⟨rfl, HB2.out⟩

abbrev Tk := Int × Int
abbrev Tk.v (t : Tk) : Value := TokV t.1 t.2
theorem tok_opened {H : Type} {enc : TypeId × Value → H} {W : World} {r : Reach} {b0 base : Nat} {spare : Nat → Bool} {held : Bool} {v : Value} {d : DataW H} {p : List MemPlace}
    (hv : Value.okWide Try.prog W r b0 23 v) (h : DataW.Trod enc Try.prog W base spare held 23 v d p) :
    ∃ n r : Int, v = TokV n r := by
  obtain ⟨c0, c1, y0, y1, m, rfl, rfl, rfl, h0, h1⟩ := Go.Joins.open_agg2 Try.underlying23 (by kernel_rfl) (by kernel_rfl) hv h
  obtain ⟨x, e0, rfl, w0⟩ := DataW.trod_int Try.underlying3 h0
  obtain ⟨y, e1, rfl, w1⟩ := DataW.trod_int Try.underlying2 h1
  simp at e0 e1
  subst e0 e1
  exact ⟨x, y, rfl⟩
end Go.Proofs.Ytpiohfjmfehnoaa
