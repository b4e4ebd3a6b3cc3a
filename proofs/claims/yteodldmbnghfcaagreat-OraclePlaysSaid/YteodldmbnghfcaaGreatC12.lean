/- The reader: tuples. -/
import Derived.Test.YteodldmbnghfcaaGreatC11
namespace Go.Proofs.YteodldmbnghfcaaGreat
open Go.RowKit

theorem RAt.alloc {w : World} {B g : Nat} {v : Value} {xs : List Int} (h : RAt w B g v xs) (o : Obj) : RAt (w.alloc o) B g v xs :=
  ⟨h.blk.kept (Below.heap_alloc w o g h.blk.lt), h.ge, h.lies.keep fun k hk => Below.heap_alloc w o k (by have := h.ge; have := h.blk.lt; omega)⟩
theorem RF.alloc {g : Nat} (w : World) (o : Obj) : RF g w (w.alloc o) := ⟨rfl, rfl, rfl, by simp, fun k hk _ => Below.heap_alloc w o k hk⟩
theorem RF.whole {g k : Nat} {w w' : World} {t : TypeId} {cs : Array Value} (h : RF g w w') (hw : Whole w k t cs) (hk : k ≠ g) : Whole w' k t cs := (h.other k hw.lt hk).trans hw
theorem RAt.far {w : World} {B g : Nat} {v : Value} {xs : List Int} (h : RAt w B g v xs) (b i : Nat) (hb : g ≠ b) (hB : B ≤ b) (u : Value) : RAt (w.setCell ⟨b, i, none⟩ u) B g v xs :=
  ⟨h.blk.kept (Below.heap_setCell w ⟨b, i, none⟩ u g hb), h.ge, h.lies.keep fun k hk => Below.heap_setCell w ⟨b, i, none⟩ u k (show k ≠ b by omega)⟩
theorem RF.far {g : Nat} {w w' : World} (h : RF g w w') (b i : Nat) (hb : w.heap.size ≤ b) (u : Value) : RF g w (w'.setCell ⟨b, i, none⟩ u) :=
  ⟨h.os, h.tape, h.output, by simpa using h.size, fun k hk hn => (Below.heap_setCell w' ⟨b, i, none⟩ u k (show k ≠ b by omega)).trans (h.other k hk hn)⟩

abbrev Tx := List Int × List Int × List Int
def txV (p : Tx) : Value := .agg #[.string (strOfNums p.1), .string (strOfNums p.2.1), .string (strOfNums p.2.2)]
def rtuple (xs : List Int) : Except Int (Tx × List Int) := match rtext xs with
  | .error c => .error c
  | .ok (a, l) => match rtext l with
    | .error c => .error c
    | .ok (b, l) => match rtext l with
      | .error c => .error c
      | .ok (c, l) => .ok ((a, b, c), l)

set_option maxRecDepth 100000 in
set_option maxHeartbeats 4000000 in
theorem rtuple_any (B g : Nat) (v : Value) (xs : List Int) (w : World) (h : RAt w B g v xs) :
    Calls Tryz.prog 85 #[.pointer (some ⟨g, 0, none⟩)] w (RDone w B g (rtuple xs) txV) := by
  have hg : w.heap.size ≠ g := by have := h.blk.lt; omega
  have h0 := h.alloc (.cells #[.string ByteArray.empty, .string ByteArray.empty, .string ByteArray.empty] 114)
  have hw0 : Whole (w.alloc (.cells #[.string ByteArray.empty, .string ByteArray.empty, .string ByteArray.empty] 114)) w.heap.size 114 #[.string ByteArray.empty, .string ByteArray.empty, .string ByteArray.empty] := heap_alloc_new w _
  have HN := Lib.hid (rtext_any B g v xs _ h0)
  have HW := Lib.hid hw0
  have HF0 := Lib.hid (RF.alloc (g := g) w (.cells #[.string ByteArray.empty, .string ByteArray.empty, .string ByteArray.empty] 114))
  have HG := Lib.hid hg
  have HB := Lib.hid (show B ≤ w.heap.size by have := h.ge; have := h.blk.lt; omega)
  clear h h0 hw0 hg
  go_enter Tryz.func85, Tryz.ntmps85
  go_wp2_with fail
  refine HN.out.mono ?_
  rintro e w1 (⟨a, ys, u, hr, rfl, hA, hF⟩ | ⟨c, hr, rfl, hF⟩)
  · have HA1 := Lib.hid hA
    have HF1 := Lib.hid hF
    have HR1 := Lib.hid hr
    clear hA hF hr
    go_wp2_with fail
    refine (rtext_any B g u ys _ HA1.out).mono ?_
    rintro e w2 (⟨b, zs, u2, hr, rfl, hA, hF⟩ | ⟨c, hr, rfl, hF⟩)
    · have HA2 := Lib.hid hA
      have HF2 := Lib.hid (HF1.out.trans hF)
      have HR2 := Lib.hid hr
      clear hA hF hr
      go_wp2_with fail
      refine (rtext_any B g u2 zs _ HA2.out).mono ?_
      rintro e w3 (⟨c, ts, u3, hr, rfl, hA, hF⟩ | ⟨c, hr, rfl, hF⟩)
      · have hw3 := (HF2.out.trans hF).whole HW.out HG.out
        have HA3 := Lib.hid hA
        have HF3 := Lib.hid (HF2.out.trans hF)
        have hok : rtuple xs = .ok ((a, b, c), ts) := by rw [rtuple, HR1.out]; simp only []; rw [HR2.out]; simp only []; rw [hr]
        have HR3 := Lib.hid hok
        have k0 : w3.cell? ⟨w.heap.size, 0, none⟩ = some (.string ByteArray.empty) := by rw [hw3.cell]; rfl
        have k1 : w3.cell? ⟨w.heap.size, 1, none⟩ = some (.string ByteArray.empty) := by rw [hw3.cell]; rfl
        have k2 : w3.cell? ⟨w.heap.size, 2, none⟩ = some (.string ByteArray.empty) := by rw [hw3.cell]; rfl
        have z0 : w3.frozen? ⟨w.heap.size, 0, none⟩ = false := hw3.free 0
        have z1 : w3.frozen? ⟨w.heap.size, 1, none⟩ = false := hw3.free 1
        have z2 : w3.frozen? ⟨w.heap.size, 2, none⟩ = false := hw3.free 2
        have HW3 := Lib.hid hw3
        clear hA hF hr hok hw3
        go_wp2
        have hWW := ((HW3.out.store 0 (.string (strOfNums a))).store 1 (.string (strOfNums b))).store 2 (.string (strOfNums c))
        refine ⟨rfl, .agg #[.string (strOfNums a), .string (strOfNums b), .string (strOfNums c)], results_cell_row rfl _ _ w.heap.size _ _ _ _ rfl hWW Tryz.underlying114 rfl (by kernel_rfl), ?_⟩
        exact .inl ⟨(a, b, c), ts, u3, HR3.out, rfl, ((HA3.out.far _ 0 (Ne.symm HG.out) HB.out _).far _ 1 (Ne.symm HG.out) HB.out _).far _ 2 (Ne.symm HG.out) HB.out _, (((HF0.out.trans HF3.out).far _ 0 (Nat.le_refl _) _).far _ 1 (Nat.le_refl _) _).far _ 2 (Nat.le_refl _) _⟩
      · have HF3 := Lib.hid (HF0.out.trans (HF2.out.trans hF))
        have hbad : rtuple xs = .error c := by rw [rtuple, HR1.out]; simp only []; rw [HR2.out]; simp only []; rw [hr]
        have HR3 := Lib.hid hbad
        clear hF hr hbad
        go_wp2
        exact ⟨rfl, .inr ⟨c, HR3.out, rfl, HF3.out⟩⟩
    · have HF2 := Lib.hid (HF0.out.trans (HF1.out.trans hF))
      have hbad : rtuple xs = .error c := by rw [rtuple, HR1.out]; simp only []; rw [hr]
      have HR2 := Lib.hid hbad
      clear hF hr hbad
      go_wp2
      exact ⟨rfl, .inr ⟨c, HR2.out, rfl, HF2.out⟩⟩
  · have HF1 := Lib.hid (HF0.out.trans hF)
    have hbad : rtuple xs = .error c := by rw [rtuple, hr]
    have HR1 := Lib.hid hbad
    clear hF hr hbad
    go_wp2
    exact ⟨rfl, .inr ⟨c, HR1.out, rfl, HF1.out⟩⟩
end Go.Proofs.YteodldmbnghfcaaGreat
