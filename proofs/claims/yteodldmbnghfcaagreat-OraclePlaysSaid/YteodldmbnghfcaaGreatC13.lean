/- The reader: the closures that read an item. -/
import Derived.Test.YteodldmbnghfcaaGreatC12
namespace Go.Proofs.YteodldmbnghfcaaGreat
open Go.RowKit

theorem RAt.typed {w : World} {B g k : Nat} {v : Value} {xs : List Int} {t : TypeId} {cs : Array Value} (h : RAt w B g v xs) (hw : Whole w k t cs) (ht : t ≠ 153) : k ≠ g := by
  rintro rfl
  have h1 := h.blk
  unfold Whole at h1 hw
  rw [h1] at hw
  injection hw with hw
  injection hw with _ hw
  exact ht hw.symm
/-- A truth and a tuple. -/
def rflag (xs : List Int) : Except Int ((Bool × Tx) × List Int) := match rtruth xs with
  | .error c => .error c
  | .ok (d, l) => match rtuple l with
    | .error c => .error c
    | .ok (t, l) => .ok ((d, t), l)
def flagV (p : Bool × Tx) : Value := .agg #[.bool p.1, .string (strOfNums p.2.1), .string (strOfNums p.2.2.1), .string (strOfNums p.2.2.2)]

set_option maxHeartbeats 1000000 in
theorem gint_any (B g gv : Nat) (v : Value) (xs : List Int) (w : World) (h : RAt w B g v xs) (hv : Whole w gv 151 #[.pointer (some ⟨g, 0, none⟩)]) :
    Calls Tryz.prog 82 #[.pointer (some ⟨gv, 0, none⟩)] w (RDone w B g (rnum xs) (Value.int .i64)) := by
  have cv0 : w.cell? ⟨gv, 0, none⟩ = some (.pointer (some ⟨g, 0, none⟩)) := by rw [hv.cell]; rfl
  have HN := Lib.hid (rnumber_any B g v xs w h)
  clear h hv
  go_enter Tryz.func82, Tryz.ntmps82
  go_wp2_with fail
  refine HN.out.mono ?_
  rintro e w1 (⟨n, ys, u, hr, rfl, hA, hF⟩ | ⟨c, hr, rfl, hF⟩)
  · have HQ := Lib.hid (show RDone w B g (rnum xs) (Value.int .i64) (.returned (.int .i64 n)) w1 from .inl ⟨n, ys, u, hr, rfl, hA, hF⟩)
    clear hr hA hF
    go_wp2
    go_ret
    exact HQ.out
  · have HQ := Lib.hid (show RDone w B g (rnum xs) (Value.int .i64) (Bad c) w1 from .inr ⟨c, hr, rfl, hF⟩)
    clear hr hF
    go_wp2
    exact ⟨rfl, HQ.out⟩

set_option maxRecDepth 100000 in
set_option maxHeartbeats 4000000 in
theorem gmut_any (B g gv : Nat) (v : Value) (xs : List Int) (w : World) (h : RAt w B g v xs) (hv : Whole w gv 151 #[.pointer (some ⟨g, 0, none⟩)]) :
    Calls Tryz.prog 84 #[.pointer (some ⟨gv, 0, none⟩)] w (RDone w B g (rflag xs) flagV) := by
  have hg : w.heap.size ≠ g := by have := h.blk.lt; omega
  have hgv := h.typed hv (by decide)
  have HB := Lib.hid (show B ≤ w.heap.size by have := h.ge; have := h.blk.lt; omega)
  have h0 := h.alloc (.cells #[.bool false, .string ⟨#[]⟩, .string ⟨#[]⟩, .string ⟨#[]⟩] 116)
  have hw0 : Whole (w.alloc (.cells #[.bool false, .string ⟨#[]⟩, .string ⟨#[]⟩, .string ⟨#[]⟩] 116)) w.heap.size 116 #[.bool false, .string ⟨#[]⟩, .string ⟨#[]⟩, .string ⟨#[]⟩] := heap_alloc_new w _
  have hv0 : Whole (w.alloc (.cells #[.bool false, .string ⟨#[]⟩, .string ⟨#[]⟩, .string ⟨#[]⟩] 116)) gv 151 #[.pointer (some ⟨g, 0, none⟩)] := hv.kept (Below.heap_alloc _ _ _ hv.lt)
  have cv0 : (w.alloc (.cells #[.bool false, .string ⟨#[]⟩, .string ⟨#[]⟩, .string ⟨#[]⟩] 116)).cell? ⟨gv, 0, none⟩ = some (.pointer (some ⟨g, 0, none⟩)) := by rw [hv0.cell]; rfl
  have HN := Lib.hid (rtruth_any B g v xs _ h0)
  have HW := Lib.hid hw0
  have HV := Lib.hid hv0
  have HF0 := Lib.hid (RF.alloc (g := g) w (.cells #[.bool false, .string ⟨#[]⟩, .string ⟨#[]⟩, .string ⟨#[]⟩] 116))
  have HG := Lib.hid hg
  have HGV := Lib.hid hgv
  clear h h0 hw0 hg hv hv0 hgv
  go_enter Tryz.func84, Tryz.ntmps84
  go_wp2_with fail
  refine HN.out.mono ?_
  rintro e w1 (⟨a, ys, u, hr, rfl, hA, hF⟩ | ⟨c, hr, rfl, hF⟩)
  · have HA1 := Lib.hid hA
    have HF1 := Lib.hid hF
    have HR1 := Lib.hid hr
    have hv1 := hF.whole HV.out HGV.out
    have cv1 : w1.cell? ⟨gv, 0, none⟩ = some (.pointer (some ⟨g, 0, none⟩)) := by rw [hv1.cell]; rfl
    clear hA hF hr cv0 hv1
    go_wp2_with fail
    refine (rtuple_any B g u ys _ HA1.out).mono ?_
    rintro e w3 (⟨⟨b1, b2, b3⟩, ts, u3, hr, rfl, hA, hF⟩ | ⟨c, hr, rfl, hF⟩)
    · have hw3 := (HF1.out.trans hF).whole HW.out HG.out
      have HA3 := Lib.hid hA
      have HF3 := Lib.hid (HF1.out.trans hF)
      have hok : rflag xs = .ok ((a, (b1, b2, b3)), ts) := by rw [rflag, HR1.out]; simp only []; rw [hr]
      have HR3 := Lib.hid hok
      have k0 : w3.cell? ⟨w.heap.size, 0, none⟩ = some (.bool false) := by rw [hw3.cell]; rfl
      have k1 : w3.cell? ⟨w.heap.size, 1, none⟩ = some (.string ⟨#[]⟩) := by rw [hw3.cell]; rfl
      have k2 : w3.cell? ⟨w.heap.size, 2, none⟩ = some (.string ⟨#[]⟩) := by rw [hw3.cell]; rfl
      have k3 : w3.cell? ⟨w.heap.size, 3, none⟩ = some (.string ⟨#[]⟩) := by rw [hw3.cell]; rfl
      have z0 : w3.frozen? ⟨w.heap.size, 0, none⟩ = false := hw3.free 0
      have z1 : w3.frozen? ⟨w.heap.size, 1, none⟩ = false := hw3.free 1
      have z2 : w3.frozen? ⟨w.heap.size, 2, none⟩ = false := hw3.free 2
      have z3 : w3.frozen? ⟨w.heap.size, 3, none⟩ = false := hw3.free 3
      have HW3 := Lib.hid hw3
      clear hA hF hr hok hw3 cv1
      unfold txV
      go_wp2
      have hWW := (((HW3.out.store 0 (.bool a)).store 1 (.string (strOfNums b1))).store 2 (.string (strOfNums b2))).store 3 (.string (strOfNums b3))
      refine ⟨rfl, .agg #[.bool a, .string (strOfNums b1), .string (strOfNums b2), .string (strOfNums b3)], results_cell_row rfl _ _ w.heap.size _ _ _ _ rfl hWW Tryz.underlying116 rfl (by kernel_rfl), ?_⟩
      exact .inl ⟨(a, (b1, b2, b3)), ts, u3, HR3.out, rfl, (((HA3.out.far _ 0 (Ne.symm HG.out) HB.out _).far _ 1 (Ne.symm HG.out) HB.out _).far _ 2 (Ne.symm HG.out) HB.out _).far _ 3 (Ne.symm HG.out) HB.out _, ((((HF0.out.trans HF3.out).far _ 0 (Nat.le_refl _) _).far _ 1 (Nat.le_refl _) _).far _ 2 (Nat.le_refl _) _).far _ 3 (Nat.le_refl _) _⟩
    · have HF2 := Lib.hid (HF0.out.trans (HF1.out.trans hF))
      have hbad : rflag xs = .error c := by rw [rflag, HR1.out]; simp only []; rw [hr]
      have HR2 := Lib.hid hbad
      clear hF hr hbad
      go_wp2
      exact ⟨rfl, .inr ⟨c, HR2.out, rfl, HF2.out⟩⟩
  · have HF1 := Lib.hid (HF0.out.trans hF)
    have hbad : rflag xs = .error c := by rw [rflag, hr]
    have HR1 := Lib.hid hbad
    clear hF hr hbad
    go_wp2
    exact ⟨rfl, .inr ⟨c, HR1.out, rfl, HF1.out⟩⟩

set_option maxRecDepth 100000 in
set_option maxHeartbeats 4000000 in
theorem gcon_any (B g gv : Nat) (v : Value) (xs : List Int) (w : World) (h : RAt w B g v xs) (hv : Whole w gv 151 #[.pointer (some ⟨g, 0, none⟩)]) :
    Calls Tryz.prog 87 #[.pointer (some ⟨gv, 0, none⟩)] w (RDone w B g (rflag xs) flagV) := by
  have hg : w.heap.size ≠ g := by have := h.blk.lt; omega
  have hgv := h.typed hv (by decide)
  have HB := Lib.hid (show B ≤ w.heap.size by have := h.ge; have := h.blk.lt; omega)
  have h0 := h.alloc (.cells #[.bool false, .string ⟨#[]⟩, .string ⟨#[]⟩, .string ⟨#[]⟩] 119)
  have hw0 : Whole (w.alloc (.cells #[.bool false, .string ⟨#[]⟩, .string ⟨#[]⟩, .string ⟨#[]⟩] 119)) w.heap.size 119 #[.bool false, .string ⟨#[]⟩, .string ⟨#[]⟩, .string ⟨#[]⟩] := heap_alloc_new w _
  have hv0 : Whole (w.alloc (.cells #[.bool false, .string ⟨#[]⟩, .string ⟨#[]⟩, .string ⟨#[]⟩] 119)) gv 151 #[.pointer (some ⟨g, 0, none⟩)] := hv.kept (Below.heap_alloc _ _ _ hv.lt)
  have cv0 : (w.alloc (.cells #[.bool false, .string ⟨#[]⟩, .string ⟨#[]⟩, .string ⟨#[]⟩] 119)).cell? ⟨gv, 0, none⟩ = some (.pointer (some ⟨g, 0, none⟩)) := by rw [hv0.cell]; rfl
  have HN := Lib.hid (rtruth_any B g v xs _ h0)
  have HW := Lib.hid hw0
  have HV := Lib.hid hv0
  have HF0 := Lib.hid (RF.alloc (g := g) w (.cells #[.bool false, .string ⟨#[]⟩, .string ⟨#[]⟩, .string ⟨#[]⟩] 119))
  have HG := Lib.hid hg
  have HGV := Lib.hid hgv
  clear h h0 hw0 hg hv hv0 hgv
  go_enter Tryz.func87, Tryz.ntmps87
  go_wp2_with fail
  refine HN.out.mono ?_
  rintro e w1 (⟨a, ys, u, hr, rfl, hA, hF⟩ | ⟨c, hr, rfl, hF⟩)
  · have HA1 := Lib.hid hA
    have HF1 := Lib.hid hF
    have HR1 := Lib.hid hr
    have hv1 := hF.whole HV.out HGV.out
    have cv1 : w1.cell? ⟨gv, 0, none⟩ = some (.pointer (some ⟨g, 0, none⟩)) := by rw [hv1.cell]; rfl
    clear hA hF hr cv0 hv1
    go_wp2_with fail
    refine (rtuple_any B g u ys _ HA1.out).mono ?_
    rintro e w3 (⟨⟨b1, b2, b3⟩, ts, u3, hr, rfl, hA, hF⟩ | ⟨c, hr, rfl, hF⟩)
    · have hw3 := (HF1.out.trans hF).whole HW.out HG.out
      have HA3 := Lib.hid hA
      have HF3 := Lib.hid (HF1.out.trans hF)
      have hok : rflag xs = .ok ((a, (b1, b2, b3)), ts) := by rw [rflag, HR1.out]; simp only []; rw [hr]
      have HR3 := Lib.hid hok
      have k0 : w3.cell? ⟨w.heap.size, 0, none⟩ = some (.bool false) := by rw [hw3.cell]; rfl
      have k1 : w3.cell? ⟨w.heap.size, 1, none⟩ = some (.string ⟨#[]⟩) := by rw [hw3.cell]; rfl
      have k2 : w3.cell? ⟨w.heap.size, 2, none⟩ = some (.string ⟨#[]⟩) := by rw [hw3.cell]; rfl
      have k3 : w3.cell? ⟨w.heap.size, 3, none⟩ = some (.string ⟨#[]⟩) := by rw [hw3.cell]; rfl
      have z0 : w3.frozen? ⟨w.heap.size, 0, none⟩ = false := hw3.free 0
      have z1 : w3.frozen? ⟨w.heap.size, 1, none⟩ = false := hw3.free 1
      have z2 : w3.frozen? ⟨w.heap.size, 2, none⟩ = false := hw3.free 2
      have z3 : w3.frozen? ⟨w.heap.size, 3, none⟩ = false := hw3.free 3
      have HW3 := Lib.hid hw3
      clear hA hF hr hok hw3 cv1
      unfold txV
      go_wp2
      have hWW := (((HW3.out.store 0 (.bool a)).store 1 (.string (strOfNums b1))).store 2 (.string (strOfNums b2))).store 3 (.string (strOfNums b3))
      refine ⟨rfl, .agg #[.bool a, .string (strOfNums b1), .string (strOfNums b2), .string (strOfNums b3)], results_cell_row rfl _ _ w.heap.size _ _ _ _ rfl hWW Tryz.underlying119 rfl (by kernel_rfl), ?_⟩
      exact .inl ⟨(a, (b1, b2, b3)), ts, u3, HR3.out, rfl, (((HA3.out.far _ 0 (Ne.symm HG.out) HB.out _).far _ 1 (Ne.symm HG.out) HB.out _).far _ 2 (Ne.symm HG.out) HB.out _).far _ 3 (Ne.symm HG.out) HB.out _, ((((HF0.out.trans HF3.out).far _ 0 (Nat.le_refl _) _).far _ 1 (Nat.le_refl _) _).far _ 2 (Nat.le_refl _) _).far _ 3 (Nat.le_refl _) _⟩
    · have HF2 := Lib.hid (HF0.out.trans (HF1.out.trans hF))
      have hbad : rflag xs = .error c := by rw [rflag, HR1.out]; simp only []; rw [hr]
      have HR2 := Lib.hid hbad
      clear hF hr hbad
      go_wp2
      exact ⟨rfl, .inr ⟨c, HR2.out, rfl, HF2.out⟩⟩
  · have HF1 := Lib.hid (HF0.out.trans hF)
    have hbad : rflag xs = .error c := by rw [rflag, hr]
    have HR1 := Lib.hid hbad
    clear hF hr hbad
    go_wp2
    exact ⟨rfl, .inr ⟨c, HR1.out, rfl, HF1.out⟩⟩
end Go.Proofs.YteodldmbnghfcaaGreat
