/- The reader: the closure that reads a row. -/
import Derived.Test.YteodldmbnghfcaaGreatC16
namespace Go.Proofs.YteodldmbnghfcaaGreat
open Go.RowKit

def rrow (xs : List Int) : Except Int ((Tx × Int × Int) × List Int) := match rtuple xs with
  | .error c => .error c
  | .ok (t, l) => match rnum l with
    | .error c => .error c
    | .ok (s, l) => match rnum l with
      | .error c => .error c
      | .ok (u, l) => .ok ((t, s, u), l)
def rowV (p : Tx × Int × Int) : Value := .agg #[.string (strOfNums p.1.1), .string (strOfNums p.1.2.1), .string (strOfNums p.1.2.2), .int .i64 p.2.1, .int .i64 p.2.2]
theorem RF.drew (g : Nat) (w : World) : RF g w w.drew := ⟨rfl, rfl, rfl, Nat.le_refl _, fun _ _ _ => rfl⟩
theorem rnumber_good {B g : Nat} {v : Value} {xs ys : List Int} {n : Int} {w : World} (h : RAt w B g v xs) (hr : rnum xs = .ok (n, ys)) :
    Calls Tryz.prog 79 #[.pointer (some ⟨g, 0, none⟩)] w fun e w' => e = .returned (.int .i64 n) ∧ (∃ u, RAt w' B g u ys) ∧ RF g w w' := by
  refine (rnumber_any B g v xs w h).mono ?_
  rintro e w' (⟨x, zs, u, hr', rfl, hA, hF⟩ | ⟨c, hr', rfl, hF⟩)
  · rw [hr] at hr'
    injection hr' with hr'
    injection hr' with h1 h2
    subst h1 h2
    exact ⟨rfl, ⟨u, hA⟩, hF⟩
  · rw [hr] at hr'
    cases hr'
theorem rnumber_bad {B g : Nat} {v : Value} {xs : List Int} {c : Int} {w : World} (h : RAt w B g v xs) (hr : rnum xs = .error c) :
    Calls Tryz.prog 79 #[.pointer (some ⟨g, 0, none⟩)] w fun e w' => e = Bad c ∧ RF g w w' := by
  refine (rnumber_any B g v xs w h).mono ?_
  rintro e w' (⟨x, zs, u, hr', rfl, hA, hF⟩ | ⟨c, hr', rfl, hF⟩)
  · rw [hr] at hr'
    cases hr'
  · rw [hr] at hr'
    injection hr' with hr'
    subst hr'
    exact ⟨rfl, hF⟩

set_option maxRecDepth 100000 in
set_option maxHeartbeats 4000000 in
theorem grow_any (B g gv : Nat) (v : Value) (xs : List Int) (w : World) (h : RAt w B g v xs) (hv : Whole w gv 151 #[.pointer (some ⟨g, 0, none⟩)]) :
    Calls Tryz.prog 89 #[.pointer (some ⟨gv, 0, none⟩)] w (RDone w B g (rrow xs) rowV) := by
  have hg : w.heap.size ≠ g := by have := h.blk.lt; omega
  have hgv := h.typed hv (by decide)
  have hgvl := hv.lt
  have HB := Lib.hid (show B ≤ w.heap.size by have := h.ge; have := h.blk.lt; omega)
  obtain ⟨w0, hw0⟩ : ∃ w0, w0 = w.alloc (.cells #[.string ⟨#[]⟩, .string ⟨#[]⟩, .string ⟨#[]⟩, .int .i64 0, .int .i64 0] 121) := ⟨_, rfl⟩
  have h0 : RAt w0 B g v xs := by rw [hw0]; exact h.alloc _
  have hr0 : Whole w0 w.heap.size 121 #[.string ⟨#[]⟩, .string ⟨#[]⟩, .string ⟨#[]⟩, .int .i64 0, .int .i64 0] := by rw [hw0]; exact heap_alloc_new w _
  have hv0 : Whole w0 gv 151 #[.pointer (some ⟨g, 0, none⟩)] := by rw [hw0]; exact hv.kept (Below.heap_alloc _ _ _ hv.lt)
  have cv0 : w0.cell? ⟨gv, 0, none⟩ = some (.pointer (some ⟨g, 0, none⟩)) := by rw [hv0.cell]; rfl
  have HF0 : Hid (RF g w w0) := Lib.hid (by rw [hw0]; exact RF.alloc w _)
  have HN := Lib.hid (rtuple_any B g v xs _ h0)
  have HW := Lib.hid hr0
  have HV := Lib.hid hv0
  have HG := Lib.hid hg
  have HGV := Lib.hid hgv
  clear h h0 hr0 hg hv hv0 hgv
  go_enter Tryz.func89, Tryz.ntmps89
  rw [hw0] at cv0
  go_wp2_with fail
  rw [← hw0] at cv0 ⊢
  refine HN.out.mono ?_
  rintro e w1 (⟨⟨b1, b2, b3⟩, ys, u, hr, rfl, hA, hF⟩ | ⟨c, hr, rfl, hF⟩)
  · have hv1 := hF.whole HV.out HGV.out
    have hr1 := hF.whole HW.out HG.out
    have hsz1 := (HF0.out.trans hF).size
    have hg1 := hA.blk.lt
    have cv1 : w1.cell? ⟨gv, 0, none⟩ = some (.pointer (some ⟨g, 0, none⟩)) := by rw [hv1.cell]; rfl
    have hgv1 := hv1.lt
    have HT1 := Lib.hid hr
    have HA2 := Lib.hid (hA.alloc (.cells #[.string (strOfNums b1), .string (strOfNums b2), .string (strOfNums b3)] 114))
    have HF2 := Lib.hid (hF.trans (RF.alloc w1 (.cells #[.string (strOfNums b1), .string (strOfNums b2), .string (strOfNums b3)] 114)))
    have ht2 : Whole (w1.alloc (.cells #[.string (strOfNums b1), .string (strOfNums b2), .string (strOfNums b3)] 114)) w1.heap.size 114 #[.string (strOfNums b1), .string (strOfNums b2), .string (strOfNums b3)] := heap_alloc_new w1 _
    have HT2 := Lib.hid ht2
    have hne1 : w1.heap.size ≠ g := by omega
    unfold txV
    clear hr hA hF hv1 hr1 ht2
    go_wp2_with fail
    refine (rnumber_any B g u ys _ HA2.out).mono ?_
    rintro e w3 (⟨s0, zs, u3, hr, rfl, hA, hF⟩ | ⟨c, hr, rfl, hF⟩)
    · have HS3 := Lib.hid hr
      have HF3 := Lib.hid (HF2.out.trans hF)
      have hA4 := (show RAt w3.drew B g u3 zs from ⟨hA.blk, hA.ge, hA.lies⟩)
      have HA4 := Lib.hid hA4
      have hw3 : Whole w3.drew w.heap.size 121 #[.string ⟨#[]⟩, .string ⟨#[]⟩, .string ⟨#[]⟩, .int .i64 0, .int .i64 0] := (HF2.out.trans hF).whole HW.out HG.out
      have ht3 : Whole w3.drew w1.heap.size 114 #[.string (strOfNums b1), .string (strOfNums b2), .string (strOfNums b3)] := hF.whole HT2.out hne1
      have hv3 : Whole w3.drew gv 151 #[.pointer (some ⟨g, 0, none⟩)] := (HF2.out.trans hF).whole HV.out HGV.out
      have HV3 := Lib.hid hv3
      have HT3 := Lib.hid ht3
      have HW3 := Lib.hid hw3
      have d0 : w3.drew.cell? ⟨w1.heap.size, 0, none⟩ = some (.string (strOfNums b1)) := by rw [ht3.cell]; rfl
      have d1 : w3.drew.cell? ⟨w1.heap.size, 1, none⟩ = some (.string (strOfNums b2)) := by rw [ht3.cell]; rfl
      have d2 : w3.drew.cell? ⟨w1.heap.size, 2, none⟩ = some (.string (strOfNums b3)) := by rw [ht3.cell]; rfl
      have dv : w3.drew.cell? ⟨gv, 0, none⟩ = some (.pointer (some ⟨g, 0, none⟩)) := by rw [hv3.cell]; rfl
      clear hr hA hF hA4 hv3 ht3 hw3
      rcases hr : rnum zs with c | ⟨s1, ts⟩
      · have HQ := Lib.hid (show rrow xs = .error c by rw [rrow, HT1.out]; simp only []; rw [HS3.out]; simp only []; rw [hr])
        have HN4 := Lib.hid (rnumber_bad HA4.out hr)
        clear hr
        go_wp2_with fail
        refine wp_region_held_drew (S := fun W => W.cell? ⟨w1.heap.size, 0, none⟩ = some (.string (strOfNums b1)) ∧ W.cell? ⟨w1.heap.size, 1, none⟩ = some (.string (strOfNums b2)) ∧ W.cell? ⟨w1.heap.size, 2, none⟩ = some (.string (strOfNums b3)) ∧ W.cell? ⟨gv, 0, none⟩ = some (.pointer (some ⟨g, 0, none⟩))) (by kernel_rfl) ⟨d0, d1, d2, dv⟩ (fun hHeld => ?_)
        refine wpAnyH_take (i := 0) (oi := { dst := Option.some 8, op := Go.Op.load 114 (Go.Operand.tmp 2), type := 114, pos := "read.go:35", after := #[], guard := Option.none }) (v := ?_) rfl (by kernel_rfl) (by kernel_rfl) (by kernel_rfl) (fun _ _ _ h => h) (Or.inl ⟨by rfl, ?_⟩) (by assumption) ?_
        rotate_left
        · intro w hSw; (try dsimp only at hSw); go_simp; all_goals (with_reducible rfl)
        try simp only [Act.put, List.setIfInBounds_toArray, List.set_cons_zero, List.set_cons_succ]
        refine wpAnyH_take (i := 1) (oi := { dst := Option.some 9, op := Go.Op.move (Go.Operand.tmp 3), type := 2, pos := "read.go:35", after := #[], guard := Option.none }) (v := ?_) rfl (by kernel_rfl) (by kernel_rfl) (by kernel_rfl) (fun _ _ _ h => h) (Or.inl ⟨by rfl, ?_⟩) (by assumption) ?_
        rotate_left
        · intro w hSw; (try dsimp only at hSw); go_simp; all_goals (with_reducible rfl)
        try simp only [Act.put, List.setIfInBounds_toArray, List.set_cons_zero, List.set_cons_succ]
        refine wpAnyH_take (i := 2) (oi := { dst := Option.some 10, op := Go.Op.load 151 (Go.Operand.tmp 0), type := 151, pos := "read.go:35", after := #[], guard := Option.none }) (v := ?_) rfl (by kernel_rfl) (by kernel_rfl) (by kernel_rfl) (fun _ _ _ h => h) (Or.inl ⟨by rfl, ?_⟩) (by assumption) ?_
        rotate_left
        · intro w hSw; (try dsimp only at hSw); go_simp; all_goals (with_reducible rfl)
        try simp only [Act.put, List.setIfInBounds_toArray, List.set_cons_zero, List.set_cons_succ]
        refine wpAnyH_ready (rs := [3]) (by kernel_rfl) (by simp) ?_
        refine AllReadyH.cons (o := { dst := Option.some 11, op := Go.Op.call { callee := Go.Callee.value (Go.Operand.func 79), args := #[Go.Operand.tmp 10], argTypes := #[151] }, type := 2, pos := "read.go:35", after := #[{ on := 2, ground := Go.Ground.data }], guard := Option.none }) rfl (fun K hK => ?_) AllReadyH.nil
        go_simp
        refine HN4.out.mono ?_
        rintro e w4 ⟨rfl, hF⟩
        exact ⟨rfl, .inr ⟨c, HQ.out, rfl, HF0.out.trans ((HF3.out.trans (RF.drew g w3)).trans hF)⟩⟩
      · have HS4 := Lib.hid (show rrow xs = .ok (((b1, b2, b3), s0, s1), ts) by rw [rrow, HT1.out]; simp only []; rw [HS3.out]; simp only []; rw [hr])
        have HN4 := Lib.hid (rnumber_good HA4.out hr)
        clear hr
        go_wp2_with fail
        go_region_with (
            go_at_call 79;
            refine HN4.out.mono ?_;
            rintro e w4 ⟨rfl, ⟨u4, hA⟩, hF⟩;
            have HA5 := Lib.hid hA;
            have HF5 := Lib.hid ((HF3.out.trans (RF.drew g w3)).trans hF);
            have hw4 := hF.whole HW3.out HG.out;
            have ht4 := hF.whole HT3.out hne1;
            have HW4 := Lib.hid hw4;
            have f0 : w4.cell? ⟨w1.heap.size, 0, none⟩ = some (.string (strOfNums b1)) := by rw [ht4.cell]; rfl;
            have f1 : w4.cell? ⟨w1.heap.size, 1, none⟩ = some (.string (strOfNums b2)) := by rw [ht4.cell]; rfl;
            have f2 : w4.cell? ⟨w1.heap.size, 2, none⟩ = some (.string (strOfNums b3)) := by rw [ht4.cell]; rfl;
            have r0 : w4.cell? ⟨w.heap.size, 0, none⟩ = some (.string ⟨#[]⟩) := by rw [hw4.cell]; rfl;
            have r1 : w4.cell? ⟨w.heap.size, 1, none⟩ = some (.string ⟨#[]⟩) := by rw [hw4.cell]; rfl;
            have r2 : w4.cell? ⟨w.heap.size, 2, none⟩ = some (.string ⟨#[]⟩) := by rw [hw4.cell]; rfl;
            have r3 : w4.cell? ⟨w.heap.size, 3, none⟩ = some (.int .i64 0) := by rw [hw4.cell]; rfl;
            have r4 : w4.cell? ⟨w.heap.size, 4, none⟩ = some (.int .i64 0) := by rw [hw4.cell]; rfl;
            have z0 : w4.frozen? ⟨w.heap.size, 0, none⟩ = false := hw4.free 0;
            have z1 : w4.frozen? ⟨w.heap.size, 1, none⟩ = false := hw4.free 1;
            have z2 : w4.frozen? ⟨w.heap.size, 2, none⟩ = false := hw4.free 2;
            have z3 : w4.frozen? ⟨w.heap.size, 3, none⟩ = false := hw4.free 3;
            have z4 : w4.frozen? ⟨w.heap.size, 4, none⟩ = false := hw4.free 4;
            clear hA hF hw4 ht4)
        all_goals (
          go_wp2
          have hWW := ((((HW4.out.store 0 (.string (strOfNums b1))).store 1 (.string (strOfNums b2))).store 2 (.string (strOfNums b3))).store 3 (.int .i64 s0)).store 4 (.int .i64 s1)
          refine ⟨rfl, .agg #[.string (strOfNums b1), .string (strOfNums b2), .string (strOfNums b3), .int .i64 s0, .int .i64 s1], results_cell_row rfl _ _ w.heap.size _ _ _ _ rfl hWW Tryz.underlying121 rfl (by kernel_rfl), ?_⟩
          exact .inl ⟨((b1, b2, b3), s0, s1), ts, u4, HS4.out, rfl, ((((HA5.out.far _ 0 (Ne.symm HG.out) HB.out _).far _ 1 (Ne.symm HG.out) HB.out _).far _ 2 (Ne.symm HG.out) HB.out _).far _ 3 (Ne.symm HG.out) HB.out _).far _ 4 (Ne.symm HG.out) HB.out _, (((((HF0.out.trans HF5.out).far _ 0 (Nat.le_refl _) _).far _ 1 (Nat.le_refl _) _).far _ 2 (Nat.le_refl _) _).far _ 3 (Nat.le_refl _) _).far _ 4 (Nat.le_refl _) _⟩)
    · have HQ := Lib.hid (show RDone w B g (rrow xs) rowV (Bad c) w3 from .inr ⟨c, by rw [rrow, HT1.out]; simp only []; rw [hr], rfl, HF0.out.trans (HF2.out.trans hF)⟩)
      clear hr hF
      go_wp2
      exact ⟨rfl, HQ.out⟩
  · have HQ := Lib.hid (show RDone w B g (rrow xs) rowV (Bad c) w1 from .inr ⟨c, by rw [rrow, hr], rfl, HF0.out.trans hF⟩)
    clear hr hF
    go_wp2
    exact ⟨rfl, HQ.out⟩
end Go.Proofs.YteodldmbnghfcaaGreat
