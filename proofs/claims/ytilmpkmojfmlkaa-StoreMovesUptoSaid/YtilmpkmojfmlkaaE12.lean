/- Is an entry open; its latest revision; a span's own questions. -/
import Derived.Test.YtilmpkmojfmlkaaE11
namespace Go.Proofs.Ytilmpkmojfmlkaa
open Go.RowKit

theorem field_s (s u : Int) (w : World) : (Instr.field 85 (.agg #[.int .i64 s, .int .i64 u]) 0).run Try.prog w = .ok (.int .i64 s) w := by kernel_rfl
theorem field_u (s u : Int) (w : World) : (Instr.field 85 (.agg #[.int .i64 s, .int .i64 u]) 1).run Try.prog w = .ok (.int .i64 u) w := by kernel_rfl
theorem eopen_any {w : World} {B g : Nat} {t : Tp} {l : List Sp} {p0 p1 p2 : Nat} {a : Option Addr} {n c : Nat} (h : EntAt w B g t l p0 p1 p2 a n c) (hne : l ≠ []) :
    Calls Try.prog 30 #[.pointer (some ⟨g, 0, none⟩)] w fun e w' => e = .returned (.bool (openB l)) ∧ Below w.heap.size w w' := by
  obtain ⟨x, hx⟩ : ∃ x, l.getLast? = some x := by
    cases hl : l.getLast? with
    | none => exact absurd (List.getLast?_eq_none_iff.1 hl) hne
    | some x => exact ⟨x, rfl⟩
  have HL := Lib.hid (elast_any h hx)
  have ho : openB l = decide (x.u = 0) := by unfold openB; rw [hx]
  rw [ho]
  clear h ho hx hne
  obtain ⟨xs, xu⟩ := x
  have hf0 := field_s xs xu
  have hf1 := field_u xs xu
  go_enter Try.func30, Try.ntmps30
  go_wp2_with fail
  refine HL.out.mono ?_
  rintro _ w1 ⟨rfl, hb⟩
  have HB := Lib.hid hb
  clear hb
  dsimp only
  by_cases h0 : xu = 0
  · subst h0
    go_wp2
    go_ret
    exact ⟨rfl, HB.out⟩
  · go_wp2
    go_ret
    exact ⟨rfl, HB.out⟩
theorem elatest_any {w : World} {B g : Nat} {t : Tp} {l : List Sp} {p0 p1 p2 : Nat} {a : Option Addr} {n c : Nat} (h : EntAt w B g t l p0 p1 p2 a n c) (hne : l ≠ []) :
    Calls Try.prog 66 #[.pointer (some ⟨g, 0, none⟩)] w fun e w' => e = .returned (.int .i64 (latestB l)) ∧ Below w.heap.size w w' := by
  obtain ⟨x, hx⟩ : ∃ x, l.getLast? = some x := by
    cases hl : l.getLast? with
    | none => exact absurd (List.getLast?_eq_none_iff.1 hl) hne
    | some x => exact ⟨x, rfl⟩
  have HL := Lib.hid (elast_any h hx)
  have HE := Lib.hid h
  have HX := Lib.hid hx
  have ho : latestB l = max x.s x.u := by unfold latestB; rw [hx]
  rw [ho]
  clear h ho hx hne
  have hf0 := field_s x.s x.u
  have hf1 := field_u x.s x.u
  go_enter Try.func66, Try.ntmps66
  go_wp2_with fail
  refine HL.out.mono ?_
  rintro _ w1 ⟨rfl, hb⟩
  have HB := Lib.hid hb
  have HL1 := Lib.hid (elast_any (HE.out.below hb) HX.out)
  clear hb
  dsimp only
  go_wp2_with fail
  refine HL1.out.mono ?_
  rintro _ w2 ⟨rfl, hb1⟩
  have HB1 := Lib.hid (HB.out.trans (hb1.mono HB.out.size))
  clear hb1
  dsimp only
  go_wp2
  all_goals go_ret
  all_goals (refine ⟨?_, HB1.out⟩; first | (simp [*]; done) | (simp; omega))
/-- May a row be so? -/
def Sp.okB (x : Sp) : Bool := decide (1 ≤ x.s) && decide (x.s ≤ maxRev) && (decide (x.u = 0) || (decide (x.s < x.u) && decide (x.u ≤ maxRev)))
theorem right_any (x : Sp) (w : World) :
    Calls Try.prog 41 #[.agg #[.int .i64 x.s, .int .i64 x.u]] w fun e w' => e = .returned (.bool x.okB) ∧ Below w.heap.size w w' := by
  go_enter Try.func41, Try.ntmps41
  go_wp2
  all_goals go_ret
  all_goals (refine ⟨?_, below_alloc _ _⟩; unfold Sp.okB maxRev; simp [*])
  all_goals (first | omega | (rw [Bool.eq_iff_iff]; simp; omega))
/-- Does it begin behind the end of another one? -/
theorem behind_any (x y : Sp) (w : World) :
    Calls Try.prog 42 #[.agg #[.int .i64 x.s, .int .i64 x.u], .agg #[.int .i64 y.s, .int .i64 y.u]] w fun e w' => e = .returned (.bool (decide (y.u ≠ 0) && decide (y.u < x.s))) ∧ Below w.heap.size w w' := by
  go_enter Try.func42, Try.ntmps42
  go_wp2
  all_goals go_ret
  all_goals (refine ⟨?_, (below_alloc w _).trans ((below_alloc _ _).mono (by simp))⟩; simp [*])
theorem over_any (x : Sp) (rev : Int) (w : World) :
    Calls Try.prog 50 #[.agg #[.int .i64 x.s, .int .i64 x.u], .int .i64 rev] w fun e w' => e = .returned (.bool (x.over rev)) ∧ Below w.heap.size w w' := by
  go_enter Try.func50, Try.ntmps50
  go_wp2
  all_goals go_ret
  all_goals (refine ⟨?_, below_alloc _ _⟩; unfold Sp.over; simp [*])
end Go.Proofs.Ytilmpkmojfmlkaa
