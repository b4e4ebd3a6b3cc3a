/- Watch's set: put, has, setOf. -/
import Derived.Test.YteimgebfbnmdcaaHG
namespace Go.Proofs.Yteimgebfbnmdcaa
open Go.RowKit
open Go.Maps (Keyed)

theorem chg_box {w w' : World} {b : Nat} (o : Obj) (hg : (w.alloc o).grownBy w' (some b)) : Chg w w' (fun k => k = b) :=
  (Chg.ofBelow _ (below_alloc w o)).trans (Chg.ofGrown hg (P := fun k => k = b) (fun k _ e => by injection e with e; exact e.symm)) (fun _ _ h => h)
set_option maxRecDepth 100000 in
set_option maxHeartbeats 2000000 in
theorem put_any {w : World} {b : Nat} {S : List Tp} (h : SetAt w b S) (hn : S.length ≤ 1099511627776) {t : Tp} (ht : t.fits) :
    Calls Try.prog 33 #[.map (some b), tpV t] w fun e w' => e = .returned (.tuple #[]) ∧ SetAt w' b (addS S t) ∧ Chg w w' (fun k => k = b) := by
  obtain ⟨w', r1, r2, r3, r4⟩ := (h.below (below_alloc w (.cells #[.string t.o, .string t.r, .string t.u] 47))).put hn ht
  have HE := Lib.hid (show SetAt w' b (addS S t) ∧ Chg w w' (fun k => k = b) from ⟨r2, chg_box _ r3⟩)
  clear r2 r3 r4 h
  go_enter Try.func33, Try.ntmps33
  go_wp2
  go_end0
  exact ⟨rfl, HE.out⟩
set_option maxRecDepth 100000 in
set_option maxHeartbeats 2000000 in
theorem has_any {w : World} {b : Nat} {S : List Tp} (h : SetAt w b S) {t : Tp} (ht : t.fits) :
    Calls Try.prog 41 #[.map (some b), tpV t] w fun e w' => e = .returned (.bool (decide (t ∈ S))) ∧ Below w.heap.size w w' := by
  have r1 := (h.below (below_alloc w (.cells #[.string t.o, .string t.r, .string t.u] 47))).look ht
  generalize decide (t ∈ S) = d at *
  clear h
  have HB := Lib.hid (fun o => (below_alloc w (.cells #[.string t.o, .string t.r, .string t.u] 47)).trans ((below_alloc (w.alloc (.cells #[.string t.o, .string t.r, .string t.u] 47)) o).mono (by simp)))
  go_enter Try.func41, Try.ntmps41
  go_wp2
  go_ret
  exact ⟨rfl, HB.out _⟩
end Go.Proofs.Yteimgebfbnmdcaa
