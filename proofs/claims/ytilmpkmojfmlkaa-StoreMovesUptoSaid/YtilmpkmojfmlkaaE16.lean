/- A store that is new. -/
import Derived.Test.YtilmpkmojfmlkaaE15
namespace Go.Proofs.Ytilmpkmojfmlkaa
open Go.RowKit

/-- A key function. -/
abbrev fnV (f : FuncId) : Value := .func (.func f) #[] #[]
set_option maxHeartbeats 2000000 in
theorem New_any (w : World) :
    Calls Try.prog 10 #[] w fun e w' => e = .returned (.pointer (some ⟨w.heap.size + 7, 0, none⟩)) ∧ w'.heap.size = w.heap.size + 8 ∧
      StB w' (w.heap.size + 7) 0 w.heap.size (w.heap.size + 2) (w.heap.size + 4) (w.heap.size + 6) (fnV 23) (fnV 25) (fnV 26) ∧
      MapAt w' Try.prog 24 w.heap.size (fun _ => none) 0 ∧ MapAt w' Try.prog 9 (w.heap.size + 2) (fun _ => none) 0 ∧ MapAt w' Try.prog 72 (w.heap.size + 4) (fun _ => none) 0 ∧ MapAt w' Try.prog 9 (w.heap.size + 6) (fun _ => none) 0 ∧ Below w.heap.size w w' := by
  obtain ⟨w0, hw0⟩ : ∃ w0, w0 = w.alloc (.map #[] 0) := ⟨_, rfl⟩
  have hs0 : w0.heap.size = w.heap.size + 1 := by rw [hw0]; simp
  have hmk : (Instr.makeMap 60 none).run Try.prog w = .ok (.map (some w.heap.size)) w0 := by rw [run_makeMap, hw0]
  have HM0 := Lib.hid (show MapAt w0 Try.prog 24 w.heap.size (fun _ => none) 0 by rw [hw0]; exact MapAt.made _ _ _)
  have HB0 := Lib.hid (show Below w.heap.size w w0 by rw [hw0]; exact below_alloc _ _)
  have HF1 := Lib.hid (newIndexS_any w0 0 23)
  have HS0 := Lib.hid hs0
  clear hw0 hs0
  go_enter Try.func10, Try.ntmps10
  go_wp2_with fail
  refine HF1.out.mono ?_
  rintro _ w1 ⟨rfl, hs1, hm1, hb1⟩
  rw [HS0.out] at hs1 hm1 hb1
  have HM1 := Lib.hid hm1
  have HS1 := Lib.hid hs1
  have HB1 := Lib.hid (HB0.out.trans (hb1.mono (by omega)))
  have HN1 := Lib.hid (HM0.out.below (by rw [HS0.out]; exact hb1))
  have HF2 := Lib.hid (newIndexP_any w1 1 25)
  rw [HS0.out]
  clear hs1 hm1 hb1 HF1
  go_wp2_with fail
  refine HF2.out.mono ?_
  rintro _ w2 ⟨rfl, hs2, hm2, hb2⟩
  rw [HS1.out] at hs2 hm2 hb2
  have HM2 := Lib.hid hm2
  have HS2 := Lib.hid hs2
  have HB2 := Lib.hid (HB1.out.trans (hb2.mono (by omega)))
  have HN2 := Lib.hid (HN1.out.below (by rw [HS1.out]; exact hb2))
  have HP2 := Lib.hid (HM1.out.below (by rw [HS1.out]; exact hb2))
  have HF3 := Lib.hid (newIndexS_any w2 2 26)
  rw [HS1.out]
  clear hs2 hm2 hb2 HF2
  go_wp2_with fail
  refine HF3.out.mono ?_
  rintro _ w3 ⟨rfl, hs3, hm3, hb3⟩
  rw [HS2.out] at hs3 hm3 hb3
  have HM3 := Lib.hid hm3
  have HS3 := Lib.hid hs3
  have HB3 := Lib.hid (HB2.out.trans (hb3.mono (by omega)))
  have HN3 := Lib.hid (HN2.out.below (by rw [HS2.out]; exact hb3))
  have HP3 := Lib.hid (HP2.out.below (by rw [HS2.out]; exact hb3))
  have HQ3 := Lib.hid (HM2.out.below (by rw [HS2.out]; exact hb3))
  rw [HS2.out]
  clear hs3 hm3 hb3 HF3
  go_wp2
  go_ret
  have hs : w3.heap.size = w.heap.size + 7 := HS3.out
  have hba := below_alloc w3 (.cells #[.int .i64 0, .map (some w.heap.size), .int .i64 0, fnV 23, .map (some (w.heap.size + 2)), .int .i64 1, fnV 25, .map (some (w.heap.size + 4)), .int .i64 2, fnV 26, .map (some (w.heap.size + 6))] 74)
  have hnew : Whole (w3.alloc (.cells #[.int .i64 0, .map (some w.heap.size), .int .i64 0, fnV 23, .map (some (w.heap.size + 2)), .int .i64 1, fnV 25, .map (some (w.heap.size + 4)), .int .i64 2, fnV 26, .map (some (w.heap.size + 6))] 74)) w3.heap.size 74 _ := heap_alloc_new _ _
  rw [hs] at hnew
  exact ⟨by rw [hs]; rfl, by simp [hs], ⟨hnew⟩, HN3.out.below hba, HP3.out.below hba, HQ3.out.below hba, HM3.out.below hba, HB3.out.trans (hba.mono (by omega))⟩
end Go.Proofs.Ytilmpkmojfmlkaa
