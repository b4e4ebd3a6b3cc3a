/- TokenReads: raw tokens written, raw texts read, as the document says. -/
import Derived.Test.YtpiohfjmfehnoaaTk9
namespace Go.Proofs.Ytpiohfjmfehnoaa
open Go.RowKit

set_option maxRecDepth 100000 in
set_option maxHeartbeats 2000000 in
theorem reads_walk (n r : Int) (S : ByteArray) (w : World) (hS : S.size ≤ 140737488351232) :
    Calls Try.prog 3 #[TokV n r, .string S] w fun e w' => e = .returned (.bool true) ∧ Below w.heap.size w w' := by
  have HA := Lib.hid (fun w => awake_any w)
  have HP := Lib.hid (fun w => print_any n r w)
  have HPR := Lib.hid (fun w => rprint_any n r w)
  have HQ := Lib.hid (fun w => parse_any S hS w)
  have HQR := Lib.hid (fun w => rparse_any S hS w)
  clear hS
  generalize prT n r = X at *
  generalize prE n r = xe at *
  generalize pN S = a at *
  generalize pR S = b at *
  generalize pE S = c at *
  have HB0 := Lib.hid (below_alloc w (.cells (TokC n r) 23))
  have HX0 := Lib.hid (box_new w n r 23 (0, 0))
  have q1 : (X.toList == X.toList) = true := by simp
  go_enter Try.func3, Try.ntmps3
  go_wp2_with fail
  refine (HA.out _).mono ?_
  rintro e w1 ⟨rfl, hb1⟩
  have HX1 := Lib.hid (box_below HX0.out hb1)
  have HB1 := Lib.hid (HB0.out.trans (hb1.mono HB0.out.size))
  obtain ⟨c0, c1⟩ := HX1.out
  clear hb1 HX0 HB0
  go_wp2_with fail
  refine (HP.out _).mono ?_
  rintro e w2 ⟨rfl, hb2⟩
  have HX2 := Lib.hid (box_below HX1.out hb2)
  have HB2 := Lib.hid (HB1.out.trans (hb2.mono HB1.out.size))
  clear c0 c1 hb2 HX1 HB1
  obtain ⟨c0, c1⟩ := HX2.out
  go_wp2_with fail
  refine (HPR.out _).mono ?_
  rintro e w3 ⟨rfl, q, rfl⟩
  clear c0 c1
  go_wp2_with fail
  refine (HQ.out _).mono ?_
  rintro e w4 ⟨rfl, hb4⟩
  have HY4 := Lib.hid (box_new w4 a b 23 (0, 0))
  have HB4 := Lib.hid (((HB2.out.trans ((below_drewN w2 q).mono HB2.out.size)).trans (hb4.mono HB2.out.size)).alloc (Nat.le_trans HB2.out.size hb4.size) (.cells (TokC a b) 23))
  clear hb4 HX2 HB2
  go_wp2_with fail
  refine (HQR.out _).mono ?_
  rintro e w5 ⟨rfl, rfl⟩
  obtain ⟨c0, c1⟩ := HY4.out
  go_wp2
  go_ret
  exact ⟨rfl, HB4.out⟩
end Go.Proofs.Ytpiohfjmfehnoaa
