/- TokenBack: a token that is written is read again, and the other way round. -/
import Derived.Test.YtpiohfjmfehnoaaTk9
namespace Go.Proofs.Ytpiohfjmfehnoaa
open Go.RowKit

set_option maxRecDepth 100000 in
set_option maxHeartbeats 2000000 in
/-- The second half: a raw text read. -/
theorem back_walk (n r : Int) (S : ByteArray) (w : World) (hS : S.size ≤ 140737488351232) :
    Calls Try.prog 4 #[TokV n r, .string S] w fun e w' => e = .returned (.bool true) ∧ Below w.heap.size w w' := by
  have HA := Lib.hid (fun w => awake_any w)
  have HP := Lib.hid (fun w => print_any n r w)
  have hX : (prT n r).size ≤ 140737488351232 := by
    rw [prT]
    split
    · rename_i h; rw [T_size]; have := (full_ok h).2; omega
    · decide
  have HQX := Lib.hid (fun w => parse_any (prT n r) hX w)
  have HQ := Lib.hid (fun w => parse_any S hS w)
  have hx : (prE n r = 0 ∧ pE (prT n r) = 0 ∧ pN (prT n r) = n ∧ pR (prT n r) = r) ∨ (prE n r = 1 ∧ prT n r = ByteArray.empty) := by
    cases hf : fitB n r with
    | true =>
      have e1 : prT n r = T (full n r) := by rw [prT, hf]; rfl
      rw [e1]
      exact .inl ⟨by rw [prE, hf]; rfl, read_full hf⟩
    | false => exact .inr ⟨by rw [prE, hf]; rfl, by rw [prT, hf]; rfl⟩
  have hs : (pE S = 0 ∧ prT (pN S) (pR S) = S ∧ prE (pN S) (pR S) = 0) ∨ (pE S ≠ 0 ∧ pN S = 0 ∧ pR S = 0) := by
    by_cases h : pE S = 0
    · obtain ⟨h1, h2⟩ := read_back h
      exact .inl ⟨h, h2, by rw [prE, h1]; rfl⟩
    · exact .inr ⟨h, pE_no h⟩
  have HPS := Lib.hid (fun w => print_any (pN S) (pR S) w)
  have HXC := Lib.hid hx
  have HSC := Lib.hid hs
  clear hX hx hs hS
  generalize prT (pN S) (pR S) = Z at *
  generalize prE (pN S) (pR S) = ze at *
  generalize pN S = a at *
  generalize pR S = b at *
  generalize pE S = c at *
  generalize pN (prT n r) = xa at *
  generalize pR (prT n r) = xb at *
  generalize pE (prT n r) = xc at *
  generalize prT n r = X at *
  generalize prE n r = xe at *
  have HB0 := Lib.hid (below_alloc w (.cells (TokC n r) 23))
  have HX0 := Lib.hid (box_new w n r 23 (0, 0))
  go_enter Try.func4, Try.ntmps4
  go_wp2_with fail
  refine (HA.out _).mono ?_
  rintro e w1 ⟨rfl, hb1⟩
  have HX1 := Lib.hid (box_below HX0.out hb1)
  have HB1 := Lib.hid (HB0.out.trans (hb1.mono HB0.out.size))
  obtain ⟨c0, c1⟩ := HX1.out
  clear hb1 HX0 HB0
  go_wp2_with fail
  refine (HP.out _).mono ?_
  rintro e w2 ⟨rfl, hb2⟩
  have HX2 := Lib.hid (box_below HX1.out hb2)
  have HB2 := Lib.hid (HB1.out.trans (hb2.mono HB1.out.size))
  clear c0 c1 hb2 HX1 HB1
  go_wp2_with fail
  refine (HQX.out _).mono ?_
  rintro e w3 ⟨rfl, hb3⟩
  have HX3 := Lib.hid (box_below (box_below HX2.out hb3) (below_alloc w3 (.cells (TokC xa xb) 23)))
  have HY3 := Lib.hid (box_new w3 xa xb 23 (0, 0))
  have HB3 := Lib.hid ((HB2.out.trans (hb3.mono HB2.out.size)).alloc (Nat.le_trans HB2.out.size hb3.size) (.cells (TokC xa xb) 23))
  clear hb3 HX2 HB2
  obtain ⟨c0, c1⟩ := HX3.out
  obtain ⟨d0, d1⟩ := HY3.out
  rcases HXC.out with ⟨rfl, rfl, rfl, rfl⟩ | ⟨rfl, rfl⟩
  all_goals
    go_wp2_with fail
    refine (HQ.out _).mono ?_
    rintro e w4 ⟨rfl, hb4⟩
    have HZ4 := Lib.hid (box_new w4 a b 23 (0, 0))
    have HB4 := Lib.hid ((HB3.out.trans (hb4.mono HB3.out.size)).alloc (Nat.le_trans HB3.out.size hb4.size) (.cells (TokC a b) 23))
    clear hb4 HX3 HB3 c0 c1 d0 d1 HY3
    obtain ⟨c0, c1⟩ := HZ4.out
    rcases HSC.out with ⟨rfl, rfl, rfl⟩ | ⟨hc, rfl, rfl⟩
    · have q1 : (Z.toList == Z.toList) = true := by simp
      go_wp2_with fail
      refine (HPS.out _).mono ?_
      rintro e w5 ⟨rfl, hb5⟩
      have HB5 := Lib.hid (HB4.out.trans (hb5.mono HB4.out.size))
      clear hb5
      go_wp2
      go_ret
      exact ⟨rfl, HB5.out⟩
    · go_wp2
      go_ret
      exact ⟨rfl, HB4.out⟩
end Go.Proofs.Ytpiohfjmfehnoaa
