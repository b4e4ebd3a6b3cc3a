/- FrameTells: a frame with a bit turned behind its length is refused. -/
import Derived.Test.YtojkegnflbfloaaTellsMath
import Derived.RegionTactic
import Derived.ChangeAlike
import Derived.BigRegion
namespace Go.Proofs.Ytojkegnflbfloaa
open Go.RowKit

theorem IsB.setCell {w : World} {b off n : Nat} {xs : List Int} (h : IsB w (some ⟨b, off, none⟩) n xs) (i : Nat) (hi : i < n) (v : Int) (hv : 0 ≤ v ∧ v < 256) : IsB (w.setCell ⟨b, off + i, none⟩ (.int .u8 v)) (some ⟨b, off, none⟩) n (xs.set i v) := by
  obtain ⟨h1, h2, h3⟩ := h
  refine ⟨by simpa using h1, set_byte h2 i v hv, .inr ⟨b, off, rfl, fun j hj => ?_⟩⟩
  obtain ⟨b', off', he, hc⟩ := h3.resolve_left (by omega)
  injection he with he
  injection he with e1 e2 e3
  subst e1 e2
  by_cases hji : j = i
  · subst hji
    rw [World.cell?_setCell_same _ _ _ (hc j hj)]
    simp [List.getD, show j < xs.length by omega]
  · rw [World.cell?_setCell_other _ _ _ _ (by intro h; injection h with _ h; omega), hc j hj]
    simp [List.getD, show ¬ i = j by omega]

theorem turned (y m : Nat) (hy : y < 256) : 0 ≤ bits BinOp.xor IntKind.u8 (y : Int) (2 ^ (m % 8) % 256) ∧ bits BinOp.xor IntKind.u8 (y : Int) (2 ^ (m % 8) % 256) < 256 ∧ bits BinOp.xor IntKind.u8 (y : Int) (2 ^ (m % 8) % 256) ≠ (y : Int) := by
  have hp : 0 < 2 ^ (m % 8) := Nat.two_pow_pos _
  have hq : 2 ^ (m % 8) < 256 := Nat.pow_lt_pow_right (a := 2) (by omega) (show m % 8 < 8 by omega)
  have e : ((2 : Int) ^ (m % 8) % 256) = ((2 ^ (m % 8) : Nat) : Int) := by
    have : ((2 : Int) ^ (m % 8)) = ((2 ^ (m % 8) : Nat) : Int) := by simp
    rw [this]
    omega
  rw [e, u8_xor_nat y (2 ^ (m % 8)) hy hq]
  have hx : y ^^^ 2 ^ (m % 8) < 256 := Nat.xor_lt_two_pow (n := 8) (by omega) (by omega)
  refine ⟨by omega, by omega, fun h => ?_⟩
  have h2 : y ^^^ 2 ^ (m % 8) = y ^^^ 0 := by rw [Nat.xor_zero]; omega
  have := Mt.xor_right h2
  omega

set_option maxHeartbeats 2000000 in
theorem tells_long (a : Option Addr) (n c : Nat) (k : Int) (w : World) (hn : 16384 < n) (hmx : n ≤ maxLen) :
    Calls Try.prog 6 #[.slice a n c, .int .i64 k] w fun e w' => e = .returned (.bool true) ∧ Below w.heap.size w w' := by
  go_enter Try.func6, Try.ntmps6
  go_wp2_with fail
  refine (awake_any w).mono ?_
  rintro e w1 ⟨rfl, hb1⟩
  have HB1 := Lib.hid hb1
  clear hb1
  go_wp2_with fail
  refine (seal_long a n c _ hn hmx).mono ?_
  rintro e w2 ⟨rfl, rfl⟩
  have hd : decide ((16384 : Int) < (n : Int)) = true := by simp; omega
  go_wp2
  go_ret
  exact ⟨rfl, HB1.out⟩

set_option maxHeartbeats 2000000 in
theorem tells_off (a : Option Addr) (n c : Nat) (xs : List Int) (k : Int) (w : World) (hn : n ≤ 16384) (hnil : a = none → n = 0 ∧ c = 0) (hxs : IsB w a n xs) (hk : k < 32 ∨ 32 ≤ k ∧ k < 9223372036854775808 ∧ 8 + (n : Int) ≤ k / 8) :
    Calls Try.prog 6 #[.slice a n c, .int .i64 k] w fun e w' => e = .returned (.bool true) ∧ Below w.heap.size w w' := by
  have HN := Lib.hid hnil
  have HX := Lib.hid hxs
  clear hnil hxs
  go_enter Try.func6, Try.ntmps6
  go_wp2_with fail
  refine (awake_any w).mono ?_
  rintro e w1 ⟨rfl, hb1⟩
  have hx1 := HX.out.below hb1
  have HB1 := Lib.hid hb1
  have HX1 := Lib.hid hx1
  clear hb1 hx1
  go_wp2_with fail
  refine (seal_fits a n c xs _ hn HN.out HX1.out).mono ?_
  rintro e w2 ⟨g, rfl, _, hb2⟩
  have HB2 := Lib.hid (HB1.out.trans (hb2.mono HB1.out.size))
  clear hb2
  rcases hk with hk | ⟨hk1, hk3, hk2⟩
  · go_wp2
    go_ret
    exact ⟨rfl, HB2.out⟩
  · go_wp2
    go_ret
    exact ⟨rfl, HB2.out⟩

set_option maxHeartbeats 2000000 in
theorem tells_on (a : Option Addr) (n c : Nat) (xs : List Int) (m : Nat) (w : World) (hn : n ≤ 16384) (hnil : a = none → n = 0 ∧ c = 0) (hxs : IsB w a n xs) (hm : 32 ≤ m) (hm2 : m / 8 < 8 + n) :
    Calls Try.prog 6 #[.slice a n c, .int .i64 m] w fun e w' => e = .returned (.bool true) ∧ Below w.heap.size w w' := by
  have HN := Lib.hid hnil
  have HX := Lib.hid hxs
  clear hnil hxs
  go_enter Try.func6, Try.ntmps6
  go_wp2_with fail
  refine (awake_any w).mono ?_
  rintro e w1 ⟨rfl, hb1⟩
  have hx1 := HX.out.below hb1
  have HB1 := Lib.hid hb1
  have HX1 := Lib.hid hx1
  clear hb1 hx1
  go_wp2_with fail
  refine (seal_fits a n c xs _ hn HN.out HX1.out).mono ?_
  rintro e w2 ⟨g, rfl, hown, hb2⟩
  have HB2 := Lib.hid (HB1.out.trans (hb2.mono HB1.out.size))
  have hg := (hown.lt g rfl).1
  have hsb := sealed_byte xs HX1.out.2.1 (by rw [HX1.out.1]; exact hn)
  have hfr := hown.frozenAt (m / 8)
  have his := IsB.owned hown hsb
  have hy : 0 ≤ (sealed xs).getD (m / 8) 0 ∧ (sealed xs).getD (m / 8) 0 < 256 := hsb _ (Mt.getD_mem _ _ (by rw [sealed_length, HX1.out.1]; exact hm2))
  obtain ⟨y, hyy⟩ : ∃ y : Nat, (sealed xs).getD (m / 8) 0 = (y : Int) := ⟨((sealed xs).getD (m / 8) 0).toNat, by omega⟩
  have hyb : y < 256 := by omega
  have hcell : w2.cell? ⟨g, m / 8, none⟩ = some (.int .u8 y) := by
    rw [hown.cellAt (m / 8) (by omega)]
    have : m / 8 < (sealed xs).length := by rw [sealed_length, HX1.out.1]; exact hm2
    rw [← hyy]
    simp [List.getD, this]
  have HY := Lib.hid hyy
  have HI := Lib.hid his
  have HG := Lib.hid hg
  clear hown hb2 his hsb hy hyy hg
  go_wp2_with fail
  go_region
  obtain ⟨hv1, hv2, hv3⟩ := turned y m hyb
  generalize bits BinOp.xor IntKind.u8 (y : Int) (2 ^ (m % 8) % 256) = V at *
  have his := HI.out.setCell (m / 8) hm2 V ⟨hv1, hv2⟩
  simp only [Nat.zero_add] at his
  have H3 := Lib.hid (show IsB (w2.setCell ⟨g, m / 8, none⟩ (.int .u8 V)).drew _ _ _ from his)
  have hb3 : Below w.heap.size w (w2.setCell ⟨g, m / 8, none⟩ (.int .u8 V)).drew := (HB2.out.setCell (p := ⟨g, m / 8, none⟩) (Nat.le_trans HB1.out.size HG.out) _).drew
  have HB3 := Lib.hid hb3
  have he := err_turned xs HX.out.2.1 (by rw [HX.out.1]; exact hn) (m / 8) (by omega) (by rw [HX.out.1]; exact hm2) V ⟨hv1, hv2⟩ (by rw [HY.out]; exact hv3)
  have HE := Lib.hid he
  clear his hb3 he hv1 hv2 hv3 hcell hfr
  go_wp2_with fail
  refine (open_any _ _ _ _ _ (by unfold maxLen; omega) (Nat.le_refl _) (by unfold maxLen; omega) H3.out).mono ?_
  rintro e w4 ⟨hb4, h⟩
  rw [HE.out] at h
  obtain ⟨_, rfl⟩ := h.resolve_left (fun h => by cases h.1)
  have HB4 := Lib.hid (HB3.out.trans (hb4.mono HB3.out.size))
  clear hb4 h
  go_wp2
  go_ret
  exact ⟨rfl, HB4.out⟩

theorem tells_walk {a : Option Addr} {n c : Nat} {zs : List Int} {k : Int} (w : World) (h : IsRow .u8 w a n c zs) (hk : (Lit.int .i64 k).wf = true) :
    Calls Try.prog 6 #[.slice a n c, .int .i64 k] w fun e w' => e = .returned (.bool true) ∧ Below w.heap.size w w' := by
  obtain ⟨hb, hnil, hnc, hcm⟩ := h.isB
  have hk2 : k < 9223372036854775808 := by
    simp [Lit.wf, IntKind.min, IntKind.max, IntKind.signed, IntKind.bits] at hk
    omega
  by_cases hn : 16384 < n
  · exact tells_long a n c k w hn (by omega)
  · by_cases h1 : 32 ≤ k ∧ k / 8 < 8 + (n : Int)
    · obtain ⟨m, rfl⟩ := Int.eq_ofNat_of_zero_le (show 0 ≤ k by omega)
      exact tells_on a n c _ m w (by omega) hnil hb (by omega) (by omega)
    · exact tells_off a n c _ k w (by omega) hnil hb (by omega)
end Go.Proofs.Ytojkegnflbfloaa
