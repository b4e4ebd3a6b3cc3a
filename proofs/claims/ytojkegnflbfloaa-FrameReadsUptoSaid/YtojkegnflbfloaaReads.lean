/- FrameReads: payloads are framed, and bytes taken for frames or refused, as the document says. -/
import Derived.Test.YtojkegnflbfloaaRef4
namespace Go.Proofs.Ytojkegnflbfloaa
open Go.RowKit

def sealY (xs : List Int) : List Int := if xs.length ≤ 16384 then sealed xs else []
def sealE (xs : List Int) : Nat := if xs.length ≤ 16384 then 0 else 2
def openY (xs : List Int) : List Int := if err xs = 0 then pay xs else []
def openN (xs : List Int) : Nat := if err xs = 0 then 8 + wd xs 4 else 0
theorem IsV.nil (w : World) : IsV w (.slice none 0 0) [] := ⟨none, 0, 0, rfl, by simp [maxLen], IsB.empty _ _⟩

theorem seal_both (a : Option Addr) (n c : Nat) (xs : List Int) (w : World) (hm : n ≤ maxLen) (hnil : a = none → n = 0 ∧ c = 0) (hxs : IsB w a n xs) :
    Calls Try.prog 14 #[.slice a n c] w fun e w' => Below w.heap.size w w' ∧ ∃ v, e = .returned (.tuple #[v, .int .i64 ((sealE xs : Nat))]) ∧ IsV w' v (sealY xs) := by
  have hl := hxs.1
  by_cases hn : n ≤ 16384
  · refine (seal_fits a n c xs w hn hnil hxs).mono ?_
    rintro e w' ⟨g, rfl, ho, hb⟩
    have hby : ∀ x ∈ sealed xs, 0 ≤ x ∧ x < 256 := sealed_byte xs hxs.2.1 (by omega)
    refine ⟨hb, .slice (some ⟨g, 0, none⟩) (8 + n) (8 + n), by simp [sealE, hl, hn], ?_⟩
    have hq : sealY xs = sealed xs := if_pos (by omega)
    rw [hq]
    exact ⟨_, _, _, rfl, by unfold maxLen; omega, IsB.owned ho hby⟩
  · refine (seal_long a n c w (by omega) hm).mono ?_
    rintro e w' ⟨rfl, rfl⟩
    have hq : sealY xs = [] := if_neg (by omega)
    refine ⟨Below.refl _ _, .slice none 0 0, by simp [sealE, hl, hn], ?_⟩
    rw [hq]
    exact IsV.nil _
theorem refseal_both (xs : List Int) (S : ByteArray) (w : World) (hS : S = strOfNums xs) (hb : ∀ x ∈ xs, 0 ≤ x ∧ x < 256) (hn : xs.length ≤ 1048576) :
    Calls Try.prog 15 #[.string S] w fun e w' => Below w.heap.size w w' ∧ e = .returned (.tuple #[.string (strOfNums (sealY xs)), .int .i64 ((sealE xs : Nat))]) := by
  refine (refseal_any xs S w hS hb hn).mono ?_
  rintro e w' ⟨rfl, h⟩
  refine ⟨h, ?_⟩
  by_cases hl : xs.length ≤ 16384
  · simp [sealY, sealE, hl]
  · simp [sealY, sealE, hl]
    rfl
theorem open_both (a : Option Addr) (n c : Nat) (xs : List Int) (w : World) (hmx : n ≤ maxLen) (hnc : n ≤ c) (hcm : c ≤ maxLen) (hxs : IsB w a n xs) :
    Calls Try.prog 16 #[.slice a n c] w fun e w' => Below w.heap.size w w' ∧ ∃ v, e = .returned (.tuple #[v, .int .i64 ((openN xs : Nat)), .int .i64 ((err xs : Nat))]) ∧ IsV w' v (openY xs) := by
  refine (open_any a n c xs w hmx hnc hcm hxs).mono ?_
  rintro e w' ⟨hb, h⟩
  refine ⟨hb, ?_⟩
  by_cases he : err xs = 0
  · obtain ⟨_, u, rfl, hou⟩ := h.resolve_right (fun h => h.1 he)
    have hpl := pay_length he
    have hz := err_zero he
    refine ⟨u, by simp [openN, he], ?_⟩
    have hq : openY xs = pay xs := if_pos he
    rw [hq]
    have hu : OwnV w' u (pay xs) := ⟨_, by rw [hpl]; exact hou, pay_byte hxs.2.1⟩
    exact hu.isV (by rw [hpl]; unfold maxLen; omega)
  · obtain ⟨_, rfl⟩ := h.resolve_left (fun h => he h.1)
    have hq : openY xs = [] := if_neg he
    refine ⟨.slice none 0 0, by simp [openN, he], ?_⟩
    rw [hq]
    exact IsV.nil _
theorem refopen_both (xs : List Int) (S : ByteArray) (w : World) (hS : S = strOfNums xs) (hb : ∀ x ∈ xs, 0 ≤ x ∧ x < 256) (hn : xs.length ≤ 1048576) :
    Calls Try.prog 17 #[.string S] w fun e w' => Below w.heap.size w w' ∧ e = .returned (.tuple #[.string (strOfNums (openY xs)), .int .i64 ((openN xs : Nat)), .int .i64 ((err xs : Nat))]) := by
  refine (refopen_any xs S w hS hb hn).mono ?_
  rintro e w' ⟨h, h2⟩
  refine ⟨h, ?_⟩
  by_cases he : err xs = 0
  · obtain ⟨_, rfl⟩ := h2.resolve_right (fun h => h.1 he)
    simp [openY, openN, he]
  · obtain ⟨_, rfl⟩ := h2.resolve_left (fun h => he h.1)
    simp [openY, openN, he]
    rfl

set_option maxHeartbeats 4000000 in
theorem reads_core (a1 a2 : Option Addr) (n1 c1 n2 c2 : Nat) (x1 x2 : List Int) (w : World) (h1 : IsB w a1 n1 x1) (h2 : IsB w a2 n2 x2) (z1 : a1 = none → n1 = 0 ∧ c1 = 0)
    (k1 : n1 ≤ c1) (k2 : n2 ≤ c2) (r1 : c1 ≤ 1048576) (r2 : c2 ≤ 1048576) :
    Calls Try.prog 4 #[.slice a1 n1 c1, .slice a2 n2 c2] w fun e w' => e = .returned (.bool true) ∧ Below w.heap.size w w' := by
  have H1 := Lib.hid h1
  have H2 := Lib.hid h2
  have Z1 := Lib.hid z1
  have L1 := Lib.hid h1.1
  have L2 := Lib.hid h2.1
  have Y1 := Lib.hid h1.2.1
  have Y2 := Lib.hid h2.2.1
  have C2 := Lib.hid (cutAll_short _ x2 (Nat.le_refl _))
  clear h1 h2 z1
  go_enter Try.func4, Try.ntmps4
  go_wp2_with fail
  refine (awake_any w).mono ?_
  rintro e w1 ⟨rfl, hb1⟩
  have q1 := H1.out.below hb1
  have HB1 := Lib.hid hb1
  have Q1 := Lib.hid q1
  clear hb1 q1
  go_wp2_with fail
  refine (seal_both a1 n1 c1 x1 _ (by unfold maxLen; omega) Z1.out Q1.out).mono ?_
  rintro e w2 ⟨hb2, v1, rfl, hv1⟩
  have b2 := HB1.out.trans (hb2.mono HB1.out.size)
  have HB2 := Lib.hid b2
  have V1 := Lib.hid hv1
  have hc1 := (H1.out.below b2).str c1
  obtain ⟨S1, hS1⟩ : ∃ S, S = strOfNums x1 := ⟨_, rfl⟩
  rw [← hS1] at hc1
  have HS1 := Lib.hid hS1
  clear hb2 b2 hv1 hS1
  go_wp2_with fail
  refine (refseal_both x1 S1 _ HS1.out Y1.out (by have := L1.out; omega)).mono ?_
  rintro e w3 ⟨hb3, rfl⟩
  have b3 := HB2.out.trans (hb3.mono HB2.out.size)
  have HB3 := Lib.hid b3
  obtain ⟨va, vn, vc, rfl, vm, vb⟩ := V1.out
  have hc2 := (vb.below hb3).str vc
  generalize strOfNums (sealY x1) = X at *
  generalize sealE x1 = q at *
  have e1 : (X.toList == X.toList) = true := by simp
  have e2 : (!(X.toList == X.toList)) = false := by simp
  have e3 : ((q : Int) != (q : Int)) = false := by simp
  have Q2 := Lib.hid (H2.out.below b3)
  clear hb3 b3 vb hc1
  go_wp2_with fail
  refine (open_both a2 n2 c2 x2 _ (by unfold maxLen; omega) k2 (by unfold maxLen; omega) Q2.out).mono ?_
  rintro e w4 ⟨hb4, v2, rfl, hv2⟩
  have b4 := HB3.out.trans (hb4.mono HB3.out.size)
  have HB4 := Lib.hid b4
  have V2 := Lib.hid hv2
  have hc3 := (H2.out.below b4).str c2
  obtain ⟨S2, hS2⟩ : ∃ S, S = strOfNums x2 := ⟨_, rfl⟩
  rw [← hS2] at hc3
  have HS2 := Lib.hid hS2
  clear hb4 b4 hv2 hS2 hc2 e1 e2 e3
  go_wp2_with fail
  refine (refopen_both x2 S2 _ HS2.out Y2.out (by have := L2.out; omega)).mono ?_
  rintro e w5 ⟨hb5, rfl⟩
  have b5 := HB4.out.trans (hb5.mono HB4.out.size)
  have HB5 := Lib.hid b5
  have V2' := Lib.hid (V2.out.ext hb5)
  have Q5 := Lib.hid (H2.out.below b5)
  clear hb5 b5 hc3
  go_wp2_with fail
  refine (cut_any a2 n2 c2 x2 _ Q5.out k2 (by unfold maxLen; omega) (by omega)).mono ?_
  rintro e w6 ⟨hb6, v3, rfl, hp3⟩
  have b6 := HB5.out.trans (hb6.mono HB5.out.size)
  have HB6 := Lib.hid b6
  have V2'' := Lib.hid (V2'.out.ext hb6)
  have P3 := Lib.hid hp3
  have hc4 := (H2.out.below b6).str c2
  rw [← HS2.out] at hc4
  clear hb6 b6 hp3
  go_wp2_with fail
  refine (refcut_any x2 S2 _ HS2.out Y2.out (by have := L2.out; omega)).mono ?_
  rintro e w7 ⟨hb7, v4, rfl, ho4⟩
  have HB7 := Lib.hid (HB6.out.trans (hb7.mono HB6.out.size))
  have P3' := Lib.hid (P3.out.below hb7)
  obtain ⟨ua, un, uc, rfl, um, ub⟩ := V2''.out
  have hc5 := (ub.below hb7).str uc
  have hlt := C2.out.2.1
  rw [L2.out] at hlt
  have R3 := Lib.hid (P3'.out.rowOf (fun p hp => by
    have := C2.out.2.2.2.2 p hp
    have := L2.out
    unfold maxLen
    omega))
  have O4 := Lib.hid (owns_strs ho4)
  have hpl : (cutAll x2).1.length ≤ 1099511627776 := by omega
  have HPL := Lib.hid hpl
  generalize (cutAll x2).1 = P at *
  generalize (cutAll x2).2.1 = m at *
  generalize (cutAll x2).2.2 = g0 at *
  generalize strOfNums (openY x2) = Y at *
  generalize openN x2 = nn at *
  generalize err x2 = ee at *
  have e1 : (Y.toList == Y.toList) = true := by simp
  have e2 : ((nn : Int) == (nn : Int)) = true := by simp
  have e3 : ((ee : Int) == (ee : Int)) = true := by simp
  clear hb7 ho4 ub hc4 hpl hlt
  go_wp2_with fail
  refine (texts_any v3 _ _ R3.out HPL.out).mono ?_
  rintro e w8 ⟨t5, rfl, ho5, hb8⟩
  have HB8 := Lib.hid (HB7.out.trans (hb8.mono HB7.out.size))
  have O5 := Lib.hid (owns_strs ho5)
  have O4' := Lib.hid (O4.out.below hb8)
  clear ho5 hb8
  go_wp2_with fail
  refine (same_true t5 v4 P _ O5.out O4'.out HPL.out).mono ?_
  rintro e w9 ⟨rfl, hb9⟩
  have HB9 := Lib.hid (HB8.out.trans (hb9.mono HB8.out.size))
  clear hb9
  have e4 : ((m : Int) == (m : Int)) = true := by simp
  have e5 : ((g0 : Int) == (g0 : Int)) = true := by simp
  go_wp2
  go_ret
  exact ⟨rfl, HB9.out⟩
theorem reads_walk {a1 a2 : Option Addr} {n1 c1 n2 c2 : Nat} {y1 y2 : List Int} (w : World) (h1 : IsRow .u8 w a1 n1 c1 y1) (h2 : IsRow .u8 w a2 n2 c2 y2) (r1 : c1 ≤ 1048576) (r2 : c2 ≤ 1048576) :
    Calls Try.prog 4 #[.slice a1 n1 c1, .slice a2 n2 c2] w fun e w' => e = .returned (.bool true) ∧ Below w.heap.size w w' := by
  obtain ⟨b1, z1, k1, _⟩ := h1.isB
  obtain ⟨b2, z2, k2, _⟩ := h2.isB
  exact reads_core a1 a2 n1 c1 n2 c2 _ _ w b1 b2 z1 k1 k2 r1 r2
end Go.Proofs.Ytojkegnflbfloaa
