/- The law's bench: of three texts there is room for two. -/
import Derived.Test.YtmnbpgigdobehaaQ3S
namespace Go.Proofs.Ytmnbpgigdobehaa
open Go.RowKit Go.Conc

theorem Turned.up {w a b : World} {g : Nat} {o : Option Nat} (h : Below w.heap.size w a) (ht : Turned a b g o) (hg : w.heap.size ≤ g) (ho : ∀ k, o = some k → w.heap.size ≤ k) : Below w.heap.size w b :=
  h.trans (ht.below hg ho h.size)

set_option maxRecDepth 100000 in
set_option maxHeartbeats 4000000 in
theorem awake_any (w : World) : Calls Try.prog 6 #[] w fun e w' => e = .returned (.bool true) ∧ Below w.heap.size w w' := by
  have HN := Lib.hid (QS.new_good w.heap.size 2 w (by omega) (by omega) (Nat.le_refl _))
  go_enter Try.func6, Try.ntmps6
  go_wp2_with fail
  refine HN.out.mono ?_
  rintro e w1 ⟨rfl, hq, hb⟩
  have hgl := hq.blk.lt
  have hcl := hq.ch.lt
  have HQ := Lib.hid hq
  have HB := Lib.hid hb
  clear hq hb
  generalize hg : w.heap.size + 1 = g at *
  have HG := Lib.hid (show w.heap.size ≤ g by omega)
  have HC := Lib.hid (Nat.le_refl w.heap.size)
  clear hg
  go_wp2_with fail
  have hrow : QS.Row (w1.alloc (.cells #[.string ⟨#[97]⟩, .string ⟨#[98]⟩, .string ⟨#[99]⟩] 9)) g w.heap.size (some ⟨w1.heap.size, 0, none⟩) 3 [⟨#[97]⟩, ⟨#[98]⟩, ⟨#[99]⟩] := by
    refine ⟨rfl, .inr ⟨w1.heap.size, 0, rfl, by simp, by omega, by omega, ?_⟩⟩
    intro i x hx
    rw [new_cell, Nat.zero_add]
    match i, hx with
    | 0, hx => injection hx with hx; subst hx; rfl
    | 1, hx => injection hx with hx; subst hx; rfl
    | 2, hx => injection hx with hx; subst hx; rfl
  refine (QS.Put_any (some ⟨w1.heap.size, 0, none⟩) 3 3 [⟨#[97]⟩, ⟨#[98]⟩, ⟨#[99]⟩] 1 _ (HQ.out.below (below_alloc _ _)) hrow (by omega) (by decide)).mono ?_
  rintro e w2 ⟨rfl, ⟨ps, hq⟩, ht⟩
  have HB2 := Lib.hid (Turned.up (HB.out.trans ((below_alloc _ _).mono HB.out.size)) ht HG.out (by rintro k ⟨⟩; exact HC.out))
  simp at hq
  have HQ2 := Lib.hid hq
  have HL := Lib.hid (QS.len_any w2 hq)
  have HO := Lib.hid (QS.lost_any w2 hq)
  obtain ⟨p, ps', rfl⟩ : ∃ p ps', ps = p :: ps' := by
    have h1 := hq.th.len
    cases ps with
    | nil => simp at h1
    | cons p q' => exact ⟨p, q', rfl⟩
  have HT := Lib.hid (QS.Take_some w2 hq)
  clear hq ht hrow
  go_wp2_with fail
  refine HL.out.mono ?_
  rintro e w3 ⟨rfl, rfl⟩
  go_wp2_with fail
  refine HO.out.mono ?_
  rintro e w3 ⟨rfl, rfl⟩
  go_wp2_with fail
  refine HT.out.mono ?_
  rintro e w3 ⟨rfl, hq3, ht3⟩
  have HB3 := Lib.hid (Turned.up HB2.out ht3 HG.out (by rintro k ⟨⟩; exact HC.out))
  clear hq3 ht3
  go_wp2
  go_ret
  exact ⟨rfl, HB3.out⟩
end Go.Proofs.Ytmnbpgigdobehaa
