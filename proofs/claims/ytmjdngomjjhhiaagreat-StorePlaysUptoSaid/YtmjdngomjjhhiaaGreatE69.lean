/- The document's At. -/
import Derived.Test.YtmjdngomjjhhiaaGreatE68
namespace Go.Proofs.YtmjdngomjjhhiaaGreat
open Go.RowKit
open Go.Maps (Keyed)

theorem atR_take {R : List Rw} {i : Nat} {x : Rw} (rev : Int) (h : R[i]? = some x) : atR ltT (R.take (i + 1)) rev = if alive rev x = true then withT ltT (atR ltT (R.take i) rev) x.t else atR ltT (R.take i) rev := by
  unfold atR
  rw [List.take_add_one, h, List.foldl_append]; rfl
theorem withT_len (l : List Tp) (t : Tp) : (withT ltT l t).length ≤ l.length + 1 := by
  unfold withT
  split
  · omega
  · have : ∀ l : List Tp, (insT ltT t l).length = l.length + 1 := by
      intro l
      induction l with
      | nil => rfl
      | cons y l ih =>
        show (if ltT t y then t :: y :: l else y :: insT ltT t l).length = _
        split <;> simp [ih]
    rw [this]; exact Nat.le_refl _
theorem atR_len (rev : Int) (R : List Rw) : ∀ i, (atR ltT (R.take i) rev).length ≤ i := by
  intro i
  induction i with
  | zero => simp [atR]
  | succ i ih =>
    cases hx : R[i]? with
    | none => rw [List.take_add_one, hx]; simp only [Option.toList_none, List.append_nil]; omega
    | some x =>
      rw [atR_take rev hx]
      split
      · have := withT_len (atR ltT (R.take i) rev) x.t
        omega
      · omega
set_option maxHeartbeats 8000000 in
set_option maxRecDepth 100000 in
theorem rat_any {ra : Option Addr} {n rc : Nat} {R : List Rw} {w : World} (hR : RowsAt w ra n R) (hn : n ≤ 1099511627776) (wm rev : Int) :
    Calls Tryz.prog 54 #[stV (.slice ra n rc) wm, .int .i64 rev] w fun e w' => ∃ v, e = .returned v ∧ w'.ownsRow w.heap.size 32 3 v (atR ltT R rev).length ((atR ltT R rev).flatMap tc) ∧ Below w.heap.size w w' := by
  obtain ⟨w0, hw0⟩ : ∃ w0, w0 = w.alloc (.cells #[.slice ra n rc, .int .i64 wm] 28) := ⟨_, rfl⟩
  have hb0 : Below w.heap.size w w0 := by rw [hw0]; exact below_alloc _ _
  obtain ⟨q0, hq0⟩ : ∃ q0, q0 = w.heap.size := ⟨_, rfl⟩
  have h0 : Whole w0 q0 28 #[.slice ra n rc, .int .i64 wm] := by rw [hw0, hq0]; exact heap_alloc_new _ _
  have HX0 := Lib.hid h0
  have HR := Lib.hid (hR.below hb0)
  have HB0 := Lib.hid hb0
  have HLN := Lib.hid hR.len
  have HU := Lib.hid (show w0.ownsRow w.heap.size 32 3 nilS (atR ltT (R.take 0) rev).length ((atR ltT (R.take 0) rev).flatMap tc) from World.ownsRow_nil _ _ _ _)
  clear hR hb0 h0
  go_enter Tryz.func54, Tryz.ntmps54
  go_upto_region 3 with fail
  rw [← hw0, ← hq0]
  clear hw0 hq0
  go_loopw [5, 6] (fun ov iv wr => ∃ i : Nat, i ≤ n ∧ iv = .int .i64 i ∧ wr.ownsRow w.heap.size 32 3 ov (atR ltT (R.take i) rev).length ((atR ltT (R.take i) rev).flatMap tc) ∧ Below w0.heap.size w0 wr) (fun _ iv _ => n - (intOf iv).toNat)
  case atStart => exact ⟨0, by omega, rfl, HU.out, Below.refl _ _⟩
  case round =>
    clear HU
    obtain ⟨i, hin, rfl, hO, hbr⟩ := hrel
    have hk0 := HX0.out.kept (hbr.block _ HX0.out.lt)
    have s0 : wr.cell? ⟨q0, 0, none⟩ = some (.slice ra n rc) := by rw [hk0.cell]; rfl
    obtain ⟨L, hL⟩ : ∃ L, L = atR ltT (R.take i) rev := ⟨_, rfl⟩
    have hll := atR_len rev R i
    rw [← hL] at hO hll
    have HL := Lib.hid hL
    have HO := Lib.hid hO
    have HBR := Lib.hid hbr
    have HBH := Lib.hid (HB0.out.trans (hbr.mono HB0.out.size))
    by_cases hil : i < n
    · obtain ⟨x, hx⟩ : ∃ x, R[i]? = some x := ⟨_, List.getElem?_eq_getElem (by rw [HLN.out]; exact hil)⟩
      obtain ⟨b, off, rfl, hbB, k0, k1, k2, k3, k4⟩ := (HR.out.below hbr).cells hx
      have HXI := Lib.hid hx
      have hat := atR_take rev hx
      rw [← hL] at hat
      have HAT := Lib.hid hat
      have HTH := Lib.hid (rthere_any x rev wr)
      have hil2 : (i : Int) < (n : Int) := by omega
      have hi4 : i ≤ 1099511627776 := by omega
      have HLL := Lib.hid hll
      clear hx hbB hO hbr hL hat hk0 hll
      go_wp2_with fail
      refine HTH.out.mono ?_
      rintro _ w1 ⟨rfl, hb1⟩
      have HB1 := Lib.hid (bell_up HBR.out hb1)
      have HO1 := Lib.hid (owns_keptN HO.out (fun k hk => hb1.block k (HO.out.lt k hk).2))
      have HBH1 := Lib.hid (bell_up HBH.out hb1)
      have hk1 := HX0.out.kept (HB1.out.block _ HX0.out.lt)
      have s0 : w1.cell? ⟨q0, 0, none⟩ = some (.slice (some ⟨b, off, none⟩) n rc) := by rw [hk1.cell]; rfl
      obtain ⟨b', off', e, _, k0, k1, k2, _, _⟩ := (HR.out.below HB1.out).cells HXI.out
      injection e with e
      injection e with e1 e2 _
      subst e1 e2
      clear hb1 hk1 HTH k3 k4
      cases ha : alive rev x with
      | true =>
        have hat : atR ltT (R.take (i + 1)) rev = withT ltT L x.t := by rw [HAT.out, if_pos ha]
        have HA2 := Lib.hid hat
        have HTW := Lib.hid (twith_any HO1.out HBH1.out.size (by have := HLL.out; omega) x.t)
        clear hat ha
        go_wp2_with fail
        refine HTW.out.mono ?_
        rintro _ w2 ⟨v2, rfl, ho2, hb2⟩
        have HO2 := Lib.hid ho2
        have HB2 := Lib.hid (bell_up HB1.out hb2)
        clear ho2 hb2
        go_wp2
        go_roundw
        case rel => exact ⟨i + 1, by omega, by go_num, by rw [HA2.out]; exact HO2.out, HB2.out⟩
        case measure => simp [intOf]; omega
      | false =>
        have hat : atR ltT (R.take (i + 1)) rev = L := by rw [HAT.out, if_neg (by rw [ha]; exact Bool.false_ne_true)]
        have HA2 := Lib.hid hat
        clear hat ha
        go_wp2
        go_roundw
        case rel => exact ⟨i + 1, by omega, by go_num, by rw [HA2.out]; exact HO1.out, HB1.out⟩
        case measure => simp [intOf]; omega
    · obtain rfl : i = n := by omega
      have htn : R.take i = R := by rw [← HLN.out, List.take_length]
      rw [htn] at hL
      have HLE := Lib.hid hL
      clear hL htn hO hbr hk0 hll
      go_wp2
      go_ret
      exact ⟨_, rfl, by rw [← HLE.out]; exact HO.out, HBH.out⟩
end Go.Proofs.YtmjdngomjjhhiaaGreat
