/- A tuple's last revision in the document's rows; readable, there. -/
import Derived.Test.YtmjdngomjjhhiaaGreatE65
namespace Go.Proofs.YtmjdngomjjhhiaaGreat
open Go.RowKit
open Go.Maps (Keyed)

theorem rreadable_any (v : Value) (wm rev : Int) (w : World) :
    Calls Tryz.prog 53 #[stV v wm, .int .i64 rev] w fun e w' => e = .returned (.int .i64 (readableB wm rev)) ∧ Below w.heap.size w w' := by
  have HB := Lib.hid (show Below w.heap.size w (w.alloc (.cells #[v, .int .i64 wm] 28)) from below_alloc _ _)
  by_cases h1 : rev < 0
  · have h2 : readableB wm rev = 1 := by unfold readableB; rw [if_pos h1]
    rw [h2]
    clear h2
    go_enter Tryz.func53, Tryz.ntmps53
    go_wp2
    go_ret
    exact ⟨rfl, HB.out⟩
  · by_cases h3 : rev < wm
    · have h2 : readableB wm rev = 71 := by unfold readableB; rw [if_neg h1, if_pos h3]
      rw [h2]
      clear h2
      go_enter Tryz.func53, Tryz.ntmps53
      go_wp2
      go_ret
      exact ⟨rfl, HB.out⟩
    · have h2 : readableB wm rev = 0 := by unfold readableB; rw [if_neg h1, if_neg h3]
      rw [h2]
      clear h2
      go_enter Tryz.func53, Tryz.ntmps53
      go_wp2
      go_ret
      exact ⟨rfl, HB.out⟩
theorem lastStep_no {t : Tp} {a : Int} {x : Rw} (h : x.t ≠ t) : lastStep t a x = a := by unfold lastStep; rw [if_neg h]
theorem lastStep_yes {t : Tp} {a : Int} {x : Rw} (h : x.t = t) : lastStep t a x = max (max a x.s) x.u := by unfold lastStep; rw [if_pos h]
set_option maxHeartbeats 8000000 in
set_option maxRecDepth 100000 in
theorem rlast_any {a : Option Addr} {n c : Nat} {R : List Rw} {w : World} (hR : RowsAt w a n R) (hn : n ≤ 1099511627776) (wm : Int) (t : Tp) :
    Calls Tryz.prog 47 #[stV (.slice a n c) wm, tpV t] w fun e w' => e = .returned (.int .i64 (lastR R t)) ∧ Below w.heap.size w w' := by
  obtain ⟨w0, hw0⟩ : ∃ w0, w0 = w.alloc (.cells #[.slice a n c, .int .i64 wm] 28) := ⟨_, rfl⟩
  obtain ⟨w1, hw1⟩ : ∃ w1, w1 = w0.alloc (.cells #[.string t.o, .string t.r, .string t.u] 32) := ⟨_, rfl⟩
  have hb0 : Below w.heap.size w w0 := by rw [hw0]; exact below_alloc _ _
  have hb1 : Below w0.heap.size w0 w1 := by rw [hw1]; exact below_alloc _ _
  obtain ⟨q0, hq0⟩ : ∃ q0, q0 = w.heap.size := ⟨_, rfl⟩
  obtain ⟨q1, hq1⟩ : ∃ q1, q1 = w.heap.size + 1 := ⟨_, rfl⟩
  have hs0 : w0.heap.size = q1 := by rw [hw0, hq1]; simp
  have h0 : Whole w0 q0 28 #[.slice a n c, .int .i64 wm] := by rw [hw0, hq0]; exact heap_alloc_new _ _
  have h1 : Whole w1 q1 32 #[.string t.o, .string t.r, .string t.u] := by rw [hw1, ← hs0]; exact heap_alloc_new _ _
  have HX0 := Lib.hid (h0.kept (hb1.block _ h0.lt))
  have HX1 := Lib.hid h1
  have HR := Lib.hid ((hR.below hb0).below hb1)
  have HB1 := Lib.hid (bell_up hb0 hb1)
  have HLN := Lib.hid hR.len
  clear hR hb0 hb1 h0 h1 hs0
  go_enter Tryz.func47, Tryz.ntmps47
  go_upto_region 3 with fail
  rw [← hw0, ← hw1, ← hq1, ← hq0]
  clear hw0 hw1 hq0 hq1
  go_loopw [5, 6] (fun lv iv wr => ∃ i : Nat, i ≤ n ∧ iv = .int .i64 i ∧ lv = .int .i64 (lastR (R.take i) t) ∧ Below w1.heap.size w1 wr) (fun _ iv _ => n - (intOf iv).toNat)
  case atStart => exact ⟨0, by omega, rfl, rfl, Below.refl _ _⟩
  case round =>
    obtain ⟨i, hin, rfl, rfl, hbr⟩ := hrel
    have hk0 := HX0.out.kept (hbr.block _ HX0.out.lt)
    have hk1 := HX1.out.kept (hbr.block _ HX1.out.lt)
    have s0 : wr.cell? ⟨q0, 0, none⟩ = some (.slice a n c) := by rw [hk0.cell]; rfl
    have t0 : wr.cell? ⟨q1, 0, none⟩ = some (.string t.o) := by rw [hk1.cell]; rfl
    have t1 : wr.cell? ⟨q1, 1, none⟩ = some (.string t.r) := by rw [hk1.cell]; rfl
    have t2 : wr.cell? ⟨q1, 2, none⟩ = some (.string t.u) := by rw [hk1.cell]; rfl
    clear hk0 hk1
    by_cases hil : i < n
    · obtain ⟨x, hx⟩ : ∃ x, R[i]? = some x := ⟨_, List.getElem?_eq_getElem (by rw [HLN.out]; exact hil)⟩
      obtain ⟨b, off, rfl, hbB, k0, k1, k2, k3, k4⟩ := (HR.out.below hbr).cells hx
      have HLT := Lib.hid (lastR_take t hx)
      have HTC := Lib.hid (tp_cases x.t t)
      have HBR := Lib.hid hbr
      have hil2 : (i : Int) < (n : Int) := by omega
      have hi4 : i ≤ 1099511627776 := by omega
      generalize lastR (R.take i) t = m at *
      obtain ⟨⟨xo, xr, xu⟩, xs, xt⟩ := x
      simp only at k0 k1 k2 k3 k4
      clear hx hbr hbB
      rcases HTC.out with ⟨he, h1, h2, h3⟩ | ⟨he, h1⟩ | ⟨he, h1, h2⟩ | ⟨he, h1, h2, h3⟩
      · have hm := HLT.out
        rw [lastStep_yes he] at hm
        simp only at h1 h2 h3 hm
        clear HTC HLT he
        by_cases c1 : m < xs
        · by_cases c2 : xs < xt
          · have hm2 : lastR (R.take (i + 1)) t = xt := by rw [hm]; omega
            clear hm
            go_wp2_with fail
            go_quiet (fail)
            have HBQ := Lib.hid (HBR.out.trans ((below_drewN wr nq).mono HBR.out.size))
            go_wp2
            go_roundw
            case rel => exact ⟨i + 1, by omega, by go_num, by rw [hm2], HBQ.out⟩
            case measure => simp [intOf]; omega
          · have hm2 : lastR (R.take (i + 1)) t = xs := by rw [hm]; omega
            clear hm
            go_wp2_with fail
            go_quiet (fail)
            have HBQ := Lib.hid (HBR.out.trans ((below_drewN wr nq).mono HBR.out.size))
            go_wp2
            go_roundw
            case rel => exact ⟨i + 1, by omega, by go_num, by rw [hm2], HBQ.out⟩
            case measure => simp [intOf]; omega
        · by_cases c2 : m < xt
          · have hm2 : lastR (R.take (i + 1)) t = xt := by rw [hm]; omega
            clear hm
            go_wp2_with fail
            go_quiet (fail)
            have HBQ := Lib.hid (HBR.out.trans ((below_drewN wr nq).mono HBR.out.size))
            go_wp2
            go_roundw
            case rel => exact ⟨i + 1, by omega, by go_num, by rw [hm2], HBQ.out⟩
            case measure => simp [intOf]; omega
          · have hm2 : lastR (R.take (i + 1)) t = m := by rw [hm]; omega
            clear hm
            go_wp2_with fail
            go_quiet (fail)
            have HBQ := Lib.hid (HBR.out.trans ((below_drewN wr nq).mono HBR.out.size))
            go_wp2
            go_roundw
            case rel => exact ⟨i + 1, by omega, by go_num, by rw [hm2], HBQ.out⟩
            case measure => simp [intOf]; omega
      all_goals
        have hm := HLT.out
        rw [lastStep_no he] at hm
        simp only at h1
        clear HTC HLT he
        go_wp2_with fail
        go_quiet (fail)
        have HBQ := Lib.hid (HBR.out.trans ((below_drewN wr nq).mono HBR.out.size))
        go_wp2
        go_roundw
        case rel => exact ⟨i + 1, by omega, by go_num, by rw [hm], HBQ.out⟩
        case measure => simp [intOf]; omega
    · obtain rfl : i = n := by omega
      have htn : R.take i = R := by rw [← HLN.out, List.take_length]
      have HBE := Lib.hid (bell_up HB1.out hbr)
      rw [htn]
      clear htn hbr
      go_wp2
      go_ret
      exact ⟨rfl, HBE.out⟩
end Go.Proofs.YtmjdngomjjhhiaaGreat
