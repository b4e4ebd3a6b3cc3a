/- The document's Apply: the walk. -/
import Derived.Test.YtmjdngomjjhhiaaGreatE72
import Derived.Test.YtmjdngomjjhhiaaGreatE69
import Derived.StillTailTactics
import Derived.Deep.RegionLaw
namespace Go.Proofs.YtmjdngomjjhhiaaGreat
open Go.RowKit
open Go.Maps (Keyed)

set_option maxHeartbeats 16000000 in
set_option maxRecDepth 100000 in
theorem rapply_any {X : Nat → Prop} {R : List Rw} {v : Value} {a : Option Addr} {n c : Nat} {l : List Mu} {M : SM} {w : World} (hX : ∀ b, X b → b < w.heap.size) (hR : DR w X R v) (hrn : R.length + n ≤ 1099511627000) (hp : Rep ltT M R) (hM : SMOk M) (hl : MutsAt w a n l) (wm rev : Int) :
    Calls Tryz.prog 21 #[stV v wm, .int .i64 rev, .slice a n c] w fun e w' => ∃ v', e = .returned (.tuple #[stV v' wm, .int .i64 (chkE M wm rev l)]) ∧ DR w' X (if chkE M wm rev l = 0 then applyR ltT R rev l else R) v' ∧ Below w.heap.size w w' := by
  obtain ⟨j0, hj0, jz0, jz1, jz2⟩ := info_parts infoR
  have HX := Lib.hid hX
  have HLN := Lib.hid hl.len
  have HFM := Lib.hid hl.fits
  have HFR := Lib.hid hR.fits
  obtain ⟨w0, hw0⟩ : ∃ w0, w0 = ((w.alloc (.cells #[v, .int .i64 wm] 28)).alloc (.cells #[.slice none 0 0, .int .i64 0] 28)) := ⟨_, rfl⟩
  have hS : ApS w w0 X wm v R := by rw [hw0]; exact ApS.start hR wm
  have hl0 := hl.below hS.bel
  obtain ⟨ra, rc, rfl, hra⟩ := hS.dr.slice
  have HCK := Lib.hid (rcheck7_any (rc := rc) (c := c) hra (by omega) hp hM hl0 (by omega) wm rev)
  have HL := Lib.hid hl
  have HS := Lib.hid hS
  obtain ⟨q0, hq0⟩ : ∃ q0, q0 = w.heap.size := ⟨_, rfl⟩
  have HQ := Lib.hid hq0
  have hq1 : q0 + 1 = w.heap.size + 1 := by rw [hq0]
  have HQ1 := Lib.hid hq1
  have HRN := Lib.hid hrn
  have c0 : w0.cell? ⟨q0, 0, none⟩ = some (.slice ra R.length rc) := by rw [hq0, hS.x0.cell]; rfl
  have c1 : w0.cell? ⟨q0, 1, none⟩ = some (.int .i64 wm) := by rw [hq0, hS.x0.cell]; rfl
  generalize chkE M wm rev l = ce at *
  clear hX hR hl hS hl0 hra hrn hp hM hq1
  go_enter Tryz.func21, Tryz.ntmps21
  go_upto_region 1 with fail
  rw [← hw0, ← hq0]
  clear hw0 hq0
  go_wp2_with fail
  refine HCK.out.mono ?_
  rintro _ w1 ⟨rfl, hb1⟩
  have HS1 := Lib.hid (HS.out.up hb1)
  clear hb1 HCK HS c0 c1
  by_cases hce : ce = 0
  case neg =>
    have x0 : w1.cell? ⟨q0, 0, none⟩ = some (.slice ra R.length rc) := by rw [HQ.out, HS1.out.x0.cell]; rfl
    have x1 : w1.cell? ⟨q0, 1, none⟩ = some (.int .i64 wm) := by rw [HQ.out, HS1.out.x0.cell]; rfl
    have y0 : w1.cell? ⟨q0 + 1, 0, none⟩ = some (.slice none 0 0) := by rw [HQ1.out, HS1.out.x1.cell]; rfl
    have y1 : w1.cell? ⟨q0 + 1, 1, none⟩ = some (.int .i64 0) := by rw [HQ1.out, HS1.out.x1.cell]; rfl
    have f0 : w1.frozen? ⟨q0 + 1, 0, none⟩ = false := by rw [HQ1.out]; exact HS1.out.x1.free 0
    have f1 : w1.frozen? ⟨q0 + 1, 1, none⟩ = false := by rw [HQ1.out]; exact HS1.out.x1.free 1
    obtain ⟨d1, d2, d3, d4⟩ := HS1.out.fin
    rw [← HQ1.out] at d1 d2 d3 d4
    have HD1 := Lib.hid d1
    have HD2 := Lib.hid d2
    have HCE := Lib.hid hce
    clear d1 d2
    go_wp2
    refine bodyPost_ret (v := .tuple #[stV (.slice ra R.length rc) wm, .int .i64 ce]) (by simp [results, Tryz.results21, go_sem, d3, d4]) rfl ⟨_, rfl, by first | exact HD1.out | (rw [if_neg HCE.out]; exact HD1.out), HD2.out⟩
  case pos =>
    subst hce
    have HN := Lib.hid (show ∃ v, ApS w w1 X wm v (applyR ltT R rev (l.take 0)) from ⟨_, HS1.out⟩)
    clear HS1
    go_wp2_with fail
    go_loopw [9] (fun iv wr => ∃ i : Nat, i ≤ n ∧ iv = .int .i64 i ∧ ∃ v, ApS w wr X wm v (applyR ltT R rev (l.take i))) (fun iv _ => n - (intOf iv).toNat)
    case atStart => exact ⟨0, by omega, rfl, HN.out⟩
    case round =>
      clear HN
      obtain ⟨i, hin, rfl, v, hS⟩ := hrel
      have hlen := applyR_len R rev l i
      by_cases hil : i < n
      · obtain ⟨m, hmi⟩ : ∃ m, l[i]? = some m := ⟨_, List.getElem?_eq_getElem (by rw [HLN.out]; exact hil)⟩
        have HTK := Lib.hid (applyR_take R rev hmi)
        have HMF := Lib.hid (HFM.out m (List.mem_of_getElem? hmi))
        have HLF := Lib.hid (show ∀ x ∈ applyR ltT R rev (l.take i), x.t.fits from applyR_fits HFR.out (fun m hm => HFM.out m (List.mem_of_mem_take hm)))
        obtain ⟨b2, off2, rfl, hbB, m0, m1, m2, m3⟩ := HL.out.cells hmi
        have HQB := Lib.hid (show b2 < q0 by rw [HQ.out]; exact hbB)
        have HMI := Lib.hid hmi
        have hll : (applyR ltT R rev (l.take i)).length ≤ 1099511627000 := by have := HRN.out; omega
        generalize applyR ltT R rev (l.take i) = L at *
        have HS := Lib.hid hS
        obtain ⟨va, vc, rfl, hLa⟩ := hS.dr.slice
        have HLA := Lib.hid hLa
        have HMC := Lib.hid (show ∀ W, Below w.heap.size w W → W.cell? ⟨b2, off2 + i * 4, none⟩ = some (.bool m.d) ∧ W.cell? ⟨b2, off2 + i * 4 + 1, none⟩ = some (.string m.t.o) ∧ W.cell? ⟨b2, off2 + i * 4 + 2, none⟩ = some (.string m.t.r) ∧ W.cell? ⟨b2, off2 + i * 4 + 3, none⟩ = some (.string m.t.u) from fun W hW => by
          refine ⟨?_, ?_, ?_, ?_⟩
          · exact (hW.cell (p := ⟨b2, off2 + i * 4, none⟩) hbB).trans m0
          · exact (hW.cell (p := ⟨b2, off2 + i * 4 + 1, none⟩) hbB).trans m1
          · exact (hW.cell (p := ⟨b2, off2 + i * 4 + 2, none⟩) hbB).trans m2
          · exact (hW.cell (p := ⟨b2, off2 + i * 4 + 3, none⟩) hbB).trans m3)
        have hil2 : (i : Int) < (n : Int) := by omega
        have hi4 : i ≤ 1099511627776 := by have := HRN.out; omega
        have HLL := Lib.hid hll
        have HOS := Lib.hid (opI_start L m.t)
        obtain ⟨md, mt⟩ := m
        clear hmi hS hLa m0 m1 m2 m3 hbB hlen hll
        go_wp2_with fail
        go_loopw [10, 11] (fun ov kv wq => ∃ k : Nat, k ≤ L.length ∧ kv = .int .i64 k ∧ ov = .int .i64 (opI L mt k) ∧ Below wr.heap.size wr wq) (fun _ kv _ => L.length - (intOf kv).toNat)
        case atStart => exact ⟨0, by omega, rfl, by rw [HOS.out], Below.refl _ _⟩
        case round =>
          obtain ⟨k, hk, rfl, rfl, hbq⟩ := hrel
          have HSQ := Lib.hid (HS.out.up hbq)
          have x0 : wr.cell? ⟨q0, 0, none⟩ = some (.slice va L.length vc) := by rw [HQ.out, HSQ.out.x0.cell]; rfl
          have HBQ := Lib.hid hbq
          obtain ⟨m0, m1, m2, m3⟩ := HMC.out _ HSQ.out.bel
          by_cases hkl : k < L.length
          · obtain ⟨x, hx⟩ : ∃ x, L[k]? = some x := ⟨_, List.getElem?_eq_getElem hkl⟩
            obtain ⟨b, off, rfl, hbB, k0, k1, k2, k3, k4⟩ := (HLA.out.below hbq).cells hx
            have HON := Lib.hid (opI_next (t := mt) hx)
            have hkl2 : (k : Int) < (L.length : Int) := by omega
            have hk4 : k ≤ 1099511627776 := by have := HLL.out; omega
            generalize opI L mt k = oo at *
            obtain ⟨⟨xo, xr, xu⟩, xs, xt⟩ := x
            have HTC := Lib.hid (tp_cases ⟨xo, xr, xu⟩ mt)
            obtain ⟨mo, mr, mu⟩ := mt
            simp only at k0 k1 k2 k3 k4 m1 m2 m3
            clear hx hbq hbB k3 m0
            rcases HTC.out with ⟨he, h1, h2, h3⟩ | ⟨he, h1⟩ | ⟨he, h1, h2⟩ | ⟨he, h1, h2, h3⟩
            · by_cases hu : xt = 0
              · have hon := HON.out
                rw [if_pos ⟨he, hu⟩] at hon
                have HO2 := Lib.hid hon
                have hu2 : (xt == 0) = true := by rw [hu]; rfl
                simp only at h1 h2 h3
                clear hon HON he HTC
                go_wp2_with fail
                go_quiet (fail)
                have HBN := Lib.hid (bell_up HBQ.out (below_drewN wr nq))
                go_wp2
                go_roundw
                case rel => exact ⟨k + 1, by omega, by go_num, by rw [HO2.out], HBN.out⟩
                case measure => simp [intOf]; omega
              · have hon := HON.out
                rw [if_neg (fun h => hu h.2)] at hon
                have HO2 := Lib.hid hon
                have hu2 : (xt == 0) = false := by simpa using hu
                simp only at h1 h2 h3
                clear hon HON he HTC
                go_wp2_with fail
                go_quiet (fail)
                have HBN := Lib.hid (bell_up HBQ.out (below_drewN wr nq))
                go_wp2
                go_roundw
                case rel => exact ⟨k + 1, by omega, by go_num, by rw [HO2.out], HBN.out⟩
                case measure => simp [intOf]; omega
            all_goals
              have hon := HON.out
              rw [if_neg (fun h => he h.1)] at hon
              have HO2 := Lib.hid hon
              simp only at h1
              clear hon HON he HTC
              go_wp2_with fail
              go_quiet (fail)
              have HBN := Lib.hid (bell_up HBQ.out (below_drewN wr nq))
              go_wp2
              go_roundw
              case rel => exact ⟨k + 1, by omega, by go_num, by rw [HO2.out], HBN.out⟩
              case measure => simp [intOf]; omega
          · obtain rfl : k = L.length := by omega
            have hoc := opI_cases L mt
            generalize opI L mt L.length = oo at *
            obtain ⟨mo, mr, mu⟩ := mt
            simp only at m1 m2 m3
            have HRQ := Lib.hid (HLA.out.below hbq)
            clear hbq hk
            cases md with
            | true =>
              clear m1 m2 m3
              rcases hoc with ⟨rfl, ho⟩ | ⟨k, r, rfl, ho, hr, ht, hu⟩
              · have hon : applyR ltT R rev (l.take (i + 1)) = L := HTK.out.trans ((oneR_none ho).trans (if_pos rfl))
                have HON := Lib.hid hon
                clear hon ho
                go_wp2
                go_roundw
                case rel => exact ⟨i + 1, by omega, by go_num, _, by rw [HON.out]; exact HSQ.out⟩
                case measure => simp [intOf]; omega
              · have hon : applyR ltT R rev (l.take (i + 1)) = L.set k ⟨r.t, r.s, rev⟩ := HTK.out.trans ((oneR_some ho hr ht).trans (if_pos rfl))
                have HON := Lib.hid hon
                have hkl := (List.getElem?_eq_some_iff.1 hr).1
                obtain ⟨b, off, rfl, hbB, k0, k1, k2, k3, k4⟩ := HRQ.out.cells hr
                have HNW := Lib.hid ((HRQ.out.below (below_alloc wr (.cells #[] 46))).news _ rfl)
                have HR2 := Lib.hid (show (wr.alloc (.cells #[] 46)).ownsRow wr.heap.size 46 5 (.slice (some ⟨wr.heap.size, 0, none⟩) 0 0) 0 [] from World.ownsRow_made wr #[] 0 (Nat.le_refl _) (by simp [maxLen]) (by simp))
                have hn1 : 0 + L.length ≤ maxLen := by have := HLL.out; unfold maxLen; omega
                have hn2 : (0 + L.length) * 64 ≤ 140737488355328 := by have := HLL.out; omega
                have HR := Lib.hid hr
                have HFT := Lib.hid (HRQ.out.fits r (List.mem_of_getElem? hr))
                have HRF := Lib.hid HRQ.out.fits
                have hkz : (k : Int) < (L.length : Int) := by omega
                have hkz2 : ¬ (k : Int) < 0 := by omega
                have hk4b : k ≤ 1099511627776 := by have := HLL.out; omega
                have HKL := Lib.hid hkl
                have x2 : (wr.alloc (.cells #[] 46)).cell? ⟨q0, 0, none⟩ = some (.slice (some ⟨b, off, none⟩) L.length vc) := by rw [HQ.out, (HSQ.out.up (below_alloc wr (.cells #[] 46))).x0.cell]; rfl
                clear hon ho hr ht hu k0 k1 k2 k3 k4 hbB hkl
                go_wp2_with (at_builtin; refine wpList_append_own_at _ rfl (.tmp 65) (.tmp 67) 26 rfl wr.heap.size 46 j0 (.agg #[.string ⟨#[]⟩, .string ⟨#[]⟩, .string ⟨#[]⟩, .int .i64 0, .int .i64 0]) 5 64 Tryz.underlying26 hj0 jz0 jz1 jz2 rfl (by decide) (.slice (some ⟨wr.heap.size, 0, none⟩) 0 0) 0 [] rfl HR2.out ⟨b, off, none⟩ L.length vc (rwc L) rfl (rwc_length L) HNW.out (rwc_one L) hn1 hn2 (by simp) ?_; intro v3 w3 hown3 hgr3 _ _
                             have hown3' : w3.ownsRow wr.heap.size 46 5 v3 L.length (rwc L) := by simpa using hown3
                             have hb3 : Below wr.heap.size wr w3 := (below_alloc wr (.cells #[] 46)).grown hgr3 (by simp) (fun k e => by simp [Value.ownBlock] at e; omega)
                             obtain ⟨q, cap, he3, hq3⟩ : ∃ q cap, v3 = .slice (some ⟨q, 0, none⟩) L.length cap ∧ wr.heap.size ≤ q := by
                               rcases hown3'.2 with ⟨_, h0⟩ | ⟨q, cap, cur, he, hbq, _⟩
                               · have := HKL.out; omega
                               · exact ⟨q, cap, he, hbq⟩
                             subst he3
                             obtain ⟨_, _, he, _, hqc⟩ := own_cells hown3' (by have := HKL.out; omega)
                             injection he with he e2 e3
                             clear e2 e3
                             injection he with he
                             injection he with he
                             subst he
                             have z4 : w3.cell? ⟨q, k * 5 + 4, none⟩ = some (.int .i64 r.u) := hqc _ _ (rwc_at HR.out).2.2.2.2
                             have g4 : w3.frozen? ⟨q, k * 5 + 4, none⟩ = false := hown3'.frozenAt _
                             have hst := (hown3'.stored (k * 5 + 4) (.int .i64 rev)).1
                             rw [rwc_set HR.out] at hst
                             have hput := HSQ.out.put (R' := L.set k ⟨r.t, r.s, rev⟩) HX.out (hb3.setCell (p := ⟨q, k * 5 + 4, none⟩) hq3 (.int .i64 rev)) (by rw [List.length_set]; exact hst) (fun x hx => by
                               rcases List.mem_or_eq_of_mem_set hx with h1 | h1
                               · exact HRF.out x h1
                               · rw [h1]; exact HFT.out)
                             have hx3 := HSQ.out.x0.kept (hb3.block _ HSQ.out.x0.lt)
                             rw [← HQ.out] at hput
                             have HPUT := Lib.hid hput
                             have hm5 := (HMC.out _ hput.bel).1
                             have p2 : (w3.setCell ⟨q, k * 5 + 4, none⟩ (.int .i64 rev)).cell? ⟨q0, 0, none⟩ = some (.slice (some ⟨b, off, none⟩) L.length vc) := by
                               have hx4 := hx3.kept (Below.heap_setCell w3 ⟨q, k * 5 + 4, none⟩ (.int .i64 rev) w.heap.size (by show w.heap.size ≠ q; have h1 := HSQ.out.x0.lt; omega))
                               rw [HQ.out, hx4.cell]; rfl
                             have p3 : (w3.setCell ⟨q, k * 5 + 4, none⟩ (.int .i64 rev)).frozen? ⟨q0, 0, none⟩ = false := by
                               have hx4 := hx3.kept (Below.heap_setCell w3 ⟨q, k * 5 + 4, none⟩ (.int .i64 rev) w.heap.size (by show w.heap.size ≠ q; have h1 := HSQ.out.x0.lt; omega))
                               rw [HQ.out]; exact hx4.free 0
                             have hkc : (k : Int) < (L.length : Int) := by have := HKL.out; omega
                             clear hown3 hown3' hgr3 hb3 hqc hst hput hx3)
                go_roundw
                case rel => exact ⟨i + 1, by omega, by go_num, _, by rw [HON.out]; exact HPUT.out⟩
                case measure => simp [intOf]; omega
            | false =>
              rcases hoc with ⟨rfl, ho⟩ | ⟨k, r, rfl, ho, hr, ht, hu⟩
              · have hon : applyR ltT R rev (l.take (i + 1)) = withR ltT ⟨⟨mo, mr, mu⟩, rev, 0⟩ L := HTK.out.trans ((oneR_none ho).trans (if_neg (by decide)))
                have HON := Lib.hid hon
                have HW := Lib.hid (show ∀ V, Below wr.heap.size wr V → Calls Tryz.prog 43 #[.slice va L.length vc, .agg #[.string mo, .string mr, .string mu, .int .i64 rev, .int .i64 0]] V fun e w' => ∃ v, e = .returned v ∧ OutR V w' v (withR ltT ⟨⟨mo, mr, mu⟩, rev, 0⟩ L) from fun V hV => rwith_any (c := vc) (HRQ.out.below hV) (by have := HLL.out; omega) (⟨⟨mo, mr, mu⟩, rev, 0⟩ : Rw))
                have HRF := Lib.hid HRQ.out.fits
                have HCC := Lib.hid (show ∀ V, Below wr.heap.size wr V → V.cell? ⟨q0, 0, none⟩ = some (.slice va L.length vc) ∧ V.frozen? ⟨q0, 0, none⟩ = false from fun V hV => by
                  have hx := HSQ.out.x0.kept (hV.block _ HSQ.out.x0.lt)
                  exact ⟨by rw [HQ.out, hx.cell]; rfl, by rw [HQ.out]; exact hx.free 0⟩)
                obtain ⟨d0, d1⟩ := HCC.out wr.drew (below_drew1 wr)
                obtain ⟨_, e1, e2, e3⟩ := HMC.out wr.drew (bell_up HSQ.out.bel (below_drew1 wr))
                simp only at e1 e2 e3
                clear hon ho
                go_upto_region 18 with fail
                go_region_law (first
                  | (go_simp; go_at_call 43; with_reducible refine (HW.out _ (below_drew1 wr)).mono ?_
                     rintro e5 w5 ⟨v5, rfl, ho5⟩
                     obtain ⟨va5, vc5, rfl, _, _⟩ := owned_anyE ho5.row
                     have hb5 := bell_up (below_drew1 wr) ho5.below
                     obtain ⟨p0, p1⟩ := HCC.out w5 hb5
                     have HPUT := Lib.hid (HSQ.out.put (R' := withR ltT ⟨⟨mo, mr, mu⟩, rev, 0⟩ L) HX.out hb5 (own_lower ho5.row (Nat.le_refl _)) (withR_all (p := fun x => x.t.fits) HRF.out HMF.out))
                     clear ho5 hb5))
                all_goals
                  go_wp2
                  go_roundw
                  case rel => exact ⟨i + 1, by omega, by go_num, _, by rw [HON.out, HQ.out]; exact HPUT.out⟩
                  case measure => simp [intOf]; omega
              · have hon : applyR ltT R rev (l.take (i + 1)) = L := HTK.out.trans ((oneR_some ho hr ht).trans (if_neg (by decide)))
                have HON := Lib.hid hon
                have hk0 : ¬ (k : Int) < 0 := by omega
                clear hon ho hr ht hu
                go_wp2
                go_roundw
                case rel => exact ⟨i + 1, by omega, by go_num, _, by rw [HON.out]; exact HSQ.out⟩
                case measure => simp [intOf]; omega
      · obtain rfl : i = n := by omega
        have htn : l.take i = l := by rw [← HLN.out, List.take_length]
        rw [htn] at hS
        obtain ⟨va, vc, rfl, _⟩ := hS.dr.slice
        have x0 : wr.cell? ⟨q0, 0, none⟩ = some (.slice va (applyR ltT R rev l).length vc) := by rw [HQ.out, hS.x0.cell]; rfl
        have x1 : wr.cell? ⟨q0, 1, none⟩ = some (.int .i64 wm) := by rw [HQ.out, hS.x0.cell]; rfl
        have y0 : wr.cell? ⟨q0 + 1, 0, none⟩ = some (.slice none 0 0) := by rw [HQ1.out, hS.x1.cell]; rfl
        have y1 : wr.cell? ⟨q0 + 1, 1, none⟩ = some (.int .i64 0) := by rw [HQ1.out, hS.x1.cell]; rfl
        have f0 : wr.frozen? ⟨q0 + 1, 0, none⟩ = false := by rw [HQ1.out]; exact hS.x1.free 0
        have f1 : wr.frozen? ⟨q0 + 1, 1, none⟩ = false := by rw [HQ1.out]; exact hS.x1.free 1
        obtain ⟨d1, d2, d3, d4⟩ := hS.fin
        rw [← HQ1.out] at d1 d2 d3 d4
        have HD1 := Lib.hid d1
        have HD2 := Lib.hid d2
        clear d1 d2 hS htn hlen
        go_wp2
        refine bodyPost_ret (v := .tuple #[stV (.slice va (applyR ltT R rev l).length vc) wm, .int .i64 0]) (by simp [results, Tryz.results21, go_sem, d3, d4]) rfl ⟨_, rfl, by first | exact HD1.out | (rw [if_pos rfl]; exact HD1.out), HD2.out⟩
end Go.Proofs.YtmjdngomjjhhiaaGreat
