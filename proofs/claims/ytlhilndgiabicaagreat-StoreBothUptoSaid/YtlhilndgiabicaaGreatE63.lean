/- StoreBoth: the walk. -/
import Derived.Test.YtlhilndgiabicaaGreatE62
import Derived.Deep.DeepCutAuto
namespace Go.Proofs.YtlhilndgiabicaaGreat
open Go.RowKit
open Go.Maps (Keyed)

theorem alive_cases (rev : Int) (x : Rw) : (¬ x.s ≤ rev ∧ alive rev x = false) ∨ (x.s ≤ rev ∧ x.u = 0 ∧ alive rev x = true) ∨ (x.s ≤ rev ∧ x.u ≠ 0 ∧ rev < x.u ∧ alive rev x = true) ∨ (x.s ≤ rev ∧ x.u ≠ 0 ∧ ¬ rev < x.u ∧ alive rev x = false) := by
  by_cases h1 : x.s ≤ rev
  · by_cases h2 : x.u = 0
    · exact .inr (.inl ⟨h1, h2, alive_open h1 h2⟩)
    · by_cases h3 : rev < x.u
      · exact .inr (.inr (.inl ⟨h1, h2, h3, alive_late h1 h3⟩))
      · exact .inr (.inr (.inr ⟨h1, h2, h3, alive_over h2 (by omega)⟩))
  · exact .inl ⟨h1, alive_no1 h1⟩
def cons3 : List ByteArray := [⟨#[117, 115, 101, 114, 58, 97, 110, 110]⟩, ⟨#[117, 115, 101, 114, 58, 98, 111, 98]⟩, ⟨#[103, 114, 111, 117, 112, 58, 103, 35, 109, 101, 109, 98, 101, 114]⟩]
theorem cons3_nd : cons3.Nodup := by
  unfold cons3
  simp [List.nodup_cons]
theorem cons3_size : ∀ u ∈ cons3, u.size ≤ 1000000000000000000 := by
  unfold cons3
  intro u hu
  simp only [List.mem_cons, List.not_mem_nil, or_false] at hu
  rcases hu with rfl | rfl | rfl <;> decide
set_option maxRecDepth 100000 in
set_option maxHeartbeats 16000000 in
theorem both_walk (a : Option Addr) (n c : Nat) (rev : Int) (w : World) (hB : ∃ D, OpsIn w a n D) (hn : n ≤ 1048576) :
    Calls Tryz.prog 4 #[.slice a n c, .int .i64 rev] w fun e w' => e = .returned (.bool true) ∧ Below w.heap.size w w' := by
  obtain ⟨D, hD⟩ := hB
  have HD := Lib.hid (show ∀ d ∈ D, MutsAt w d.ma d.ml.length d.ml from fun d hd => (hD.ok d hd).mu)
  have HDC := Lib.hid (show ∀ i, costs D i ≤ 1048576 from fun i => Nat.le_trans (costs_le D i) hD.cost)
  have HDL := Lib.hid hD.len
  have HDA := Lib.hid hD.at_
  clear hD
  go_enter Tryz.func4, Tryz.ntmps4
  go_upto_region 1 with fail
  go_wp2_with fail
  refine (awake_any w).mono ?_
  rintro _ w1 ⟨rfl, hb1⟩
  have HB1 := Lib.hid hb1
  clear hb1
  go_wp2_with fail
  refine (new_st w1).mono ?_
  rintro _ w3 ⟨rfl, hs3, hb3⟩
  have HO3 := Lib.hid (fun b (hb : (Gh.new w1.heap.size).own b) => (Gh.new_own hb).1)
  obtain ⟨H1, hH1⟩ : ∃ H1, H1 = Gh.new w1.heap.size := ⟨_, rfl⟩
  rw [← hH1] at hs3 HO3 ⊢
  clear hH1
  obtain ⟨g1, hg1⟩ : ∃ g1, g1 = H1.g := ⟨_, rfl⟩
  have HT3 := Lib.hid (show ∃ M H, One w w3 g1 M H (5 * costs D 0) ∧ M.tot ≤ costs D 0 from
    ⟨SM.empty, H1, ⟨hs3.mono (by omega), hg1.symm, fun b hb => Nat.le_trans HB1.out.size (HO3.out b hb), bell_up HB1.out hb3⟩, by rw [SM.empty_tot]; omega⟩)
  rw [← hg1]
  clear hs3 hb3 hg1 HB1 HO3
  go_wp2_with fail
  go_loopw [35] (fun iv wr => ∃ (i : Nat), i ≤ n ∧ iv = .int .i64 i ∧ ∃ M H, One w wr g1 M H (5 * costs D i) ∧ M.tot ≤ costs D i) (fun iv _ => n - (intOf iv).toNat)
  case atStart => exact ⟨0, by omega, rfl, HT3.out⟩
  case round =>
    clear HT3
    obtain ⟨i, hin, rfl, M, H, htw, htt⟩ := hrel
    by_cases hil : i < n
    · obtain ⟨b, off, rfl, hbB, hcc⟩ := HDA.out.resolve_left (by omega)
      obtain ⟨d, hdi⟩ : ∃ d, D[i]? = some d := ⟨_, List.getElem?_eq_getElem (by rw [HDL.out]; exact hil)⟩
      have hcell : ∀ (j : Nat) (u : Value), d.vals[j]? = some u → wr.cell? ⟨b, off + i * 8 + j, none⟩ = some u := fun j u hu => (htw.bel.cell (p := ⟨b, off + i * 8 + j, none⟩) hbB).trans (hcc i d hdi j u hu)
      have hmu := HD.out d (List.mem_of_getElem? hdi)
      have hnx := costs_next hdi
      have hc1 := HDC.out (i + 1)
      obtain ⟨dk, drev, dma, dml, dmc, dra, drl, drc, doa, dol, doc, dt⟩ := d
      have hcd : dml.length ≤ OpD.cost ⟨dk, drev, dma, dml, dmc, dra, drl, drc, doa, dol, doc, dt⟩ := by unfold OpD.cost; simp only; omega
      have y0 : wr.cell? ⟨b, off + i * 8, none⟩ = some (.int .i64 dk) := hcell 0 _ rfl
      have y1 : wr.cell? ⟨b, off + i * 8 + 1, none⟩ = some (.int .i64 drev) := hcell 1 _ rfl
      have y2 : wr.cell? ⟨b, off + i * 8 + 2, none⟩ = some (.slice dma dml.length dmc) := hcell 2 _ rfl
      have y3 : wr.cell? ⟨b, off + i * 8 + 3, none⟩ = some (.slice dra drl.length drc) := hcell 3 _ rfl
      have y4 : wr.cell? ⟨b, off + i * 8 + 4, none⟩ = some (.slice doa dol.length doc) := hcell 4 _ rfl
      have y5 : wr.cell? ⟨b, off + i * 8 + 5, none⟩ = some (.string dt.o) := hcell 5 _ rfl
      have y6 : wr.cell? ⟨b, off + i * 8 + 6, none⟩ = some (.string dt.r) := hcell 6 _ rfl
      have y7 : wr.cell? ⟨b, off + i * 8 + 7, none⟩ = some (.string dt.u) := hcell 7 _ rfl
      obtain ⟨w4, hw4⟩ : ∃ w4, w4 = wr.alloc (.cells #[.int .i64 dk, .int .i64 drev, .slice dma dml.length dmc, .slice dra drl.length drc, .slice doa dol.length doc, .string dt.o, .string dt.r, .string dt.u] 34) := ⟨_, rfl⟩
      have h4 : Whole w4 wr.heap.size 34 #[.int .i64 dk, .int .i64 drev, .slice dma dml.length dmc, .slice dra drl.length drc, .slice doa dol.length doc, .string dt.o, .string dt.r, .string dt.u] := by rw [hw4]; exact heap_alloc_new _ _
      have hb4 : Below wr.heap.size wr w4 := by rw [hw4]; exact below_alloc _ _
      have ht4 := htw.below hb4
      have d2 : w4.cell? ⟨wr.heap.size, 2, none⟩ = some (.slice dma dml.length dmc) := by rw [h4.cell]; rfl
      have HAP := Lib.hid (ht4.apply hmu dmc ((i : Int) + 1) (by simp only; omega))
      have HNX := Lib.hid (show costs D i + dml.length ≤ costs D (i + 1) by omega)
      have HTT := Lib.hid htt
      have HOK := Lib.hid htw.a.ok
      have hil2 : (i : Int) < (n : Int) := by omega
      have hi4 : i ≤ 1048576 := by omega
      clear hcc hdi hcell hmu hnx hc1 hcd h4 hb4 ht4 htw htt hbB
      go_upto_region 7 with fail
      rw [← hw4]
      clear hw4 y0 y1 y2 y3 y4 y5 y6 y7
      go_wp2_with fail
      refine HAP.out.mono ?_
      rintro _ w5 ⟨rfl, H5, ht5⟩
      have HN := Lib.hid (show ∃ M H, One w w5 g1 M H (5 * costs D (i + 1)) ∧ M.tot ≤ costs D (i + 1) from
        ⟨_, _, ht5.mono (by have := HNX.out; omega), Nat.le_trans (SM.tried_tot HOK.out _ _ _) (by have := HTT.out; have := HNX.out; omega)⟩)
      clear ht5 d2 HAP
      go_wp2
      go_roundw
      case rel => exact ⟨i + 1, by omega, by go_num, HN.out⟩
      case measure => simp [intOf]; omega
    · obtain rfl : i = n := by omega
      have hcn := HDC.out i
      have HT := Lib.hid (show One w wr g1 M H 1099511627000 from htw.mono (by omega))
      have HTT := Lib.hid (show M.tot ≤ 1048576 by omega)
      clear htw htt hcn HD HDC HDL HDA
      by_cases h0 : rev < 0
      · have HBD := Lib.hid (HT.out.bad (o := ⟨#[100, 111, 99, 58, 97]⟩) (r := ⟨#[118, 105, 101, 119, 101, 114]⟩) (by omega) (by decide) (by decide) h0)
        go_wp2_with fail
        refine HBD.out.mono ?_
        rintro _ w5 ⟨v, rfl, hb5⟩
        have HB5 := Lib.hid (bell_up HT.out.bel hb5)
        clear hb5 HBD
        go_wp2
        go_ret
        exact ⟨rfl, HB5.out⟩
      · have HRA := Lib.hid (HT.out.rows (by omega) (by have := HTT.out; omega))
        go_wp2_with fail
        refine HRA.out.mono ?_
        rintro _ w3 ⟨v3, R, rfl, hp3, hl3, hr3, hb3⟩
        obtain ⟨ra, rc, rfl, _, _⟩ := owned_anyE hr3
        have HRL := Lib.hid (show R.length ≤ 1048576 by rw [hl3]; exact HTT.out)
        have HP3 := Lib.hid hp3
        have HT3 := Lib.hid (HT.out.below hb3)
        have HR3 := Lib.hid hr3
        have HFR := Lib.hid (fits_of HT3.out.a hp3)
        have HOK := Lib.hid HT3.out.a.ok
        clear hp3 hl3 hr3 hb3 HRA HT
        go_wp2_with fail
        go_loopw [10, 60] (fun nv iv wr => ∃ p : Nat, p ≤ R.length ∧ iv = .int .i64 p ∧ nv = .int .i64 (lives rev (R.take p)).length ∧ Below w3.heap.size w3 wr) (fun _ iv _ => R.length - (intOf iv).toNat)
        case atStart => exact ⟨0, by omega, rfl, by simp [lives], Below.refl _ _⟩
        case round =>
          obtain ⟨p, hp, rfl, rfl, hbr⟩ := hrel
          by_cases hpl : p < R.length
          · obtain ⟨x, hx⟩ : ∃ x, R[p]? = some x := ⟨_, List.getElem?_eq_getElem hpl⟩
            obtain ⟨b, c', he, hbb, hcc⟩ := own_cells HR3.out (by omega)
            injection he with e1 e2 e3
            subst e1
            clear e2 e3
            obtain ⟨k0, k1, k2, k3, k4⟩ := rwc_at hx
            have x0 : wr.cell? ⟨b, 0 + p * 5, none⟩ = some (.string x.t.o) := by rw [Nat.zero_add]; exact (hbr.cell (p := ⟨b, p * 5, none⟩) hbb).trans (hcc _ _ k0)
            have x1 : wr.cell? ⟨b, 0 + p * 5 + 1, none⟩ = some (.string x.t.r) := by rw [Nat.zero_add]; exact (hbr.cell (p := ⟨b, p * 5 + 1, none⟩) hbb).trans (hcc _ _ k1)
            have x2 : wr.cell? ⟨b, 0 + p * 5 + 2, none⟩ = some (.string x.t.u) := by rw [Nat.zero_add]; exact (hbr.cell (p := ⟨b, p * 5 + 2, none⟩) hbb).trans (hcc _ _ k2)
            have x3 : wr.cell? ⟨b, 0 + p * 5 + 3, none⟩ = some (.int .i64 x.s) := by rw [Nat.zero_add]; exact (hbr.cell (p := ⟨b, p * 5 + 3, none⟩) hbb).trans (hcc _ _ k3)
            have x4 : wr.cell? ⟨b, 0 + p * 5 + 4, none⟩ = some (.int .i64 x.u) := by rw [Nat.zero_add]; exact (hbr.cell (p := ⟨b, p * 5 + 4, none⟩) hbb).trans (hcc _ _ k4)
            rw [Nat.zero_add] at x0 x1 x2 x3 x4
            have hxR := List.mem_of_getElem? hx
            have HFX := Lib.hid (HFR.out x hxR)
            have HRO := Lib.hid (row_ok HOK.out HP3.out hxR)
            have HAC := Lib.hid (alive_cases rev x)
            have HLT := Lib.hid (lives_take (rev := rev) hx)
            have HLE := Lib.hid (lives_le rev R p)
            obtain ⟨⟨xo, xr, xu⟩, xs, xt⟩ := x
            simp only at x0 x1 x2 x3 x4
            obtain ⟨w4, hw4⟩ : ∃ w4, w4 = wr.alloc (.cells #[.string xo, .string xr, .string xu, .int .i64 xs, .int .i64 xt] 46) := ⟨_, rfl⟩
            have hb4 : Below wr.heap.size wr w4 := by rw [hw4]; exact below_alloc _ _
            have h4 : Whole w4 wr.heap.size 46 #[.string xo, .string xr, .string xu, .int .i64 xs, .int .i64 xt] := by rw [hw4]; exact heap_alloc_new _ _
            obtain ⟨q4, hq4⟩ : ∃ q4, q4 = wr.heap.size := ⟨_, rfl⟩
            have HT4 := Lib.hid ((HT3.out.below hbr).below hb4)
            have HB4 := Lib.hid (bell_up hbr hb4)
            rw [← hq4] at h4
            have z0 : w4.cell? ⟨q4, 0, none⟩ = some (.string xo) := by rw [h4.cell]; rfl
            have z1 : w4.cell? ⟨q4, 1, none⟩ = some (.string xr) := by rw [h4.cell]; rfl
            have z2 : w4.cell? ⟨q4, 2, none⟩ = some (.string xu) := by rw [h4.cell]; rfl
            have H4 := Lib.hid h4
            have hpz : (p : Int) < (R.length : Int) := by omega
            have hp4 : p ≤ 1048576 := by have := HRL.out; omega
            have HHS := Lib.hid (HT4.out.has (t := ⟨xo, xr, xu⟩) (by omega) (rev := rev) (by omega) HFX.out)
            generalize hNp : (lives rev (R.take p)).length = Np at *
            clear hcc k0 k1 k2 k3 k4 hx hbb hb4 h4 hxR
            go_upto_region 16 with fail
            rw [← hw4, ← hq4]
            clear hw4 hq4 x0 x1 x2 x3 x4 hbr
            go_wp2_with fail
            refine HHS.out.mono ?_
            rintro _ w5 ⟨rfl, hb5⟩
            have h5 := H4.out.kept (hb5.block _ H4.out.lt)
            have z0 : w5.cell? ⟨q4, 0, none⟩ = some (.string xo) := by rw [h5.cell]; rfl
            have z1 : w5.cell? ⟨q4, 1, none⟩ = some (.string xr) := by rw [h5.cell]; rfl
            have HT5 := Lib.hid (HT4.out.below hb5)
            have H5 := Lib.hid h5
            have HB5 := Lib.hid (bell_up HB4.out hb5)
            have HUS := Lib.hid (HT5.out.users (o := xo) (r := xr) (by omega) HFX.out.1 HFX.out.2.1 (rev := rev) (by omega))
            clear hb5 h5 HT4 HHS H4 HB4
            go_wp2_with fail
            refine HUS.out.mono ?_
            rintro _ w6 ⟨v6, ts, rfl, hu6, hr6, hb6⟩
            have h6 := H5.out.kept (hb6.block _ H5.out.lt)
            have z2 : w6.cell? ⟨q4, 2, none⟩ = some (.string xu) := by rw [h6.cell]; rfl
            obtain ⟨a6, c6, rfl, _, _⟩ := owned_anyE hr6
            have HT6 := Lib.hid (HT5.out.below hb6)
            have H6 := Lib.hid h6
            have HB6 := Lib.hid (bell_up HB5.out hb6)
            have HU6 := Lib.hid hu6
            have HR6 := Lib.hid hr6
            have HOF := Lib.hid (HT6.out.of (u := xu) (by omega) HFX.out.2.2 (rev := rev) (by omega))
            clear hb6 h6 hu6 hr6 HT5 HUS H5 HB5
            go_wp2_with fail
            refine HOF.out.mono ?_
            rintro _ w7 ⟨v7, us, rfl, hu7, hr7, hb7⟩
            have h7 := H6.out.kept (hb7.block _ H6.out.lt)
            have z0 : w7.cell? ⟨q4, 0, none⟩ = some (.string xo) := by rw [h7.cell]; rfl
            obtain ⟨a7, c7, rfl, _, _⟩ := owned_anyE hr7
            have H7 := Lib.hid h7
            have HB7 := Lib.hid (bell_up HB6.out hb7)
            have HR6 := Lib.hid (owns_keptN HR6.out (fun k hk => hb7.block k (HR6.out.lt k hk).2))
            have HR7 := Lib.hid hr7
            have htn : ts.length ≤ 1099511627776 := by
              have h1 := nd_len HU6.out.nd (fun t ht => ((HU6.out.mem t).1 ht).1)
              have h2 := HT6.out.a.raw.bigK
              omega
            have hun : us.length ≤ 1099511627776 := by
              have h1 := nd_len hu7.nd (fun t ht => ((hu7.mem t).1 ht).1)
              have h2 := HT6.out.a.raw.bigK
              omega
            have HC6 := Lib.hid (users_count HOK.out (t := ⟨xo, xr, xu⟩) HU6.out)
            have HC7 := Lib.hid (of_count HOK.out (t := ⟨xo, xr, xu⟩) hu7)
            have HLN := Lib.hid (usL_len ts)
            generalize spThere (M.sp ⟨xo, xr, xu⟩) rev = th at *
            generalize usL ts = US at *
            clear hb7 h7 hu7 hr7 HT6 HOF H6 HB6 HU6
            go_wp2_with fail
            go_loopw [19, 105] (fun cv iv wr => ∃ k : Nat, k ≤ ts.length ∧ iv = .int .i64 k ∧ cv = .int .i64 (cn xu (US.take k)) ∧ Below w7.heap.size w7 wr) (fun _ iv _ => ts.length - (intOf iv).toNat)
            case atStart => exact ⟨0, by omega, rfl, by simp [cn], Below.refl _ _⟩
            case round =>
              obtain ⟨k, hk, rfl, rfl, hbk⟩ := hrel
              by_cases hkl : k < ts.length
              · obtain ⟨s, hs⟩ : ∃ s, US[k]? = some s := ⟨_, List.getElem?_eq_getElem (by rw [HLN.out]; exact hkl)⟩
                obtain ⟨b6, rfl, hb6, hc6⟩ := usL_at (n := ts.length) (l := US) HR6.out (by omega)
                have y1 := (hbk.cell (p := ⟨b6, k, none⟩) hb6).trans (hc6 k s hs)
                have hxq := H7.out.kept (hbk.block _ H7.out.lt)
                have z2 : wr.cell? ⟨q4, 2, none⟩ = some (.string xu) := by rw [hxq.cell]; rfl
                have HCT := Lib.hid (cn_take xu hs)
                have HBK := Lib.hid hbk
                have hkz : (k : Int) < (ts.length : Int) := by omega
                have hk4 : k ≤ 1099511627776 := by omega
                have HCL := Lib.hid (cn_le xu US k)
                generalize hcn : cn xu (US.take k) = ck at *
                clear hc6 hs hb6 hxq hbk z0
                by_cases hsu : s = xu
                · have hq : (s.toList == xu.toList) = true := by rw [hsu]; simp
                  have hnx : cn xu (US.take (k + 1)) = ck + 1 := by rw [HCT.out, if_pos hsu]
                  have hck : ck ≤ 1099511627776 := by have := HCL.out; omega
                  clear hsu
                  go_wp2
                  go_roundw
                  case rel => exact ⟨k + 1, by omega, by go_num, by rw [hnx]; go_num, HBK.out⟩
                  case measure => simp [intOf]; omega
                · have hq : (s.toList == xu.toList) = false := str_ne hsu
                  have hnx : cn xu (US.take (k + 1)) = ck := by rw [HCT.out, if_neg hsu]; rfl
                  clear hsu
                  go_wp2
                  go_roundw
                  case rel => exact ⟨k + 1, by omega, by go_num, by rw [hnx], HBK.out⟩
                  case measure => simp [intOf]; omega
              · obtain rfl : k = ts.length := by omega
                have hcu : cn xu (US.take ts.length) = if th = true then 1 else 0 := by rw [← HLN.out, List.take_length]; exact HC6.out
                generalize cn xu (US.take ts.length) = nt at hcu ⊢
                have HNT := Lib.hid hcu
                have HB8 := Lib.hid (bell_up HB7.out hbk)
                have HK8 := Lib.hid (H7.out.kept (hbk.block _ H7.out.lt))
                have HR7 := Lib.hid (owns_keptN HR7.out (fun k hk => hbk.block k (HR7.out.lt k hk).2))
                clear hbk hcu HC6 HR6 HLN H7 HB7 z0
                go_wp2_with fail
                go_loopw [20, 119] (fun cv iv wq => ∃ k : Nat, k ≤ us.length ∧ iv = .int .i64 k ∧ cv = .int .i64 (cn (⟨xo, xr, xu⟩ : Tp) (us.take k)) ∧ Below wr.heap.size wr wq) (fun _ iv _ => us.length - (intOf iv).toNat)
                case atStart => exact ⟨0, by omega, rfl, by simp [cn], Below.refl _ _⟩
                case round =>
                  obtain ⟨m, hm, rfl, rfl, hbm⟩ := hrel
                  by_cases hml : m < us.length
                  · obtain ⟨⟨yo, yr, yu⟩, hs⟩ : ∃ s, us[m]? = some s := ⟨_, List.getElem?_eq_getElem hml⟩
                    obtain ⟨b7, rfl, hb7, hc7⟩ := tcs_at HR7.out (by omega)
                    obtain ⟨k0, k1, k2⟩ := hc7 m _ hs
                    have y0 := (hbm.cell (p := ⟨b7, 0 + m * 3, none⟩) hb7).trans k0
                    have y1 := (hbm.cell (p := ⟨b7, 0 + m * 3 + 1, none⟩) hb7).trans k1
                    have y2 := (hbm.cell (p := ⟨b7, 0 + m * 3 + 2, none⟩) hb7).trans k2
                    rw [Nat.zero_add] at y0 y1 y2
                    simp only at y0 y1 y2
                    obtain ⟨w9, hw9⟩ : ∃ w9, w9 = wr.alloc (.cells #[.string yo, .string yr, .string yu] 32) := ⟨_, rfl⟩
                    have hb9 : Below wr.heap.size wr w9 := by rw [hw9]; exact below_alloc _ _
                    have h9 : Whole w9 wr.heap.size 32 #[.string yo, .string yr, .string yu] := by rw [hw9]; exact heap_alloc_new _ _
                    obtain ⟨q9, hq9⟩ : ∃ q9, q9 = wr.heap.size := ⟨_, rfl⟩
                    have hxq := (HK8.out.kept (hbm.block _ HK8.out.lt)).kept (hb9.block _ (Nat.lt_of_lt_of_le HK8.out.lt hbm.size))
                    have HB9 := Lib.hid (bell_up hbm hb9)
                    rw [← hq9] at h9
                    have z0 : w9.cell? ⟨q4, 0, none⟩ = some (.string xo) := by rw [hxq.cell]; rfl
                    have z1 : w9.cell? ⟨q4, 1, none⟩ = some (.string xr) := by rw [hxq.cell]; rfl
                    have z2 : w9.cell? ⟨q4, 2, none⟩ = some (.string xu) := by rw [hxq.cell]; rfl
                    have v0 : w9.cell? ⟨q9, 0, none⟩ = some (.string yo) := by rw [h9.cell]; rfl
                    have v1 : w9.cell? ⟨q9, 1, none⟩ = some (.string yr) := by rw [h9.cell]; rfl
                    have v2 : w9.cell? ⟨q9, 2, none⟩ = some (.string yu) := by rw [h9.cell]; rfl
                    have HCT := Lib.hid (cn_take (⟨xo, xr, xu⟩ : Tp) hs)
                    have HCL := Lib.hid (cn_le (⟨xo, xr, xu⟩ : Tp) us m)
                    generalize hcn : cn (⟨xo, xr, xu⟩ : Tp) (us.take m) = ck at *
                    have hmz : (m : Int) < (us.length : Int) := by omega
                    have hm4 : m ≤ 1099511627776 := by omega
                    clear hc7 k0 k1 k2 hs hb7 hb9 h9 hxq
                    go_upto_region 31 with fail
                    rw [← hw9, ← hq9]
                    clear hw9 hq9 y0 y1 y2 hbm
                    by_cases hty : yo = xo ∧ yr = xr ∧ yu = xu
                    · obtain ⟨rfl, rfl, rfl⟩ := hty
                      have hnx : cn (⟨yo, yr, yu⟩ : Tp) (us.take (m + 1)) = ck + 1 := by rw [HCT.out, if_pos rfl]
                      have hck : ck ≤ 1099511627776 := by have := HCL.out; omega
                      have hq0 : (yo.toList == yo.toList) = true := by simp
                      have hq1 : (yr.toList == yr.toList) = true := by simp
                      have hq2 : (yu.toList == yu.toList) = true := by simp
                      go_wp2
                      go_roundw
                      case rel => exact ⟨m + 1, by omega, by go_num, by rw [hnx]; go_num, HB9.out⟩
                      case measure => simp [intOf]; omega
                    · have hne : (⟨yo, yr, yu⟩ : Tp) ≠ ⟨xo, xr, xu⟩ := fun e => hty (by injection e with e1 e2 e3; exact ⟨e1, e2, e3⟩)
                      have hnx : cn (⟨xo, xr, xu⟩ : Tp) (us.take (m + 1)) = ck := by rw [HCT.out, if_neg hne]; rfl
                      by_cases h1 : yo = xo
                      · have hq0 : (yo.toList == xo.toList) = true := by rw [h1]; simp
                        by_cases h2 : yr = xr
                        · have hq1 : (yr.toList == xr.toList) = true := by rw [h2]; simp
                          have hq2 : (yu.toList == xu.toList) = false := str_ne fun e => hty ⟨h1, h2, e⟩
                          clear h1 h2 hty hne
                          go_wp2
                          go_roundw
                          case rel => exact ⟨m + 1, by omega, by go_num, by rw [hnx], HB9.out⟩
                          case measure => simp [intOf]; omega
                        · have hq1 : (yr.toList == xr.toList) = false := str_ne h2
                          clear h1 h2 hty hne
                          go_wp2
                          go_roundw
                          case rel => exact ⟨m + 1, by omega, by go_num, by rw [hnx], HB9.out⟩
                          case measure => simp [intOf]; omega
                      · have hq0 : (yo.toList == xo.toList) = false := str_ne h1
                        clear h1 hty hne
                        go_wp2
                        go_roundw
                        case rel => exact ⟨m + 1, by omega, by go_num, by rw [hnx], HB9.out⟩
                        case measure => simp [intOf]; omega
                  · obtain rfl : m = us.length := by omega
                    have hcu : cn (⟨xo, xr, xu⟩ : Tp) (us.take us.length) = if th = true then 1 else 0 := by rw [List.take_length]; exact HC7.out
                    generalize cn (⟨xo, xr, xu⟩ : Tp) (us.take us.length) = mt at hcu ⊢
                    have hxq := HK8.out.kept (hbm.block _ HK8.out.lt)
                    have c3 : wr.cell? ⟨q4, 3, none⟩ = some (.int .i64 xs) := by rw [hxq.cell]; rfl
                    have c4 : wr.cell? ⟨q4, 4, none⟩ = some (.int .i64 xt) := by rw [hxq.cell]; rfl
                    have HBE := Lib.hid (bell_up HB8.out hbm)
                    have hnt := HNT.out
                    have hro : xt = 0 ∨ xs < xt := HRO.out.2
                    have hxs : 1 ≤ xs := HRO.out.1
                    have hac : (rev < xs ∧ alive rev ⟨⟨xo, xr, xu⟩, xs, xt⟩ = false) ∨ (xs ≤ rev ∧ xt = 0 ∧ alive rev ⟨⟨xo, xr, xu⟩, xs, xt⟩ = true) ∨ (xs ≤ rev ∧ xt ≠ 0 ∧ rev < xt ∧ alive rev ⟨⟨xo, xr, xu⟩, xs, xt⟩ = true) ∨ (xs ≤ rev ∧ xt ≠ 0 ∧ xt ≤ rev ∧ alive rev ⟨⟨xo, xr, xu⟩, xs, xt⟩ = false) := HAC.out
                    have hlx := HLT.out
                    clear HAC HLT
                    clear hxq hbm HK8 HB8 HNT HC7 HR7 HRO HFX
                    have hNp : Np ≤ 1048576 := by have := HLE.out; have := HRL.out; omega
                    cases th
                    all_goals
                      first | rw [if_neg (by decide)] at hcu hnt | rw [if_pos rfl] at hcu hnt
                      subst hcu hnt
                      rcases hac with ⟨ha1, ha⟩ | ⟨ha1, ha2, ha⟩ | ⟨ha1, ha2, ha3, ha⟩ | ⟨ha1, ha2, ha3, ha⟩
                      · rw [ha, if_neg (by decide)] at hlx
                        clear ha
                        rcases hro with hz | hz
                        · subst hz
                          go_wp2
                          go_roundw
                          case rel => exact ⟨p + 1, by omega, by go_num, by rw [hlx]; rfl, HBE.out⟩
                          case measure => simp [intOf]; omega
                        · have hz1 : xt ≠ 0 := by have := hxs; omega
                          have hz2 : ¬ xt ≤ xs := by omega
                          clear hz
                          go_wp2
                          go_roundw
                          case rel => exact ⟨p + 1, by omega, by go_num, by rw [hlx]; rfl, HBE.out⟩
                          case measure => simp [intOf]; omega
                      · rw [ha, if_pos rfl] at hlx
                        subst ha2
                        clear ha hro
                        go_wp2
                        go_roundw
                        case rel => exact ⟨p + 1, by omega, by go_num, by rw [hlx]; go_num, HBE.out⟩
                        case measure => simp [intOf]; omega
                      · rw [ha, if_pos rfl] at hlx
                        have hz2 : ¬ xt ≤ xs := by omega
                        clear ha hro
                        go_wp2
                        go_roundw
                        case rel => exact ⟨p + 1, by omega, by go_num, by rw [hlx]; go_num, HBE.out⟩
                        case measure => simp [intOf]; omega
                      · rw [ha, if_neg (by decide)] at hlx
                        have hz2 : ¬ xt ≤ xs := by omega
                        have hz3 : ¬ rev < xt := by omega
                        clear ha hro
                        go_wp2
                        go_roundw
                        case rel => exact ⟨p + 1, by omega, by go_num, by rw [hlx]; rfl, HBE.out⟩
                        case measure => simp [intOf]; omega
          · have hpe : p = R.length := by omega
            subst hpe
            have hlv : lives rev (R.take R.length) = lives rev R := by rw [List.take_length]
            rw [hlv]
            obtain ⟨w4, hw4⟩ : ∃ w4, w4 = wr.alloc (.cells #[.string ⟨#[117, 115, 101, 114, 58, 97, 110, 110]⟩, .string ⟨#[117, 115, 101, 114, 58, 98, 111, 98]⟩, .string ⟨#[103, 114, 111, 117, 112, 58, 103, 35, 109, 101, 109, 98, 101, 114]⟩] 9) := ⟨_, rfl⟩
            have hb4 : Below wr.heap.size wr w4 := by rw [hw4]; exact below_alloc _ _
            have h4 : Whole w4 wr.heap.size 9 #[.string ⟨#[117, 115, 101, 114, 58, 97, 110, 110]⟩, .string ⟨#[117, 115, 101, 114, 58, 98, 111, 98]⟩, .string ⟨#[103, 114, 111, 117, 112, 58, 103, 35, 109, 101, 109, 98, 101, 114]⟩] := by rw [hw4]; exact heap_alloc_new _ _
            obtain ⟨q4, hq4⟩ : ∃ q4, q4 = wr.heap.size := ⟨_, rfl⟩
            have HT4 := Lib.hid ((HT3.out.below hbr).below hb4)
            rw [← hq4] at h4
            have HC4 := Lib.hid (show ∀ (i : Nat) (u : ByteArray), cons3[i]? = some u → w4.cell? ⟨q4, i, none⟩ = some (.string u) from fun i u hu => by
              rw [h4.cell]
              match i, hu with
              | 0, hu => injection hu with hu; rw [← hu]; rfl
              | 1, hu => injection hu with hu; rw [← hu]; rfl
              | 2, hu => injection hu with hu; rw [← hu]; rfl)
            have HQ4 := Lib.hid h4.lt
            generalize hNp : (lives rev R).length = Np at *
            have HNP := Lib.hid hNp
            clear hb4 h4 hNp hlv HR3 HFR
            go_upto_region 43 with fail
            rw [← hw4, ← hq4]
            clear hw4 hq4 hbr
            go_loopw [25, 178] (fun cv iv wr => ∃ k : Nat, k ≤ 3 ∧ iv = .int .i64 k ∧ (∃ L : List Tp, cv = .int .i64 L.length ∧ L.Nodup ∧ ∀ t ∈ L, spThere (M.sp t) rev = true ∧ t.u ∈ cons3.take k) ∧ Below w4.heap.size w4 wr) (fun _ iv _ => 3 - (intOf iv).toNat)
            case atStart => exact ⟨0, by omega, rfl, ⟨[], rfl, List.nodup_nil, by simp⟩, Below.refl _ _⟩
            case round =>
              obtain ⟨k, hk, rfl, ⟨L, rfl, hnd, hL⟩, hbk⟩ := hrel
              by_cases hkl : k < 3
              · obtain ⟨u, hu⟩ : ∃ u, cons3[k]? = some u := ⟨_, List.getElem?_eq_getElem (by show k < 3; exact hkl)⟩
                have y1 := (hbk.cell (p := ⟨q4, k, none⟩) HQ4.out).trans (HC4.out k u hu)
                have HT5 := Lib.hid (HT4.out.below hbk)
                have HOF := Lib.hid (HT5.out.of (u := u) (by omega) (cons3_size u (List.mem_of_getElem? hu)) (rev := rev) (by omega))
                have HTK := Lib.hid (show cons3.take (k + 1) = cons3.take k ++ [u] by rw [List.take_add_one, hu]; rfl)
                have HNI := Lib.hid (show u ∉ cons3.take k from fun e => by
                  have h1 : (cons3.take k ++ [u]).Nodup := by rw [← HTK.out]; exact (List.take_sublist _ _).nodup cons3_nd
                  exact (List.nodup_append.1 h1).2.2 u e u (by simp) rfl)
                have HND := Lib.hid hnd
                have HL := Lib.hid hL
                have HBK := Lib.hid hbk
                have hkz : (k : Int) < 3 := by omega
                clear hu hnd hL hbk
                go_wp2_with fail
                refine HOF.out.mono ?_
                rintro _ w5 ⟨v5, us, rfl, hu5, hr5, hb5⟩
                obtain ⟨a5, c5, rfl, _, _⟩ := owned_anyE hr5
                have hnd2 : (L ++ us).Nodup := List.nodup_append.2 ⟨HND.out, hu5.nd, fun x hx y hy e => HNI.out (by
                  rw [← ((hu5.mem y).1 hy).2.1, ← e]
                  exact (HL.out x hx).2)⟩
                have hL2 : ∀ t ∈ L ++ us, spThere (M.sp t) rev = true ∧ t.u ∈ cons3.take (k + 1) := fun t ht => by
                  rw [HTK.out]
                  rcases List.mem_append.1 ht with h1 | h1
                  · exact ⟨(HL.out t h1).1, List.mem_append_left _ (HL.out t h1).2⟩
                  · exact ⟨((hu5.mem t).1 h1).2.2, List.mem_append_right _ (by rw [((hu5.mem t).1 h1).2.1]; simp)⟩
                have hsum : L.length + us.length ≤ 1099511627776 := by
                  have h1 := nd_len hnd2 (fun t ht => spThere_known HOK.out (hL2 t ht).1)
                  have h2 := HT5.out.a.raw.bigK
                  rw [List.length_append] at h1
                  omega
                have HN := Lib.hid (show ∃ L' : List Tp, L'.length = L.length + us.length ∧ L'.Nodup ∧ ∀ t ∈ L', spThere (M.sp t) rev = true ∧ t.u ∈ cons3.take (k + 1) from ⟨L ++ us, List.length_append, hnd2, hL2⟩)
                have HBN := Lib.hid (bell_up HBK.out hb5)
                clear hnd2 hL2 hu5 hr5 hb5 HND HL HBK HT5 HOF y1
                go_wp2
                go_roundw
                case rel =>
                  obtain ⟨L', hl, h1, h2⟩ := HN.out
                  exact ⟨k + 1, by omega, by go_num, ⟨L', by rw [hl]; go_num, h1, h2⟩, HBN.out⟩
                case measure => simp [intOf]; omega
              · have hle : L.length ≤ Np := by
                  rw [← HNP.out]
                  exact lives_bound HP3.out hnd fun t ht => (hL t ht).1
                have HBE := Lib.hid (bell_up HT4.out.bel hbk)
                have hlez : (L.length : Int) ≤ (Np : Int) := by omega
                obtain rfl : k = 3 := by omega
                clear hnd hL hbk hle
                go_wp2
                go_ret
                exact ⟨rfl, HBE.out⟩
end Go.Proofs.YtlhilndgiabicaaGreat
