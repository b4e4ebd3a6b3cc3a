/- NetKeeps: what is handed in is left as it was and not kept. -/
import Derived.Test.YthijageehpoleaaNK0
namespace Go.Proofs.Ythijageehpoleaa
open Go.RowKit

set_option maxRecDepth 100000 in
set_option maxHeartbeats 16000000 in
theorem keeps_walk (a : Option Addr) (len cap : Nat) (zs : List Int) (bit : Int) (w : World) (hw : IsRow .u8 w a len cap zs) (hlen : cap ≤ 140737488351232) (hbit : bit ≤ 9223372036854775807) :
    Calls Try.prog 4 #[.slice a len cap, .int .i64 bit] w fun e w' => e = .returned (.bool true) ∧ Below w.heap.size w w' := by
  obtain ⟨i0, hi0, hz0, hz1, hz2⟩ := info_of Try.infoB
  obtain ⟨hisb, hnil, hroom, hbig⟩ := hw.isB
  generalize zs.take len = bs at *
  have hbl : bs.length = len := hisb.1
  have hbr := hisb.2.1
  have HI := Lib.hid hisb
  have HII := Lib.hid (fun (W : World) (hb : Below w.heap.size w W) => hisb.below hb)
  have HA := Lib.hid (awake_any w)
  have hbs := empty_bytes
  clear hw hisb
  go_enter Try.func4, Try.ntmps4
  go_wp2_with fail
  refine HA.out.mono ?_
  rintro e w1 ⟨rfl, hb1⟩
  have HB1 := Lib.hid hb1
  have HNW := Lib.hid (new_good 1 w1 (by decide) (by decide))
  clear hb1 HA
  go_wp2_with fail
  refine HNW.out.mono ?_
  rintro e w2 ⟨rfl, hN2, hb2⟩
  have HN2 := Lib.hid hN2
  have HB2 := Lib.hid (HB1.out.trans (hb2.mono HB1.out.size))
  have hg2 : w1.heap.size ≤ w2.heap.size := hb2.size
  have hwg : w.heap.size ≤ w1.heap.size := HB1.out.size
  clear hN2 hb2 HNW HB1
  generalize w1.heap.size = g at *
  have HE0 := Lib.hid (show (w2.alloc (.cells #[] 5)).ownsRow w2.heap.size 5 1 (.slice (some ⟨w2.heap.size, 0, none⟩) 0 0) 0 [] from World.ownsRow_made (base := w2.heap.size) (size := 1) (e := 5) w2 #[] 0 (Nat.le_refl _) (by simp [maxLen]) rfl)
  have HIA := Lib.hid (HI.out.ext (fun b o v hb hc => ((HB2.out.trans ((below_alloc w2 (.cells #[] 5)).mono HB2.out.size)).cell (p := ⟨b, o, none⟩) hb).trans hc))
  go_wp2_with (first
    | (at_builtin; (refine wpList_append_at_any _ rfl (.tmp 24) (.tmp 25) 30 rfl w2.heap.size 5 i0 (.int .u8 0) 1 1 Try.underlying30 hi0 hz0 hz1 hz2 rfl (by decide) _ 0 [] rfl HE0.out a len cap (bs.map (Value.int .u8)) rfl (by simp [hbl]) hnil HIA.out.news (oneCell_map _) (by unfold maxLen; omega) (by omega) (by simp) ?_); intro v3 w3 hown3 hgrow3 hat3
       have hown : PkAt w3 w2.heap.size ⟨0, 0, v3, bs⟩ := ⟨by simpa [hbl] using hown3, hbr, by simp only [hbl]; omega⟩
       have hb3 : Below w2.heap.size w2 w3 := ((Below.refl _ _).alloc (Nat.le_refl _) _).grown hgrow3 (by simp) (by rintro q hq; injection hq with hq; rw [← hq]; exact Nat.le_refl _)
       obtain ⟨ma, mc, hmv, hmin⟩ := hown.in_
       simp only at hmv hmin
       subst hmv
       have HO3 := Lib.hid hown; have HB3 := Lib.hid hb3; have HM3 := Lib.hid hmin
       clear hown3 hgrow3 hat3 hown hb3 hmin)
    | (go_at_call 10; rw [show len = bs.length from hbl.symm]; refine (send_ok 0 0 w3 (HN2.out.below HB3.out) HM3.out (by decide) (by decide) (by decide) (by decide) (by decide) (by have := HB3.out.size; omega)).mono ?_; rintro e w4 ⟨rfl, u1, v4, hN4, hc4, _, hu1⟩; have HN4 := Lib.hid hN4; have HC4 := Lib.hid hc4; have HU1 := Lib.hid hu1; clear hN4 hc4 hu1)
    | fail)
  have hN3 := HN2.out.below HB3.out
  have hz3 := HB3.out.size
  have hb4 : Below w.heap.size w w4 := (HB2.out.trans (HB3.out.mono (by omega))).trans ((hN3.up (by omega) HC4.out).mono hwg)
  have HO4 := Lib.hid (HO3.out.chg hN3 HC4.out)
  have hz4 := HC4.out.size
  have HCP := Lib.hid (copy_ok (i := 0) (p := ⟨0, 0, u1, bs⟩) w4 HN4.out rfl (by simp) (by simp) (by simp) (by simp) (by simp) (by omega))
  have HB4 := Lib.hid hb4
  have HM3b := Lib.hid (fun q (hq : (Value.slice ma len mc).ownBlock = some q) => show q < w3.heap.size by
    rw [← hbl] at hq
    obtain ⟨_, cur, hW⟩ := HO3.out.block hq
    exact hW.lt)
  clear hN3 hb4 HI HIA HE0
  go_wp2_with fail
  refine HCP.out.mono ?_
  rintro e w5 ⟨rfl, u2, v5, hN5, hc5, _, hu2⟩
  have hz5 := hc5.size
  have hK5 : KP w w5 g v5 [⟨0, 0, u1, bs⟩, ⟨0, 0, u2, bs⟩] w2.heap.size (.slice ma len mc) len bs := by
    refine ⟨hN5, ?_, hbl, HB4.out.trans ((HN4.out.up (by omega) hc5).mono hwg), by omega, fun p hp q hq hq2 => ?_⟩
    · have := HO4.out.chg HN4.out hc5
      rwa [hbl] at this
    · have h3 := HM3b.out q hq2
      simp at hp
      rcases hp with rfl | rfl
      · have := HU1.out q hq; omega
      · have := hu2 q hq; omega
  have HK5 := Lib.hid hK5
  have HBL := Lib.hid hbl
  have hbb : bs.length ≤ 140737488351232 := by omega
  clear hbl hN5 hc5 hu2 hK5 HCP HN4 HC4 HU1 HO3 HO4 HM3 HB3 HN2 HB2 HB4
  go_wp2_with fail
  go_loopw [39] (fun iv wr => ∃ (i : Nat) (ys : List Int), i ≤ len ∧ iv = .int .i64 i ∧ KP w wr g v5 [⟨0, 0, u1, bs⟩, ⟨0, 0, u2, bs⟩] w2.heap.size (.slice ma len mc) len ys) (fun iv _ => len - (intOf iv).toNat)
  case atStart => exact ⟨0, bs, by omega, by go_num, HK5.out⟩
  case round =>
    clear HK5
    obtain ⟨i, ys, hi, rfl, hK⟩ := hrel
    have HK := Lib.hid hK
    by_cases hil : i < len
    · obtain ⟨mk, x, rfl, hx, hxr, d0, f0, _, hW⟩ := hK.shape hil
      have HW := Lib.hid hW
      clear hK hW hx
      go_wp2
      go_roundw
      case rel => exact ⟨i + 1, _, by omega, by go_num, HK.out.put HW.out (by omega)⟩
      case measure => simp [intOf]; omega
    · clear hK
      obtain ⟨wp, hwp⟩ : ∃ wp, wp = wr := ⟨_, rfl⟩
      subst hwp
      have HPK := Lib.hid (packets_any wp HK.out.net (by simp))
      go_wp2_with fail
      refine HPK.out.mono ?_
      rintro e w6 ⟨⟨v6, qs, rfl, hO6, hk6⟩, hb6⟩
      obtain ⟨qv, qw, rfl⟩ := two_of hk6
      have hq0 := hO6.pks ⟨0, 0, qv, bs⟩ (by simp)
      obtain ⟨qa, qc, hqv, _⟩ := hq0.isb
      simp only at hqv
      subst hqv
      obtain ⟨la, lc, rfl, _⟩ := hO6.row.lies
      obtain ⟨lq, rfl, hlq, hR6⟩ := hO6.row.rowAt rfl (by simp)
      have hK6 : KP w w6 g v5 [⟨0, 0, u1, bs⟩, ⟨0, 0, u2, bs⟩] wp.heap.size (.slice qa bs.length qc) bs.length bs := by
        refine ⟨HK.out.net.below hb6, hq0, rfl, HK.out.below.trans (hb6.mono HK.out.below.size), HK.out.below.size, fun p hp q hq hq2 => ?_⟩
        obtain ⟨_, cur, hW⟩ := (HK.out.net.pks p hp).block hq
        have h1 := hW.lt
        have h2 := (hq0.block hq2).1
        omega
      have HK6 := Lib.hid hK6
      have HR6 := Lib.hid hR6
      have hcell : w6.cell? ⟨lq, 2, none⟩ = some (.slice qa bs.length qc) := by simpa using (hR6.cells (i := 0) rfl).1.2.2
      clear hK6 hR6 hq0 hO6 hb6 hk6 HPK HK
      go_wp2_with fail
      go_loopw [56] (fun iv wq => ∃ (j : Nat) (ys : List Int), j ≤ bs.length ∧ iv = .int .i64 j ∧ KP w wq g v5 [⟨0, 0, u1, bs⟩, ⟨0, 0, u2, bs⟩] wp.heap.size (.slice qa bs.length qc) bs.length ys ∧ RowAt wq lq 2 lc [⟨0, 0, .slice qa bs.length qc, bs⟩, ⟨0, 0, qw, bs⟩]) (fun iv _ => bs.length - (intOf iv).toNat)
      case atStart => exact ⟨0, bs, by omega, by go_num, HK6.out, HR6.out⟩
      case round =>
        clear HK6 HR6 hcell
        obtain ⟨j, ys, hj, rfl, hK, hR⟩ := hrel
        have HK := Lib.hid hK
        have HR := Lib.hid hR
        have hcell : wr.cell? ⟨lq, 2, none⟩ = some (.slice qa bs.length qc) := by simpa using (hR.cells (i := 0) rfl).1.2.2
        by_cases hjl : j < bs.length
        · obtain ⟨mk, x, rfl, hx, hxr, d0, f0, _, hW⟩ := hK.shape hjl
          have HW := Lib.hid hW
          have hne : lq ≠ mk := by
            obtain ⟨cur, hW⟩ := hW
            obtain ⟨cur2, hW2, _⟩ := hR.ex
            exact whole_ne hW2 hW (by decide)
          clear hK hR hW hx
          go_wp2
          go_roundw
          case rel => exact ⟨j + 1, _, by omega, by go_num, HK.out.put HW.out (by omega), HR.out.keep (Below.heap_setCell _ _ _ _ hne)⟩
          case measure => simp [intOf]; omega
        · clear hK hR hcell
          have hzp := HK.out.low
          have HFL := Lib.hid (flip_both bit HK.out.net hbit)
          have HBK := Lib.hid HK.out.below
          have hgl : g < wr.heap.size := HK.out.net.net.lt
          have HU2 := Lib.hid (fun q (hq : u2.ownBlock = some q) => show g ≤ q from ((HK.out.net.pks ⟨0, 0, u2, bs⟩ (by simp)).block hq).1)
          have hT : ∃ T, T = (decide (0 ≤ bit) && decide (bit.tdiv 8 < (bs.length : Int))) := ⟨_, rfl⟩
          go_wp2_with fail
          refine HFL.out.mono ?_
          rintro e w7 ⟨c7, xs2, rfl, hN7, hc7, hs7⟩
          have hb7 : Below w.heap.size w w7 := HBK.out.trans (hc7.below (fun k hk => by have := HU2.out k hk; omega) HBK.out.size)
          have hg7 : g < w7.heap.size := hN7.net.lt
          have HDL := Lib.hid (deliver_ok (i := 0) w7 hN7 rfl (by simp) (by omega))
          have HN7 := Lib.hid hN7
          have HB7 := Lib.hid hb7
          have HS7 := Lib.hid hs7
          clear hN7 hc7 hb7 hs7 HFL HK HR HBK HU2
          go_wp2_with fail
          refine HDL.out.mono ?_
          rintro e w8 ⟨rfl, v8, hN8, hp8, hc8, _⟩
          obtain ⟨pa, pk, hpv, _⟩ := hp8.isb
          simp only at hpv
          subst hpv
          obtain ⟨wA, hwA⟩ : ∃ wA, wA = w8.alloc (.cells #[.int .i64 0, .int .i64 0, .slice pa bs.length pk] 32) := ⟨_, rfl⟩
          have hbA : Below w8.heap.size w8 wA := by rw [hwA]; exact below_alloc _ _
          have hxA : Whole wA w8.heap.size 32 #[.int .i64 0, .int .i64 0, .slice pa bs.length pk] := by rw [hwA]; exact heap_alloc_new _ _
          have hbt8 : Below w.heap.size w w8 := HB7.out.trans ((HN7.out.up (by omega) hc8).mono hwg)
          have hz8 := hc8.size
          have hzA := hbA.size
          have hNA := hN8.below hbA
          have HDL2 := Lib.hid (deliver_ok (i := 0) (p := ⟨0, 0, u2, xs2⟩) wA hNA rfl (by simp) (by omega))
          have HNA := Lib.hid hNA
          have HPA := Lib.hid (hp8.below hbA)
          have HXA := Lib.hid hxA
          have HBA := Lib.hid (hbt8.trans (hbA.mono hbt8.size))
          have hv8 : v8.ownBlock ≠ some w8.heap.size := by
            intro e
            obtain ⟨_, cur, hW⟩ := hN8.row.block e
            exact absurd hW.lt (Nat.lt_irrefl _)
          have hgA : g ≠ w8.heap.size := by omega
          clear hN8 hp8 hc8 hbA hxA hbt8 hNA HDL HN7 HB7
          go_wp2_with fail
          rw [← hwA]
          clear hwA
          refine HDL2.out.mono ?_
          rintro e w9 ⟨rfl, v9, hN9, hp9, hc9, _⟩
          obtain ⟨ra, rk, hrv, hri, _⟩ := hp9.isb
          simp only at hrv
          subst hrv
          obtain ⟨wB, hwB⟩ : ∃ wB, wB = w9.alloc (.cells #[.int .i64 0, .int .i64 0, .slice ra xs2.length rk] 32) := ⟨_, rfl⟩
          have hbB : Below w9.heap.size w9 wB := by rw [hwB]; exact below_alloc _ _
          have hx9 : Whole w9 w8.heap.size 32 #[.int .i64 0, .int .i64 0, .slice pa bs.length pk] := HXA.out.kept (hc9.block _ HXA.out.lt (by
            rintro (h1 | h1)
            · exact hgA h1.symm
            · exact hv8 h1))
          have hzz := hx9.lt
          have hbt9 : Below w.heap.size w w9 := HBA.out.trans ((HNA.out.up (by omega) hc9).mono hwg)
          have HBB := Lib.hid (hbt9.trans (hbB.mono hbt9.size))
          have hp1B := ((HPA.out.chg HNA.out hc9).below hbB).isb
          obtain ⟨_, _, hpe, hp1i, _⟩ := hp1B
          simp only at hpe hp1i
          injection hpe with e1 e2 e3
          subst e1 e3
          have t1 := hp1i.str pk
          have t2 := (hri.below hbB).str rk
          have t3 : (convert 30 9 (.slice a len cap)).run Try.prog wB = .ok (.string (strOfNums bs)) wB := (HII.out wB HBB.out).str cap
          obtain ⟨⟨_, _, r2⟩, _⟩ := three_of hx9
          rw [hwB] at t1 t2 t3
          have s7 := HS7.out
          rw [HBL.out] at s7
          simp only at t2
          clear hN9 hp9 hc9 hri hx9 hbt9 hp1i HS7 HNA HPA HXA HBA HDL2 hbB
          by_cases h0 : 0 ≤ bit
          · have hb0 : decide (0 ≤ bit) = true := decide_eq_true h0
            rw [hb0, Bool.true_and, Int.tdiv_eq_ediv_of_nonneg h0] at s7
            by_cases hy : bit / 8 < (len : Int)
            · have hyd : decide (bit / 8 < (len : Int)) = true := decide_eq_true hy
              rw [hyd] at s7
              go_wp2
              go_ret
              rw [← hwB]
              exact ⟨rfl, HBB.out⟩
            · have hyd : decide (bit / 8 < (len : Int)) = false := decide_eq_false hy
              rw [hyd] at s7
              go_wp2
              go_ret
              rw [← hwB]
              exact ⟨rfl, HBB.out⟩
          · have hb0 : decide (0 ≤ bit) = false := decide_eq_false h0
            rw [hb0, Bool.false_and] at s7
            go_wp2
            go_ret
            rw [← hwB]
            exact ⟨rfl, HBB.out⟩
end Go.Proofs.Ythijageehpoleaa
