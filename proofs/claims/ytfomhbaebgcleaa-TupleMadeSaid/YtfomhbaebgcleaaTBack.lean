/- TupleBack: what is written is read again; the first wrong one's error counts. -/
import Derived.Test.YtfomhbaebgcleaaTFacts
namespace Go.Proofs.Ytfomhbaebgcleaa
open Go.RowKit

theorem take_snoc {α : Type} {l : List α} {i : Nat} {x : α} (h : l[i]? = some x) : l.take (i + 1) = l.take i ++ [x] := by
  obtain ⟨hi, rfl⟩ := List.getElem?_eq_some_iff.1 h
  exact List.take_succ_eq_append_getElem hi
abbrev Bx (W : World) (g : Nat) (x y z : ByteArray) : Prop := W.cell? ⟨g, 0, none⟩ = some (.string x) ∧ W.cell? ⟨g, 1, none⟩ = some (.string y) ∧ W.cell? ⟨g, 2, none⟩ = some (.string z)
theorem bx_below {W W' : World} {g : Nat} {x y z : ByteArray} (h : Bx W g x y z) (hb : Below W.heap.size W W') : Bx W' g x y z := by
  have hl := World.block_lt_of_cell? W ⟨g, 0, none⟩ h.1
  exact ⟨(hb.cell (p := ⟨g, 0, none⟩) hl).trans h.1, (hb.cell (p := ⟨g, 1, none⟩) hl).trans h.2.1, (hb.cell (p := ⟨g, 2, none⟩) hl).trans h.2.2⟩
theorem bx_new (W : World) (x y z : ByteArray) (t : TypeId) (fr : Nat × Nat) : Bx (W.alloc (.cells #[.string x, .string y, .string z] t fr)) W.heap.size x y z :=
  ⟨by rw [new_cell]; rfl, by rw [new_cell]; rfl, by rw [new_cell]; rfl⟩

/-- What the law's second half comes to, from the loop on. -/
def Half (w : World) (Q : Exit → Act → World → Prop) : Prop := ∀ a V, Below w.heap.size w V → Q .ret a V
theorem below_both {w V V' : World} (h : Below w.heap.size w V) (hb : Below V.heap.size V V') : Below w.heap.size w V' := h.trans (hb.mono h.size)
theorem below_alloc2 {w V : World} (h : Below w.heap.size w V) (o : Obj) : Below w.heap.size w (V.alloc o) := below_both h (below_alloc V o)

set_option maxHeartbeats 2000000 in
set_option maxRecDepth 100000 in
theorem back_walk (x y z s : ByteArray) (a : Option Addr) (n c : Nat) (w : World) (ht : Tp.small (x, y, z)) (hs : s.size ≤ 140737488351232) (hl : ∃ ts, TupsAt w a n ts) (hn : n ≤ 9223372036854775806) :
    Calls Try.prog 4 #[.agg #[.string x, .string y, .string z], .string s, .slice a n c] w fun e w' => e = .returned (.bool true) ∧ Below w.heap.size w w' := by
  obtain ⟨ts, hts⟩ := hl
  have hf := ht.fits
  have hps := prn_size x y z
  have ht1 := ht.1
  have ht2 := ht.2.1
  have ht3 := ht.2.2
  simp only at ht1 ht2 ht3
  have HA := Lib.hid (fun w => awake_any w)
  have HR := Lib.hid (fun w => print_any x y z w hf.1 hf.2.1 hf.2.2)
  have HP := Lib.hid (fun w => parse_any (prn x y z) w (by omega))
  have HC := Lib.hid (fun w a h => check_any a 1 1 [(x, y, z)] w h (by omega))
  have HT := Lib.hid (fun w fr t => tups_one w x y z fr hf.1 hf.2.1 hf.2.2 t)
  rw [tupsE_one, show Tp.e (x, y, z) = tupE x y z from rfl] at HC
  have hgood := fun h => @parse_print x y z h
  have HS := Lib.hid (fun w => parse_any s w (by omega))
  have hq := @print_parse s
  have hq0 := @parse_none s
  have hsz : prsE s = 0 → (prsA s).size ≤ 140737488351232 ∧ (prsB s).size ≤ 140737488351232 ∧ (prsC s).size ≤ 140737488351232 := fun h => by
    have h2 := congrArg ByteArray.size (hq h)
    rw [prn_size] at h2
    omega
  have HR2 := Lib.hid (fun (h : prsE s = 0) w => print_any (prsA s) (prsB s) (prsC s) w (by have := hsz h; omega) (by have := hsz h; omega) (by have := hsz h; omega))
  have HL := Lib.hid hts
  clear ht hf hps ht1 ht2 ht3 hs hts hsz
  unfold TupV at HR HP HS HR2
  generalize prsA (prn x y z) = pa at *
  generalize prsB (prn x y z) = pb at *
  generalize prsC (prn x y z) = pc at *
  generalize prsE (prn x y z) = pe at *
  generalize prn x y z = pt at *
  generalize tupE x y z = te at *
  have HG := Lib.hid hgood
  have HQ := Lib.hid hq
  have HQ0 := Lib.hid hq0
  clear hgood hq hq0
  generalize prsA s = sa at *
  generalize prsB s = sb at *
  generalize prsC s = sc at *
  generalize prsE s = se at *
  have HB0 := Lib.hid (below_alloc w (.cells #[.string x, .string y, .string z] 23))
  have HX0 := Lib.hid (bx_new w x y z 23 (0, 0))
  obtain ⟨g0, hg0⟩ : ∃ g0, g0 = w.heap.size := ⟨_, rfl⟩
  have HG0 := Lib.hid hg0
  go_enter Try.func4, Try.ntmps4
  rw [← hg0] at HX0
  clear hg0
  go_wp2_with fail
  refine (HA.out _).mono ?_
  rintro e w1 ⟨rfl, hb1⟩
  have HX1 := Lib.hid (bx_below HX0.out hb1)
  have HB1 := Lib.hid (below_both HB0.out hb1)
  rw [← HG0.out]
  clear hb1 HX0 HB0
  obtain ⟨c0, c1, c2⟩ := HX1.out
  go_wp2_with fail
  refine (HR.out _).mono ?_
  rintro e w2 ⟨rfl, hb2⟩
  have HX2 := Lib.hid (bx_below HX1.out hb2)
  have HB2 := Lib.hid (below_both HB1.out hb2)
  clear hb2 HX1 HB1 c0 c1 c2
  go_wp2_with fail
  refine (HP.out _).mono ?_
  rintro e w3 ⟨rfl, hb3⟩
  have HX3 := Lib.hid (bx_below (bx_below HX2.out hb3) (below_alloc w3 (.cells #[.string pa, .string pb, .string pc] 23)))
  have HY3 := Lib.hid (bx_new w3 pa pb pc 23 (0, 0))
  have HB3 := Lib.hid (below_alloc2 (below_both HB2.out hb3) (.cells #[.string pa, .string pb, .string pc] 23))
  clear hb3 HX2 HB2
  obtain ⟨c0, c1, c2⟩ := HX3.out
  go_wp2_with fail
  have e3 : (w3.alloc (.cells #[.string pa, .string pb, .string pc] 23)).heap.size = w3.heap.size + 1 := by simp
  have htt := HT.out (w3.alloc (.cells #[.string pa, .string pb, .string pc] 23)) (0, 0) 23
  rw [e3] at htt
  refine (HC.out _ _ htt).mono ?_
  clear htt
  rintro e w4 ⟨rfl, hb4⟩
  have hal := below_alloc (w3.alloc (.cells #[.string pa, .string pb, .string pc] 23)) (.cells #[.string x, .string y, .string z] 23)
  have HX4 := Lib.hid (bx_below (bx_below HX3.out hal) hb4)
  have HY4 := Lib.hid (bx_below (bx_below HY3.out hal) hb4)
  have HB4 := Lib.hid (below_both (below_both HB3.out hal) hb4)
  clear hb4 HX3 HY3 HB3 c0 c1 c2 e3 hal
  generalize w3.heap.size = g3 at *
  obtain ⟨c0, c1, c2⟩ := HX4.out
  obtain ⟨d0, d1, d2⟩ := HY4.out
  have hcase : (te = 0 ∧ pe = 0 ∧ pa = x ∧ pb = y ∧ pc = z) ∨ te ≠ 0 := by
    by_cases h : te = 0
    · exact .inl ⟨h, HG.out h⟩
    · exact .inr h
  have q1 : (x.toList == x.toList) = true := by simp
  have q2 : (y.toList == y.toList) = true := by simp
  have q3 : (z.toList == z.toList) = true := by simp
  have hs4 : (se = 0 ∧ prn sa sb sc = s) ∨ (se ≠ 0 ∧ sa = ByteArray.empty ∧ sb = ByteArray.empty ∧ sc = ByteArray.empty) := by
    by_cases h : se = 0
    · exact .inl ⟨h, HQ.out h⟩
    · exact .inr ⟨h, HQ0.out h⟩
  have HS4 := Lib.hid hs4
  have hss : (s.toList == s.toList) = true := by simp
  have HSS := Lib.hid hss
  clear hs4 hss HG
  rcases hcase with ⟨rfl, rfl, rfl, rfl, rfl⟩ | hte
  all_goals
    go_wp2_with fail
    refine (HS.out _).mono ?_
    rintro e w5 ⟨rfl, hb5⟩
    have HB5 := Lib.hid (below_alloc2 (below_both HB4.out hb5) (.cells #[.string sa, .string sb, .string sc] 23))
    have HY5 := Lib.hid (bx_new w5 sa sb sc 23 (0, 0))
    clear hb5 c0 c1 c2 d0 d1 d2
    obtain ⟨d0, d1, d2⟩ := HY5.out
    rcases HS4.out with ⟨hse, hpr⟩ | ⟨hse, rfl, rfl, rfl⟩
    · subst hse
      have hrr := HR2.out rfl
      rw [hpr] at hrr
      have HRR := Lib.hid hrr
      clear hrr hpr
      go_wp2_with fail
      refine (HRR.out _).mono ?_
      rintro e w6 ⟨rfl, hb6⟩
      have HB6 := Lib.hid (below_both HB5.out hb6)
      have hss := HSS.out
      clear hb6 d0 d1 d2
      go_wp2_with fail
      clear hss q1 q2 q3
      have HBB := HB6
      go_loopw [11, 59] (fun wv iv wr => ∃ (i : Nat) (r : Int), i ≤ n ∧ iv = .int .i64 i ∧ wv = .int .i64 r ∧ r = tupsE (ts.take i) ∧ Below w.heap.size w wr) (fun _ iv _ => n - (intOf iv).toNat)
      case atStart => exact ⟨0, 0, by omega, rfl, rfl, rfl, HBB.out⟩
      case round =>
        obtain ⟨i, r, hin, rfl, rfl, hr, hbl⟩ := hrel
        by_cases hil : i < n
        · obtain ⟨hlen, hfit, hcell⟩ := HL.out
          obtain ⟨b, off, rfl, hbB, hcc⟩ := hcell.resolve_left (by omega)
          obtain ⟨t, hti⟩ : ∃ t, ts[i]? = some t := ⟨_, List.getElem?_eq_getElem (show i < ts.length by rw [hlen]; exact hil)⟩
          obtain ⟨z0, z1, z2⟩ := hcc i t hti
          have hfi := hfit t (List.mem_of_getElem? hti)
          have k0 := (hbl.cell (p := ⟨b, off + i * 3, none⟩) hbB).trans z0
          have k1 := (hbl.cell (p := ⟨b, off + i * 3 + 1, none⟩) hbB).trans z1
          have k2 := (hbl.cell (p := ⟨b, off + i * 3 + 2, none⟩) hbB).trans z2
          have hsn : tupsE (ts.take (i + 1)) = if r = 0 then t.e else r := by
            rw [hr, ← tupsE_snoc, ← take_snoc hti]
          obtain ⟨x', y', z'⟩ := t
          simp only at k0 k1 k2
          have HSN := Lib.hid hsn
          have HBL := Lib.hid hbl
          have hsz := hbl.size
          have HC2 := Lib.hid (fun w a h => check_any a 1 1 [(x', y', z')] w h (by omega))
          rw [tupsE_one] at HC2
          have HT2 := Lib.hid (fun w fr t => tups_one w x' y' z' fr hfi.1 hfi.2.1 hfi.2.2 t)
          clear hlen hfit hcell hcc z0 z1 z2 hfi hsn hbl hr hti
          generalize Tp.e (x', y', z') = te' at *
          by_cases hr0 : r = 0
          · subst hr0
            go_wp2_with fail
            have e3 : (wr.alloc (.cells #[.string x', .string y', .string z'] 23)).heap.size = wr.heap.size + 1 := by simp
            have htt := HT2.out (wr.alloc (.cells #[.string x', .string y', .string z'] 23)) (0, 0) 23
            rw [e3] at htt
            refine (HC2.out _ _ htt).mono ?_
            clear htt e3
            rintro e w8 ⟨rfl, hb8⟩
            have HB8 := Lib.hid (below_both (below_alloc2 (below_alloc2 HBL.out (.cells #[.string x', .string y', .string z'] 23)) (.cells #[.string x', .string y', .string z'] 23)) hb8)
            clear hb8 k0 k1 k2
            go_wp2
            go_roundw
            case rel => exact ⟨i + 1, _, by omega, by go_num, rfl, (by rw [HSN.out]; simp), HB8.out⟩
            case measure => simp [intOf]; omega
          · have HB8 := Lib.hid (below_alloc2 HBL.out (.cells #[.string x', .string y', .string z'] 23))
            go_wp2
            go_roundw
            case rel => exact ⟨i + 1, r, by omega, by go_num, rfl, (by rw [HSN.out, if_neg hr0]), HB8.out⟩
            case measure => simp [intOf]; omega
        · have hin' : i = n := by omega
          have hre : r = tupsE ts := by rw [hr, hin', List.take_of_length_le (by rw [HL.out.1]; exact Nat.le_refl _)]
          have HK := Lib.hid (check_any a n c ts wr (HL.out.below hbl) hn)
          rw [← hre] at HK
          have HBL := Lib.hid hbl
          clear hre hr hbl hin'
          go_wp2_with fail
          refine HK.out.mono ?_
          rintro e w9 ⟨rfl, hb9⟩
          have HB9 := Lib.hid (below_both HBL.out hb9)
          clear hb9
          go_wp2
          go_ret
          exact ⟨rfl, HB9.out⟩
    · go_wp2_with fail
      clear q1 q2 q3 d0 d1 d2
      have HBB := HB5
      go_loopw [11, 59] (fun wv iv wr => ∃ (i : Nat) (r : Int), i ≤ n ∧ iv = .int .i64 i ∧ wv = .int .i64 r ∧ r = tupsE (ts.take i) ∧ Below w.heap.size w wr) (fun _ iv _ => n - (intOf iv).toNat)
      case atStart => exact ⟨0, 0, by omega, rfl, rfl, rfl, HBB.out⟩
      case round =>
        obtain ⟨i, r, hin, rfl, rfl, hr, hbl⟩ := hrel
        by_cases hil : i < n
        · obtain ⟨hlen, hfit, hcell⟩ := HL.out
          obtain ⟨b, off, rfl, hbB, hcc⟩ := hcell.resolve_left (by omega)
          obtain ⟨t, hti⟩ : ∃ t, ts[i]? = some t := ⟨_, List.getElem?_eq_getElem (show i < ts.length by rw [hlen]; exact hil)⟩
          obtain ⟨z0, z1, z2⟩ := hcc i t hti
          have hfi := hfit t (List.mem_of_getElem? hti)
          have k0 := (hbl.cell (p := ⟨b, off + i * 3, none⟩) hbB).trans z0
          have k1 := (hbl.cell (p := ⟨b, off + i * 3 + 1, none⟩) hbB).trans z1
          have k2 := (hbl.cell (p := ⟨b, off + i * 3 + 2, none⟩) hbB).trans z2
          have hsn : tupsE (ts.take (i + 1)) = if r = 0 then t.e else r := by
            rw [hr, ← tupsE_snoc, ← take_snoc hti]
          obtain ⟨x', y', z'⟩ := t
          simp only at k0 k1 k2
          have HSN := Lib.hid hsn
          have HBL := Lib.hid hbl
          have hsz := hbl.size
          have HC2 := Lib.hid (fun w a h => check_any a 1 1 [(x', y', z')] w h (by omega))
          rw [tupsE_one] at HC2
          have HT2 := Lib.hid (fun w fr t => tups_one w x' y' z' fr hfi.1 hfi.2.1 hfi.2.2 t)
          clear hlen hfit hcell hcc z0 z1 z2 hfi hsn hbl hr hti
          generalize Tp.e (x', y', z') = te' at *
          by_cases hr0 : r = 0
          · subst hr0
            go_wp2_with fail
            have e3 : (wr.alloc (.cells #[.string x', .string y', .string z'] 23)).heap.size = wr.heap.size + 1 := by simp
            have htt := HT2.out (wr.alloc (.cells #[.string x', .string y', .string z'] 23)) (0, 0) 23
            rw [e3] at htt
            refine (HC2.out _ _ htt).mono ?_
            clear htt e3
            rintro e w8 ⟨rfl, hb8⟩
            have HB8 := Lib.hid (below_both (below_alloc2 (below_alloc2 HBL.out (.cells #[.string x', .string y', .string z'] 23)) (.cells #[.string x', .string y', .string z'] 23)) hb8)
            clear hb8 k0 k1 k2
            go_wp2
            go_roundw
            case rel => exact ⟨i + 1, _, by omega, by go_num, rfl, (by rw [HSN.out]; simp), HB8.out⟩
            case measure => simp [intOf]; omega
          · have HB8 := Lib.hid (below_alloc2 HBL.out (.cells #[.string x', .string y', .string z'] 23))
            go_wp2
            go_roundw
            case rel => exact ⟨i + 1, r, by omega, by go_num, rfl, (by rw [HSN.out, if_neg hr0]), HB8.out⟩
            case measure => simp [intOf]; omega
        · have hin' : i = n := by omega
          have hre : r = tupsE ts := by rw [hr, hin', List.take_of_length_le (by rw [HL.out.1]; exact Nat.le_refl _)]
          have HK := Lib.hid (check_any a n c ts wr (HL.out.below hbl) hn)
          rw [← hre] at HK
          have HBL := Lib.hid hbl
          clear hre hr hbl hin'
          go_wp2_with fail
          refine HK.out.mono ?_
          rintro e w9 ⟨rfl, hb9⟩
          have HB9 := Lib.hid (below_both HBL.out hb9)
          clear hb9
          go_wp2
          go_ret
          exact ⟨rfl, HB9.out⟩
end Go.Proofs.Ytfomhbaebgcleaa
