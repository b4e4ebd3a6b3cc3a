/- The document's reading: each call in a state; tuples. -/
import Derived.Test.YteodldmbnghfcaaGreatCD1
import Derived.Test.YteodldmbnghfcaaGreatCD0
import Derived.Deep.MidRow
import Derived.OrdersHeld
namespace Go.Proofs.YteodldmbnghfcaaGreat
open Go.RowKit

def sV (s : St) : Value := srcV (strOfNums s.1) s.2
theorem num_st (s : St) (hs : StOk s) (w : World) : Calls Tryz.prog 58 #[sV s] w fun e w' => e = .returned (.tuple #[.int .i64 (rst rnum 0 s).1, sV (rst rnum 0 s).2]) ∧ Below w.heap.size w w' := by
  obtain ⟨xs, c⟩ := s
  by_cases h : c = 0
  · subst h
    refine (dnum_any xs w hs.1 hs.2).mono ?_
    rintro e w' ⟨⟨x, l, hr, rfl⟩ | ⟨c, v, hr, rfl, rfl⟩, hb⟩
    · rw [rst_ok hr]; exact ⟨rfl, hb⟩
    · rw [rst_bad hr]; exact ⟨rfl, hb⟩
  · rw [rst_no _ _ h]
    exact dnum_pass _ c h w
theorem count_st (most : Int) (s : St) (hs : StOk s) (w : World) : Calls Tryz.prog 60 #[sV s, .int .i64 most] w fun e w' => e = .returned (.tuple #[.int .i64 (rst (rcount most) 0 s).1, sV (rst (rcount most) 0 s).2]) ∧ Below w.heap.size w w' := by
  obtain ⟨xs, c⟩ := s
  by_cases h : c = 0
  · subst h
    refine (dcount_any xs most w hs.1 hs.2).mono ?_
    rintro e w' ⟨⟨x, l, hr, rfl⟩ | ⟨c, v, hr, rfl, rfl⟩, hb⟩
    · rw [rst_ok hr]; exact ⟨rfl, hb⟩
    · rw [rst_bad hr]; exact ⟨rfl, hb⟩
  · rw [rst_no _ _ h]
    exact dcount_pass _ c h most w
theorem text_st (s : St) (hs : StOk s) (w : World) : Calls Tryz.prog 70 #[sV s] w fun e w' => e = .returned (.tuple #[.string (strOfNums (rst rtext [] s).1), sV (rst rtext [] s).2]) ∧ Below w.heap.size w w' := by
  obtain ⟨xs, c⟩ := s
  by_cases h : c = 0
  · subst h
    refine (dtext_any xs w hs.1 hs.2).mono ?_
    rintro e w' ⟨⟨x, l, hr, rfl⟩ | ⟨c, v, hr, rfl, rfl⟩, hb⟩
    · rw [rst_ok hr]; exact ⟨rfl, hb⟩
    · rw [rst_bad hr]; exact ⟨rfl, hb⟩
  · rw [rst_no _ _ h]
    exact dtext_pass _ c h w
theorem flag_st (s : St) (hs : StOk s) (w : World) : Calls Tryz.prog 59 #[sV s] w fun e w' => e = .returned (.tuple #[.bool (rst rtruth false s).1, sV (rst rtruth false s).2]) ∧ Below w.heap.size w w' := by
  obtain ⟨xs, c⟩ := s
  by_cases h : c = 0
  · subst h
    refine (dflag_any xs w hs.1 hs.2).mono ?_
    rintro e w' ⟨⟨x, l, hr, rfl⟩ | ⟨c, v, hr, rfl, rfl⟩, hb⟩
    · rw [rst_ok hr]; exact ⟨rfl, hb⟩
    · rw [rst_bad hr]; exact ⟨rfl, hb⟩
  · rw [rst_no _ _ h]
    exact dflag_pass _ c h w
theorem res_cc {P : Program} {fn : Func} {p q : Tmp} {ty tz : TypeId} (h : fn.results = #[.cell p ty, .cell q tz]) (tmps : Array Value) (w : World) (g k : Nat) (t u : TypeId) (cs ds : Array Value) (d d2 : TypeDesc)
    (hp : tmps.getD p undef = .pointer (some ⟨g, 0, none⟩)) (hq : tmps.getD q undef = .pointer (some ⟨k, 0, none⟩)) (hg : Whole w g t cs) (hk : Whole w k u ds)
    (hu : P.underlying ty = some d) (hd : (match d with | .struct _ | .array _ _ => true | _ => false) = true) (hi : (P.info? ty).map (·.size) = some cs.size)
    (hu2 : P.underlying tz = some d2) (hd2 : (match d2 with | .struct _ | .array _ _ => true | _ => false) = true) (hi2 : (P.info? tz).map (·.size) = some ds.size) :
    (results fn tmps).run P w = .ok (.tuple #[.agg cs, .agg ds]) w := by
  have hp' : tmps[p]?.getD undef = .pointer (some ⟨g, 0, none⟩) := by simpa using hp
  have hq' : tmps[q]?.getD undef = .pointer (some ⟨k, 0, none⟩) := by simpa using hq
  simp [results, h, hp', hq', asAddr, run_loadVar_row w g t ty cs (0, 0) d hg hu hd hi, run_loadVar_row w k u tz ds (0, 0) d2 hk hu2 hd2 hi2]
theorem Tryz.infoTup : (Tryz.prog.info? 114).map (·.size) = some 3 := by kernel_rfl
theorem tup_put {W : World} {b : Nat} {a0 a1 a2 : Value} (h : Whole W b 114 #[a0, a1, a2]) (x y z : ByteArray) : Whole (((W.setCell ⟨b, 0, none⟩ (.string x)).setCell ⟨b, 1, none⟩ (.string y)).setCell ⟨b, 2, none⟩ (.string z)) b 114 #[.string x, .string y, .string z] := ((h.store 0 _).store 1 _).store 2 _
theorem there_all {W : World} {b : Nat} {t : TypeId} {cs : Array Value} (h : Whole W b t cs) : W.there b 0 cs.size := fun j hj => ⟨by rw [h.cell, Nat.zero_add, Array.getElem?_eq_getElem hj]; rfl, h.free _⟩
theorem keep2 {W : World} {k b : Nat} {t : TypeId} {cs : Array Value} (h : Whole W k t cs) (hb : k ≠ b) (u v : Value) : Whole ((W.setCell ⟨b, 0, none⟩ u).setCell ⟨b, 1, none⟩ v) k t cs := (h.kept (Below.heap_setCell W ⟨b, 0, none⟩ u k hb)).kept (Below.heap_setCell _ ⟨b, 1, none⟩ v k hb)
theorem keep1 {W : World} {k b : Nat} {t : TypeId} {cs : Array Value} (h : Whole W k t cs) (hb : k ≠ b) (i : Nat) (u : Value) : Whole (W.setCell ⟨b, i, none⟩ u) k t cs := h.kept (Below.heap_setCell W ⟨b, i, none⟩ u k hb)
set_option maxRecDepth 100000 in
set_option maxHeartbeats 4000000 in
theorem tuple_raw (S0 S1 S2 S3 A1 A2 A3 : ByteArray) (c0 c1 c2 c3 : Int) (w : World)
    (h1 : ∀ W, Calls Tryz.prog 70 #[.agg #[.string S0, .int .i64 c0]] W fun e w' => e = .returned (.tuple #[.string A1, .agg #[.string S1, .int .i64 c1]]) ∧ Below W.heap.size W w')
    (h2 : ∀ W, Calls Tryz.prog 70 #[.agg #[.string S1, .int .i64 c1]] W fun e w' => e = .returned (.tuple #[.string A2, .agg #[.string S2, .int .i64 c2]]) ∧ Below W.heap.size W w')
    (h3 : ∀ W, Calls Tryz.prog 70 #[.agg #[.string S2, .int .i64 c2]] W fun e w' => e = .returned (.tuple #[.string A3, .agg #[.string S3, .int .i64 c3]]) ∧ Below W.heap.size W w') :
    Calls Tryz.prog 61 #[.agg #[.string S0, .int .i64 c0]] w fun e w' => e = .returned (.tuple #[.agg #[.string A1, .string A2, .string A3], .agg #[.string S3, .int .i64 c3]]) ∧ Below w.heap.size w w' := by
  obtain ⟨X, hX, hwX, hbX⟩ := boxc w 126 #[.string S0, .int .i64 c0]
  obtain ⟨Y, hY, hwY, hbY⟩ := boxc X 114 #[.string ⟨#[]⟩, .string ⟨#[]⟩, .string ⟨#[]⟩]
  obtain ⟨Z, hZ, hwZ, hbZ⟩ := boxc Y 126 #[.string ⟨#[]⟩, .int .i64 0]
  obtain ⟨V, hV, hwV, hbV⟩ := boxc Z 114 #[.string ⟨#[]⟩, .string ⟨#[]⟩, .string ⟨#[]⟩]
  have hsX : X.heap.size = w.heap.size + 1 := by rw [hX]; exact Array.size_push _
  have hsY : Y.heap.size = w.heap.size + 1 + 1 := by rw [hY, ← hsX]; exact Array.size_push _
  have hsZ : Z.heap.size = w.heap.size + 1 + 1 + 1 := by rw [hZ, ← hsY]; exact Array.size_push _
  rw [hsX] at hwY
  rw [hsY] at hwZ
  rw [hsZ] at hwV
  have HP := Lib.hid (((hwX.kept (hbY.block _ hwX.lt)).kept (hbZ.block _ (Nat.lt_of_lt_of_le hwX.lt hbY.size))).kept (hbV.block _ (Nat.lt_of_lt_of_le (Nat.lt_of_lt_of_le hwX.lt hbY.size) hbZ.size)))
  have HA := Lib.hid ((hwY.kept (hbZ.block _ hwY.lt)).kept (hbV.block _ (Nat.lt_of_lt_of_le hwY.lt hbZ.size)))
  have HS := Lib.hid (hwZ.kept (hbV.block _ hwZ.lt))
  have HT := Lib.hid hwV
  have HB := Lib.hid (bell_upc (bell_upc (bell_upc hbX hbY) hbZ) hbV)
  have HSZ := Lib.hid hsZ
  clear hwX hwY hwZ hwV hbX hbY hbZ hbV hsX hsY
  have H1 := Lib.hid h1
  have H2 := Lib.hid h2
  have H3 := Lib.hid h3
  clear h1 h2 h3
  go_enter Tryz.func61, Tryz.ntmps61
  go_upto_region 2 with fail
  rw [← hX, ← hY, ← hZ, ← hV]
  clear hX hY hZ hV hsZ HSZ
  have p0 := HP.out.cell 0
  have p1 := HP.out.cell 1
  go_wp2_with fail
  refine (H1.out V).mono ?_
  rintro e w1 ⟨rfl, hb1⟩
  clear p0 p1
  have HPa := Lib.hid (HP.out.kept (hb1.block _ HP.out.lt))
  have HAa := Lib.hid (HA.out.kept (hb1.block _ HA.out.lt))
  have HSa := Lib.hid (HS.out.kept (hb1.block _ HS.out.lt))
  have HTa := Lib.hid (HT.out.kept (hb1.block _ HT.out.lt))
  have HBa := Lib.hid (bell_upc HB.out hb1)
  clear HP HA HS HT HB hb1 H1
  have t0 := HTa.out.cell 0
  have u0 := HTa.out.free 0
  have p0 := (keep1 HPa.out (b := w.heap.size + 1 + 1 + 1) (by omega) 0 (.string A1)).cell 0
  have p1 := (keep1 HPa.out (b := w.heap.size + 1 + 1 + 1) (by omega) 0 (.string A1)).cell 1
  have r0 := HPa.out.cell 0
  have r1 := HPa.out.cell 1
  have q0 := HPa.out.free 0
  have q1 := HPa.out.free 1
  have HP1 := Lib.hid (src_put (keep1 HPa.out (b := w.heap.size + 1 + 1 + 1) (by omega) 0 (.string A1)) S1 c1)
  have HA1 := Lib.hid (keep2 (keep1 HAa.out (b := w.heap.size + 1 + 1 + 1) (by omega) 0 (.string A1)) (b := w.heap.size) (by omega) (.string S1) (.int .i64 c1))
  have HS1 := Lib.hid (keep2 (keep1 HSa.out (b := w.heap.size + 1 + 1 + 1) (by omega) 0 (.string A1)) (b := w.heap.size) (by omega) (.string S1) (.int .i64 c1))
  have HT1 := Lib.hid (keep2 (HTa.out.store 0 (.string A1)) (b := w.heap.size) (by omega) (.string S1) (.int .i64 c1))
  have HB1 := Lib.hid (src_below (show Below w.heap.size w (w1.setCell ⟨w.heap.size + 1 + 1 + 1, 0, none⟩ (.string A1)) from HBa.out.setCell (p := ⟨w.heap.size + 1 + 1 + 1, 0, none⟩) (by show w.heap.size ≤ w.heap.size + 1 + 1 + 1; omega) (.string A1)) (Nat.le_refl _) S1 c1)
  go_upto_region 3 with fail
  clear t0 u0 p0 p1 q0 q1 r0 r1 HPa HAa HSa HTa HBa
  generalize World.setCell (World.setCell (World.setCell w1 _ _) _ _) _ _ = V1 at *
  have p0 := HP1.out.cell 0
  have p1 := HP1.out.cell 1
  go_wp2_with fail
  refine (H2.out V1).mono ?_
  rintro e w2 ⟨rfl, hb2⟩
  clear p0 p1
  have HPa := Lib.hid (HP1.out.kept (hb2.block _ HP1.out.lt))
  have HAa := Lib.hid (HA1.out.kept (hb2.block _ HA1.out.lt))
  have HSa := Lib.hid (HS1.out.kept (hb2.block _ HS1.out.lt))
  have HTa := Lib.hid (HT1.out.kept (hb2.block _ HT1.out.lt))
  have HBa := Lib.hid (bell_upc HB1.out hb2)
  clear HP1 HA1 HS1 HT1 HB1 hb2 H2
  have t0 := HTa.out.cell 1
  have u0 := HTa.out.free 1
  have p0 := (keep1 HPa.out (b := w.heap.size + 1 + 1 + 1) (by omega) 1 (.string A2)).cell 0
  have p1 := (keep1 HPa.out (b := w.heap.size + 1 + 1 + 1) (by omega) 1 (.string A2)).cell 1
  have r0 := HPa.out.cell 0
  have r1 := HPa.out.cell 1
  have q0 := HPa.out.free 0
  have q1 := HPa.out.free 1
  have HP2 := Lib.hid (src_put (keep1 HPa.out (b := w.heap.size + 1 + 1 + 1) (by omega) 1 (.string A2)) S2 c2)
  have HA2 := Lib.hid (keep2 (keep1 HAa.out (b := w.heap.size + 1 + 1 + 1) (by omega) 1 (.string A2)) (b := w.heap.size) (by omega) (.string S2) (.int .i64 c2))
  have HS2 := Lib.hid (keep2 (keep1 HSa.out (b := w.heap.size + 1 + 1 + 1) (by omega) 1 (.string A2)) (b := w.heap.size) (by omega) (.string S2) (.int .i64 c2))
  have HT2 := Lib.hid (keep2 (HTa.out.store 1 (.string A2)) (b := w.heap.size) (by omega) (.string S2) (.int .i64 c2))
  have HB2 := Lib.hid (src_below (show Below w.heap.size w (w2.setCell ⟨w.heap.size + 1 + 1 + 1, 1, none⟩ (.string A2)) from HBa.out.setCell (p := ⟨w.heap.size + 1 + 1 + 1, 1, none⟩) (by show w.heap.size ≤ w.heap.size + 1 + 1 + 1; omega) (.string A2)) (Nat.le_refl _) S2 c2)
  go_upto_region 4 with fail
  clear t0 u0 p0 p1 q0 q1 r0 r1 HPa HAa HSa HTa HBa
  generalize World.setCell (World.setCell (World.setCell w2 _ _) _ _) _ _ = V2 at *
  have p0 := HP2.out.cell 0
  have p1 := HP2.out.cell 1
  go_wp2_with fail
  refine (H3.out V2).mono ?_
  rintro e w3 ⟨rfl, hb3⟩
  clear p0 p1
  have HPa := Lib.hid (HP2.out.kept (hb3.block _ HP2.out.lt))
  have HAa := Lib.hid (HA2.out.kept (hb3.block _ HA2.out.lt))
  have HSa := Lib.hid (HS2.out.kept (hb3.block _ HS2.out.lt))
  have HTa := Lib.hid (HT2.out.kept (hb3.block _ HT2.out.lt))
  have HBa := Lib.hid (bell_upc HB2.out hb3)
  clear HP2 HA2 HS2 HT2 HB2 hb3 H3
  have t0 := HTa.out.cell 2
  have u0 := HTa.out.free 2
  have p0 := (keep1 HPa.out (b := w.heap.size + 1 + 1 + 1) (by omega) 2 (.string A3)).cell 0
  have p1 := (keep1 HPa.out (b := w.heap.size + 1 + 1 + 1) (by omega) 2 (.string A3)).cell 1
  have r0 := HPa.out.cell 0
  have r1 := HPa.out.cell 1
  have q0 := HPa.out.free 0
  have q1 := HPa.out.free 1
  have HP3 := Lib.hid (src_put (keep1 HPa.out (b := w.heap.size + 1 + 1 + 1) (by omega) 2 (.string A3)) S3 c3)
  have HA3 := Lib.hid (keep2 (keep1 HAa.out (b := w.heap.size + 1 + 1 + 1) (by omega) 2 (.string A3)) (b := w.heap.size) (by omega) (.string S3) (.int .i64 c3))
  have HS3 := Lib.hid (keep2 (keep1 HSa.out (b := w.heap.size + 1 + 1 + 1) (by omega) 2 (.string A3)) (b := w.heap.size) (by omega) (.string S3) (.int .i64 c3))
  have HT3 := Lib.hid (keep2 (HTa.out.store 2 (.string A3)) (b := w.heap.size) (by omega) (.string S3) (.int .i64 c3))
  have HB3 := Lib.hid (src_below (show Below w.heap.size w (w3.setCell ⟨w.heap.size + 1 + 1 + 1, 2, none⟩ (.string A3)) from HBa.out.setCell (p := ⟨w.heap.size + 1 + 1 + 1, 2, none⟩) (by show w.heap.size ≤ w.heap.size + 1 + 1 + 1; omega) (.string A3)) (Nat.le_refl _) S3 c3)
  go_upto_region 5 with fail
  clear t0 u0 p0 p1 q0 q1 r0 r1 HPa HAa HSa HTa HBa
  generalize World.setCell (World.setCell (World.setCell w3 _ _) _ _) _ _ = V3 at *
  obtain ⟨wd, hwd, hbd⟩ : ∃ wd, wd = V3.drew ∧ Below V3.heap.size V3 wd := ⟨_, rfl, below_drewN V3 1⟩
  have HA9 := Lib.hid (HA3.out.kept (hbd.block _ HA3.out.lt))
  have HS9 := Lib.hid (HS3.out.kept (hbd.block _ HS3.out.lt))
  have HP9 := Lib.hid (HP3.out.kept (hbd.block _ HP3.out.lt))
  have HT9 := Lib.hid (HT3.out.kept (hbd.block _ HT3.out.lt))
  have HB9 := Lib.hid (bell_upc HB3.out hbd)
  have htt : wd.there (w.heap.size + 1) 0 3 := there_all HA9.out
  have HTH := Lib.hid (show wd.there (w.heap.size + 1) 0 #[Value.string A1, .string A2, .string A3].size from htt)
  clear htt
  have HSt := Lib.hid (keep1 (keep1 (keep1 HS9.out (b := w.heap.size + 1) (by omega) 0 (.string A1)) (b := w.heap.size + 1) (by omega) 1 (.string A2)) (b := w.heap.size + 1) (by omega) 2 (.string A3))
  have HPt := Lib.hid (keep1 (keep1 (keep1 HP9.out (b := w.heap.size + 1) (by omega) 0 (.string A1)) (b := w.heap.size + 1) (by omega) 1 (.string A2)) (b := w.heap.size + 1) (by omega) 2 (.string A3))
  have HTt := Lib.hid (keep1 (keep1 (keep1 HT9.out (b := w.heap.size + 1) (by omega) 0 (.string A1)) (b := w.heap.size + 1) (by omega) 1 (.string A2)) (b := w.heap.size + 1) (by omega) 2 (.string A3))
  have HAt := Lib.hid (tup_put HA9.out A1 A2 A3)
  have HBt := Lib.hid (show Below w.heap.size w (((wd.setCell ⟨w.heap.size + 1, 0, none⟩ (.string A1)).setCell ⟨w.heap.size + 1, 1, none⟩ (.string A2)).setCell ⟨w.heap.size + 1, 2, none⟩ (.string A3)) from ((HB9.out.setCell (p := ⟨w.heap.size + 1, 0, none⟩) (Nat.le_succ _) _).setCell (p := ⟨w.heap.size + 1, 1, none⟩) (Nat.le_succ _) _).setCell (p := ⟨w.heap.size + 1, 2, none⟩) (Nat.le_succ _) _)
  have hS0 : Whole wd w.heap.size 126 #[.string S3, .int .i64 c3] ∧ Whole wd (w.heap.size + 1 + 1 + 1) 114 #[.string A1, .string A2, .string A3] := ⟨HP9.out, HT9.out⟩
  clear hbd
  subst hwd
  refine wp_region_held_drew (S := fun V : World => Whole V w.heap.size 126 #[.string S3, .int .i64 c3] ∧ Whole V (w.heap.size + 1 + 1 + 1) 114 #[.string A1, .string A2, .string A3]) (by kernel_rfl) (hS0) (fun hHeld => ?_)
  refine wpAnyH_take (i := 0) (oi := { dst := Option.some 24, op := Go.Op.load 114 (Go.Operand.tmp 4), type := 114, pos := "ref.go:117", after := #[], guard := Option.none }) (v := ?_) rfl (by kernel_rfl) (by kernel_rfl) (by kernel_rfl) (fun _ _ _ h => h) (Or.inl ⟨by rfl, ?_⟩) (by assumption) ?_
  rotate_left
  · intro V hV; (try dsimp only at hV); obtain ⟨hV1, hV2⟩ := hV; have t0 := hV2.cell 0; have t1 := hV2.cell 1; have t2 := hV2.cell 2; go_simp; all_goals (with_reducible rfl)
  try simp only [Act.put, List.setIfInBounds_toArray, List.set_cons_zero, List.set_cons_succ]
  refine wpAnyH_take (i := 1) (oi := { dst := Option.some 25, op := Go.Op.load 126 (Go.Operand.tmp 1), type := 126, pos := "ref.go:117", after := #[{ on := 2, ground := Go.Ground.gcOnly Go.Departure.lateStores }], guard := Option.none }) (v := ?_) rfl (by kernel_rfl) (by kernel_rfl) (by kernel_rfl) (fun _ _ _ h => h) (Or.inl ⟨by rfl, ?_⟩) (by assumption) ?_
  rotate_left
  · intro V hV; (try dsimp only at hV); obtain ⟨hV1, hV2⟩ := hV; have p0 := hV1.cell 0; have p1 := hV1.cell 1; go_simp; all_goals (with_reducible rfl)
  try simp only [Act.put, List.setIfInBounds_toArray, List.set_cons_zero, List.set_cons_succ]
  refine wpAnyH_ready (rs := [2]) (by kernel_rfl) (by simp) ?_
  refine AllReadyH.cons (o := { dst := Option.none, op := Go.Op.store 114 (Go.Operand.tmp 2) (Go.Operand.tmp 24), type := 0, pos := "ref.go:117", after := #[{ on := 0, ground := Go.Ground.data }, { on := 0, ground := Go.Ground.phase }, { on := 1, ground := Go.Ground.textOnly Go.Departure.lateStores }], guard := Option.none }) rfl (fun K hK => ?_) (AllReadyH.nil)
  refine wp_store_mid 114 (.tmp 2) (.tmp 24) rfl (w.heap.size + 1) 0 #[.string A1, .string A2, .string A3] rfl rfl HTH.out Tryz.infoTup (by simp [Value.oneCell']) ?_
  change K _ (((V3.drew.setCell ⟨w.heap.size + 1, 0, none⟩ (.string A1)).setCell ⟨w.heap.size + 1, 1, none⟩ (.string A2)).setCell ⟨w.heap.size + 1, 2, none⟩ (.string A3))
  generalize World.setCell (World.setCell (World.setCell V3.drew _ _) _ _) _ _ = V9 at *
  refine hK.out _ _ (⟨HPt.out, HTt.out⟩) (fun hHeld => ?_)
  clear hK K
  try simp only [Act.put]
  refine wpAnyH_ready (rs := [3]) (by kernel_rfl) (by simp) ?_
  refine AllReadyH.cons (o := { dst := Option.none, op := Go.Op.store 126 (Go.Operand.tmp 3) (Go.Operand.tmp 25), type := 0, pos := "ref.go:117", after := #[{ on := 1, ground := Go.Ground.data }, { on := 2, ground := Go.Ground.chain }, { on := 0, ground := Go.Ground.phase }, { on := 1, ground := Go.Ground.phase }, { on := 2, ground := Go.Ground.phase }], guard := Option.none }) rfl (fun K hK => ?_) (AllReadyH.nil)
  have s0 := HSt.out.cell 0
  have s1 := HSt.out.cell 1
  have y0 := HSt.out.free 0
  have y1 := HSt.out.free 1
  go_simp
  refine hK.out _ _ (⟨keep2 HPt.out (b := w.heap.size + 1 + 1) (by omega) (.string S3) (.int .i64 c3), keep2 HTt.out (b := w.heap.size + 1 + 1) (by omega) (.string S3) (.int .i64 c3)⟩) (fun hHeld => ?_)
  clear hK K
  try simp only [Act.put]
  refine wpAnyH_done (by kernel_rfl) ?_ _
  have HAf := Lib.hid (keep2 HAt.out (b := w.heap.size + 1 + 1) (by omega) (.string S3) (.int .i64 c3))
  have HSf := Lib.hid (src_put HSt.out S3 c3)
  clear hHeld hS0
  go_wp2
  refine bodyPost_ret (v := .tuple #[.agg #[.string A1, .string A2, .string A3], .agg #[.string S3, .int .i64 c3]]) (res_cc Tryz.results61 _ _ (w.heap.size + 1) (w.heap.size + 1 + 1) 114 126 _ _ _ _ rfl rfl HAf.out HSf.out Tryz.underlying114 rfl Tryz.infoTup Tryz.underlying126 rfl Tryz.infoSrc) rfl ⟨rfl, src_below HBt.out (by omega) _ _⟩
theorem tup_st (s : St) (hs : StOk s) (w : World) : Calls Tryz.prog 61 #[sV s] w fun e w' => e = .returned (.tuple #[txV (tst s).1, sV (tst s).2]) ∧ Below w.heap.size w w' :=
  tuple_raw _ _ _ _ _ _ _ _ _ _ _ w (text_st s hs) (text_st _ (hs.rst suf_text [])) (text_st _ ((hs.rst suf_text []).rst suf_text []))
end Go.Proofs.YteodldmbnghfcaaGreat
