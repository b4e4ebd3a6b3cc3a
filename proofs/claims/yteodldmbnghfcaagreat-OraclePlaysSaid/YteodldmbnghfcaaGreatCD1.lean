/- The document's reading: numbers, counts, texts, flags. -/
import Derived.Test.YteodldmbnghfcaaGreatCRefGb
import Derived.Laws.ResultCell
import Derived.Laws.Rows
import Derived.StillTailTactics
namespace Go.Proofs.YteodldmbnghfcaaGreat
open Go.RowKit

theorem res_tc {P : Program} {fn : Func} {p u : Tmp} {ty : TypeId} (h : fn.results = #[.tmp u, .cell p ty]) (tmps : Array Value) (w : World) (g : Nat) (t : TypeId) (cs : Array Value) (d : TypeDesc) (v : Value)
    (hp : tmps.getD p undef = .pointer (some ⟨g, 0, none⟩)) (hq : tmps.getD u undef = v) (hg : Whole w g t cs)
    (hu : P.underlying ty = some d) (hd : (match d with | .struct _ | .array _ _ => true | _ => false) = true) (hi : (P.info? ty).map (·.size) = some cs.size) :
    (results fn tmps).run P w = .ok (.tuple #[v, .agg cs]) w := by
  have hp' : tmps[p]?.getD undef = .pointer (some ⟨g, 0, none⟩) := by simpa using hp
  have hq' : tmps[u]?.getD undef = v := by simpa using hq
  simp [results, h, hp', hq', asAddr, run_loadVar_row w g t ty cs (0, 0) d hg hu hd hi]
theorem bell_upc {w W W' : World} (hb : Below w.heap.size w W) (h : Below W.heap.size W W') : Below w.heap.size w W' := hb.trans (h.mono hb.size)
theorem boxc (w : World) (t : TypeId) (cs : Array Value) : ∃ X, X = w.alloc (.cells cs t) ∧ Whole X w.heap.size t cs ∧ Below w.heap.size w X := ⟨_, rfl, heap_alloc_new w _, below_alloc w _⟩
/-- A text that is read, with its code. -/
def srcV (S : ByteArray) (c : Int) : Value := .agg #[.string S, .int .i64 c]
theorem Tryz.infoSrc : (Tryz.prog.info? 126).map (·.size) = some 2 := by kernel_rfl
/-- What a reading comes to. -/
def PD {α : Type} (w : World) (r : Except Int (α × List Int)) (val : α → Value) (bad : Value → Prop) (e : Ending) (w' : World) : Prop :=
  ((∃ x l, r = .ok (x, l) ∧ e = .returned (.tuple #[val x, srcV (strOfNums l) 0])) ∨ (∃ c v, r = .error c ∧ bad v ∧ e = .returned (.tuple #[v, srcV ⟨#[]⟩ c]))) ∧ Below w.heap.size w w'
theorem src_two (w : World) (S : ByteArray) (c : Int) : ∃ X Z, X = w.alloc (.cells #[.string S, .int .i64 c] 126) ∧ Z = X.alloc (.cells #[.string ⟨#[]⟩, .int .i64 0] 126) ∧ Whole Z w.heap.size 126 #[.string S, .int .i64 c] ∧ Whole Z (w.heap.size + 1) 126 #[.string ⟨#[]⟩, .int .i64 0] ∧ Below w.heap.size w Z := by
  obtain ⟨X, hX, hwX, hbX⟩ := boxc w 126 #[.string S, .int .i64 c]
  obtain ⟨Z, hZ, hwZ, hbZ⟩ := boxc X 126 #[.string ⟨#[]⟩, .int .i64 0]
  have hsX : X.heap.size = w.heap.size + 1 := by rw [hX]; exact Array.size_push _
  rw [hsX] at hwZ
  exact ⟨X, Z, hX, hZ, hwX.kept (hbZ.block _ hwX.lt), hwZ, bell_upc hbX hbZ⟩
theorem src_put {W : World} {b : Nat} {a0 a1 : Value} (h : Whole W b 126 #[a0, a1]) (S : ByteArray) (c : Int) : Whole ((W.setCell ⟨b, 0, none⟩ (.string S)).setCell ⟨b, 1, none⟩ (.int .i64 c)) b 126 #[.string S, .int .i64 c] := (h.store 0 _).store 1 _
theorem src_below {w W : World} {b : Nat} (h : Below w.heap.size w W) (hb : w.heap.size ≤ b) (S : ByteArray) (c : Int) : Below w.heap.size w ((W.setCell ⟨b, 0, none⟩ (.string S)).setCell ⟨b, 1, none⟩ (.int .i64 c)) := (h.setCell (p := ⟨b, 0, none⟩) hb _).setCell (p := ⟨b, 1, none⟩) hb _
theorem below_d {w W : World} (h : Below w.heap.size w W) : Below w.heap.size w W.drew := h.trans ⟨rfl, rfl, rfl, Nat.le_refl _, fun _ _ => rfl⟩
theorem rnum_len {n : Int} {xs l : List Int} (h : rnum xs = .ok (n, l)) : l.length ≤ xs.length := by
  unfold rnum at h
  split at h
  · injection h with h
    injection h with _ h
    rw [← h, List.length_drop]
    omega
  · cases h
theorem rcount_len {most n : Int} {xs l : List Int} (h : rcount most xs = .ok (n, l)) : l.length ≤ xs.length := by
  unfold rcount at h
  split at h
  · cases h
  · rename_i n' l' hr
    split at h
    · cases h
    · injection h with h
      injection h with _ h
      rw [← h]
      exact rnum_len hr
set_option maxRecDepth 100000 in
set_option maxHeartbeats 2000000 in
theorem dnum_pass (S : ByteArray) (c : Int) (hc : c ≠ 0) (w : World) :
    Calls Tryz.prog 58 #[srcV S c] w fun e w' => e = .returned (.tuple #[.int .i64 0, srcV S c]) ∧ Below w.heap.size w w' := by
  unfold srcV
  obtain ⟨X, Z, hX, hZ, hx, hz, hb⟩ := src_two w S c
  have c0 := hx.cell 0
  have c1 := hx.cell 1
  have HX := Lib.hid hx
  have HZ := Lib.hid hz
  have HB := Lib.hid hb
  clear hx hz hb
  have f1 : (c == 0) = false := by simpa using hc
  have f2 : (c != 0) = true := by simpa using hc
  clear hc
  go_enter Tryz.func58, Tryz.ntmps58
  go_upto_region 1 with fail
  rw [← hX, ← hZ]
  clear hX hZ
  go_upto_region 2 with fail
  go_still_tail 2, (by kernel_rfl)
  change wpList _ _ _ _ _ Z.drew
  have HZ9 := Lib.hid (show Whole Z.drew (w.heap.size + 1) 126 _ from HZ.out)
  have HB9 := Lib.hid (below_d HB.out)
  clear c0 c1
  generalize Z.drew = W9 at *
  have z0 := HZ9.out.cell 0
  have z1 := HZ9.out.cell 1
  have y0 := HZ9.out.free 0
  have y1 := HZ9.out.free 1
  go_wp2
  refine bodyPost_ret (v := .tuple #[.int .i64 0, .agg #[.string S, .int .i64 c]]) (res_tc Tryz.results58 _ _ (w.heap.size + 1) 126 #[.string S, .int .i64 c] _ _ rfl rfl (src_put HZ9.out S c) Tryz.underlying126 rfl Tryz.infoSrc) rfl ⟨rfl, src_below HB9.out (Nat.le_succ _) S c⟩
set_option maxRecDepth 100000 in
set_option maxHeartbeats 2000000 in
theorem dnum_any (xs : List Int) (w : World) (hb : Byt xs) (hn : xs.length ≤ 1048576) :
    Calls Tryz.prog 58 #[srcV (strOfNums xs) 0] w (PD w (rnum xs) (Value.int .i64) (fun v => v = .int .i64 0)) := by
  have hgr := get_range xs 0 0 hb (by omega) (by decide)
  have hgt := fun W => refget_any xs W hb (by omega)
  have HRN := Lib.hid (show rnum xs = if (Vi.get 0 0 xs).2.2 = 0 then .ok ((Vi.get 0 0 xs).1, xs.drop (Vi.get 0 0 xs).2.1) else .error (Vi.get 0 0 xs).2.2 from rfl)
  generalize Vi.get 0 0 xs = G at *
  obtain ⟨n0, k0, e0⟩ := G
  simp only [] at hgr hgt HRN
  have hss := strOfNums_size xs
  have hsl : ∀ W : World, (Instr.slice 9 (.string (strOfNums xs)) (some (.int .i64 (k0 : Int))) none none).run Tryz.prog W = .ok (.string (strOfNums (xs.drop k0))) W := fun W => by rw [str_tail _ _ (by rw [hss]; have := hgr.2.1; omega), str_drop]
  have HGT := Lib.hid hgt
  generalize strOfNums xs = S at *
  generalize hD : strOfNums (xs.drop k0) = D at *
  have HD := Lib.hid hD
  clear hgr hgt hss hb hn hD
  unfold srcV
  obtain ⟨X, Z, hX, hZ, hx, hz, hb⟩ := src_two w S 0
  have c0 := hx.cell 0
  have c1 := hx.cell 1
  have HX := Lib.hid hx
  have HZ := Lib.hid hz
  have HB := Lib.hid hb
  clear hx hz hb
  go_enter Tryz.func58, Tryz.ntmps58
  go_upto_region 1 with fail
  rw [← hX, ← hZ]
  clear hX hZ
  go_wp2_with fail
  refine (HGT.out Z).mono ?_
  rintro e w1 ⟨rfl, hb1⟩
  have HX1 := Lib.hid (HX.out.kept (hb1.block _ HX.out.lt))
  have HZ1 := Lib.hid (HZ.out.kept (hb1.block _ HZ.out.lt))
  have HB1 := Lib.hid (bell_upc HB.out hb1)
  clear c0 c1 hb1 HGT HX HZ HB
  have c0 := HX1.out.cell 0
  by_cases hz : e0 = 0
  · subst hz
    have HR := Lib.hid (HRN.out.trans (if_pos rfl))
    go_upto_region 6 with fail
    go_still_tail 7, (by kernel_rfl)
    change wpList _ _ _ _ _ w1.drew
    have HZ9 := Lib.hid (show Whole w1.drew (w.heap.size + 1) 126 _ from HZ1.out)
    have HB9 := Lib.hid (below_d HB1.out)
    clear c0
    generalize w1.drew = W9 at *
    have z0 := HZ9.out.cell 0
    have z1 := HZ9.out.cell 1
    have y0 := HZ9.out.free 0
    have y1 := HZ9.out.free 1
    go_wp2
    refine bodyPost_ret (v := .tuple #[.int .i64 n0, .agg #[.string D, .int .i64 0]]) (res_tc Tryz.results58 _ _ (w.heap.size + 1) 126 #[.string D, .int .i64 0] _ _ rfl rfl (src_put HZ9.out D 0) Tryz.underlying126 rfl Tryz.infoSrc) rfl ⟨.inl ⟨n0, _, HR.out, by rw [HD.out]; rfl⟩, src_below HB9.out (Nat.le_succ _) D 0⟩
  · have f1 : (e0 == 0) = false := by simpa using hz
    have f2 : (e0 != 0) = true := by simpa using hz
    have HR := Lib.hid (HRN.out.trans (if_neg hz))
    clear hz
    have z0 := HZ1.out.cell 0
    have z1 := HZ1.out.cell 1
    have y0 := HZ1.out.free 0
    have y1 := HZ1.out.free 1
    go_wp2
    refine bodyPost_ret (v := .tuple #[.int .i64 0, .agg #[.string ⟨#[]⟩, .int .i64 e0]]) (res_tc Tryz.results58 _ _ (w.heap.size + 1) 126 #[.string ⟨#[]⟩, .int .i64 e0] _ _ rfl rfl (src_put HZ1.out ⟨#[]⟩ e0) Tryz.underlying126 rfl Tryz.infoSrc) rfl ⟨.inr ⟨e0, _, HR.out, rfl, rfl⟩, src_below HB1.out (Nat.le_succ _) ⟨#[]⟩ e0⟩
set_option maxRecDepth 100000 in
set_option maxHeartbeats 2000000 in
theorem dcount_pass (S : ByteArray) (c : Int) (hc : c ≠ 0) (most : Int) (w : World) :
    Calls Tryz.prog 60 #[srcV S c, .int .i64 most] w fun e w' => e = .returned (.tuple #[.int .i64 0, srcV S c]) ∧ Below w.heap.size w w' := by
  unfold srcV
  obtain ⟨X, Z, hX, hZ, hx, hz, hb⟩ := src_two w S c
  have c0 := hx.cell 0
  have c1 := hx.cell 1
  have HX := Lib.hid hx
  have HZ := Lib.hid hz
  have HB := Lib.hid hb
  clear hx hz hb
  have f1 : (c == 0) = false := by simpa using hc
  have f2 : (c != 0) = true := by simpa using hc
  have HN := Lib.hid (fun W => dnum_pass S c hc W)
  unfold srcV at HN
  clear hc
  go_enter Tryz.func60, Tryz.ntmps60
  go_upto_region 1 with fail
  rw [← hX, ← hZ]
  clear hX hZ
  go_wp2_with fail
  refine (HN.out Z).mono ?_
  rintro e w1 ⟨rfl, hb1⟩
  clear c0 c1
  have HX1 := Lib.hid (HX.out.kept (hb1.block _ HX.out.lt))
  have HZ1 := Lib.hid (HZ.out.kept (hb1.block _ HZ.out.lt))
  have HB1 := Lib.hid (bell_upc HB.out hb1)
  clear hb1
  have x0 := HX1.out.cell 0
  have x1 := HX1.out.cell 1
  have v0 := HX1.out.free 0
  have v1 := HX1.out.free 1
  have HX2 := Lib.hid (src_put HX1.out S c)
  have HZ2 := Lib.hid ((HZ1.out.kept (Below.heap_setCell w1 ⟨w.heap.size, 0, none⟩ (.string S) _ (Nat.succ_ne_self _))).kept (Below.heap_setCell _ ⟨w.heap.size, 1, none⟩ (.int .i64 c) _ (Nat.succ_ne_self _)))
  have HB2 := Lib.hid (src_below HB1.out (Nat.le_refl _) S c)
  go_upto_region 2 with fail
  clear x0 x1 v0 v1
  generalize World.setCell (World.setCell w1 _ _) _ _ = w2 at *
  have c0 := HX2.out.cell 0
  have c1 := HX2.out.cell 1
  go_upto_region 4 with fail
  go_still_tail 3, (by kernel_rfl)
  change wpList _ _ _ _ _ w2.drew
  have HZ9 := Lib.hid (show Whole w2.drew (w.heap.size + 1) 126 _ from HZ2.out)
  have HB9 := Lib.hid (below_d HB2.out)
  clear c0 c1
  generalize w2.drew = W9 at *
  have z0 := HZ9.out.cell 0
  have z1 := HZ9.out.cell 1
  have y0 := HZ9.out.free 0
  have y1 := HZ9.out.free 1
  go_wp2
  refine bodyPost_ret (v := .tuple #[.int .i64 0, .agg #[.string S, .int .i64 c]]) (res_tc Tryz.results60 _ _ (w.heap.size + 1) 126 #[.string S, .int .i64 c] _ _ rfl rfl (src_put HZ9.out S c) Tryz.underlying126 rfl Tryz.infoSrc) rfl ⟨rfl, src_below HB9.out (Nat.le_succ _) S c⟩
set_option maxRecDepth 100000 in
set_option maxHeartbeats 2000000 in
theorem dcount_any (xs : List Int) (most : Int) (w : World) (hb : Byt xs) (hn : xs.length ≤ 1048576) :
    Calls Tryz.prog 60 #[srcV (strOfNums xs) 0, .int .i64 most] w (PD w (rcount most xs) (Value.int .i64) (fun v => v = .int .i64 0)) := by
  have HN := Lib.hid (fun W => dnum_any xs W hb hn)
  have HEN := Lib.hid (fun c => en_num xs c)
  unfold srcV at HN
  generalize strOfNums xs = S at *
  clear hb hn
  unfold srcV
  obtain ⟨X, Z, hX, hZ, hx, hz, hb⟩ := src_two w S 0
  have c0 := hx.cell 0
  have c1 := hx.cell 1
  have HX := Lib.hid hx
  have HZ := Lib.hid hz
  have HB := Lib.hid hb
  clear hx hz hb
  go_enter Tryz.func60, Tryz.ntmps60
  go_upto_region 1 with fail
  rw [← hX, ← hZ]
  clear hX hZ
  go_wp2_with fail
  refine (HN.out Z).mono ?_
  rintro e w1 ⟨⟨n0, l, hr, rfl⟩ | ⟨c, v, hr, rfl, rfl⟩, hb1⟩
  · have HR := Lib.hid hr
    unfold srcV
    generalize hT : strOfNums l = T at *
    have HT := Lib.hid hT
    clear hr hT c0 c1
    have HX1 := Lib.hid (HX.out.kept (hb1.block _ HX.out.lt))
    have HZ1 := Lib.hid (HZ.out.kept (hb1.block _ HZ.out.lt))
    have HB1 := Lib.hid (bell_upc HB.out hb1)
    clear hb1
    have x0 := HX1.out.cell 0
    have x1 := HX1.out.cell 1
    have v0 := HX1.out.free 0
    have v1 := HX1.out.free 1
    have HX2 := Lib.hid (src_put HX1.out T 0)
    have HZ2 := Lib.hid ((HZ1.out.kept (Below.heap_setCell w1 ⟨w.heap.size, 0, none⟩ (.string T) _ (Nat.succ_ne_self _))).kept (Below.heap_setCell _ ⟨w.heap.size, 1, none⟩ (.int .i64 0) _ (Nat.succ_ne_self _)))
    have HB2 := Lib.hid (src_below HB1.out (Nat.le_refl _) T 0)
    go_upto_region 2 with fail
    clear x0 x1 v0 v1
    generalize World.setCell (World.setCell w1 _ _) _ _ = w2 at *
    have c0 := HX2.out.cell 0
    have c1 := HX2.out.cell 1
    by_cases h1 : n0 < 0
    · have HO := Lib.hid (rcount_out (most := most) HR.out (.inl h1))
      have z0 := HZ2.out.cell 0
      have z1 := HZ2.out.cell 1
      have y0 := HZ2.out.free 0
      have y1 := HZ2.out.free 1
      go_wp2
      refine bodyPost_ret (v := .tuple #[.int .i64 0, .agg #[.string ⟨#[]⟩, .int .i64 2]]) (res_tc Tryz.results60 _ _ (w.heap.size + 1) 126 #[.string ⟨#[]⟩, .int .i64 2] _ _ rfl rfl (src_put HZ2.out ⟨#[]⟩ 2) Tryz.underlying126 rfl Tryz.infoSrc) rfl ⟨.inr ⟨2, _, HO.out, rfl, rfl⟩, src_below HB2.out (Nat.le_succ _) ⟨#[]⟩ 2⟩
    · by_cases h2 : most < n0
      · have HO := Lib.hid (rcount_out (most := most) HR.out (.inr h2))
        have z0 := HZ2.out.cell 0
        have z1 := HZ2.out.cell 1
        have y0 := HZ2.out.free 0
        have y1 := HZ2.out.free 1
        go_wp2
        refine bodyPost_ret (v := .tuple #[.int .i64 0, .agg #[.string ⟨#[]⟩, .int .i64 2]]) (res_tc Tryz.results60 _ _ (w.heap.size + 1) 126 #[.string ⟨#[]⟩, .int .i64 2] _ _ rfl rfl (src_put HZ2.out ⟨#[]⟩ 2) Tryz.underlying126 rfl Tryz.infoSrc) rfl ⟨.inr ⟨2, _, HO.out, rfl, rfl⟩, src_below HB2.out (Nat.le_succ _) ⟨#[]⟩ 2⟩
      · have HO := Lib.hid (rcount_in (most := most) HR.out (by omega))
        go_upto_region 4 with fail
        go_still_tail 3, (by kernel_rfl)
        change wpList _ _ _ _ _ w2.drew
        have HZ9 := Lib.hid (show Whole w2.drew (w.heap.size + 1) 126 _ from HZ2.out)
        have HB9 := Lib.hid (below_d HB2.out)
        clear c0 c1
        generalize w2.drew = W9 at *
        have z0 := HZ9.out.cell 0
        have z1 := HZ9.out.cell 1
        have y0 := HZ9.out.free 0
        have y1 := HZ9.out.free 1
        go_wp2
        refine bodyPost_ret (v := .tuple #[.int .i64 n0, .agg #[.string T, .int .i64 0]]) (res_tc Tryz.results60 _ _ (w.heap.size + 1) 126 #[.string T, .int .i64 0] _ _ rfl rfl (src_put HZ9.out T 0) Tryz.underlying126 rfl Tryz.infoSrc) rfl ⟨.inl ⟨n0, l, HO.out, by rw [HT.out]; rfl⟩, src_below HB9.out (Nat.le_succ _) T 0⟩
  · have HO := Lib.hid (rcount_bad (most := most) hr)
    have hc := HEN.out c hr
    have f1 : (c == 0) = false := by simpa using hc
    unfold srcV
    clear hr hc c0 c1
    have HX1 := Lib.hid (HX.out.kept (hb1.block _ HX.out.lt))
    have HZ1 := Lib.hid (HZ.out.kept (hb1.block _ HZ.out.lt))
    have HB1 := Lib.hid (bell_upc HB.out hb1)
    clear hb1
    have x0 := HX1.out.cell 0
    have x1 := HX1.out.cell 1
    have v0 := HX1.out.free 0
    have v1 := HX1.out.free 1
    have HX2 := Lib.hid (src_put HX1.out ⟨#[]⟩ c)
    have HZ2 := Lib.hid ((HZ1.out.kept (Below.heap_setCell w1 ⟨w.heap.size, 0, none⟩ (.string ⟨#[]⟩) _ (Nat.succ_ne_self _))).kept (Below.heap_setCell _ ⟨w.heap.size, 1, none⟩ (.int .i64 c) _ (Nat.succ_ne_self _)))
    have HB2 := Lib.hid (src_below HB1.out (Nat.le_refl _) ⟨#[]⟩ c)
    go_upto_region 2 with fail
    clear x0 x1 v0 v1
    generalize World.setCell (World.setCell w1 _ _) _ _ = w2 at *
    have c0 := HX2.out.cell 0
    have c1 := HX2.out.cell 1
    go_upto_region 4 with fail
    go_still_tail 3, (by kernel_rfl)
    change wpList _ _ _ _ _ w2.drew
    have HZ9 := Lib.hid (show Whole w2.drew (w.heap.size + 1) 126 _ from HZ2.out)
    have HB9 := Lib.hid (below_d HB2.out)
    clear c0 c1
    generalize w2.drew = W9 at *
    have z0 := HZ9.out.cell 0
    have z1 := HZ9.out.cell 1
    have y0 := HZ9.out.free 0
    have y1 := HZ9.out.free 1
    go_wp2
    refine bodyPost_ret (v := .tuple #[.int .i64 0, .agg #[.string ⟨#[]⟩, .int .i64 c]]) (res_tc Tryz.results60 _ _ (w.heap.size + 1) 126 #[.string ⟨#[]⟩, .int .i64 c] _ _ rfl rfl (src_put HZ9.out ⟨#[]⟩ c) Tryz.underlying126 rfl Tryz.infoSrc) rfl ⟨.inr ⟨c, _, HO.out, rfl, rfl⟩, src_below HB9.out (Nat.le_succ _) ⟨#[]⟩ c⟩
set_option maxRecDepth 100000 in
set_option maxHeartbeats 2000000 in
theorem dtext_pass (S : ByteArray) (c : Int) (hc : c ≠ 0) (w : World) :
    Calls Tryz.prog 70 #[srcV S c] w fun e w' => e = .returned (.tuple #[.string ⟨#[]⟩, srcV S c]) ∧ Below w.heap.size w w' := by
  unfold srcV
  obtain ⟨X, Z, hX, hZ, hx, hz, hb⟩ := src_two w S c
  have c0 := hx.cell 0
  have c1 := hx.cell 1
  have HX := Lib.hid hx
  have HZ := Lib.hid hz
  have HB := Lib.hid hb
  clear hx hz hb
  have f1 : (c == 0) = false := by simpa using hc
  have f2 : (c != 0) = true := by simpa using hc
  have HN := Lib.hid (fun W => dcount_pass S c hc 128 W)
  unfold srcV at HN
  clear hc
  go_enter Tryz.func70, Tryz.ntmps70
  go_upto_region 1 with fail
  rw [← hX, ← hZ]
  clear hX hZ
  go_wp2_with fail
  refine (HN.out Z).mono ?_
  rintro e w1 ⟨rfl, hb1⟩
  clear c0 c1
  have HX1 := Lib.hid (HX.out.kept (hb1.block _ HX.out.lt))
  have HZ1 := Lib.hid (HZ.out.kept (hb1.block _ HZ.out.lt))
  have HB1 := Lib.hid (bell_upc HB.out hb1)
  clear hb1
  have x0 := HX1.out.cell 0
  have x1 := HX1.out.cell 1
  have v0 := HX1.out.free 0
  have v1 := HX1.out.free 1
  have HX2 := Lib.hid (src_put HX1.out S c)
  have HZ2 := Lib.hid ((HZ1.out.kept (Below.heap_setCell w1 ⟨w.heap.size, 0, none⟩ (.string S) _ (Nat.succ_ne_self _))).kept (Below.heap_setCell _ ⟨w.heap.size, 1, none⟩ (.int .i64 c) _ (Nat.succ_ne_self _)))
  have HB2 := Lib.hid (src_below HB1.out (Nat.le_refl _) S c)
  go_upto_region 2 with fail
  clear x0 x1 v0 v1
  generalize World.setCell (World.setCell w1 _ _) _ _ = w2 at *
  have c0 := HX2.out.cell 0
  have c1 := HX2.out.cell 1
  go_upto_region 5 with fail
  go_still_tail 2, (by kernel_rfl)
  change wpList _ _ _ _ _ w2.drew
  have HZ9 := Lib.hid (show Whole w2.drew (w.heap.size + 1) 126 _ from HZ2.out)
  have HB9 := Lib.hid (below_d HB2.out)
  clear c0 c1
  generalize w2.drew = W9 at *
  have z0 := HZ9.out.cell 0
  have z1 := HZ9.out.cell 1
  have y0 := HZ9.out.free 0
  have y1 := HZ9.out.free 1
  go_wp2
  refine bodyPost_ret (v := .tuple #[.string ⟨#[]⟩, .agg #[.string S, .int .i64 c]]) (res_tc Tryz.results70 _ _ (w.heap.size + 1) 126 #[.string S, .int .i64 c] _ _ rfl rfl (src_put HZ9.out S c) Tryz.underlying126 rfl Tryz.infoSrc) rfl ⟨rfl, src_below HB9.out (Nat.le_succ _) S c⟩
set_option maxRecDepth 100000 in
set_option maxHeartbeats 2000000 in
theorem dtext_any (xs : List Int) (w : World) (hb : Byt xs) (hn : xs.length ≤ 1048576) :
    Calls Tryz.prog 70 #[srcV (strOfNums xs) 0] w (PD w (rtext xs) (fun t => .string (strOfNums t)) (fun v => v = .string ⟨#[]⟩)) := by
  have HN := Lib.hid (fun W => dcount_any xs 128 W hb hn)
  have HEN := Lib.hid (fun c => en_count 128 xs c)
  have HCR := Lib.hid (fun n l (h : rcount 128 xs = .ok (n, l)) => rcount_range h)
  have HLE := Lib.hid (fun n l (h : rcount 128 xs = .ok (n, l)) => Nat.le_trans (rcount_len h) hn)
  unfold srcV at HN
  generalize strOfNums xs = S at *
  clear hb hn
  unfold srcV
  obtain ⟨X, Z, hX, hZ, hx, hz, hb⟩ := src_two w S 0
  have c0 := hx.cell 0
  have c1 := hx.cell 1
  have HX := Lib.hid hx
  have HZ := Lib.hid hz
  have HB := Lib.hid hb
  clear hx hz hb
  go_enter Tryz.func70, Tryz.ntmps70
  go_upto_region 1 with fail
  rw [← hX, ← hZ]
  clear hX hZ
  go_wp2_with fail
  refine (HN.out Z).mono ?_
  rintro e w1 ⟨⟨n0, l, hr, rfl⟩ | ⟨c, v, hr, rfl, rfl⟩, hb1⟩
  · have HR := Lib.hid hr
    have hrg := HCR.out n0 l hr
    have hle := HLE.out n0 l hr
    obtain ⟨n, rfl⟩ : ∃ n : Nat, n0 = n := ⟨n0.toNat, by omega⟩
    have hss := strOfNums_size l
    unfold srcV
    have HTK := Lib.hid (fun (h : n ≤ l.length) (W : World) => (show (Instr.slice 9 (.string (strOfNums l)) none (some (.int .i64 (n : Int))) none).run Tryz.prog W = .ok (.string (strOfNums (l.take n))) W by rw [str_head _ _ (by rw [hss]; exact h), str_sub]; rfl))
    have HDP := Lib.hid (fun (h : n ≤ l.length) (W : World) => (show (Instr.slice 9 (.string (strOfNums l)) (some (.int .i64 (n : Int))) none none).run Tryz.prog W = .ok (.string (strOfNums (l.drop n))) W by rw [str_tail _ _ (by rw [hss]; exact h), str_drop]))
    generalize hT : strOfNums l = T at *
    generalize hA : strOfNums (l.take n) = A at *
    generalize hD : strOfNums (l.drop n) = D at *
    have HAD := Lib.hid (And.intro hA hD)
    clear hr hT hA hD c0 c1
    have HX1 := Lib.hid (HX.out.kept (hb1.block _ HX.out.lt))
    have HZ1 := Lib.hid (HZ.out.kept (hb1.block _ HZ.out.lt))
    have HB1 := Lib.hid (bell_upc HB.out hb1)
    clear hb1
    have x0 := HX1.out.cell 0
    have x1 := HX1.out.cell 1
    have v0 := HX1.out.free 0
    have v1 := HX1.out.free 1
    have HX2 := Lib.hid (src_put HX1.out T 0)
    have HZ2 := Lib.hid ((HZ1.out.kept (Below.heap_setCell w1 ⟨w.heap.size, 0, none⟩ (.string T) _ (Nat.succ_ne_self _))).kept (Below.heap_setCell _ ⟨w.heap.size, 1, none⟩ (.int .i64 0) _ (Nat.succ_ne_self _)))
    have HB2 := Lib.hid (src_below HB1.out (Nat.le_refl _) T 0)
    go_upto_region 2 with fail
    clear x0 x1 v0 v1
    generalize World.setCell (World.setCell w1 _ _) _ _ = w2 at *
    have c0 := HX2.out.cell 0
    have c1 := HX2.out.cell 1
    by_cases h1 : l.length < n
    · have HO := Lib.hid (rtext_out HR.out (by omega))
      have z0 := HZ2.out.cell 0
      have z1 := HZ2.out.cell 1
      have y0 := HZ2.out.free 0
      have y1 := HZ2.out.free 1
      go_wp2
      refine bodyPost_ret (v := .tuple #[.string ⟨#[]⟩, .agg #[.string ⟨#[]⟩, .int .i64 10]]) (res_tc Tryz.results70 _ _ (w.heap.size + 1) 126 #[.string ⟨#[]⟩, .int .i64 10] _ _ rfl rfl (src_put HZ2.out ⟨#[]⟩ 10) Tryz.underlying126 rfl Tryz.infoSrc) rfl ⟨.inr ⟨10, _, HO.out, rfl, rfl⟩, src_below HB2.out (Nat.le_succ _) ⟨#[]⟩ 10⟩
    · have HO := Lib.hid (rtext_in HR.out (by omega))
      have htk := HTK.out (by omega)
      have hdp := HDP.out (by omega)
      go_upto_region 6 with fail
      go_still_tail 10, (by kernel_rfl)
      change wpList _ _ _ _ _ w2.drew
      have HZ9 := Lib.hid (show Whole w2.drew (w.heap.size + 1) 126 _ from HZ2.out)
      have HB9 := Lib.hid (below_d HB2.out)
      clear c0 c1
      generalize w2.drew = W9 at *
      have z0 := HZ9.out.cell 0
      have z1 := HZ9.out.cell 1
      have y0 := HZ9.out.free 0
      have y1 := HZ9.out.free 1
      go_wp2
      refine bodyPost_ret (v := .tuple #[.string A, .agg #[.string D, .int .i64 0]]) (res_tc Tryz.results70 _ _ (w.heap.size + 1) 126 #[.string D, .int .i64 0] _ _ rfl rfl (src_put HZ9.out D 0) Tryz.underlying126 rfl Tryz.infoSrc) rfl ⟨.inl ⟨l.take n, l.drop n, by rw [HO.out, Int.toNat_natCast], by show _ = Ending.returned (.tuple #[.string (strOfNums (l.take n)), srcV (strOfNums (l.drop n)) 0]); rw [HAD.out.1, HAD.out.2]; rfl⟩, src_below HB9.out (Nat.le_succ _) D 0⟩
  · have HO := Lib.hid (rtext_bad hr)
    have hc := HEN.out c hr
    have f1 : (c == 0) = false := by simpa using hc
    have f2 : (c != 0) = true := by simpa using hc
    unfold srcV
    clear hr hc c0 c1
    have HX1 := Lib.hid (HX.out.kept (hb1.block _ HX.out.lt))
    have HZ1 := Lib.hid (HZ.out.kept (hb1.block _ HZ.out.lt))
    have HB1 := Lib.hid (bell_upc HB.out hb1)
    clear hb1
    have x0 := HX1.out.cell 0
    have x1 := HX1.out.cell 1
    have v0 := HX1.out.free 0
    have v1 := HX1.out.free 1
    have HX2 := Lib.hid (src_put HX1.out ⟨#[]⟩ c)
    have HZ2 := Lib.hid ((HZ1.out.kept (Below.heap_setCell w1 ⟨w.heap.size, 0, none⟩ (.string ⟨#[]⟩) _ (Nat.succ_ne_self _))).kept (Below.heap_setCell _ ⟨w.heap.size, 1, none⟩ (.int .i64 c) _ (Nat.succ_ne_self _)))
    have HB2 := Lib.hid (src_below HB1.out (Nat.le_refl _) ⟨#[]⟩ c)
    go_upto_region 2 with fail
    clear x0 x1 v0 v1
    generalize World.setCell (World.setCell w1 _ _) _ _ = w2 at *
    have c0 := HX2.out.cell 0
    have c1 := HX2.out.cell 1
    go_upto_region 5 with fail
    go_still_tail 2, (by kernel_rfl)
    change wpList _ _ _ _ _ w2.drew
    have HZ9 := Lib.hid (show Whole w2.drew (w.heap.size + 1) 126 _ from HZ2.out)
    have HB9 := Lib.hid (below_d HB2.out)
    clear c0 c1
    generalize w2.drew = W9 at *
    have z0 := HZ9.out.cell 0
    have z1 := HZ9.out.cell 1
    have y0 := HZ9.out.free 0
    have y1 := HZ9.out.free 1
    go_wp2
    refine bodyPost_ret (v := .tuple #[.string ⟨#[]⟩, .agg #[.string ⟨#[]⟩, .int .i64 c]]) (res_tc Tryz.results70 _ _ (w.heap.size + 1) 126 #[.string ⟨#[]⟩, .int .i64 c] _ _ rfl rfl (src_put HZ9.out ⟨#[]⟩ c) Tryz.underlying126 rfl Tryz.infoSrc) rfl ⟨.inr ⟨c, _, HO.out, rfl, rfl⟩, src_below HB9.out (Nat.le_succ _) ⟨#[]⟩ c⟩
set_option maxRecDepth 100000 in
set_option maxHeartbeats 2000000 in
theorem dflag_pass (S : ByteArray) (c : Int) (hc : c ≠ 0) (w : World) :
    Calls Tryz.prog 59 #[srcV S c] w fun e w' => e = .returned (.tuple #[.bool false, srcV S c]) ∧ Below w.heap.size w w' := by
  unfold srcV
  obtain ⟨X, Z, hX, hZ, hx, hz, hb⟩ := src_two w S c
  have c0 := hx.cell 0
  have c1 := hx.cell 1
  have HX := Lib.hid hx
  have HZ := Lib.hid hz
  have HB := Lib.hid hb
  clear hx hz hb
  have f1 : (c == 0) = false := by simpa using hc
  have f2 : (c != 0) = true := by simpa using hc
  clear hc
  go_enter Tryz.func59, Tryz.ntmps59
  go_upto_region 1 with fail
  rw [← hX, ← hZ]
  clear hX hZ
  go_upto_region 2 with fail
  go_still_tail 2, (by kernel_rfl)
  change wpList _ _ _ _ _ Z.drew
  have HZ9 := Lib.hid (show Whole Z.drew (w.heap.size + 1) 126 _ from HZ.out)
  have HB9 := Lib.hid (below_d HB.out)
  clear c0 c1
  generalize Z.drew = W9 at *
  have z0 := HZ9.out.cell 0
  have z1 := HZ9.out.cell 1
  have y0 := HZ9.out.free 0
  have y1 := HZ9.out.free 1
  go_wp2
  refine bodyPost_ret (v := .tuple #[.bool false, .agg #[.string S, .int .i64 c]]) (res_tc Tryz.results59 _ _ (w.heap.size + 1) 126 #[.string S, .int .i64 c] _ _ rfl rfl (src_put HZ9.out S c) Tryz.underlying126 rfl Tryz.infoSrc) rfl ⟨rfl, src_below HB9.out (Nat.le_succ _) S c⟩
set_option maxRecDepth 100000 in
set_option maxHeartbeats 2000000 in
theorem dflag_any (xs : List Int) (w : World) (hb : Byt xs) (hn : xs.length ≤ 1048576) :
    Calls Tryz.prog 59 #[srcV (strOfNums xs) 0] w (PD w (rtruth xs) Value.bool (fun v => v = .bool false)) := by
  cases xs with
  | nil =>
    have e1 : strOfNums [] = ⟨#[]⟩ := rfl
    rw [e1]
    clear hb hn e1
    unfold srcV
    obtain ⟨X, Z, hX, hZ, hx, hz, hb⟩ := src_two w ⟨#[]⟩ 0
    have c0 := hx.cell 0
    have c1 := hx.cell 1
    have HX := Lib.hid hx
    have HZ := Lib.hid hz
    have HB := Lib.hid hb
    clear hx hz hb
    go_enter Tryz.func59, Tryz.ntmps59
    go_upto_region 1 with fail
    rw [← hX, ← hZ]
    clear hX hZ
    have z0 := HZ.out.cell 0
    have z1 := HZ.out.cell 1
    have y0 := HZ.out.free 0
    have y1 := HZ.out.free 1
    go_wp2
    refine bodyPost_ret (v := .tuple #[.bool false, .agg #[.string ⟨#[]⟩, .int .i64 10]]) (res_tc Tryz.results59 _ _ (w.heap.size + 1) 126 #[.string ⟨#[]⟩, .int .i64 10] _ _ rfl rfl (src_put HZ.out ⟨#[]⟩ 10) Tryz.underlying126 rfl Tryz.infoSrc) rfl ⟨.inr ⟨10, _, rfl, rfl, rfl⟩, src_below HB.out (Nat.le_succ _) ⟨#[]⟩ 10⟩
  | cons x l =>
    have hx := hb x (by simp)
    have hss := strOfNums_size (x :: l)
    obtain ⟨y, rfl⟩ : ∃ y : Nat, x = (y : Int) := ⟨x.toNat, by omega⟩
    have hne : ((strOfNums ((y : Int) :: l)).toList == (⟨#[]⟩ : ByteArray).toList) = false := str_ne (fun h => by have h2 := congrArg ByteArray.size h; rw [hss] at h2; have h3 : (⟨#[]⟩ : ByteArray).size = 0 := rfl; rw [h3] at h2; simp at h2)
    have hie : (strOfNums ((y : Int) :: l)).toList.isEmpty = false := by
      have e0 : (⟨#[]⟩ : ByteArray).toList = [] := by decide +kernel
      rw [e0] at hne
      cases hS : (strOfNums ((y : Int) :: l)).toList with
      | nil => rw [hS] at hne; simp at hne
      | cons => rfl
    have hat := str_at ((y : Int) :: l) hb 0 (by rw [hss]; simp)
    have hsl : ∀ W : World, (Instr.slice 9 (.string (strOfNums ((y : Int) :: l))) (some (.int .i64 1)) none none).run Tryz.prog W = .ok (.string (strOfNums l)) W := fun W => by
      have h := str_tail (strOfNums ((y : Int) :: l)) 1 (by rw [hss]; simp) W
      rw [str_drop] at h
      exact h
    have hpos : 0 < (strOfNums ((y : Int) :: l)).size := by rw [hss]; simp
    have hat2 : (((strOfNums ((y : Int) :: l))[0].toNat : Nat) : Int) = y := by rw [hat]; rfl
    generalize strOfNums ((y : Int) :: l) = S at *
    generalize hD : strOfNums l = D at *
    have HD := Lib.hid hD
    clear hat hD hss hb hn
    have hpos2 : (0 : Int) < (S.size : Int) := by omega
    unfold srcV
    obtain ⟨X, Z, hX, hZ, hx, hz, hb⟩ := src_two w S 0
    have c0 := hx.cell 0
    have c1 := hx.cell 1
    have HX := Lib.hid hx
    have HZ := Lib.hid hz
    have HB := Lib.hid hb
    clear hx hz hb
    go_enter Tryz.func59, Tryz.ntmps59
    go_upto_region 1 with fail
    rw [← hX, ← hZ]
    clear hX hZ
    by_cases h1 : 1 < y
    · have HO := Lib.hid (show rtruth ((y : Int) :: l) = .error 22 by show (if (1 : Int) < (y : Int) then _ else _) = _; rw [if_pos (by omega)])
      have z0 := HZ.out.cell 0
      have z1 := HZ.out.cell 1
      have y0 := HZ.out.free 0
      have y1 := HZ.out.free 1
      go_wp2
      refine bodyPost_ret (v := .tuple #[.bool false, .agg #[.string ⟨#[]⟩, .int .i64 22]]) (res_tc Tryz.results59 _ _ (w.heap.size + 1) 126 #[.string ⟨#[]⟩, .int .i64 22] _ _ rfl rfl (src_put HZ.out ⟨#[]⟩ 22) Tryz.underlying126 rfl Tryz.infoSrc) rfl ⟨.inr ⟨22, _, HO.out, rfl, rfl⟩, src_below HB.out (Nat.le_succ _) ⟨#[]⟩ 22⟩
    · have HO := Lib.hid (show rtruth ((y : Int) :: l) = .ok ((y : Int) == 1, l) by show (if (1 : Int) < (y : Int) then _ else _) = _; rw [if_neg (by omega)])
      go_upto_region 7 with fail
      go_still_tail 9, (by kernel_rfl)
      change wpList _ _ _ _ _ Z.drew
      have HZ9 := Lib.hid (show Whole Z.drew (w.heap.size + 1) 126 _ from HZ.out)
      have HB9 := Lib.hid (below_d HB.out)
      clear c0 c1
      generalize Z.drew = W9 at *
      have z0 := HZ9.out.cell 0
      have z1 := HZ9.out.cell 1
      have y0 := HZ9.out.free 0
      have y1 := HZ9.out.free 1
      go_wp2
      refine bodyPost_ret (v := .tuple #[.bool ((y : Int) == 1), .agg #[.string D, .int .i64 0]]) (res_tc Tryz.results59 _ _ (w.heap.size + 1) 126 #[.string D, .int .i64 0] _ _ rfl rfl (src_put HZ9.out D 0) Tryz.underlying126 rfl Tryz.infoSrc) rfl ⟨.inl ⟨_, l, HO.out, by rw [HD.out]; rfl⟩, src_below HB9.out (Nat.le_succ _) D 0⟩
end Go.Proofs.YteodldmbnghfcaaGreat
