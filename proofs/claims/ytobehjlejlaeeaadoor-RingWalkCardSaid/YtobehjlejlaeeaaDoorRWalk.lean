/- RingWalk: by any moves the epoch counts those made, and each slot is its last node's. -/
import Derived.Test.YtobehjlejlaeeaaDoorRTables
import Derived.Deep.Slices
import Derived.ChangeSlices
namespace Go.Proofs.YtobehjlejlaeeaaDoor
open Go.RowKit Go.ChangeShapes Go.WideShapes

def prc (x : Int × Int) : List Value := [.int .i64 x.1, .int .i64 x.2]
theorem prc_len (x : Int × Int) : (prc x).length = 2 := rfl
/-- Moves that came in. -/
def MovesIn (w : World) (a : Option Addr) (n : Nat) : Prop := n = 0 ∨ ∃ b off, a = some ⟨b, off, none⟩ ∧ b < w.heap.size ∧ ∀ i, i < n → ∃ x y : Int, w.cell? ⟨b, off + i * 2, none⟩ = some (.int .i64 x) ∧ w.cell? ⟨b, off + i * 2 + 1, none⟩ = some (.int .i64 y)
theorem moves_opened {H : Type} {enc : TypeId × Value → H} {W : World} {fuel : Nat} {a : Option Addr} {len cap : Nat} {x : DataW H × List MemPlace}
    (h : DataW.trod enc Tryd.prog W 0 (fun _ => true) true fuel 49 (Value.slice a len cap).cells.toList = some x) (hw : ∀ k ∈ x.1.weights Tryd.prog 49, k ≤ 140737488351232) : MovesIn W a len ∧ len ≤ 140737488355328 := by
  have h' : DataW.trod enc Tryd.prog W 0 (fun _ => true) true fuel 49 [Value.slice a len cap] = some x := by simpa [Value.cells] using h
  rcases Go.Deep.open_slice Tryd.underlying49 h' with ⟨hcs, hx⟩ | ⟨ad, l, c, m, n, Dd, Pl, hcs, _, hl, hm, hmm, hx, hall⟩
  · simp at hcs
    obtain ⟨rfl, rfl, rfl⟩ := hcs
    exact ⟨.inl rfl, by omega⟩
  · simp at hcs
    obtain ⟨rfl, rfl, rfl⟩ := hcs
    have hcell : Tryd.prog.cellsOf 29 = 2 := by kernel_rfl
    rw [hcell] at hall
    simp only [if_true] at hmm
    have hlen : m * 16 ≤ 140737488351232 := by
      refine hw (m * 16) ?_
      rw [hx]
      simp only [DataW.weights, Tryd.underlying49, List.mem_cons]
      left
      rw [show Tryd.prog.bytesOf 29 = 16 by kernel_rfl]
      simp
      omega
    refine ⟨?_, by omega⟩
    rcases Nat.eq_zero_or_pos len with h0 | h0
    · exact .inl h0
    · obtain ⟨b, off, spot⟩ := ad
      have hs : spot = none := by
        obtain ⟨cs', hc, _⟩ := hall 0 (by omega)
        obtain ⟨_, hcl, hat⟩ := World.cells?_some hc
        have h1 := hat 0 (by omega)
        rw [List.getElem?_eq_getElem (by omega)] at h1
        simpa [Addr.add] using World.cell?_spot h1
      subst hs
      have hbl : b < W.heap.size := by
        obtain ⟨cs', hc, _⟩ := hall 0 (by omega)
        obtain ⟨_, hcl, hat⟩ := World.cells?_some hc
        have h1 := hat 0 (by omega)
        rw [List.getElem?_eq_getElem (by omega)] at h1
        have := World.block_lt_of_cell? W _ h1
        simpa [Addr.add] using this
      refine .inr ⟨b, off, rfl, hbl, fun i hi => ?_⟩
      obtain ⟨cs', hc, ht⟩ := hall i (by omega)
      obtain ⟨_, hcl, hat⟩ := World.cells?_some hc
      obtain ⟨o, ho, hcs, _⟩ := arr_ints Tryd.underlying29 hcell ht
      match o, ho with
      | [p, q], _ =>
        subst hcs
        have e0 := hat 0 (by simp)
        have e1 := hat 1 (by simp)
        simp only [add_plain, Nat.add_zero, List.map_cons, List.map_nil, List.getElem?_cons_zero, List.getElem?_cons_succ] at e0 e1
        exact ⟨p, q, e0, by rw [Nat.add_assoc]; exact e1⟩
theorem MovesIn.at_ {w w' : World} {a : Option Addr} {n i : Nat} (h : MovesIn w a n) (hb : Below w.heap.size w w') (hi : i < n) : ∃ b off x y, a = some ⟨b, off, none⟩ ∧ w'.cell? ⟨b, off + i * 2, none⟩ = some (.int .i64 x) ∧ w'.cell? ⟨b, off + i * 2 + 1, none⟩ = some (.int .i64 y) := by
  rcases h with h | ⟨b, off, rfl, hbl, hc⟩
  · omega
  · obtain ⟨x, y, h1, h2⟩ := hc i hi
    exact ⟨b, off, x, y, rfl, (hb.cell (p := ⟨b, off + i * 2, none⟩) hbl).trans h1, (hb.cell (p := ⟨b, off + i * 2 + 1, none⟩) hbl).trans h2⟩
theorem other_sym (a b : List Int) : Mt.ups (Mt.other a b) 16 = Mt.ups (Mt.other b a) 16 := by
  unfold Mt.ups
  apply List.filter_congr
  intro s _
  unfold Mt.other
  exact bne_comm
theorem exec_mid {P : Program} (ρ : Operand → Value) (o : Oper) (w : World) (ty : TypeId) (x : Operand) (ho : o.op = .load ty x) (b off : Nat) (hx : ρ x = .pointer (some ⟨b, off, none⟩)) (cs : List Value) (d : TypeDesc) (hc : w.rangeAt b off cs)
    (hu : P.underlying ty = some d) (hd : d.isRow = true) (hi : (P.info? ty).map (·.size) = some cs.length) : (execOp ρ o).run P w = .ok (.value (.agg cs.toArray)) w := by
  unfold execOp
  simp only [ho, hx, Instr.loadAt, Instr.sureAddr, Sem.run_bind, Sem.run_pure, Result.andThen_ok, run_loadVar_mid w b off ty cs d hc hu hd hi]
set_option maxRecDepth 100000 in
theorem built_tab (e : Int) (o : List Int) (h : o.length = 16) : Tryd.prog.built 32 [(0, .int .i64 e), (1, .agg (acs o))] = some (tcs e o) := by
  obtain ⟨a0, a1, a2, a3, a4, a5, a6, a7, a8, a9, a10, a11, a12, a13, a14, a15, rfl⟩ := list16 o h
  kernel_rfl
theorem acs_one (o : List Int) : (acs o).all (·.oneCell') = true := by simp [acs, Value.oneCell']

set_option maxRecDepth 100000 in
set_option maxHeartbeats 8000000 in
theorem walk_bad (nodes : Int) (a : Option Addr) (n c : Nat) (w : World) (h : nodes < 1 ∨ 8 < nodes) :
    Calls Tryd.prog 7 #[.int .i64 nodes, .slice a n c] w fun r w' => r = .returned (.bool true) ∧ Below w.heap.size w w' := by
  have HN := Lib.hid (fun w : World => new_bad nodes 4 w (by omega))
  have h0 : nodes < 1 ∨ 1 ≤ nodes ∧ 8 < nodes := by omega
  clear h
  rcases h0 with h | ⟨h1, h2⟩
  all_goals
    go_enter Tryd.func7, Tryd.ntmps7
    go_wp2_with (first
      | (go_at_call 8; refine (awake_any _).mono ?_; rintro r w2 ⟨rfl, hb2⟩; have HB2 := Lib.hid hb2; clear hb2)
      | (go_at_call 12; refine (HN.out _).mono ?_; rintro r w3 ⟨rfl, hb3⟩; have HB3 := Lib.hid (HB2.out.trans (hb3.mono HB2.out.size)); clear hb3)
      | (refine wpList_store_rowTo rfl 32 (.tmp 5) (.tmp 21) rfl rfl w3.heap.size (tcs 0 noOwn) rfl rfl 32 _ (heap_alloc_new w3 _) (by kernel_rfl) rfl zero_one ?_
         rw [setRow_new]
         have HB4 := Lib.hid (HB3.out.alloc HB3.out.size (.cells (tcs 0 noOwn) 32))
         generalize w3.alloc (.cells (tcs 0 noOwn) 32) = w4 at *
         generalize w3.heap.size = g7 at *))
    go_ret
    exact ⟨rfl, HB4.out⟩
/-- What the law's loop holds. -/
structure WS (w W : World) (g5 g7 g8 : Nat) (O : List Int) (n : Nat) (o : List Int) : Prop where
  len : o.length = 16
  ins : ∀ y ∈ o, In64 y
  t5 : Whole W g5 32 (tcs n o)
  t7 : Whole W g7 32 (tcs 0 O)
  t8 : Whole W g8 30 (acs o)
  bel : Below w.heap.size w W
  b5 : w.heap.size ≤ g5
  b8 : w.heap.size ≤ g8
  n57 : g5 ≠ g7
  n58 : g5 ≠ g8
  n78 : g7 ≠ g8
theorem WS.below {w W W' : World} {g5 g7 g8 n : Nat} {O o : List Int} (h : WS w W g5 g7 g8 O n o) (hb : Below W.heap.size W W') : WS w W' g5 g7 g8 O n o :=
  ⟨h.len, h.ins, h.t5.kept (hb.block _ h.t5.lt), h.t7.kept (hb.block _ h.t7.lt), h.t8.kept (hb.block _ h.t8.lt), h.bel.trans (hb.mono h.bel.size), h.b5, h.b8, h.n57, h.n58, h.n78⟩
theorem Tryd.infoA2 (o : List Int) (h : o.length = 16) : (Tryd.prog.info? 30).map (·.size) = some (acs o).size := by rw [acs_size, h]; exact Tryd.infoA
theorem Tryd.infoA3 (o : List Int) (h : o.length = 16) : (Tryd.prog.info? 30).map (·.size) = some (acs o).toList.length := by rw [Array.length_toList]; exact Tryd.infoA2 o h

theorem Mt.move_cases2 (e : Int) (o : List Int) (s y : Int) (he0 : 0 ≤ e) (he7 : e ≤ 1125899906842623) :
    (∃ k : Nat, s = k ∧ k < 16 ∧ Mt.move e o s y = (e + 1, o.set k y, 0) ∧ o.getD k 0 ≠ y ∧ 0 ≤ y ∧ y ≤ 7) ∨ (Mt.move e o s y = (0, noOwn, 1) ∧ (s < 0 ∨ 0 ≤ s ∧ 16 ≤ s ∨ (0 ≤ s ∧ s ≤ 15) ∧ y < 0 ∨ (0 ≤ s ∧ s ≤ 15) ∧ 0 ≤ y ∧ 8 ≤ y)) ∨ (∃ k : Nat, s = k ∧ k < 16 ∧ Mt.move e o s y = (0, noOwn, 5) ∧ o.getD k 0 = y ∧ 0 ≤ y ∧ y ≤ 7) := by
  by_cases h : s < 0 ∨ 15 < s ∨ y < 0 ∨ 7 < y ∨ e < 0 ∨ 1125899906842623 < e
  · refine .inr (.inl ⟨by unfold Mt.move; rw [if_pos h]; rfl, by omega⟩)
  · obtain ⟨k, rfl⟩ : ∃ k : Nat, s = k := ⟨s.toNat, by omega⟩
    by_cases h6 : o.getD k 0 = y
    · exact .inr (.inr ⟨k, rfl, by omega, by unfold Mt.move; rw [if_neg h, if_pos (by simpa using h6)]; rfl, h6, by omega, by omega⟩)
    · exact .inl ⟨k, rfl, by omega, by unfold Mt.move; rw [if_neg h, if_neg (by simpa using h6)]; simp, h6, by omega, by omega⟩
theorem acs_set (o : List Int) (k : Nat) (x : Int) : (acs o).setIfInBounds k (.int .i64 x) = acs (o.set k x) := by simp [acs, List.map_set]
theorem pair_cells {W : World} {g : Nat} {s t : Int} (h : Whole W g 29 #[.int .i64 s, .int .i64 t]) : W.cell? ⟨g, 0, none⟩ = some (.int .i64 s) ∧ W.cell? ⟨g, 1, none⟩ = some (.int .i64 t) := ⟨by rw [h.cell]; rfl, by rw [h.cell]; rfl⟩

set_option maxRecDepth 100000 in
set_option maxHeartbeats 16000000 in
theorem walk_good (nodes : Nat) (a : Option Addr) (N c : Nat) (w : World) (h1 : 1 ≤ nodes) (h2 : nodes ≤ 8) (hm : MovesIn w a N) (hN : N ≤ 140737488355328) :
    Calls Tryd.prog 7 #[.int .i64 nodes, .slice a N c] w fun r w' => r = .returned (.bool true) ∧ Below w.heap.size w w' := by
  have HN := Lib.hid (fun w : World => new_good nodes 4 w h1 h2 (by omega) (by omega))
  have hlO := Mt.owns_len nodes 4
  have hiO : ∀ y ∈ Mt.owns nodes 4, In64 y := by
    intro z hz
    have := Mt.owns_mem (nodes := nodes) (points := 4) (by omega) (by omega) z hz
    unfold In64
    omega
  generalize Mt.owns nodes 4 = O at *
  have HTO := Lib.hid (TabC.mk' 0 O hlO)
  have HIO := Lib.hid hiO
  have HM := Lib.hid hm
  clear hm hiO
  go_enter Tryd.func7, Tryd.ntmps7
  go_wp2_with (first
    | (go_at_call 8; refine (awake_any _).mono ?_; rintro r w2 ⟨rfl, hb2⟩; have HB2 := Lib.hid hb2; clear hb2)
    | (go_at_call 12; refine (HN.out _).mono ?_; rintro r w3 ⟨rfl, hb3⟩; have HB3 := Lib.hid (HB2.out.trans (hb3.mono HB2.out.size)); clear hb3)
    | (refine wpList_store_rowTo rfl 32 (.tmp 5) (.tmp 21) rfl rfl w3.heap.size (tcs 0 O) rfl rfl 32 _ (heap_alloc_new w3 _) HTO.out.info (by rw [HTO.out.size]; rfl) HTO.out.one ?_
       rw [setRow_new]
       have HB4 := Lib.hid (HB3.out.alloc HB3.out.size (.cells (tcs 0 O) 32))
       have HT5 := Lib.hid (show Whole (w3.alloc (.cells (tcs 0 O) 32)) w3.heap.size 32 (tcs 0 O) from heap_alloc_new _ _)
       have HG5 := Lib.hid (show w.heap.size ≤ w3.heap.size from HB3.out.size)
       generalize w3.alloc (.cells (tcs 0 O) 32) = w4 at *
       generalize w3.heap.size = g5 at *)
    | (refine wpList_load_row rfl 32 (.tmp 5) rfl g5 rfl 32 (tcs 0 O) (0, 0) _ HT5.out Tryd.underlying32 rfl HTO.out.info ?_)
    | (refine wpList_store_rowTo rfl 32 (.tmp 7) (.tmp 31) rfl rfl w4.heap.size (tcs 0 O) rfl rfl 32 _ (heap_alloc_new w4 _) HTO.out.info (by rw [HTO.out.size]; rfl) HTO.out.one ?_
       rw [setRow_new]
       have HB5 := Lib.hid (HB4.out.alloc HB4.out.size (.cells (tcs 0 O) 32))
       have HT7 := Lib.hid (show Whole (w4.alloc (.cells (tcs 0 O) 32)) w4.heap.size 32 (tcs 0 O) from heap_alloc_new _ _)
       have HT5b := Lib.hid (HT5.out.kept ((below_alloc w4 (.cells (tcs 0 O) 32)).block _ HT5.out.lt))
       have H57 := Lib.hid (show g5 ≠ w4.heap.size from Nat.ne_of_lt HT5.out.lt)
       generalize w4.alloc (.cells (tcs 0 O) 32) = w5 at *
       generalize w4.heap.size = g7 at *)
    | (refine wpList_load_mid rfl 30 (.tmp 32) rfl g5 1 rfl (acs O).toList _ (range_owners HT5b.out HTO.out) Tryd.underlying30 rfl (Tryd.infoA3 O hlO) ?_)
    | (refine wpList_store_rowTo rfl 30 (.tmp 8) (.tmp 33) rfl rfl w5.heap.size (acs O) rfl rfl 30 _ (heap_alloc_new w5 _) (Tryd.infoA2 O hlO) (by rw [acs_size, hlO]; rfl) (acs_one O) ?_
       rw [setRow_new]
       have hb6 := below_alloc w5 (.cells (acs O) 30)
       have HS := Lib.hid (show WS w (w5.alloc (.cells (acs O) 30)) g5 g7 w5.heap.size O 0 O from ⟨hlO, HIO.out, HT5b.out.kept (hb6.block _ HT5b.out.lt), HT7.out.kept (hb6.block _ HT7.out.lt), heap_alloc_new _ _, HB5.out.trans (hb6.mono HB5.out.size), HG5.out, HB5.out.size, H57.out, Nat.ne_of_lt HT5b.out.lt, Nat.ne_of_lt HT7.out.lt⟩)
       clear hb6
       generalize w5.alloc (.cells (acs O) 30) = w6 at *
       generalize w5.heap.size = g8 at *))
  go_loopw [9, 36] (fun nv iv wr => (∃ (i n : Nat) (o : List Int), i ≤ N ∧ n ≤ i ∧ iv = .int .i64 i ∧ nv = .int .i64 n ∧ WS w wr g5 g7 g8 O n o)) (fun _ iv _ => N - (intOf iv).toNat)
  case atStart => exact ⟨0, 0, O, by omega, by omega, rfl, rfl, HS.out⟩
  case round =>
    obtain ⟨i, n, o, hi, hn, rfl, rfl, hs⟩ := hrel
    by_cases hlt : i < N
    · obtain ⟨b, off, s, t, rfl, c0, c1⟩ := HM.out.at_ hs.bel hlt
      have HS2 := Lib.hid (hs.below (below_alloc wr (.cells #[.int .i64 s, .int .i64 t] 29)))
      have HP := Lib.hid (show Whole (wr.alloc (.cells #[.int .i64 s, .int .i64 t] 29)) wr.heap.size 29 #[.int .i64 s, .int .i64 t] from heap_alloc_new _ _)
      have HTN := Lib.hid (TabC.mk' n o hs.len)
      have hg511 : g5 < wr.heap.size := hs.t5.lt
      clear hs
      have hn7 : (n : Int) ≤ 1125899906842623 := by omega
      go_upto_region 12 with fail
      clear c0 c1
      generalize wr.alloc (.cells #[.int .i64 s, .int .i64 t] 29) = w7 at *
      generalize wr.heap.size = g11 at *
      obtain ⟨k0, k1⟩ := pair_cells HP.out
      rcases Mt.move_cases2 n o s t (by omega) hn7 with ⟨k, rfl, hk16, hmm, hne, ht0, ht7⟩ | ⟨hmm, hrg⟩ | ⟨k, rfl, hk16, hmm, heq, ht0, ht7⟩
      · have HMM := Lib.hid hmm
        have HTU := Lib.hid (TabC.mk' ((n : Int) + 1) (o.set k t) (by rw [List.length_set]; exact HTN.out.len))
        have hk16i : (k : Int) < 16 := by omega
        generalize hx : o.getD k 0 = x at *
        have HX0 := Lib.hid hx
        clear hmm hx
        go_wp2_with (first
          | (refine wpList_load_row rfl 32 (.tmp 5) rfl g5 rfl 32 (tcs n o) (0, 0) _ HS2.out.t5 Tryd.underlying32 rfl HTN.out.info ?_)
          | (go_at_call 14; refine (move_any (k : Int) t _ HTN.out).mono ?_; rintro r w8 ⟨rfl, hb8⟩; rw [HMM.out]; have HS3 := Lib.hid (HS2.out.below hb8); have HP3 := Lib.hid (HP.out.kept (hb8.block _ HP.out.lt)); clear hb8 k0 k1)
          | (refine wpList_store_rowTo rfl 32 (.tmp 12) (.tmp 47) rfl rfl w8.heap.size (tcs ((n : Int) + 1) (o.set k t)) rfl rfl 32 _ (heap_alloc_new w8 _) HTU.out.info (by rw [HTU.out.size]; rfl) HTU.out.one ?_
             rw [setRow_new]
             have hb9 := below_alloc w8 (.cells (tcs ((n : Int) + 1) (o.set k t)) 32)
             have HS4 := Lib.hid (HS3.out.below hb9)
             have HX := Lib.hid (show Whole (w8.alloc (.cells (tcs ((n : Int) + 1) (o.set k t)) 32)) w8.heap.size 32 (tcs ((n : Int) + 1) (o.set k t)) from heap_alloc_new _ _)
             obtain ⟨k0, k1⟩ := pair_cells (HP3.out.kept (hb9.block _ HP3.out.lt))
             have HP4 := Lib.hid (HP3.out.kept (hb9.block _ HP3.out.lt))
             clear hb9
             generalize w8.alloc (.cells (tcs ((n : Int) + 1) (o.set k t)) 32) = w9 at *
             generalize w8.heap.size = g12 at *)
          | (refine wpList_load_row rfl 32 (.tmp 12) rfl g12 rfl 32 (tcs ((n : Int) + 1) (o.set k t)) (0, 0) _ HX.out Tryd.underlying32 rfl HTU.out.info ?_)
          | (refine wpList_store_rowTo rfl 32 (.tmp 5) (.tmp 92) rfl rfl g5 (tcs ((n : Int) + 1) (o.set k t)) rfl rfl 32 _ HS4.out.t5 HTU.out.info (by rw [HTU.out.size, HTN.out.size]) HTU.out.one ?_
             have q5 : Whole (w9.setRow g5 (tcs ((n : Int) + 1) (o.set k t))) g5 32 (tcs ((n : Int) + 1) (o.set k t)) := setRow_heap _ _ _ _ _ _ HS4.out.t5
             have q7 := HS4.out.t7.kept (setRow_other w9 g5 g7 (tcs ((n : Int) + 1) (o.set k t)) HS4.out.n57.symm)
             have q8 := HS4.out.t8.kept (setRow_other w9 g5 g8 (tcs ((n : Int) + 1) (o.set k t)) HS4.out.n58.symm)
             have qp := HP4.out.kept (setRow_other w9 g5 g11 (tcs ((n : Int) + 1) (o.set k t)) (Nat.ne_of_gt hg511))
             have qb := below_setRow HS4.out.bel HS4.out.b5 (tcs ((n : Int) + 1) (o.set k t))
             generalize w9.setRow g5 (tcs ((n : Int) + 1) (o.set k t)) = w10 at *
             obtain ⟨k0', k1'⟩ := pair_cells qp
             have z8 := q8.free k
             have r8 : w10.cell? ⟨g8, k, none⟩ = some (.int .i64 x) := by rw [q8.cell, acs_at o k (by rw [HTN.out.len]; exact hk16), HX0.out]
             have Q5 := Lib.hid q5; have Q7 := Lib.hid q7; have Q8 := Lib.hid q8; have QB := Lib.hid qb
             clear q5 q7 q8 qp qb k0 k1))
        go_roundw
        case rel =>
          have h8 := Q8.out.store k (.int .i64 t)
          rw [acs_set] at h8
          refine ⟨i + 1, n + 1, o.set k t, by omega, by omega, by go_num, by go_num, ⟨by rw [List.length_set]; exact HTN.out.len, ?_, ?_, Q7.out.kept (Below.heap_setCell _ _ _ _ (by simp; exact HS4.out.n78)), h8, QB.out.setCell (by simp; exact HS4.out.b8) _, HS4.out.b5, HS4.out.b8, HS4.out.n57, HS4.out.n58, HS4.out.n78⟩⟩
          · intro y hy
            rcases List.mem_or_eq_of_mem_set hy with h | h
            · exact HS4.out.ins y h
            · rw [h]; unfold In64; omega
          · rw [show ((n + 1 : Nat) : Int) = (n : Int) + 1 by omega]
            exact Q5.out.kept (Below.heap_setCell _ _ _ _ (by simp; exact HS4.out.n58))
        case measure => simp [intOf]; omega
      · have HMM := Lib.hid hmm
        have HTU := Lib.hid noOwn_tab
        clear hmm
        rcases hrg with h1 | ⟨h1, h2⟩ | ⟨⟨h1, h2⟩, h3⟩ | ⟨⟨h1, h2⟩, h3, h4⟩
        all_goals
          try have d8 : decide (t < 8) = false := by simp; omega
          go_wp2_with (first
            | (refine wpList_load_row rfl 32 (.tmp 5) rfl g5 rfl 32 (tcs n o) (0, 0) _ HS2.out.t5 Tryd.underlying32 rfl HTN.out.info ?_)
            | (go_at_call 14; refine (move_any s t _ HTN.out).mono ?_; rintro r w8 ⟨rfl, hb8⟩; rw [HMM.out]; have HS3 := Lib.hid (HS2.out.below hb8); have HP3 := Lib.hid (HP.out.kept (hb8.block _ HP.out.lt)); clear hb8 k0 k1)
            | (refine wpList_store_rowTo rfl 32 (.tmp 12) (.tmp 47) rfl rfl w8.heap.size (tcs 0 noOwn) rfl rfl 32 _ (heap_alloc_new w8 _) HTU.out.info (by rw [HTU.out.size]; rfl) HTU.out.one ?_
               rw [setRow_new]
               have hb9 := below_alloc w8 (.cells (tcs 0 noOwn) 32)
               have HS4 := Lib.hid (HS3.out.below hb9)
               have HX := Lib.hid (show Whole (w8.alloc (.cells (tcs 0 noOwn) 32)) w8.heap.size 32 (tcs 0 noOwn) from heap_alloc_new _ _)
               obtain ⟨k0, k1⟩ := pair_cells (HP3.out.kept (hb9.block _ HP3.out.lt))
               have HP4 := Lib.hid (HP3.out.kept (hb9.block _ HP3.out.lt))
               clear hb9
               generalize w8.alloc (.cells (tcs 0 noOwn) 32) = w9 at *
               generalize w8.heap.size = g12 at *)
            | (refine wpList_load_want (by kernel_rfl) 32 (.tmp 12) rfl g12 rfl 32 (tcs 0 noOwn) (0, 0) _ HX.out Tryd.underlying32 rfl HTU.out.info ?_)
            | (refine wpList_neq_self (by kernel_rfl) 32 (.tmp 75) (.tmp 76) 32 rfl (tcs 0 noOwn) rfl rfl guardT (eq_tab 0 noOwn rfl in64_0 zeros_in _) ?_))
          go_region
          all_goals
            go_wp2
            go_roundw
            case rel => exact ⟨i + 1, n, o, by omega, by omega, by go_num, rfl, HS4.out.below (below_drewN _ 1)⟩
            case measure => simp [intOf]; omega
      · have HMM := Lib.hid hmm
        have HTU := Lib.hid noOwn_tab
        have hk16i : (k : Int) < 16 := by omega
        clear hmm
        go_wp2_with (first
          | (refine wpList_load_row rfl 32 (.tmp 5) rfl g5 rfl 32 (tcs n o) (0, 0) _ HS2.out.t5 Tryd.underlying32 rfl HTN.out.info ?_)
          | (go_at_call 14; refine (move_any (k : Int) t _ HTN.out).mono ?_; rintro r w8 ⟨rfl, hb8⟩; rw [HMM.out]; have HS3 := Lib.hid (HS2.out.below hb8); have HP3 := Lib.hid (HP.out.kept (hb8.block _ HP.out.lt)); clear hb8 k0 k1)
          | (refine wpList_store_rowTo rfl 32 (.tmp 12) (.tmp 47) rfl rfl w8.heap.size (tcs 0 noOwn) rfl rfl 32 _ (heap_alloc_new w8 _) HTU.out.info (by rw [HTU.out.size]; rfl) HTU.out.one ?_
             rw [setRow_new]
             have hb9 := below_alloc w8 (.cells (tcs 0 noOwn) 32)
             have HS4 := Lib.hid (HS3.out.below hb9)
             have HX := Lib.hid (show Whole (w8.alloc (.cells (tcs 0 noOwn) 32)) w8.heap.size 32 (tcs 0 noOwn) from heap_alloc_new _ _)
             obtain ⟨k0, k1⟩ := pair_cells (HP3.out.kept (hb9.block _ HP3.out.lt))
             have HP4 := Lib.hid (HP3.out.kept (hb9.block _ HP3.out.lt))
             clear hb9
             generalize w8.alloc (.cells (tcs 0 noOwn) 32) = w9 at *
             generalize w8.heap.size = g12 at *)
          | (refine wpList_load_want (by kernel_rfl) 32 (.tmp 12) rfl g12 rfl 32 (tcs 0 noOwn) (0, 0) _ HX.out Tryd.underlying32 rfl HTU.out.info ?_)
          | (refine wpList_neq_self (by kernel_rfl) 32 (.tmp 75) (.tmp 76) 32 rfl (tcs 0 noOwn) rfl rfl guardT (eq_tab 0 noOwn rfl in64_0 zeros_in _) ?_))
        have q8 : w9.cell? ⟨g8, k, none⟩ = some (.int .i64 t) := by rw [HS4.out.t8.cell, acs_at o k (by rw [HS4.out.len]; exact hk16), heq]
        clear heq
        go_region
        all_goals
          go_wp2
          go_roundw
          case rel => exact ⟨i + 1, n, o, by omega, by omega, by go_num, rfl, HS4.out.below (below_drewN _ 1)⟩
          case measure => simp [intOf]; omega
    · obtain rfl : i = N := by omega
      have HS2 := Lib.hid hs
      have HTN := Lib.hid (TabC.mk' n o hs.len)
      have HTB := Lib.hid (TabC.mk' n O hlO)
      have HBU := Lib.hid (built_tab (n : Int) O hlO)
      have c0 : wr.cell? ⟨g5, 0, none⟩ = some (.int .i64 (n : Int)) := by rw [hs.t5.cell]; exact HTN.out.c0
      have HR7 := Lib.hid (range_owners hs.t7 HTO.out)
      clear hs
      go_upto_region 24 with (first
        | (refine wpList_load_mid rfl 30 (.tmp 103) rfl g7 1 rfl (acs O).toList _ HR7.out Tryd.underlying30 rfl (Tryd.infoA3 O hlO) ?_)
        | (refine wpList_at (some 105) rfl ?_; refine wpList_buildTo rfl 32 #[(0, .tmp 102), (1, .tmp 104)] rfl (some 105) rfl (tcs n O) (by simpa [Act.eval, Act.put] using HBU.out) ?_)
        | (refine wpList_store_rowTo rfl 32 (.tmp 15) (.tmp 105) rfl rfl wr.heap.size (tcs n O) rfl rfl 32 _ (heap_alloc_new wr _) HTB.out.info (by rw [HTB.out.size]; rfl) HTB.out.one ?_
           rw [setRow_new]
           have HS3 := Lib.hid (HS2.out.below (below_alloc wr (.cells (tcs n O) 32)))
           have HX15 := Lib.hid (show Whole (wr.alloc (.cells (tcs n O) 32)) wr.heap.size 32 (tcs n O) from heap_alloc_new _ _)
           clear c0
           generalize wr.alloc (.cells (tcs n O) 32) = w11 at *
           generalize wr.heap.size = g15 at *))
      have HT5 := Lib.hid HS3.out.t5; have HT7 := Lib.hid HS3.out.t7; have HT8 := Lib.hid HS3.out.t8
      have HC0 := Lib.hid (show w11.cell? ⟨g5, 0, none⟩ = some (.int .i64 (n : Int)) by rw [HS3.out.t5.cell]; exact HTN.out.c0)
      have HSYM := Lib.hid (other_sym o O)
      refine wp_region_held_drew (S := fun V => Below w11.heap.size w11 V) (by kernel_rfl) (below_drewN w11 1) (fun hHeld => ?_)
      generalize w11.drew = wd at *
      refine wpAnyH_take (i := 0) (oi := { dst := Option.some 106, op := Go.Op.fieldAddr 32 (Go.Operand.tmp 5) 1, type := 0, pos := "law.go:141", after := #[], guard := Option.none }) (v := ?_) rfl (by kernel_rfl) (by kernel_rfl) (by kernel_rfl) (fun _ _ _ h => h) (Or.inl ⟨by rfl, ?_⟩) (by assumption) ?_
      rotate_left
      · intro V hV; (try dsimp only at hV); go_simp; all_goals (with_reducible rfl)
      try simp only [Act.put, List.setIfInBounds_toArray, List.set_cons_zero, List.set_cons_succ]
      refine wpAnyH_take (i := 1) (oi := { dst := Option.some 107, op := Go.Op.load 30 (Go.Operand.tmp 106), type := 30, pos := "law.go:141", after := #[{ on := 0, ground := Go.Ground.data }], guard := Option.none }) (v := .agg (acs o).toList.toArray) rfl (by kernel_rfl) (by kernel_rfl) (by kernel_rfl) (fun _ _ _ h => h) (Or.inl ⟨by rfl, fun V hV => exec_mid _ _ V 30 (.tmp 106) rfl g5 1 rfl (acs o).toList _ (range_owners (HT5.out.kept (hV.block _ HT5.out.lt)) HTN.out) Tryd.underlying30 rfl (Tryd.infoA3 o HS3.out.len)⟩) (by assumption) ?_
      try simp only [Act.put, List.setIfInBounds_toArray, List.set_cons_zero, List.set_cons_succ]
      refine wpAnyH_take (i := 2) (oi := { dst := Option.some 108, op := Go.Op.load 30 (Go.Operand.tmp 8), type := 30, pos := "law.go:141", after := #[], guard := Option.none }) (v := .agg (acs o)) rfl (by kernel_rfl) (by kernel_rfl) (by kernel_rfl) (fun _ _ _ h => h) (Or.inl ⟨by rfl, fun V hV => exec_row _ _ V 30 (.tmp 8) rfl g8 rfl 30 (acs o) _ (HT8.out.kept (hV.block _ HT8.out.lt)) Tryd.underlying30 rfl (Tryd.infoA2 o HS3.out.len)⟩) (by assumption) ?_
      try simp only [Act.put, List.setIfInBounds_toArray, List.set_cons_zero, List.set_cons_succ]
      refine wpAnyH_take (i := 3) (oi := { dst := Option.some 109, op := Go.Op.binOp Go.BinOp.eql 30 (Go.Operand.tmp 107) (Go.Operand.tmp 108) 30, type := 4, pos := "law.go:141", after := #[{ on := 1, ground := Go.Ground.data }, { on := 2, ground := Go.Ground.data }], guard := Option.none }) (v := .bool true) rfl (by kernel_rfl) (by kernel_rfl) (by kernel_rfl) (fun _ _ _ h => h) (Or.inl ⟨by rfl, fun V _ => exec_eql_self _ 30 (.tmp 107) (.tmp 108) 30 rfl (acs o) rfl rfl guardA (eq_arr2 o HS3.out.len HS3.out.ins V)⟩) (by assumption) ?_
      try simp only [Act.put, List.setIfInBounds_toArray, List.set_cons_zero, List.set_cons_succ]
      refine wpAnyH_take (i := 4) (oi := { dst := Option.some 110, op := Go.Op.move (Go.Operand.tmp 109), type := 4, pos := "law.go:141", after := #[{ on := 3, ground := Go.Ground.data }], guard := Option.none }) (v := ?_) rfl (by kernel_rfl) (by kernel_rfl) (by kernel_rfl) (fun _ _ _ h => h) (Or.inl ⟨by rfl, ?_⟩) (by assumption) ?_
      rotate_left
      · intro V hV; (try dsimp only at hV); go_simp; all_goals (with_reducible rfl)
      try simp only [Act.put, List.setIfInBounds_toArray, List.set_cons_zero, List.set_cons_succ]
      refine wpAnyH_take (i := 5) (oi := { dst := Option.some 111, op := Go.Op.fieldAddr 32 (Go.Operand.tmp 5) 0, type := 0, pos := "law.go:141", after := #[{ on := 4, ground := Go.Ground.guard }], guard := Option.some (4, Bool.true) }) (v := ?_) rfl (by kernel_rfl) (by kernel_rfl) (by kernel_rfl) (fun _ _ _ h => h) (Or.inl ⟨by rfl, ?_⟩) (by assumption) ?_
      rotate_left
      · intro V hV; (try dsimp only at hV); go_simp; all_goals (with_reducible rfl)
      try simp only [Act.put, List.setIfInBounds_toArray, List.set_cons_zero, List.set_cons_succ]
      refine wpAnyH_take (i := 6) (oi := { dst := Option.some 112, op := Go.Op.load 2 (Go.Operand.tmp 111), type := 2, pos := "law.go:141", after := #[{ on := 5, ground := Go.Ground.data }, { on := 4, ground := Go.Ground.guard }], guard := Option.some (4, Bool.true) }) (v := ?_) rfl (by kernel_rfl) (by kernel_rfl) (by kernel_rfl) (fun _ _ _ h => h) (Or.inl ⟨by rfl, ?_⟩) (by assumption) ?_
      rotate_left
      · intro V hV; (try dsimp only at hV); have cV := (hV.cell (p := ⟨g5, 0, none⟩) HT5.out.lt).trans HC0.out; go_simp; all_goals (with_reducible rfl)
      try simp only [Act.put, List.setIfInBounds_toArray, List.set_cons_zero, List.set_cons_succ]
      refine wpAnyH_take (i := 7) (oi := { dst := Option.some 113, op := Go.Op.move (Go.Operand.tmp 9), type := 2, pos := "law.go:141", after := #[{ on := 4, ground := Go.Ground.guard }], guard := Option.some (4, Bool.true) }) (v := ?_) rfl (by kernel_rfl) (by kernel_rfl) (by kernel_rfl) (fun _ _ _ h => h) (Or.inl ⟨by rfl, ?_⟩) (by assumption) ?_
      rotate_left
      · intro V hV; (try dsimp only at hV); go_simp; all_goals (with_reducible rfl)
      try simp only [Act.put, List.setIfInBounds_toArray, List.set_cons_zero, List.set_cons_succ]
      refine wpAnyH_take (i := 8) (oi := { dst := Option.some 114, op := Go.Op.binOp Go.BinOp.eql 2 (Go.Operand.tmp 112) (Go.Operand.tmp 113) 2, type := 4, pos := "law.go:141", after := #[{ on := 6, ground := Go.Ground.data }, { on := 7, ground := Go.Ground.data }, { on := 4, ground := Go.Ground.guard }], guard := Option.some (4, Bool.true) }) (v := ?_) rfl (by kernel_rfl) (by kernel_rfl) (by kernel_rfl) (fun _ _ _ h => h) (Or.inl ⟨by rfl, ?_⟩) (by assumption) ?_
      rotate_left
      · intro V hV; (try dsimp only at hV); go_simp; all_goals (with_reducible rfl)
      try simp only [Act.put, List.setIfInBounds_toArray, List.set_cons_zero, List.set_cons_succ]
      refine wpAnyH_take (i := 9) (oi := { dst := Option.some 115, op := Go.Op.pick (Go.Operand.tmp 110) (Go.Operand.tmp 114) (Go.Operand.const (Go.Value.bool Bool.false)), type := 4, pos := "law.go:141", after := #[{ on := 4, ground := Go.Ground.data }, { on := 8, ground := Go.Ground.data }], guard := Option.none }) (v := ?_) rfl (by kernel_rfl) (by kernel_rfl) (by kernel_rfl) (fun _ _ _ h => h) (Or.inl ⟨by rfl, ?_⟩) (by assumption) ?_
      rotate_left
      · intro V hV; (try dsimp only at hV); go_simp; all_goals (with_reducible rfl)
      try simp only [Act.put, List.setIfInBounds_toArray, List.set_cons_zero, List.set_cons_succ]
      refine wpAnyH_take (i := 10) (oi := { dst := Option.some 116, op := Go.Op.move (Go.Operand.tmp 115), type := 4, pos := "law.go:141", after := #[{ on := 9, ground := Go.Ground.data }, { on := 4, ground := Go.Ground.chain }], guard := Option.none }) (v := ?_) rfl (by kernel_rfl) (by kernel_rfl) (by kernel_rfl) (fun _ _ _ h => h) (Or.inl ⟨by rfl, ?_⟩) (by assumption) ?_
      rotate_left
      · intro V hV; (try dsimp only at hV); go_simp; all_goals (with_reducible rfl)
      try simp only [Act.put, List.setIfInBounds_toArray, List.set_cons_zero, List.set_cons_succ]
      refine wpAnyH_take (i := 11) (oi := { dst := Option.some 117, op := Go.Op.load 32 (Go.Operand.tmp 5), type := 32, pos := "law.go:141", after := #[{ on := 10, ground := Go.Ground.guard }], guard := Option.some (10, Bool.true) }) (v := .agg (tcs n o)) rfl (by kernel_rfl) (by kernel_rfl) (by kernel_rfl) (fun _ _ _ h => h) (Or.inl ⟨by rfl, fun V hV => exec_row _ _ V 32 (.tmp 5) rfl g5 rfl 32 (tcs n o) _ (HT5.out.kept (hV.block _ HT5.out.lt)) Tryd.underlying32 rfl HTN.out.info⟩) (by assumption) ?_
      try simp only [Act.put, List.setIfInBounds_toArray, List.set_cons_zero, List.set_cons_succ]
      refine wpAnyH_take (i := 12) (oi := { dst := Option.some 118, op := Go.Op.load 32 (Go.Operand.tmp 15), type := 32, pos := "law.go:141", after := #[{ on := 10, ground := Go.Ground.guard }], guard := Option.some (10, Bool.true) }) (v := .agg (tcs n O)) rfl (by kernel_rfl) (by kernel_rfl) (by kernel_rfl) (fun _ _ _ h => h) (Or.inl ⟨by rfl, fun V hV => exec_row _ _ V 32 (.tmp 15) rfl g15 rfl 32 (tcs n O) _ (HX15.out.kept (hV.block _ HX15.out.lt)) Tryd.underlying32 rfl HTB.out.info⟩) (by assumption) ?_
      try simp only [Act.put, List.setIfInBounds_toArray, List.set_cons_zero, List.set_cons_succ]
      refine wpAnyH_take (i := 15) (oi := { dst := Option.some 121, op := Go.Op.load 32 (Go.Operand.tmp 7), type := 32, pos := "law.go:141", after := #[{ on := 10, ground := Go.Ground.guard }], guard := Option.some (10, Bool.true) }) (v := .agg (tcs 0 O)) rfl (by kernel_rfl) (by kernel_rfl) (by kernel_rfl) (fun _ _ _ h => h) (Or.inl ⟨by rfl, fun V hV => exec_row _ _ V 32 (.tmp 7) rfl g7 rfl 32 (tcs 0 O) _ (HT7.out.kept (hV.block _ HT7.out.lt)) Tryd.underlying32 rfl HTO.out.info⟩) (by assumption) ?_
      try simp only [Act.put, List.setIfInBounds_toArray, List.set_cons_zero, List.set_cons_succ]
      refine wpAnyH_take (i := 16) (oi := { dst := Option.some 122, op := Go.Op.load 32 (Go.Operand.tmp 5), type := 32, pos := "law.go:141", after := #[{ on := 10, ground := Go.Ground.guard }], guard := Option.some (10, Bool.true) }) (v := .agg (tcs n o)) rfl (by kernel_rfl) (by kernel_rfl) (by kernel_rfl) (fun _ _ _ h => h) (Or.inl ⟨by rfl, fun V hV => exec_row _ _ V 32 (.tmp 5) rfl g5 rfl 32 (tcs n o) _ (HT5.out.kept (hV.block _ HT5.out.lt)) Tryd.underlying32 rfl HTN.out.info⟩) (by assumption) ?_
      try simp only [Act.put, List.setIfInBounds_toArray, List.set_cons_zero, List.set_cons_succ]
      refine wpAnyH_ready (rs := [13]) (by kernel_rfl) (by simp) ?_
      refine AllReadyH.cons (o := { dst := Option.some 119, op := Go.Op.call { callee := Go.Callee.value (Go.Operand.func 20), args := #[Go.Operand.tmp 117, Go.Operand.tmp 118], argTypes := #[32, 32] }, type := 44, pos := "law.go:141", after := #[{ on := 11, ground := Go.Ground.data }, { on := 12, ground := Go.Ground.data }, { on := 10, ground := Go.Ground.chain }, { on := 10, ground := Go.Ground.guard }], guard := Option.some (10, Bool.true) }) rfl (fun K hK => ?_) (AllReadyH.nil)
      go_simp
      refine (diff_any _ HTN.out HTB.out).mono ?_
      rintro r w21 ⟨⟨v1, rfl, hv1⟩, hb1⟩
      obtain ⟨a1, c1, rfl, _⟩ := Lies.owned hv1
      clear hv1
      rw [HSYM.out]
      have hHeld1 := hHeld.trans (hb1.mono hHeld.size)
      clear hHeld hb1
      go_wp2_with fail
      refine hK.out _ _ hHeld1 (fun hHeld => ?_)
      clear hK K hHeld1
      try simp only [Act.put, List.setIfInBounds_toArray, List.set_cons_zero, List.set_cons_succ]
      refine wpAnyH_take (i := 14) (oi := { dst := Option.some 120, op := Go.Op.call { callee := Go.Callee.builtin Go.Builtin.len, args := #[Go.Operand.tmp 119], argTypes := #[44] }, type := 3, pos := "law.go:141", after := #[{ on := 13, ground := Go.Ground.data }, { on := 10, ground := Go.Ground.guard }], guard := Option.some (10, Bool.true) }) (v := ?_) rfl (by kernel_rfl) (by kernel_rfl) (by kernel_rfl) (fun _ _ _ h => h) (Or.inl ⟨by rfl, ?_⟩) (by assumption) ?_
      rotate_left
      · intro V hV; (try dsimp only at hV); go_simp; all_goals (with_reducible rfl)
      try simp only [Act.put, List.setIfInBounds_toArray, List.set_cons_zero, List.set_cons_succ]
      refine wpAnyH_ready (rs := [17]) (by kernel_rfl) (by simp) ?_
      refine AllReadyH.cons (o := { dst := Option.some 123, op := Go.Op.call { callee := Go.Callee.value (Go.Operand.func 20), args := #[Go.Operand.tmp 121, Go.Operand.tmp 122], argTypes := #[32, 32] }, type := 44, pos := "law.go:141", after := #[{ on := 15, ground := Go.Ground.data }, { on := 16, ground := Go.Ground.data }, { on := 13, ground := Go.Ground.chain }, { on := 10, ground := Go.Ground.guard }], guard := Option.some (10, Bool.true) }) rfl (fun K hK => ?_) (AllReadyH.nil)
      go_simp
      refine (diff_any _ HTO.out HTN.out).mono ?_
      rintro r w22 ⟨⟨v2, rfl, hv2⟩, hb2⟩
      obtain ⟨a2, c2, rfl, _⟩ := Lies.owned hv2
      clear hv2
      have hHeld2 := hHeld.trans (hb2.mono hHeld.size)
      clear hHeld hb2
      go_wp2_with fail
      refine hK.out _ _ hHeld2 (fun hHeld => ?_)
      clear hK K hHeld2
      try simp only [Act.put, List.setIfInBounds_toArray, List.set_cons_zero, List.set_cons_succ]
      refine wpAnyH_take (i := 18) (oi := { dst := Option.some 124, op := Go.Op.call { callee := Go.Callee.builtin Go.Builtin.len, args := #[Go.Operand.tmp 123], argTypes := #[44] }, type := 3, pos := "law.go:141", after := #[{ on := 17, ground := Go.Ground.data }, { on := 10, ground := Go.Ground.guard }], guard := Option.some (10, Bool.true) }) (v := ?_) rfl (by kernel_rfl) (by kernel_rfl) (by kernel_rfl) (fun _ _ _ h => h) (Or.inl ⟨by rfl, ?_⟩) (by assumption) ?_
      rotate_left
      · intro V hV; (try dsimp only at hV); go_simp; all_goals (with_reducible rfl)
      try simp only [Act.put, List.setIfInBounds_toArray, List.set_cons_zero, List.set_cons_succ]
      refine wpAnyH_take (i := 19) (oi := { dst := Option.some 125, op := Go.Op.binOp Go.BinOp.eql 3 (Go.Operand.tmp 120) (Go.Operand.tmp 124) 3, type := 4, pos := "law.go:141", after := #[{ on := 14, ground := Go.Ground.data }, { on := 18, ground := Go.Ground.data }, { on := 10, ground := Go.Ground.guard }], guard := Option.some (10, Bool.true) }) (v := ?_) rfl (by kernel_rfl) (by kernel_rfl) (by kernel_rfl) (fun _ _ _ h => h) (Or.inl ⟨by rfl, ?_⟩) (by assumption) ?_
      rotate_left
      · intro V hV; (try dsimp only at hV); go_simp; all_goals (with_reducible rfl)
      try simp only [Act.put, List.setIfInBounds_toArray, List.set_cons_zero, List.set_cons_succ]
      refine wpAnyH_take (i := 20) (oi := { dst := Option.some 126, op := Go.Op.pick (Go.Operand.tmp 116) (Go.Operand.tmp 125) (Go.Operand.const (Go.Value.bool Bool.false)), type := 4, pos := "law.go:141", after := #[{ on := 10, ground := Go.Ground.data }, { on := 19, ground := Go.Ground.data }], guard := Option.none }) (v := ?_) rfl (by kernel_rfl) (by kernel_rfl) (by kernel_rfl) (fun _ _ _ h => h) (Or.inl ⟨by rfl, ?_⟩) (by assumption) ?_
      rotate_left
      · intro V hV; (try dsimp only at hV); go_simp; all_goals (with_reducible rfl)
      try simp only [Act.put, List.setIfInBounds_toArray, List.set_cons_zero, List.set_cons_succ]
      refine wpAnyH_take (i := 21) (oi := { dst := Option.some 4, op := Go.Op.assign (Go.Operand.tmp 126), type := 4, pos := "law.go:141", after := #[{ on := 20, ground := Go.Ground.data }, { on := 17, ground := Go.Ground.chain }, { on := 0, ground := Go.Ground.phase }, { on := 1, ground := Go.Ground.phase }, { on := 2, ground := Go.Ground.phase }, { on := 3, ground := Go.Ground.phase }, { on := 4, ground := Go.Ground.phase }, { on := 5, ground := Go.Ground.phase }, { on := 6, ground := Go.Ground.phase }, { on := 7, ground := Go.Ground.phase }, { on := 8, ground := Go.Ground.phase }, { on := 9, ground := Go.Ground.phase }, { on := 10, ground := Go.Ground.phase }, { on := 11, ground := Go.Ground.phase }, { on := 12, ground := Go.Ground.phase }, { on := 13, ground := Go.Ground.phase }, { on := 14, ground := Go.Ground.phase }, { on := 15, ground := Go.Ground.phase }, { on := 16, ground := Go.Ground.phase }, { on := 17, ground := Go.Ground.phase }, { on := 18, ground := Go.Ground.phase }, { on := 19, ground := Go.Ground.phase }, { on := 20, ground := Go.Ground.phase }], guard := Option.none }) (v := ?_) rfl (by kernel_rfl) (by kernel_rfl) (by kernel_rfl) (fun _ _ _ h => h) (Or.inl ⟨by rfl, ?_⟩) (by assumption) ?_
      rotate_left
      · intro V hV; (try dsimp only at hV); go_simp; all_goals (with_reducible rfl)
      try simp only [Act.put, List.setIfInBounds_toArray, List.set_cons_zero, List.set_cons_succ]
      refine wpAnyH_done (by kernel_rfl) ?_ _
      have HBF := Lib.hid (HS3.out.bel.trans (hHeld.mono HS3.out.bel.size))
      clear hHeld
      go_wp2
      go_ret
      exact ⟨rfl, HBF.out⟩

theorem walk_walk (nodes : Int) (a : Option Addr) (N c : Nat) (w : World) (hm : MovesIn w a N) (hN : N ≤ 140737488355328) :
    Calls Tryd.prog 7 #[.int .i64 nodes, .slice a N c] w fun r w' => r = .returned (.bool true) ∧ Below w.heap.size w w' := by
  by_cases h : nodes < 1 ∨ 8 < nodes
  · exact walk_bad nodes a N c w h
  · obtain ⟨n, rfl⟩ : ∃ n : Nat, nodes = n := ⟨nodes.toNat, by omega⟩
    exact walk_good n a N c w (by omega) (by omega) hm hN
end Go.Proofs.YtobehjlejlaeeaaDoor
