/- RingTables: first tables, raw tables asked, and moved, are the document's. -/
import Derived.Test.YtobehjlejlaeeaaDoorRDiffs
namespace Go.Proofs.YtobehjlejlaeeaaDoor
open Go.RowKit

/-- What the law's call has in boxes. -/
structure TBx (w W : World) (x0 y0 e : Int) (o : List Int) (x2 y2 : Int) : Prop where
  p0 : Whole W w.heap.size 29 #[.int .i64 x0, .int .i64 y0]
  tt : Whole W (w.heap.size + 1) 32 (tcs e o)
  p2 : Whole W (w.heap.size + 2) 29 #[.int .i64 x2, .int .i64 y2]
  bel : Below w.heap.size w W
theorem TBx.below {w W W' : World} {x0 y0 e : Int} {o : List Int} {x2 y2 : Int} (h : TBx w W x0 y0 e o x2 y2) (hb : Below W.heap.size W W') : TBx w W' x0 y0 e o x2 y2 :=
  ⟨h.p0.kept (hb.block _ h.p0.lt), h.tt.kept (hb.block _ h.tt.lt), h.p2.kept (hb.block _ h.p2.lt), h.bel.trans (hb.mono h.bel.size)⟩
theorem TBx.cells {w W : World} {x0 y0 e : Int} {o : List Int} {x2 y2 : Int} (h : TBx w W x0 y0 e o x2 y2) :
    W.cell? ⟨w.heap.size, 0, none⟩ = some (.int .i64 x0) ∧ W.cell? ⟨w.heap.size, 1, none⟩ = some (.int .i64 y0) ∧ W.cell? ⟨w.heap.size + 2, 0, none⟩ = some (.int .i64 x2) ∧ W.cell? ⟨w.heap.size + 2, 1, none⟩ = some (.int .i64 y2) :=
  ⟨by rw [h.p0.cell]; rfl, by rw [h.p0.cell]; rfl, by rw [h.p2.cell]; rfl, by rw [h.p2.cell]; rfl⟩
theorem TBx.made (w : World) (x0 y0 e : Int) (o : List Int) (x2 y2 : Int) : TBx w (((w.alloc (.cells #[.int .i64 x0, .int .i64 y0] 29)).alloc (.cells (tcs e o) 32)).alloc (.cells #[.int .i64 x2, .int .i64 y2] 29)) x0 y0 e o x2 y2 := by
  have h0 : Whole (w.alloc (.cells #[.int .i64 x0, .int .i64 y0] 29)) w.heap.size 29 #[.int .i64 x0, .int .i64 y0] := heap_alloc_new _ _
  have z1 : (w.alloc (.cells #[.int .i64 x0, .int .i64 y0] 29)).heap.size = w.heap.size + 1 := by simp
  have h1 : Whole ((w.alloc (.cells #[.int .i64 x0, .int .i64 y0] 29)).alloc (.cells (tcs e o) 32)) (w.heap.size + 1) 32 (tcs e o) := by rw [← z1]; exact heap_alloc_new _ _
  have z2 : ((w.alloc (.cells #[.int .i64 x0, .int .i64 y0] 29)).alloc (.cells (tcs e o) 32)).heap.size = w.heap.size + 2 := by simp
  refine ⟨(h0.kept ((below_alloc _ _).block _ h0.lt)).kept ((below_alloc _ _).block _ (by simp; omega)), h1.kept ((below_alloc _ _).block _ h1.lt), by rw [← z2]; exact heap_alloc_new _ _, ?_⟩
  exact ((below_alloc _ _).trans ((below_alloc _ _).mono (by simp))).trans ((below_alloc _ _).mono (by simp; omega))
/-- Both first tables are one. -/
theorem new_both (x y : Int) : ∃ (O : List Int) (c : Int), O.length = 16 ∧ (∀ z ∈ O, In64 z) ∧ (∀ w, Calls Tryd.prog 12 #[.int .i64 x, .int .i64 y] w fun r w' => r = .returned (.tuple #[.agg (tcs 0 O), .int .i64 c]) ∧ Below w.heap.size w w') ∧
    (∀ w, Calls Tryd.prog 13 #[.int .i64 x, .int .i64 y] w fun r w' => r = .returned (.tuple #[.agg (tcs 0 O), .int .i64 c]) ∧ Below w.heap.size w w') := by
  by_cases h : x < 1 ∨ 8 < x ∨ y < 1 ∨ 64 < y
  · exact ⟨noOwn, 1, rfl, zeros_in, fun w => new_bad x y w h, fun w => rnew_bad x y w h⟩
  · obtain ⟨n, rfl⟩ : ∃ n : Nat, x = n := ⟨x.toNat, by omega⟩
    obtain ⟨p, rfl⟩ : ∃ p : Nat, y = p := ⟨y.toNat, by omega⟩
    refine ⟨Mt.owns n p, 0, Mt.owns_len n p, ?_, fun w => new_good n p w (by omega) (by omega) (by omega) (by omega), fun w => rnew_good n p w (by omega) (by omega) (by omega) (by omega)⟩
    intro z hz
    have := Mt.owns_mem (nodes := n) (points := p) (by omega) (by omega) z hz
    unfold In64
    omega
theorem move_in {e : Int} {o : List Int} (t x : Int) (he : In64 e) (ho : ∀ y ∈ o, In64 y) (hx : In64 x) : In64 (Mt.move e o t x).1 ∧ ∀ y ∈ (Mt.move e o t x).2.1, In64 y := by
  unfold Mt.move
  split
  · exact ⟨in64_0, zeros_in⟩
  · next h =>
    split
    · exact ⟨in64_0, zeros_in⟩
    · refine ⟨by unfold In64 at *; omega, fun y hy => ?_⟩
      rcases List.mem_or_eq_of_mem_set hy with h1 | h1
      · exact ho y h1
      · rw [h1]; exact hx
theorem doc_facts : ∃ (h k : Nat), (h : Int).tmod 16 = (k : Int) ∧ k < 16 ∧ h < 4294967296 ∧ (∀ w, Calls Tryd.prog 9 #[.string ⟨#[100, 111, 99, 58, 97]⟩] w fun e w' => e = .returned (.int .u64 (h : Int)) ∧ w = w') ∧
    (∀ T e a w, TabC T e a → Calls Tryd.prog 19 #[.agg T, .string ⟨#[100, 111, 99, 58, 97]⟩] w fun r w' => r = .returned (.int .i64 (a.getD k 0)) ∧ Below w.heap.size w w') := by
  have hs : (⟨#[100, 111, 99, 58, 97]⟩ : ByteArray).size ≤ 140737488355328 := by
    have : (⟨#[100, 111, 99, 58, 97]⟩ : ByteArray).size = 5 := rfl
    omega
  exact ⟨_, _, by rw [Int.tmod_eq_emod_of_nonneg (Int.natCast_nonneg _)]; exact slot_int ⟨#[100, 111, 99, 58, 97]⟩, Mt.slot_lt _, Mt.hash_lt _, fun w => rhash_any _ w hs, fun T e a w hT => towner_any _ w hT hs⟩
theorem store36 (o : List Int) (c : Int) (h : o.length = 16) : (Tryd.prog.info? 36).map (·.size) = some (tcs c o).size := by rw [tcs_size _ _ h]; exact Tryd.infoRT

set_option maxRecDepth 100000 in
set_option maxHeartbeats 16000000 in
theorem tables_walk (x0 y0 e : Int) (o : List Int) (x2 y2 : Int) (w : World) (hlo : o.length = 16) (he : In64 e) (hio : ∀ y ∈ o, In64 y) (hy2 : In64 y2) :
    Calls Tryd.prog 4 #[.agg #[.int .i64 x0, .int .i64 y0], .agg (tcs e o), .agg #[.int .i64 x2, .int .i64 y2]] w fun r w' => r = .returned (.bool true) ∧ Below w.heap.size w w' := by
  obtain ⟨O, c, hlO, hiO, hN, hRN⟩ := new_both x0 y0
  have HN := Lib.hid hN; have HRN := Lib.hid hRN
  have HTO := Lib.hid (TabC.mk' 0 O hlO)
  have HTA := Lib.hid (TabC.mk' e o hlo)
  have HMC := Lib.hid (TabC.mk' (Mt.move e o x2 y2).1 (Mt.move e o x2 y2).2.1 (move_len _ _ hlo))
  have HMI := Lib.hid (move_in x2 y2 he hio hy2)
  have HIO := Lib.hid hiO
  obtain ⟨W1, hW1⟩ : ∃ W1, W1 = ((w.alloc (.cells #[.int .i64 x0, .int .i64 y0] 29)).alloc (.cells (tcs e o) 32)).alloc (.cells #[.int .i64 x2, .int .i64 y2] 29) := ⟨_, rfl⟩
  have HB := Lib.hid (show TBx w W1 x0 y0 e o x2 y2 by rw [hW1]; exact TBx.made w x0 y0 e o x2 y2)
  have HW1 := Lib.hid hW1
  clear hN hRN hiO hW1
  go_enter Tryd.func4, Tryd.ntmps4
  go_upto_region 6 with (first
    | (go_at_call 8; rw [← HW1.out]; refine (awake_any _).mono ?_; rintro r w2 ⟨rfl, hb2⟩; have HB2 := Lib.hid (HB.out.below hb2); clear hb2; obtain ⟨k0, k1, k2, k3⟩ := HB2.out.cells)
    | (go_at_call 12; refine (HN.out _).mono ?_; rintro r w3 ⟨rfl, hb3⟩; have HB3 := Lib.hid (HB2.out.below hb3); clear hb3 k0 k1 k2 k3)
    | (refine wpList_store_rowTo rfl 32 (.tmp 7) (.tmp 23) rfl rfl w3.heap.size (tcs 0 O) rfl rfl 32 _ (heap_alloc_new w3 _) HTO.out.info (by rw [HTO.out.size]; rfl) HTO.out.one ?_
       rw [setRow_new]
       have HB4 := Lib.hid (HB3.out.below (below_alloc w3 (.cells (tcs 0 O) 32)))
       have HX7 := Lib.hid (show Whole (w3.alloc (.cells (tcs 0 O) 32)) w3.heap.size 32 (tcs 0 O) from heap_alloc_new _ _)
       generalize w3.alloc (.cells (tcs 0 O) 32) = w4 at *
       generalize w3.heap.size = g7 at *
       obtain ⟨k0, k1, k2, k3⟩ := HB4.out.cells)
    | (go_at_call 13; refine (HRN.out _).mono ?_; rintro r w5 ⟨rfl, hb5⟩; have HB5 := Lib.hid (HB4.out.below hb5); have HX7b := Lib.hid (HX7.out.kept (hb5.block _ HX7.out.lt)); clear hb5 k0 k1 k2 k3)
    | (refine wpList_store_rowTo rfl 36 (.tmp 9) (.tmp 31) rfl rfl w5.heap.size (tcs 0 O) rfl rfl 36 _ (heap_alloc_new w5 _) (store36 O 0 hlO) (by rw [HTO.out.size]; rfl) HTO.out.one ?_
       rw [setRow_newR]
       have HB6 := Lib.hid (HB5.out.below (below_alloc w5 (.cells (tcs 0 O) 36)))
       have HX7c := Lib.hid (HX7b.out.kept ((below_alloc w5 (.cells (tcs 0 O) 36)).block _ HX7b.out.lt))
       have HX9 := Lib.hid (show Whole (w5.alloc (.cells (tcs 0 O) 36)) w5.heap.size 36 (tcs 0 O) from heap_alloc_new _ _)
       generalize w5.alloc (.cells (tcs 0 O) 36) = w6 at *
       generalize w5.heap.size = g9 at *
       obtain ⟨k0, k1, k2, k3⟩ := HB6.out.cells)
    | (refine wpList_load_row rfl 32 (.tmp 4) rfl (w.heap.size + 1) rfl 32 (tcs e o) (0, 0) _ HB6.out.tt Tryd.underlying32 rfl HTA.out.info ?_)
    | (go_at_call 14; refine (move_any x2 y2 _ HTA.out).mono ?_; rintro r w7 ⟨rfl, hb7⟩; have HB7 := Lib.hid (HB6.out.below hb7); have HX7d := Lib.hid (HX7c.out.kept (hb7.block _ HX7c.out.lt)); have HX9b := Lib.hid (HX9.out.kept (hb7.block _ HX9.out.lt)); clear hb7 k0 k1 k2 k3)
    | (refine wpList_store_rowTo rfl 32 (.tmp 11) (.tmp 40) rfl rfl w7.heap.size (tcs (Mt.move e o x2 y2).1 (Mt.move e o x2 y2).2.1) rfl rfl 32 _ (heap_alloc_new w7 _) HMC.out.info (by rw [HMC.out.size]; rfl) HMC.out.one ?_
       rw [setRow_new]
       have hb8 := below_alloc w7 (.cells (tcs (Mt.move e o x2 y2).1 (Mt.move e o x2 y2).2.1) 32)
       have HB8 := Lib.hid (HB7.out.below hb8)
       have HX7e := Lib.hid (HX7d.out.kept (hb8.block _ HX7d.out.lt))
       have HX9c := Lib.hid (HX9b.out.kept (hb8.block _ HX9b.out.lt))
       have HX11 := Lib.hid (show Whole (w7.alloc (.cells (tcs (Mt.move e o x2 y2).1 (Mt.move e o x2 y2).2.1) 32)) w7.heap.size 32 (tcs (Mt.move e o x2 y2).1 (Mt.move e o x2 y2).2.1) from heap_alloc_new _ _)
       clear hb8
       generalize w7.alloc (.cells (tcs (Mt.move e o x2 y2).1 (Mt.move e o x2 y2).2.1) 32) = w8 at *
       generalize w7.heap.size = g11 at *))
  obtain ⟨k0, k1, k2, k3⟩ := HB8.out.cells
  have K0 := Lib.hid k0; have K1 := Lib.hid k1; have K2 := Lib.hid k2; have K3 := Lib.hid k3
  clear k0 k1 k2 k3
  have HTT8 := Lib.hid HB8.out.tt
  have HP8 := Lib.hid HB8.out.p2
  have HP8' := Lib.hid HB8.out.p0
  go_cut [13, 14] (fun tv cv wx => (∃ g, tv = .pointer (some ⟨g, 0, none⟩) ∧ Whole wx g 36 (tcs (Mt.move e o x2 y2).1 (Mt.move e o x2 y2).2.1)) ∧ cv = .int .i64 (Mt.move e o x2 y2).2.2 ∧ Below w8.heap.size w8 wx)
  case first J KK hJR hMK =>
    refine wp_region_held_drew (S := fun V => Below w8.heap.size w8 V) (by kernel_rfl) (below_drewN w8 1) (fun hHeld => ?_)
    generalize w8.drew = wd at *
    refine wpAnyH_take (i := 0) (oi := { dst := Option.some 43, op := Go.Op.load 32 (Go.Operand.tmp 4), type := 32, pos := "law.go:43", after := #[], guard := Option.none }) (v := .agg (tcs e o)) rfl (by kernel_rfl) (by kernel_rfl) (by kernel_rfl) (fun _ _ _ h => h) (Or.inl ⟨by rfl, fun V hV => exec_row _ _ V 32 (.tmp 4) rfl (w.heap.size + 1) rfl 32 (tcs e o) _ (HTT8.out.kept (hV.block _ HTT8.out.lt)) Tryd.underlying32 rfl HTA.out.info⟩) (by assumption) ?_
    try simp only [Act.put, List.setIfInBounds_toArray, List.set_cons_zero, List.set_cons_succ]
    refine wpAnyH_take (i := 2) (oi := { dst := Option.some 45, op := Go.Op.indexAddr 29 (Go.Operand.tmp 5) (Go.Operand.const (Go.Value.int Go.IntKind.i64 0)), type := 0, pos := "law.go:43", after := #[], guard := Option.none }) (v := ?_) rfl (by kernel_rfl) (by kernel_rfl) (by kernel_rfl) (fun _ _ _ h => h) (Or.inl ⟨by rfl, ?_⟩) (by assumption) ?_
    rotate_left
    · intro V hV; (try dsimp only at hV); go_simp; all_goals (with_reducible rfl)
    try simp only [Act.put, List.setIfInBounds_toArray, List.set_cons_zero, List.set_cons_succ]
    refine wpAnyH_take (i := 3) (oi := { dst := Option.some 46, op := Go.Op.load 3 (Go.Operand.tmp 45), type := 3, pos := "law.go:43", after := #[{ on := 2, ground := Go.Ground.data }], guard := Option.none }) (v := ?_) rfl (by kernel_rfl) (by kernel_rfl) (by kernel_rfl) (fun _ _ _ h => h) (Or.inl ⟨by rfl, ?_⟩) (by assumption) ?_
    rotate_left
    · intro V hV; (try dsimp only at hV); have cV := (hV.cell (p := ⟨w.heap.size + 2, 0, none⟩) HP8.out.lt).trans K2.out; go_simp; all_goals (with_reducible rfl)
    try simp only [Act.put, List.setIfInBounds_toArray, List.set_cons_zero, List.set_cons_succ]
    refine wpAnyH_take (i := 4) (oi := { dst := Option.some 47, op := Go.Op.indexAddr 29 (Go.Operand.tmp 5) (Go.Operand.const (Go.Value.int Go.IntKind.i64 1)), type := 0, pos := "law.go:43", after := #[], guard := Option.none }) (v := ?_) rfl (by kernel_rfl) (by kernel_rfl) (by kernel_rfl) (fun _ _ _ h => h) (Or.inl ⟨by rfl, ?_⟩) (by assumption) ?_
    rotate_left
    · intro V hV; (try dsimp only at hV); go_simp; all_goals (with_reducible rfl)
    try simp only [Act.put, List.setIfInBounds_toArray, List.set_cons_zero, List.set_cons_succ]
    refine wpAnyH_take (i := 5) (oi := { dst := Option.some 48, op := Go.Op.load 3 (Go.Operand.tmp 47), type := 3, pos := "law.go:43", after := #[{ on := 4, ground := Go.Ground.data }], guard := Option.none }) (v := ?_) rfl (by kernel_rfl) (by kernel_rfl) (by kernel_rfl) (fun _ _ _ h => h) (Or.inl ⟨by rfl, ?_⟩) (by assumption) ?_
    rotate_left
    · intro V hV; (try dsimp only at hV); have cV := (hV.cell (p := ⟨w.heap.size + 2, 1, none⟩) HP8.out.lt).trans K3.out; go_simp; all_goals (with_reducible rfl)
    try simp only [Act.put, List.setIfInBounds_toArray, List.set_cons_zero, List.set_cons_succ]
    refine wpAnyH_ready (rs := [1, 10]) (by kernel_rfl) (by simp) ?_
    refine AllReadyH.cons (o := { dst := Option.some 44, op := Go.Op.call { callee := Go.Callee.value (Go.Operand.func 16), args := #[Go.Operand.tmp 43], argTypes := #[32] }, type := 36, pos := "law.go:43", after := #[{ on := 0, ground := Go.Ground.data }], guard := Option.none }) rfl (fun K hK => ?_) (AllReadyH.cons (o := { dst := Option.some 13, op := Go.Op.alloc 36, type := 0, pos := "law.go:43", after := #[], guard := Option.none }) rfl (fun K hK => ?_) (AllReadyH.nil))
    · skip
      go_simp
      refine (plain_any _ HTA.out).mono ?_
      rintro r w11 ⟨rfl, hb1⟩
      have hHeld1 := hHeld.trans (hb1.mono hHeld.size)
      clear hHeld hb1
      go_wp2_with fail
      refine hK.out _ _ hHeld1 (fun hHeld => ?_)
      clear hK K hHeld1
      try simp only [Act.put, List.setIfInBounds_toArray, List.set_cons_zero, List.set_cons_succ]
      refine wpAnyH_ready (rs := [6, 10]) (by kernel_rfl) (by simp) ?_
      refine AllReadyH.cons (o := { dst := Option.some 49, op := Go.Op.call { callee := Go.Callee.value (Go.Operand.func 15), args := #[Go.Operand.tmp 44, Go.Operand.tmp 46, Go.Operand.tmp 48], argTypes := #[36, 3, 3] }, type := 37, pos := "law.go:43", after := #[{ on := 1, ground := Go.Ground.data }, { on := 3, ground := Go.Ground.data }, { on := 5, ground := Go.Ground.data }, { on := 1, ground := Go.Ground.chain }], guard := Option.none }) rfl (fun K hK => ?_) (AllReadyH.cons (o := { dst := Option.some 13, op := Go.Op.alloc 36, type := 0, pos := "law.go:43", after := #[], guard := Option.none }) rfl (fun K hK => ?_) (AllReadyH.nil))
      · skip
        go_simp
        refine (rmove_any x2 y2 _ HTA.out).mono ?_
        rintro r w12 ⟨rfl, hb2⟩
        have hHeld2 := hHeld.trans (hb2.mono hHeld.size)
        clear hHeld hb2
        go_wp2_with fail
        refine hK.out _ _ hHeld2 (fun hHeld => ?_)
        clear hK K hHeld2
        try simp only [Act.put, List.setIfInBounds_toArray, List.set_cons_zero, List.set_cons_succ]
        refine wpAnyH_take (i := 7) (oi := { dst := Option.some 42, op := Go.Op.move (Go.Operand.tmp 49), type := 37, pos := "law.go:43", after := #[{ on := 6, ground := Go.Ground.data }], guard := Option.none }) (v := ?_) rfl (by kernel_rfl) (by kernel_rfl) (by kernel_rfl) (fun _ _ _ h => h) (Or.inl ⟨by rfl, ?_⟩) (by assumption) ?_
        rotate_left
        · intro V hV; (try dsimp only at hV); go_simp; all_goals (with_reducible rfl)
        try simp only [Act.put, List.setIfInBounds_toArray, List.set_cons_zero, List.set_cons_succ]
        refine wpAnyH_take (i := 8) (oi := { dst := Option.some 50, op := Go.Op.extract (Go.Operand.tmp 42) 0, type := 36, pos := "law.go:43", after := #[{ on := 7, ground := Go.Ground.data }], guard := Option.none }) (v := ?_) rfl (by kernel_rfl) (by kernel_rfl) (by kernel_rfl) (fun _ _ _ h => h) (Or.inl ⟨by rfl, ?_⟩) (by assumption) ?_
        rotate_left
        · intro V hV; (try dsimp only at hV); go_simp; all_goals (with_reducible rfl)
        try simp only [Act.put, List.setIfInBounds_toArray, List.set_cons_zero, List.set_cons_succ]
        refine wpAnyH_take (i := 9) (oi := { dst := Option.some 51, op := Go.Op.extract (Go.Operand.tmp 42) 1, type := 3, pos := "law.go:43", after := #[{ on := 7, ground := Go.Ground.data }, { on := 11, ground := Go.Ground.gcOnly Go.Departure.lateStores }], guard := Option.none }) (v := ?_) rfl (by kernel_rfl) (by kernel_rfl) (by kernel_rfl) (fun _ _ _ h => h) (Or.inl ⟨by rfl, ?_⟩) (by assumption) ?_
        rotate_left
        · intro V hV; (try dsimp only at hV); go_simp; all_goals (with_reducible rfl)
        try simp only [Act.put, List.setIfInBounds_toArray, List.set_cons_zero, List.set_cons_succ]
        refine wpAnyH_ready (rs := [10]) (by kernel_rfl) (by simp) ?_
        refine AllReadyH.cons (o := { dst := Option.some 13, op := Go.Op.alloc 36, type := 0, pos := "law.go:43", after := #[], guard := Option.none }) rfl (fun K hK => ?_) (AllReadyH.nil)
        have HH3 := Lib.hid hHeld
        go_simp
        rw [← zero_tab]
        have hz3 : Whole (World.alloc w12 (.cells (tcs 0 noOwn) 36)) w12.heap.size 36 (tcs 0 noOwn) := heap_alloc_new _ _
        have hHeld3 : Below w8.heap.size w8 (World.alloc w12 (.cells (tcs 0 noOwn) 36)) := HH3.out.alloc HH3.out.size _
        have HG3 := Lib.hid (show w8.heap.size ≤ w12.heap.size from HH3.out.size)
        have HZ3 := Lib.hid hz3
        clear hz3 hHeld
        generalize World.alloc w12 (.cells (tcs 0 noOwn) 36) = w13 at *
        refine hK.out _ _ hHeld3 (fun hHeld => ?_)
        clear hK K hHeld3
        try simp only [Act.put, List.setIfInBounds_toArray, List.set_cons_zero, List.set_cons_succ]
        refine wpAnyH_ready (rs := [11]) (by kernel_rfl) (by simp) ?_
        refine AllReadyH.cons (o := { dst := Option.none, op := Go.Op.store 36 (Go.Operand.tmp 13) (Go.Operand.tmp 50), type := 0, pos := "law.go:43", after := #[{ on := 10, ground := Go.Ground.data }, { on := 8, ground := Go.Ground.data }, { on := 6, ground := Go.Ground.chain }, { on := 0, ground := Go.Ground.phase }, { on := 1, ground := Go.Ground.phase }, { on := 2, ground := Go.Ground.phase }, { on := 3, ground := Go.Ground.phase }, { on := 4, ground := Go.Ground.phase }, { on := 5, ground := Go.Ground.phase }, { on := 6, ground := Go.Ground.phase }, { on := 7, ground := Go.Ground.phase }, { on := 8, ground := Go.Ground.phase }, { on := 9, ground := Go.Ground.textOnly Go.Departure.lateStores }, { on := 10, ground := Go.Ground.phase }], guard := Option.none }) rfl (fun K hK => ?_) (AllReadyH.nil)
        have HS4 := Lib.hid (show Whole (World.setRow w13 (w12.heap.size) (tcs (Mt.move e o x2 y2).1 (Mt.move e o x2 y2).2.1)) (w12.heap.size) 36 (tcs (Mt.move e o x2 y2).1 (Mt.move e o x2 y2).2.1) from setRow_heap _ _ _ _ _ _ HZ3.out)
        refine wp_store_row 36 (.tmp 13) (.tmp 50) rfl (w12.heap.size) (tcs (Mt.move e o x2 y2).1 (Mt.move e o x2 y2).2.1) rfl rfl 36 _ HZ3.out (store36 _ _ HMC.out.len) (by rw [HMC.out.size]; rfl) HMC.out.one ?_
        refine hK.out _ _ (below_setRow hHeld HG3.out _) (fun hHeld => ?_)
        clear hK K
        try simp only [Act.put]
        refine wpAnyH_take (i := 12) (oi := { dst := Option.some 14, op := Go.Op.assign (Go.Operand.tmp 51), type := 3, pos := "law.go:43", after := #[{ on := 9, ground := Go.Ground.data }, { on := 11, ground := Go.Ground.chain }, { on := 0, ground := Go.Ground.phase }, { on := 1, ground := Go.Ground.phase }, { on := 2, ground := Go.Ground.phase }, { on := 3, ground := Go.Ground.phase }, { on := 4, ground := Go.Ground.phase }, { on := 5, ground := Go.Ground.phase }, { on := 6, ground := Go.Ground.phase }, { on := 7, ground := Go.Ground.phase }, { on := 8, ground := Go.Ground.phase }, { on := 9, ground := Go.Ground.phase }, { on := 10, ground := Go.Ground.phase }, { on := 11, ground := Go.Ground.phase }], guard := Option.none }) (v := ?_) rfl (by kernel_rfl) (by kernel_rfl) (by kernel_rfl) (fun _ _ _ h => h) (Or.inl ⟨by rfl, ?_⟩) (by assumption) ?_
        rotate_left
        · intro V hV; (try dsimp only at hV); go_simp; all_goals (with_reducible rfl)
        try simp only [Act.put, List.setIfInBounds_toArray, List.set_cons_zero, List.set_cons_succ]
        refine wpAnyH_done (by kernel_rfl) ?_ _
        refine hMK _ _ (Met.intro (hJR _ _ ?_))
        repeat apply Exists.intro
        exact ⟨⟨⟨_, rfl, HS4.out⟩, rfl, hHeld⟩, rfl⟩
      · skip
        have HH5 := Lib.hid hHeld
        go_simp
        rw [← zero_tab]
        have hz5 : Whole (World.alloc w11 (.cells (tcs 0 noOwn) 36)) w11.heap.size 36 (tcs 0 noOwn) := heap_alloc_new _ _
        have hHeld5 : Below w8.heap.size w8 (World.alloc w11 (.cells (tcs 0 noOwn) 36)) := HH5.out.alloc HH5.out.size _
        have HG5 := Lib.hid (show w8.heap.size ≤ w11.heap.size from HH5.out.size)
        have HZ5 := Lib.hid hz5
        clear hz5 hHeld
        generalize World.alloc w11 (.cells (tcs 0 noOwn) 36) = w15 at *
        refine hK.out _ _ hHeld5 (fun hHeld => ?_)
        clear hK K hHeld5
        try simp only [Act.put, List.setIfInBounds_toArray, List.set_cons_zero, List.set_cons_succ]
        refine wpAnyH_ready (rs := [6]) (by kernel_rfl) (by simp) ?_
        refine AllReadyH.cons (o := { dst := Option.some 49, op := Go.Op.call { callee := Go.Callee.value (Go.Operand.func 15), args := #[Go.Operand.tmp 44, Go.Operand.tmp 46, Go.Operand.tmp 48], argTypes := #[36, 3, 3] }, type := 37, pos := "law.go:43", after := #[{ on := 1, ground := Go.Ground.data }, { on := 3, ground := Go.Ground.data }, { on := 5, ground := Go.Ground.data }, { on := 1, ground := Go.Ground.chain }], guard := Option.none }) rfl (fun K hK => ?_) (AllReadyH.nil)
        go_simp
        refine (rmove_any x2 y2 _ HTA.out).mono ?_
        rintro r w16 ⟨rfl, hb6⟩
        have HZ6 := Lib.hid (HZ5.out.kept (hb6.block _ HZ5.out.lt))
        have hHeld6 := hHeld.trans (hb6.mono hHeld.size)
        clear hHeld hb6
        go_wp2_with fail
        refine hK.out _ _ hHeld6 (fun hHeld => ?_)
        clear hK K hHeld6
        try simp only [Act.put, List.setIfInBounds_toArray, List.set_cons_zero, List.set_cons_succ]
        refine wpAnyH_take (i := 7) (oi := { dst := Option.some 42, op := Go.Op.move (Go.Operand.tmp 49), type := 37, pos := "law.go:43", after := #[{ on := 6, ground := Go.Ground.data }], guard := Option.none }) (v := ?_) rfl (by kernel_rfl) (by kernel_rfl) (by kernel_rfl) (fun _ _ _ h => h) (Or.inl ⟨by rfl, ?_⟩) (by assumption) ?_
        rotate_left
        · intro V hV; (try dsimp only at hV); go_simp; all_goals (with_reducible rfl)
        try simp only [Act.put, List.setIfInBounds_toArray, List.set_cons_zero, List.set_cons_succ]
        refine wpAnyH_take (i := 8) (oi := { dst := Option.some 50, op := Go.Op.extract (Go.Operand.tmp 42) 0, type := 36, pos := "law.go:43", after := #[{ on := 7, ground := Go.Ground.data }], guard := Option.none }) (v := ?_) rfl (by kernel_rfl) (by kernel_rfl) (by kernel_rfl) (fun _ _ _ h => h) (Or.inl ⟨by rfl, ?_⟩) (by assumption) ?_
        rotate_left
        · intro V hV; (try dsimp only at hV); go_simp; all_goals (with_reducible rfl)
        try simp only [Act.put, List.setIfInBounds_toArray, List.set_cons_zero, List.set_cons_succ]
        refine wpAnyH_take (i := 9) (oi := { dst := Option.some 51, op := Go.Op.extract (Go.Operand.tmp 42) 1, type := 3, pos := "law.go:43", after := #[{ on := 7, ground := Go.Ground.data }, { on := 11, ground := Go.Ground.gcOnly Go.Departure.lateStores }], guard := Option.none }) (v := ?_) rfl (by kernel_rfl) (by kernel_rfl) (by kernel_rfl) (fun _ _ _ h => h) (Or.inl ⟨by rfl, ?_⟩) (by assumption) ?_
        rotate_left
        · intro V hV; (try dsimp only at hV); go_simp; all_goals (with_reducible rfl)
        try simp only [Act.put, List.setIfInBounds_toArray, List.set_cons_zero, List.set_cons_succ]
        refine wpAnyH_ready (rs := [11]) (by kernel_rfl) (by simp) ?_
        refine AllReadyH.cons (o := { dst := Option.none, op := Go.Op.store 36 (Go.Operand.tmp 13) (Go.Operand.tmp 50), type := 0, pos := "law.go:43", after := #[{ on := 10, ground := Go.Ground.data }, { on := 8, ground := Go.Ground.data }, { on := 6, ground := Go.Ground.chain }, { on := 0, ground := Go.Ground.phase }, { on := 1, ground := Go.Ground.phase }, { on := 2, ground := Go.Ground.phase }, { on := 3, ground := Go.Ground.phase }, { on := 4, ground := Go.Ground.phase }, { on := 5, ground := Go.Ground.phase }, { on := 6, ground := Go.Ground.phase }, { on := 7, ground := Go.Ground.phase }, { on := 8, ground := Go.Ground.phase }, { on := 9, ground := Go.Ground.textOnly Go.Departure.lateStores }, { on := 10, ground := Go.Ground.phase }], guard := Option.none }) rfl (fun K hK => ?_) (AllReadyH.nil)
        have HS7 := Lib.hid (show Whole (World.setRow w16 (w11.heap.size) (tcs (Mt.move e o x2 y2).1 (Mt.move e o x2 y2).2.1)) (w11.heap.size) 36 (tcs (Mt.move e o x2 y2).1 (Mt.move e o x2 y2).2.1) from setRow_heap _ _ _ _ _ _ HZ6.out)
        refine wp_store_row 36 (.tmp 13) (.tmp 50) rfl (w11.heap.size) (tcs (Mt.move e o x2 y2).1 (Mt.move e o x2 y2).2.1) rfl rfl 36 _ HZ6.out (store36 _ _ HMC.out.len) (by rw [HMC.out.size]; rfl) HMC.out.one ?_
        refine hK.out _ _ (below_setRow hHeld HG5.out _) (fun hHeld => ?_)
        clear hK K
        try simp only [Act.put]
        refine wpAnyH_take (i := 12) (oi := { dst := Option.some 14, op := Go.Op.assign (Go.Operand.tmp 51), type := 3, pos := "law.go:43", after := #[{ on := 9, ground := Go.Ground.data }, { on := 11, ground := Go.Ground.chain }, { on := 0, ground := Go.Ground.phase }, { on := 1, ground := Go.Ground.phase }, { on := 2, ground := Go.Ground.phase }, { on := 3, ground := Go.Ground.phase }, { on := 4, ground := Go.Ground.phase }, { on := 5, ground := Go.Ground.phase }, { on := 6, ground := Go.Ground.phase }, { on := 7, ground := Go.Ground.phase }, { on := 8, ground := Go.Ground.phase }, { on := 9, ground := Go.Ground.phase }, { on := 10, ground := Go.Ground.phase }, { on := 11, ground := Go.Ground.phase }], guard := Option.none }) (v := ?_) rfl (by kernel_rfl) (by kernel_rfl) (by kernel_rfl) (fun _ _ _ h => h) (Or.inl ⟨by rfl, ?_⟩) (by assumption) ?_
        rotate_left
        · intro V hV; (try dsimp only at hV); go_simp; all_goals (with_reducible rfl)
        try simp only [Act.put, List.setIfInBounds_toArray, List.set_cons_zero, List.set_cons_succ]
        refine wpAnyH_done (by kernel_rfl) ?_ _
        refine hMK _ _ (Met.intro (hJR _ _ ?_))
        repeat apply Exists.intro
        exact ⟨⟨⟨_, rfl, HS7.out⟩, rfl, hHeld⟩, rfl⟩
    · skip
      have HH8 := Lib.hid hHeld
      go_simp
      rw [← zero_tab]
      have hz8 : Whole (World.alloc wd (.cells (tcs 0 noOwn) 36)) wd.heap.size 36 (tcs 0 noOwn) := heap_alloc_new _ _
      have hHeld8 : Below w8.heap.size w8 (World.alloc wd (.cells (tcs 0 noOwn) 36)) := HH8.out.alloc HH8.out.size _
      have HG8 := Lib.hid (show w8.heap.size ≤ wd.heap.size from HH8.out.size)
      have HZ8 := Lib.hid hz8
      clear hz8 hHeld
      generalize World.alloc wd (.cells (tcs 0 noOwn) 36) = w18 at *
      refine hK.out _ _ hHeld8 (fun hHeld => ?_)
      clear hK K hHeld8
      try simp only [Act.put, List.setIfInBounds_toArray, List.set_cons_zero, List.set_cons_succ]
      refine wpAnyH_ready (rs := [1]) (by kernel_rfl) (by simp) ?_
      refine AllReadyH.cons (o := { dst := Option.some 44, op := Go.Op.call { callee := Go.Callee.value (Go.Operand.func 16), args := #[Go.Operand.tmp 43], argTypes := #[32] }, type := 36, pos := "law.go:43", after := #[{ on := 0, ground := Go.Ground.data }], guard := Option.none }) rfl (fun K hK => ?_) (AllReadyH.nil)
      go_simp
      refine (plain_any _ HTA.out).mono ?_
      rintro r w19 ⟨rfl, hb9⟩
      have HZ9 := Lib.hid (HZ8.out.kept (hb9.block _ HZ8.out.lt))
      have hHeld9 := hHeld.trans (hb9.mono hHeld.size)
      clear hHeld hb9
      go_wp2_with fail
      refine hK.out _ _ hHeld9 (fun hHeld => ?_)
      clear hK K hHeld9
      try simp only [Act.put, List.setIfInBounds_toArray, List.set_cons_zero, List.set_cons_succ]
      refine wpAnyH_ready (rs := [6]) (by kernel_rfl) (by simp) ?_
      refine AllReadyH.cons (o := { dst := Option.some 49, op := Go.Op.call { callee := Go.Callee.value (Go.Operand.func 15), args := #[Go.Operand.tmp 44, Go.Operand.tmp 46, Go.Operand.tmp 48], argTypes := #[36, 3, 3] }, type := 37, pos := "law.go:43", after := #[{ on := 1, ground := Go.Ground.data }, { on := 3, ground := Go.Ground.data }, { on := 5, ground := Go.Ground.data }, { on := 1, ground := Go.Ground.chain }], guard := Option.none }) rfl (fun K hK => ?_) (AllReadyH.nil)
      go_simp
      refine (rmove_any x2 y2 _ HTA.out).mono ?_
      rintro r w20 ⟨rfl, hb10⟩
      have HZ10 := Lib.hid (HZ9.out.kept (hb10.block _ HZ9.out.lt))
      have hHeld10 := hHeld.trans (hb10.mono hHeld.size)
      clear hHeld hb10
      go_wp2_with fail
      refine hK.out _ _ hHeld10 (fun hHeld => ?_)
      clear hK K hHeld10
      try simp only [Act.put, List.setIfInBounds_toArray, List.set_cons_zero, List.set_cons_succ]
      refine wpAnyH_take (i := 7) (oi := { dst := Option.some 42, op := Go.Op.move (Go.Operand.tmp 49), type := 37, pos := "law.go:43", after := #[{ on := 6, ground := Go.Ground.data }], guard := Option.none }) (v := ?_) rfl (by kernel_rfl) (by kernel_rfl) (by kernel_rfl) (fun _ _ _ h => h) (Or.inl ⟨by rfl, ?_⟩) (by assumption) ?_
      rotate_left
      · intro V hV; (try dsimp only at hV); go_simp; all_goals (with_reducible rfl)
      try simp only [Act.put, List.setIfInBounds_toArray, List.set_cons_zero, List.set_cons_succ]
      refine wpAnyH_take (i := 8) (oi := { dst := Option.some 50, op := Go.Op.extract (Go.Operand.tmp 42) 0, type := 36, pos := "law.go:43", after := #[{ on := 7, ground := Go.Ground.data }], guard := Option.none }) (v := ?_) rfl (by kernel_rfl) (by kernel_rfl) (by kernel_rfl) (fun _ _ _ h => h) (Or.inl ⟨by rfl, ?_⟩) (by assumption) ?_
      rotate_left
      · intro V hV; (try dsimp only at hV); go_simp; all_goals (with_reducible rfl)
      try simp only [Act.put, List.setIfInBounds_toArray, List.set_cons_zero, List.set_cons_succ]
      refine wpAnyH_take (i := 9) (oi := { dst := Option.some 51, op := Go.Op.extract (Go.Operand.tmp 42) 1, type := 3, pos := "law.go:43", after := #[{ on := 7, ground := Go.Ground.data }, { on := 11, ground := Go.Ground.gcOnly Go.Departure.lateStores }], guard := Option.none }) (v := ?_) rfl (by kernel_rfl) (by kernel_rfl) (by kernel_rfl) (fun _ _ _ h => h) (Or.inl ⟨by rfl, ?_⟩) (by assumption) ?_
      rotate_left
      · intro V hV; (try dsimp only at hV); go_simp; all_goals (with_reducible rfl)
      try simp only [Act.put, List.setIfInBounds_toArray, List.set_cons_zero, List.set_cons_succ]
      refine wpAnyH_ready (rs := [11]) (by kernel_rfl) (by simp) ?_
      refine AllReadyH.cons (o := { dst := Option.none, op := Go.Op.store 36 (Go.Operand.tmp 13) (Go.Operand.tmp 50), type := 0, pos := "law.go:43", after := #[{ on := 10, ground := Go.Ground.data }, { on := 8, ground := Go.Ground.data }, { on := 6, ground := Go.Ground.chain }, { on := 0, ground := Go.Ground.phase }, { on := 1, ground := Go.Ground.phase }, { on := 2, ground := Go.Ground.phase }, { on := 3, ground := Go.Ground.phase }, { on := 4, ground := Go.Ground.phase }, { on := 5, ground := Go.Ground.phase }, { on := 6, ground := Go.Ground.phase }, { on := 7, ground := Go.Ground.phase }, { on := 8, ground := Go.Ground.phase }, { on := 9, ground := Go.Ground.textOnly Go.Departure.lateStores }, { on := 10, ground := Go.Ground.phase }], guard := Option.none }) rfl (fun K hK => ?_) (AllReadyH.nil)
      have HS11 := Lib.hid (show Whole (World.setRow w20 (wd.heap.size) (tcs (Mt.move e o x2 y2).1 (Mt.move e o x2 y2).2.1)) (wd.heap.size) 36 (tcs (Mt.move e o x2 y2).1 (Mt.move e o x2 y2).2.1) from setRow_heap _ _ _ _ _ _ HZ10.out)
      refine wp_store_row 36 (.tmp 13) (.tmp 50) rfl (wd.heap.size) (tcs (Mt.move e o x2 y2).1 (Mt.move e o x2 y2).2.1) rfl rfl 36 _ HZ10.out (store36 _ _ HMC.out.len) (by rw [HMC.out.size]; rfl) HMC.out.one ?_
      refine hK.out _ _ (below_setRow hHeld HG8.out _) (fun hHeld => ?_)
      clear hK K
      try simp only [Act.put]
      refine wpAnyH_take (i := 12) (oi := { dst := Option.some 14, op := Go.Op.assign (Go.Operand.tmp 51), type := 3, pos := "law.go:43", after := #[{ on := 9, ground := Go.Ground.data }, { on := 11, ground := Go.Ground.chain }, { on := 0, ground := Go.Ground.phase }, { on := 1, ground := Go.Ground.phase }, { on := 2, ground := Go.Ground.phase }, { on := 3, ground := Go.Ground.phase }, { on := 4, ground := Go.Ground.phase }, { on := 5, ground := Go.Ground.phase }, { on := 6, ground := Go.Ground.phase }, { on := 7, ground := Go.Ground.phase }, { on := 8, ground := Go.Ground.phase }, { on := 9, ground := Go.Ground.phase }, { on := 10, ground := Go.Ground.phase }, { on := 11, ground := Go.Ground.phase }], guard := Option.none }) (v := ?_) rfl (by kernel_rfl) (by kernel_rfl) (by kernel_rfl) (fun _ _ _ h => h) (Or.inl ⟨by rfl, ?_⟩) (by assumption) ?_
      rotate_left
      · intro V hV; (try dsimp only at hV); go_simp; all_goals (with_reducible rfl)
      try simp only [Act.put, List.setIfInBounds_toArray, List.set_cons_zero, List.set_cons_succ]
      refine wpAnyH_done (by kernel_rfl) ?_ _
      refine hMK _ _ (Met.intro (hJR _ _ ?_))
      repeat apply Exists.intro
      exact ⟨⟨⟨_, rfl, HS11.out⟩, rfl, hHeld⟩, rfl⟩
  case rest =>
    obtain ⟨⟨g13, rfl, hc1⟩, rfl, hb1⟩ := hcut
    generalize wc = w9 at *
    have HX13 := Lib.hid hc1
    have HX7f := Lib.hid (HX7e.out.kept (hb1.block _ HX7e.out.lt))
    have HX9d := Lib.hid (HX9c.out.kept (hb1.block _ HX9c.out.lt))
    have HX11b := Lib.hid (HX11.out.kept (hb1.block _ HX11.out.lt))
    have HB9 := Lib.hid (HB8.out.below hb1)
    have HTT9 := Lib.hid HB9.out.tt
    have HP9 := Lib.hid HB9.out.p0
    have HK9 := Lib.hid HB9.out.cells.1
    clear hc1 hb1
    obtain ⟨h, k, hhk, hk16, hh32, hRH, hOW⟩ := doc_facts
    have HHK := Lib.hid hhk
    have HRH := Lib.hid hRH
    have HOW := Lib.hid (fun w : World => hOW _ e o w HTA.out)
    clear hhk hRH hOW
    have HOK := Lib.hid (HTA.out.cs k hk16)
    have hk16i : (k : Int) < 16 := by omega
    generalize o.getD k 0 = xk at *
    go_upto_region 7 with fail
    refine wp_region_held_drew (S := fun V => Below w9.heap.size w9 V) (by kernel_rfl) (below_drewN w9 1) (fun hHeld => ?_)
    generalize w9.drew = wd at *
    refine wpAnyH_take (i := 0) (oi := { dst := Option.some 52, op := Go.Op.load 32 (Go.Operand.tmp 7), type := 32, pos := "law.go:44", after := #[], guard := Option.none }) (v := .agg (tcs 0 O)) rfl (by kernel_rfl) (by kernel_rfl) (by kernel_rfl) (fun _ _ _ h => h) (Or.inl ⟨by rfl, fun V hV => exec_row _ _ V 32 (.tmp 7) rfl g7 rfl 32 (tcs 0 O) _ (HX7f.out.kept (hV.block _ HX7f.out.lt)) Tryd.underlying32 rfl HTO.out.info⟩) (by assumption) ?_
    try simp only [Act.put, List.setIfInBounds_toArray, List.set_cons_zero, List.set_cons_succ]
    refine wpAnyH_take (i := 2) (oi := { dst := Option.some 54, op := Go.Op.load 36 (Go.Operand.tmp 9), type := 36, pos := "law.go:44", after := #[], guard := Option.none }) (v := .agg (tcs 0 O)) rfl (by kernel_rfl) (by kernel_rfl) (by kernel_rfl) (fun _ _ _ h => h) (Or.inl ⟨by rfl, fun V hV => exec_row _ _ V 36 (.tmp 9) rfl g9 rfl 36 (tcs 0 O) _ (HX9d.out.kept (hV.block _ HX9d.out.lt)) Tryd.underlying36 rfl (store36 _ _ HTO.out.len)⟩) (by assumption) ?_
    try simp only [Act.put, List.setIfInBounds_toArray, List.set_cons_zero, List.set_cons_succ]
    refine wpAnyH_ready (rs := [1]) (by kernel_rfl) (by simp) ?_
    refine AllReadyH.cons (o := { dst := Option.some 53, op := Go.Op.call { callee := Go.Callee.value (Go.Operand.func 16), args := #[Go.Operand.tmp 52], argTypes := #[32] }, type := 36, pos := "law.go:44", after := #[{ on := 0, ground := Go.Ground.data }], guard := Option.none }) rfl (fun K hK => ?_) (AllReadyH.nil)
    go_simp
    refine (plain_any _ HTO.out).mono ?_
    rintro r w11 ⟨rfl, hb1⟩
    have hHeld1 := hHeld.trans (hb1.mono hHeld.size)
    clear hHeld hb1
    go_wp2_with fail
    refine hK.out _ _ hHeld1 (fun hHeld => ?_)
    clear hK K hHeld1
    try simp only [Act.put, List.setIfInBounds_toArray, List.set_cons_zero, List.set_cons_succ]
    refine wpAnyH_take (i := 3) (oi := { dst := Option.some 55, op := Go.Op.binOp Go.BinOp.eql 36 (Go.Operand.tmp 53) (Go.Operand.tmp 54) 36, type := 4, pos := "law.go:44", after := #[{ on := 1, ground := Go.Ground.data }, { on := 2, ground := Go.Ground.data }], guard := Option.none }) (v := .bool true) rfl (by kernel_rfl) (by kernel_rfl) (by kernel_rfl) (fun _ _ _ h => h) (Or.inl ⟨by rfl, fun V _ => exec_eql_self _ 36 (.tmp 53) (.tmp 54) 36 rfl (tcs 0 O) rfl rfl guardR (eq_tabR 0 O HTO.out.len in64_0 HIO.out V)⟩) (by assumption) ?_
    try simp only [Act.put, List.setIfInBounds_toArray, List.set_cons_zero, List.set_cons_succ]
    refine wpAnyH_take (i := 4) (oi := { dst := Option.some 56, op := Go.Op.move (Go.Operand.tmp 55), type := 4, pos := "law.go:44", after := #[{ on := 3, ground := Go.Ground.data }, { on := 1, ground := Go.Ground.chain }], guard := Option.none }) (v := ?_) rfl (by kernel_rfl) (by kernel_rfl) (by kernel_rfl) (fun _ _ _ h => h) (Or.inl ⟨by rfl, ?_⟩) (by assumption) ?_
    rotate_left
    · intro V hV; (try dsimp only at hV); go_simp; all_goals (with_reducible rfl)
    try simp only [Act.put, List.setIfInBounds_toArray, List.set_cons_zero, List.set_cons_succ]
    refine wpAnyH_take (i := 5) (oi := { dst := Option.some 57, op := Go.Op.move (Go.Operand.tmp 8), type := 33, pos := "law.go:44", after := #[{ on := 4, ground := Go.Ground.guard }], guard := Option.some (4, Bool.true) }) (v := ?_) rfl (by kernel_rfl) (by kernel_rfl) (by kernel_rfl) (fun _ _ _ h => h) (Or.inl ⟨by rfl, ?_⟩) (by assumption) ?_
    rotate_left
    · intro V hV; (try dsimp only at hV); go_simp; all_goals (with_reducible rfl)
    try simp only [Act.put, List.setIfInBounds_toArray, List.set_cons_zero, List.set_cons_succ]
    refine wpAnyH_take (i := 6) (oi := { dst := Option.some 58, op := Go.Op.move (Go.Operand.tmp 10), type := 3, pos := "law.go:44", after := #[{ on := 4, ground := Go.Ground.guard }], guard := Option.some (4, Bool.true) }) (v := ?_) rfl (by kernel_rfl) (by kernel_rfl) (by kernel_rfl) (fun _ _ _ h => h) (Or.inl ⟨by rfl, ?_⟩) (by assumption) ?_
    rotate_left
    · intro V hV; (try dsimp only at hV); go_simp; all_goals (with_reducible rfl)
    try simp only [Act.put, List.setIfInBounds_toArray, List.set_cons_zero, List.set_cons_succ]
    refine wpAnyH_take (i := 7) (oi := { dst := Option.some 59, op := Go.Op.binOp Go.BinOp.eql 3 (Go.Operand.tmp 57) (Go.Operand.tmp 58) 3, type := 4, pos := "law.go:44", after := #[{ on := 5, ground := Go.Ground.data }, { on := 6, ground := Go.Ground.data }, { on := 4, ground := Go.Ground.guard }], guard := Option.some (4, Bool.true) }) (v := ?_) rfl (by kernel_rfl) (by kernel_rfl) (by kernel_rfl) (fun _ _ _ h => h) (Or.inl ⟨by rfl, ?_⟩) (by assumption) ?_
    rotate_left
    · intro V hV; (try dsimp only at hV); go_simp; all_goals (with_reducible rfl)
    try simp only [Act.put, List.setIfInBounds_toArray, List.set_cons_zero, List.set_cons_succ]
    refine wpAnyH_take (i := 8) (oi := { dst := Option.some 60, op := Go.Op.pick (Go.Operand.tmp 56) (Go.Operand.tmp 59) (Go.Operand.const (Go.Value.bool Bool.false)), type := 4, pos := "law.go:44", after := #[{ on := 4, ground := Go.Ground.data }, { on := 7, ground := Go.Ground.data }], guard := Option.none }) (v := ?_) rfl (by kernel_rfl) (by kernel_rfl) (by kernel_rfl) (fun _ _ _ h => h) (Or.inl ⟨by rfl, ?_⟩) (by assumption) ?_
    rotate_left
    · intro V hV; (try dsimp only at hV); go_simp; all_goals (with_reducible rfl)
    try simp only [Act.put, List.setIfInBounds_toArray, List.set_cons_zero, List.set_cons_succ]
    refine wpAnyH_take (i := 9) (oi := { dst := Option.some 61, op := Go.Op.move (Go.Operand.tmp 60), type := 4, pos := "law.go:44", after := #[{ on := 8, ground := Go.Ground.data }, { on := 4, ground := Go.Ground.chain }], guard := Option.none }) (v := ?_) rfl (by kernel_rfl) (by kernel_rfl) (by kernel_rfl) (fun _ _ _ h => h) (Or.inl ⟨by rfl, ?_⟩) (by assumption) ?_
    rotate_left
    · intro V hV; (try dsimp only at hV); go_simp; all_goals (with_reducible rfl)
    try simp only [Act.put, List.setIfInBounds_toArray, List.set_cons_zero, List.set_cons_succ]
    refine wpAnyH_take (i := 10) (oi := { dst := Option.some 62, op := Go.Op.load 32 (Go.Operand.tmp 11), type := 32, pos := "law.go:44", after := #[{ on := 9, ground := Go.Ground.guard }], guard := Option.some (9, Bool.true) }) (v := .agg (tcs (Mt.move e o x2 y2).1 (Mt.move e o x2 y2).2.1)) rfl (by kernel_rfl) (by kernel_rfl) (by kernel_rfl) (fun _ _ _ h => h) (Or.inl ⟨by rfl, fun V hV => exec_row _ _ V 32 (.tmp 11) rfl g11 rfl 32 (tcs (Mt.move e o x2 y2).1 (Mt.move e o x2 y2).2.1) _ (HX11b.out.kept (hV.block _ HX11b.out.lt)) Tryd.underlying32 rfl HMC.out.info⟩) (by assumption) ?_
    try simp only [Act.put, List.setIfInBounds_toArray, List.set_cons_zero, List.set_cons_succ]
    refine wpAnyH_take (i := 12) (oi := { dst := Option.some 64, op := Go.Op.load 36 (Go.Operand.tmp 13), type := 36, pos := "law.go:44", after := #[{ on := 9, ground := Go.Ground.guard }], guard := Option.some (9, Bool.true) }) (v := .agg (tcs (Mt.move e o x2 y2).1 (Mt.move e o x2 y2).2.1)) rfl (by kernel_rfl) (by kernel_rfl) (by kernel_rfl) (fun _ _ _ h => h) (Or.inl ⟨by rfl, fun V hV => exec_row _ _ V 36 (.tmp 13) rfl g13 rfl 36 (tcs (Mt.move e o x2 y2).1 (Mt.move e o x2 y2).2.1) _ (HX13.out.kept (hV.block _ HX13.out.lt)) Tryd.underlying36 rfl (store36 _ _ HMC.out.len)⟩) (by assumption) ?_
    try simp only [Act.put, List.setIfInBounds_toArray, List.set_cons_zero, List.set_cons_succ]
    refine wpAnyH_ready (rs := [11]) (by kernel_rfl) (by simp) ?_
    refine AllReadyH.cons (o := { dst := Option.some 63, op := Go.Op.call { callee := Go.Callee.value (Go.Operand.func 16), args := #[Go.Operand.tmp 62], argTypes := #[32] }, type := 36, pos := "law.go:44", after := #[{ on := 10, ground := Go.Ground.data }, { on := 9, ground := Go.Ground.chain }, { on := 9, ground := Go.Ground.guard }], guard := Option.some (9, Bool.true) }) rfl (fun K hK => ?_) (AllReadyH.nil)
    go_simp
    refine (plain_any _ HMC.out).mono ?_
    rintro r w12 ⟨rfl, hb2⟩
    have hHeld2 := hHeld.trans (hb2.mono hHeld.size)
    clear hHeld hb2
    go_wp2_with fail
    refine hK.out _ _ hHeld2 (fun hHeld => ?_)
    clear hK K hHeld2
    try simp only [Act.put, List.setIfInBounds_toArray, List.set_cons_zero, List.set_cons_succ]
    refine wpAnyH_take (i := 13) (oi := { dst := Option.some 65, op := Go.Op.binOp Go.BinOp.eql 36 (Go.Operand.tmp 63) (Go.Operand.tmp 64) 36, type := 4, pos := "law.go:44", after := #[{ on := 11, ground := Go.Ground.data }, { on := 12, ground := Go.Ground.data }, { on := 9, ground := Go.Ground.guard }], guard := Option.some (9, Bool.true) }) (v := .bool true) rfl (by kernel_rfl) (by kernel_rfl) (by kernel_rfl) (fun _ _ _ h => h) (Or.inl ⟨by rfl, fun V _ => exec_eql_self _ 36 (.tmp 63) (.tmp 64) 36 rfl (tcs (Mt.move e o x2 y2).1 (Mt.move e o x2 y2).2.1) rfl rfl guardR (eq_tabR _ _ HMC.out.len HMI.out.1 HMI.out.2 V)⟩) (by assumption) ?_
    try simp only [Act.put, List.setIfInBounds_toArray, List.set_cons_zero, List.set_cons_succ]
    refine wpAnyH_take (i := 14) (oi := { dst := Option.some 66, op := Go.Op.pick (Go.Operand.tmp 61) (Go.Operand.tmp 65) (Go.Operand.const (Go.Value.bool Bool.false)), type := 4, pos := "law.go:44", after := #[{ on := 9, ground := Go.Ground.data }, { on := 13, ground := Go.Ground.data }], guard := Option.none }) (v := ?_) rfl (by kernel_rfl) (by kernel_rfl) (by kernel_rfl) (fun _ _ _ h => h) (Or.inl ⟨by rfl, ?_⟩) (by assumption) ?_
    rotate_left
    · intro V hV; (try dsimp only at hV); go_simp; all_goals (with_reducible rfl)
    try simp only [Act.put, List.setIfInBounds_toArray, List.set_cons_zero, List.set_cons_succ]
    refine wpAnyH_take (i := 15) (oi := { dst := Option.some 67, op := Go.Op.move (Go.Operand.tmp 66), type := 4, pos := "law.go:44", after := #[{ on := 14, ground := Go.Ground.data }, { on := 11, ground := Go.Ground.chain }], guard := Option.none }) (v := ?_) rfl (by kernel_rfl) (by kernel_rfl) (by kernel_rfl) (fun _ _ _ h => h) (Or.inl ⟨by rfl, ?_⟩) (by assumption) ?_
    rotate_left
    · intro V hV; (try dsimp only at hV); go_simp; all_goals (with_reducible rfl)
    try simp only [Act.put, List.setIfInBounds_toArray, List.set_cons_zero, List.set_cons_succ]
    refine wpAnyH_take (i := 16) (oi := { dst := Option.some 68, op := Go.Op.move (Go.Operand.tmp 12), type := 33, pos := "law.go:44", after := #[{ on := 15, ground := Go.Ground.guard }], guard := Option.some (15, Bool.true) }) (v := ?_) rfl (by kernel_rfl) (by kernel_rfl) (by kernel_rfl) (fun _ _ _ h => h) (Or.inl ⟨by rfl, ?_⟩) (by assumption) ?_
    rotate_left
    · intro V hV; (try dsimp only at hV); go_simp; all_goals (with_reducible rfl)
    try simp only [Act.put, List.setIfInBounds_toArray, List.set_cons_zero, List.set_cons_succ]
    refine wpAnyH_take (i := 17) (oi := { dst := Option.some 69, op := Go.Op.move (Go.Operand.tmp 14), type := 3, pos := "law.go:44", after := #[{ on := 15, ground := Go.Ground.guard }], guard := Option.some (15, Bool.true) }) (v := ?_) rfl (by kernel_rfl) (by kernel_rfl) (by kernel_rfl) (fun _ _ _ h => h) (Or.inl ⟨by rfl, ?_⟩) (by assumption) ?_
    rotate_left
    · intro V hV; (try dsimp only at hV); go_simp; all_goals (with_reducible rfl)
    try simp only [Act.put, List.setIfInBounds_toArray, List.set_cons_zero, List.set_cons_succ]
    refine wpAnyH_take (i := 18) (oi := { dst := Option.some 70, op := Go.Op.binOp Go.BinOp.eql 3 (Go.Operand.tmp 68) (Go.Operand.tmp 69) 3, type := 4, pos := "law.go:44", after := #[{ on := 16, ground := Go.Ground.data }, { on := 17, ground := Go.Ground.data }, { on := 15, ground := Go.Ground.guard }], guard := Option.some (15, Bool.true) }) (v := ?_) rfl (by kernel_rfl) (by kernel_rfl) (by kernel_rfl) (fun _ _ _ h => h) (Or.inl ⟨by rfl, ?_⟩) (by assumption) ?_
    rotate_left
    · intro V hV; (try dsimp only at hV); go_simp; all_goals (with_reducible rfl)
    try simp only [Act.put, List.setIfInBounds_toArray, List.set_cons_zero, List.set_cons_succ]
    refine wpAnyH_take (i := 19) (oi := { dst := Option.some 71, op := Go.Op.pick (Go.Operand.tmp 67) (Go.Operand.tmp 70) (Go.Operand.const (Go.Value.bool Bool.false)), type := 4, pos := "law.go:44", after := #[{ on := 15, ground := Go.Ground.data }, { on := 18, ground := Go.Ground.data }], guard := Option.none }) (v := ?_) rfl (by kernel_rfl) (by kernel_rfl) (by kernel_rfl) (fun _ _ _ h => h) (Or.inl ⟨by rfl, ?_⟩) (by assumption) ?_
    rotate_left
    · intro V hV; (try dsimp only at hV); go_simp; all_goals (with_reducible rfl)
    try simp only [Act.put, List.setIfInBounds_toArray, List.set_cons_zero, List.set_cons_succ]
    refine wpAnyH_take (i := 20) (oi := { dst := Option.some 72, op := Go.Op.move (Go.Operand.tmp 71), type := 4, pos := "law.go:44", after := #[{ on := 19, ground := Go.Ground.data }, { on := 15, ground := Go.Ground.chain }], guard := Option.none }) (v := ?_) rfl (by kernel_rfl) (by kernel_rfl) (by kernel_rfl) (fun _ _ _ h => h) (Or.inl ⟨by rfl, ?_⟩) (by assumption) ?_
    rotate_left
    · intro V hV; (try dsimp only at hV); go_simp; all_goals (with_reducible rfl)
    try simp only [Act.put, List.setIfInBounds_toArray, List.set_cons_zero, List.set_cons_succ]
    refine wpAnyH_take (i := 21) (oi := { dst := Option.some 73, op := Go.Op.load 32 (Go.Operand.tmp 4), type := 32, pos := "law.go:44", after := #[{ on := 20, ground := Go.Ground.guard }], guard := Option.some (20, Bool.true) }) (v := .agg (tcs e o)) rfl (by kernel_rfl) (by kernel_rfl) (by kernel_rfl) (fun _ _ _ h => h) (Or.inl ⟨by rfl, fun V hV => exec_row _ _ V 32 (.tmp 4) rfl (w.heap.size + 1) rfl 32 (tcs e o) _ (HTT9.out.kept (hV.block _ HTT9.out.lt)) Tryd.underlying32 rfl HTA.out.info⟩) (by assumption) ?_
    try simp only [Act.put, List.setIfInBounds_toArray, List.set_cons_zero, List.set_cons_succ]
    refine wpAnyH_take (i := 22) (oi := { dst := Option.some 74, op := Go.Op.indexAddr 29 (Go.Operand.tmp 3) (Go.Operand.const (Go.Value.int Go.IntKind.i64 0)), type := 0, pos := "law.go:44", after := #[{ on := 20, ground := Go.Ground.guard }], guard := Option.some (20, Bool.true) }) (v := ?_) rfl (by kernel_rfl) (by kernel_rfl) (by kernel_rfl) (fun _ _ _ h => h) (Or.inl ⟨by rfl, ?_⟩) (by assumption) ?_
    rotate_left
    · intro V hV; (try dsimp only at hV); go_simp; all_goals (with_reducible rfl)
    try simp only [Act.put, List.setIfInBounds_toArray, List.set_cons_zero, List.set_cons_succ]
    refine wpAnyH_take (i := 23) (oi := { dst := Option.some 75, op := Go.Op.load 3 (Go.Operand.tmp 74), type := 3, pos := "law.go:44", after := #[{ on := 22, ground := Go.Ground.data }, { on := 20, ground := Go.Ground.guard }], guard := Option.some (20, Bool.true) }) (v := ?_) rfl (by kernel_rfl) (by kernel_rfl) (by kernel_rfl) (fun _ _ _ h => h) (Or.inl ⟨by rfl, ?_⟩) (by assumption) ?_
    rotate_left
    · intro V hV; (try dsimp only at hV); have cV := (hV.cell (p := ⟨w.heap.size, 0, none⟩) HP9.out.lt).trans HK9.out; go_simp; all_goals (with_reducible rfl)
    try simp only [Act.put, List.setIfInBounds_toArray, List.set_cons_zero, List.set_cons_succ]
    refine wpAnyH_take (i := 25) (oi := { dst := Option.some 77, op := Go.Op.load 32 (Go.Operand.tmp 4), type := 32, pos := "law.go:44", after := #[{ on := 20, ground := Go.Ground.guard }], guard := Option.some (20, Bool.true) }) (v := .agg (tcs e o)) rfl (by kernel_rfl) (by kernel_rfl) (by kernel_rfl) (fun _ _ _ h => h) (Or.inl ⟨by rfl, fun V hV => exec_row _ _ V 32 (.tmp 4) rfl (w.heap.size + 1) rfl 32 (tcs e o) _ (HTT9.out.kept (hV.block _ HTT9.out.lt)) Tryd.underlying32 rfl HTA.out.info⟩) (by assumption) ?_
    try simp only [Act.put, List.setIfInBounds_toArray, List.set_cons_zero, List.set_cons_succ]
    refine wpAnyH_take (i := 27) (oi := { dst := Option.some 79, op := Go.Op.indexAddr 29 (Go.Operand.tmp 3) (Go.Operand.const (Go.Value.int Go.IntKind.i64 0)), type := 0, pos := "law.go:44", after := #[{ on := 20, ground := Go.Ground.guard }], guard := Option.some (20, Bool.true) }) (v := ?_) rfl (by kernel_rfl) (by kernel_rfl) (by kernel_rfl) (fun _ _ _ h => h) (Or.inl ⟨by rfl, ?_⟩) (by assumption) ?_
    rotate_left
    · intro V hV; (try dsimp only at hV); go_simp; all_goals (with_reducible rfl)
    try simp only [Act.put, List.setIfInBounds_toArray, List.set_cons_zero, List.set_cons_succ]
    refine wpAnyH_take (i := 28) (oi := { dst := Option.some 80, op := Go.Op.load 3 (Go.Operand.tmp 79), type := 3, pos := "law.go:44", after := #[{ on := 27, ground := Go.Ground.data }, { on := 20, ground := Go.Ground.guard }], guard := Option.some (20, Bool.true) }) (v := ?_) rfl (by kernel_rfl) (by kernel_rfl) (by kernel_rfl) (fun _ _ _ h => h) (Or.inl ⟨by rfl, ?_⟩) (by assumption) ?_
    rotate_left
    · intro V hV; (try dsimp only at hV); have cV := (hV.cell (p := ⟨w.heap.size, 0, none⟩) HP9.out.lt).trans HK9.out; go_simp; all_goals (with_reducible rfl)
    try simp only [Act.put, List.setIfInBounds_toArray, List.set_cons_zero, List.set_cons_succ]
    refine wpAnyH_ready (rs := [24]) (by kernel_rfl) (by simp) ?_
    refine AllReadyH.cons (o := { dst := Option.some 76, op := Go.Op.call { callee := Go.Callee.value (Go.Operand.func 17), args := #[Go.Operand.tmp 73, Go.Operand.tmp 75], argTypes := #[32, 3] }, type := 33, pos := "law.go:44", after := #[{ on := 21, ground := Go.Ground.data }, { on := 23, ground := Go.Ground.data }, { on := 20, ground := Go.Ground.chain }, { on := 20, ground := Go.Ground.guard }], guard := Option.some (20, Bool.true) }) rfl (fun K hK => ?_) (AllReadyH.nil)
    go_simp
    refine (check_any x0 _ HTA.out).mono ?_
    rintro r w13 ⟨rfl, hb3⟩
    have hHeld3 := hHeld.trans (hb3.mono hHeld.size)
    clear hHeld hb3
    go_wp2_with fail
    refine hK.out _ _ hHeld3 (fun hHeld => ?_)
    clear hK K hHeld3
    try simp only [Act.put, List.setIfInBounds_toArray, List.set_cons_zero, List.set_cons_succ]
    refine wpAnyH_ready (rs := [26]) (by kernel_rfl) (by simp) ?_
    refine AllReadyH.cons (o := { dst := Option.some 78, op := Go.Op.call { callee := Go.Callee.value (Go.Operand.func 16), args := #[Go.Operand.tmp 77], argTypes := #[32] }, type := 36, pos := "law.go:44", after := #[{ on := 25, ground := Go.Ground.data }, { on := 24, ground := Go.Ground.chain }, { on := 20, ground := Go.Ground.guard }], guard := Option.some (20, Bool.true) }) rfl (fun K hK => ?_) (AllReadyH.nil)
    go_simp
    refine (plain_any _ HTA.out).mono ?_
    rintro r w14 ⟨rfl, hb4⟩
    have hHeld4 := hHeld.trans (hb4.mono hHeld.size)
    clear hHeld hb4
    go_wp2_with fail
    refine hK.out _ _ hHeld4 (fun hHeld => ?_)
    clear hK K hHeld4
    try simp only [Act.put, List.setIfInBounds_toArray, List.set_cons_zero, List.set_cons_succ]
    refine wpAnyH_ready (rs := [29]) (by kernel_rfl) (by simp) ?_
    refine AllReadyH.cons (o := { dst := Option.some 81, op := Go.Op.call { callee := Go.Callee.value (Go.Operand.func 18), args := #[Go.Operand.tmp 78, Go.Operand.tmp 80], argTypes := #[36, 3] }, type := 3, pos := "law.go:44", after := #[{ on := 26, ground := Go.Ground.data }, { on := 28, ground := Go.Ground.data }, { on := 26, ground := Go.Ground.chain }, { on := 20, ground := Go.Ground.guard }], guard := Option.some (20, Bool.true) }) rfl (fun K hK => ?_) (AllReadyH.nil)
    go_simp
    refine (rcheck_any x0 _ HTA.out).mono ?_
    rintro r w15 ⟨rfl, hb5⟩
    have hHeld5 := hHeld.trans (hb5.mono hHeld.size)
    clear hHeld hb5
    go_wp2_with fail
    refine hK.out _ _ hHeld5 (fun hHeld => ?_)
    clear hK K hHeld5
    try simp only [Act.put, List.setIfInBounds_toArray, List.set_cons_zero, List.set_cons_succ]
    refine wpAnyH_take (i := 30) (oi := { dst := Option.some 82, op := Go.Op.binOp Go.BinOp.eql 3 (Go.Operand.tmp 76) (Go.Operand.tmp 81) 3, type := 4, pos := "law.go:44", after := #[{ on := 24, ground := Go.Ground.data }, { on := 29, ground := Go.Ground.data }, { on := 20, ground := Go.Ground.guard }], guard := Option.some (20, Bool.true) }) (v := ?_) rfl (by kernel_rfl) (by kernel_rfl) (by kernel_rfl) (fun _ _ _ h => h) (Or.inl ⟨by rfl, ?_⟩) (by assumption) ?_
    rotate_left
    · intro V hV; (try dsimp only at hV); go_simp; all_goals (with_reducible rfl)
    try simp only [Act.put, List.setIfInBounds_toArray, List.set_cons_zero, List.set_cons_succ]
    refine wpAnyH_take (i := 31) (oi := { dst := Option.some 83, op := Go.Op.pick (Go.Operand.tmp 72) (Go.Operand.tmp 82) (Go.Operand.const (Go.Value.bool Bool.false)), type := 4, pos := "law.go:44", after := #[{ on := 20, ground := Go.Ground.data }, { on := 30, ground := Go.Ground.data }], guard := Option.none }) (v := ?_) rfl (by kernel_rfl) (by kernel_rfl) (by kernel_rfl) (fun _ _ _ h => h) (Or.inl ⟨by rfl, ?_⟩) (by assumption) ?_
    rotate_left
    · intro V hV; (try dsimp only at hV); go_simp; all_goals (with_reducible rfl)
    try simp only [Act.put, List.setIfInBounds_toArray, List.set_cons_zero, List.set_cons_succ]
    refine wpAnyH_take (i := 32) (oi := { dst := Option.some 84, op := Go.Op.move (Go.Operand.tmp 83), type := 4, pos := "law.go:44", after := #[{ on := 31, ground := Go.Ground.data }, { on := 29, ground := Go.Ground.chain }], guard := Option.none }) (v := ?_) rfl (by kernel_rfl) (by kernel_rfl) (by kernel_rfl) (fun _ _ _ h => h) (Or.inl ⟨by rfl, ?_⟩) (by assumption) ?_
    rotate_left
    · intro V hV; (try dsimp only at hV); go_simp; all_goals (with_reducible rfl)
    try simp only [Act.put, List.setIfInBounds_toArray, List.set_cons_zero, List.set_cons_succ]
    refine wpAnyH_take (i := 33) (oi := { dst := Option.some 85, op := Go.Op.load 32 (Go.Operand.tmp 4), type := 32, pos := "law.go:44", after := #[{ on := 32, ground := Go.Ground.guard }], guard := Option.some (32, Bool.true) }) (v := .agg (tcs e o)) rfl (by kernel_rfl) (by kernel_rfl) (by kernel_rfl) (fun _ _ _ h => h) (Or.inl ⟨by rfl, fun V hV => exec_row _ _ V 32 (.tmp 4) rfl (w.heap.size + 1) rfl 32 (tcs e o) _ (HTT9.out.kept (hV.block _ HTT9.out.lt)) Tryd.underlying32 rfl HTA.out.info⟩) (by assumption) ?_
    try simp only [Act.put, List.setIfInBounds_toArray, List.set_cons_zero, List.set_cons_succ]
    refine wpAnyH_take (i := 37) (oi := { dst := Option.some 89, op := Go.Op.fieldAddr 32 (Go.Operand.tmp 4) 1, type := 0, pos := "law.go:44", after := #[{ on := 32, ground := Go.Ground.guard }], guard := Option.some (32, Bool.true) }) (v := ?_) rfl (by kernel_rfl) (by kernel_rfl) (by kernel_rfl) (fun _ _ _ h => h) (Or.inl ⟨by rfl, ?_⟩) (by assumption) ?_
    rotate_left
    · intro V hV; (try dsimp only at hV); go_simp; all_goals (with_reducible rfl)
    try simp only [Act.put, List.setIfInBounds_toArray, List.set_cons_zero, List.set_cons_succ]
    refine wpAnyH_ready (rs := [34]) (by kernel_rfl) (by simp) ?_
    refine AllReadyH.cons (o := { dst := Option.some 86, op := Go.Op.call { callee := Go.Callee.value (Go.Operand.func 19), args := #[Go.Operand.tmp 85, Go.Operand.const (Go.Value.string { data := #[100, 111, 99, 58, 97] })], argTypes := #[32, 9] }, type := 3, pos := "law.go:44", after := #[{ on := 33, ground := Go.Ground.data }, { on := 32, ground := Go.Ground.chain }, { on := 32, ground := Go.Ground.guard }], guard := Option.some (32, Bool.true) }) rfl (fun K hK => ?_) (AllReadyH.nil)
    go_simp
    refine (HOW.out _).mono ?_
    rintro r w16 ⟨rfl, hb6⟩
    have hHeld6 := hHeld.trans (hb6.mono hHeld.size)
    clear hHeld hb6
    go_wp2_with fail
    refine hK.out _ _ hHeld6 (fun hHeld => ?_)
    clear hK K hHeld6
    try simp only [Act.put, List.setIfInBounds_toArray, List.set_cons_zero, List.set_cons_succ]
    refine wpAnyH_ready (rs := [35]) (by kernel_rfl) (by simp) ?_
    refine AllReadyH.cons (o := { dst := Option.some 87, op := Go.Op.call { callee := Go.Callee.value (Go.Operand.func 9), args := #[Go.Operand.const (Go.Value.string { data := #[100, 111, 99, 58, 97] })], argTypes := #[9] }, type := 23, pos := "law.go:44", after := #[{ on := 34, ground := Go.Ground.chain }, { on := 32, ground := Go.Ground.guard }], guard := Option.some (32, Bool.true) }) rfl (fun K hK => ?_) (AllReadyH.nil)
    go_simp
    refine (HRH.out _).mono ?_
    rintro r w17 ⟨rfl, hw7⟩
    have hb7 : Below (World.heap w16).size w16 w17 := by rw [← hw7]; exact Below.refl _ _
    clear hw7
    have hHeld7 := hHeld.trans (hb7.mono hHeld.size)
    clear hHeld hb7
    go_wp2_with fail
    refine hK.out _ _ hHeld7 (fun hHeld => ?_)
    clear hK K hHeld7
    try simp only [Act.put, List.setIfInBounds_toArray, List.set_cons_zero, List.set_cons_succ]
    refine wpAnyH_take (i := 36) (oi := { dst := Option.some 88, op := Go.Op.binOp Go.BinOp.rem 23 (Go.Operand.tmp 87) (Go.Operand.const (Go.Value.int Go.IntKind.u64 16)) 23, type := 23, pos := "law.go:44", after := #[{ on := 35, ground := Go.Ground.data }, { on := 32, ground := Go.Ground.guard }], guard := Option.some (32, Bool.true) }) (v := ?_) rfl (by kernel_rfl) (by kernel_rfl) (by kernel_rfl) (fun _ _ _ h => h) (Or.inl ⟨by rfl, ?_⟩) (by assumption) ?_
    rotate_left
    · intro V hV; (try dsimp only at hV); have hq := HHK.out; go_simp; all_goals (with_reducible rfl)
    try simp only [Act.put, List.setIfInBounds_toArray, List.set_cons_zero, List.set_cons_succ]
    refine wpAnyH_take (i := 38) (oi := { dst := Option.some 90, op := Go.Op.indexAddr 30 (Go.Operand.tmp 89) (Go.Operand.tmp 88), type := 0, pos := "law.go:44", after := #[{ on := 37, ground := Go.Ground.data }, { on := 36, ground := Go.Ground.data }, { on := 32, ground := Go.Ground.guard }], guard := Option.some (32, Bool.true) }) (v := ?_) rfl (by kernel_rfl) (by kernel_rfl) (by kernel_rfl) (fun _ _ _ h => h) (Or.inl ⟨by rfl, ?_⟩) (by assumption) ?_
    rotate_left
    · intro V hV; (try dsimp only at hV); go_simp; all_goals (with_reducible rfl)
    try simp only [Act.put, List.setIfInBounds_toArray, List.set_cons_zero, List.set_cons_succ]
    refine wpAnyH_take (i := 39) (oi := { dst := Option.some 91, op := Go.Op.load 3 (Go.Operand.tmp 90), type := 3, pos := "law.go:44", after := #[{ on := 38, ground := Go.Ground.data }, { on := 32, ground := Go.Ground.guard }], guard := Option.some (32, Bool.true) }) (v := ?_) rfl (by kernel_rfl) (by kernel_rfl) (by kernel_rfl) (fun _ _ _ h => h) (Or.inl ⟨by rfl, ?_⟩) (by assumption) ?_
    rotate_left
    · intro V hV; (try dsimp only at hV); have cV : World.cell? V ⟨w.heap.size + 1, 1 + k, none⟩ = some (.int .i64 xk) := (hV.cell (p := ⟨w.heap.size + 1, 1 + k, none⟩) HTT9.out.lt).trans (by rw [HTT9.out.cell]; exact HOK.out); go_simp; all_goals (with_reducible rfl)
    try simp only [Act.put, List.setIfInBounds_toArray, List.set_cons_zero, List.set_cons_succ]
    refine wpAnyH_take (i := 40) (oi := { dst := Option.some 92, op := Go.Op.binOp Go.BinOp.eql 3 (Go.Operand.tmp 86) (Go.Operand.tmp 91) 3, type := 4, pos := "law.go:44", after := #[{ on := 34, ground := Go.Ground.data }, { on := 39, ground := Go.Ground.data }, { on := 32, ground := Go.Ground.guard }], guard := Option.some (32, Bool.true) }) (v := ?_) rfl (by kernel_rfl) (by kernel_rfl) (by kernel_rfl) (fun _ _ _ h => h) (Or.inl ⟨by rfl, ?_⟩) (by assumption) ?_
    rotate_left
    · intro V hV; (try dsimp only at hV); go_simp; all_goals (with_reducible rfl)
    try simp only [Act.put, List.setIfInBounds_toArray, List.set_cons_zero, List.set_cons_succ]
    refine wpAnyH_take (i := 41) (oi := { dst := Option.some 93, op := Go.Op.pick (Go.Operand.tmp 84) (Go.Operand.tmp 92) (Go.Operand.const (Go.Value.bool Bool.false)), type := 4, pos := "law.go:44", after := #[{ on := 32, ground := Go.Ground.data }, { on := 40, ground := Go.Ground.data }], guard := Option.none }) (v := ?_) rfl (by kernel_rfl) (by kernel_rfl) (by kernel_rfl) (fun _ _ _ h => h) (Or.inl ⟨by rfl, ?_⟩) (by assumption) ?_
    rotate_left
    · intro V hV; (try dsimp only at hV); go_simp; all_goals (with_reducible rfl)
    try simp only [Act.put, List.setIfInBounds_toArray, List.set_cons_zero, List.set_cons_succ]
    refine wpAnyH_take (i := 42) (oi := { dst := Option.some 6, op := Go.Op.assign (Go.Operand.tmp 93), type := 4, pos := "law.go:44", after := #[{ on := 41, ground := Go.Ground.data }, { on := 35, ground := Go.Ground.chain }, { on := 0, ground := Go.Ground.phase }, { on := 1, ground := Go.Ground.phase }, { on := 2, ground := Go.Ground.phase }, { on := 3, ground := Go.Ground.phase }, { on := 4, ground := Go.Ground.phase }, { on := 5, ground := Go.Ground.phase }, { on := 6, ground := Go.Ground.phase }, { on := 7, ground := Go.Ground.phase }, { on := 8, ground := Go.Ground.phase }, { on := 9, ground := Go.Ground.phase }, { on := 10, ground := Go.Ground.phase }, { on := 11, ground := Go.Ground.phase }, { on := 12, ground := Go.Ground.phase }, { on := 13, ground := Go.Ground.phase }, { on := 14, ground := Go.Ground.phase }, { on := 15, ground := Go.Ground.phase }, { on := 16, ground := Go.Ground.phase }, { on := 17, ground := Go.Ground.phase }, { on := 18, ground := Go.Ground.phase }, { on := 19, ground := Go.Ground.phase }, { on := 20, ground := Go.Ground.phase }, { on := 21, ground := Go.Ground.phase }, { on := 22, ground := Go.Ground.phase }, { on := 23, ground := Go.Ground.phase }, { on := 24, ground := Go.Ground.phase }, { on := 25, ground := Go.Ground.phase }, { on := 26, ground := Go.Ground.phase }, { on := 27, ground := Go.Ground.phase }, { on := 28, ground := Go.Ground.phase }, { on := 29, ground := Go.Ground.phase }, { on := 30, ground := Go.Ground.phase }, { on := 31, ground := Go.Ground.phase }, { on := 32, ground := Go.Ground.phase }, { on := 33, ground := Go.Ground.phase }, { on := 34, ground := Go.Ground.phase }, { on := 35, ground := Go.Ground.phase }, { on := 36, ground := Go.Ground.phase }, { on := 37, ground := Go.Ground.phase }, { on := 38, ground := Go.Ground.phase }, { on := 39, ground := Go.Ground.phase }, { on := 40, ground := Go.Ground.phase }, { on := 41, ground := Go.Ground.phase }], guard := Option.none }) (v := ?_) rfl (by kernel_rfl) (by kernel_rfl) (by kernel_rfl) (fun _ _ _ h => h) (Or.inl ⟨by rfl, ?_⟩) (by assumption) ?_
    rotate_left
    · intro V hV; (try dsimp only at hV); go_simp; all_goals (with_reducible rfl)
    try simp only [Act.put, List.setIfInBounds_toArray, List.set_cons_zero, List.set_cons_succ]
    refine wpAnyH_done (by kernel_rfl) ?_ _
    have HBF := Lib.hid (HB9.out.bel.trans (hHeld.mono HB9.out.bel.size))
    clear hHeld
    go_wp2
    go_ret
    exact ⟨rfl, HBF.out⟩
end Go.Proofs.YtobehjlejlaeeaaDoor
