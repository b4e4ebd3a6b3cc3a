/- TupleReads: raw texts read, raw tuples looked at, as the document says. -/
import Derived.Test.YtfomhbaebgcleaaTOpen
namespace Go.Proofs.Ytfomhbaebgcleaa
open Go.RowKit

/-- The three cells of a tuple in block g. -/
abbrev Box3 (W : World) (g : Nat) (x y z : ByteArray) : Prop := W.cell? ⟨g, 0, none⟩ = some (.string x) ∧ W.cell? ⟨g, 1, none⟩ = some (.string y) ∧ W.cell? ⟨g, 2, none⟩ = some (.string z)
theorem box_below {W W' : World} {g : Nat} {x y z : ByteArray} (h : Box3 W g x y z) (hb : Below W.heap.size W W') : Box3 W' g x y z := by
  have hl := World.block_lt_of_cell? W ⟨g, 0, none⟩ h.1
  exact ⟨(hb.cell (p := ⟨g, 0, none⟩) hl).trans h.1, (hb.cell (p := ⟨g, 1, none⟩) hl).trans h.2.1, (hb.cell (p := ⟨g, 2, none⟩) hl).trans h.2.2⟩
theorem box_new (W : World) (x y z : ByteArray) (t : TypeId) (fr : Nat × Nat) : Box3 (W.alloc (.cells #[.string x, .string y, .string z] t fr)) W.heap.size x y z :=
  ⟨by rw [new_cell]; rfl, by rw [new_cell]; rfl, by rw [new_cell]; rfl⟩

/-- What is held of the world in the last region. -/
abbrev Held (V w : World) (g1 g2 g3 : Nat) (x y z pa pb pc : ByteArray) : Prop :=
  V.cell? ⟨g1, 0, none⟩ = some (.string x) ∧ V.cell? ⟨g1, 1, none⟩ = some (.string y) ∧ V.cell? ⟨g1, 2, none⟩ = some (.string z) ∧
  V.cell? ⟨g2, 0, none⟩ = some (.string pa) ∧ V.cell? ⟨g2, 1, none⟩ = some (.string pb) ∧ V.cell? ⟨g2, 2, none⟩ = some (.string pc) ∧
  V.cell? ⟨g3, 0, none⟩ = some (.string pa) ∧ V.cell? ⟨g3, 1, none⟩ = some (.string pb) ∧ V.cell? ⟨g3, 2, none⟩ = some (.string pc) ∧ Below w.heap.size w V
theorem held_mk {V w : World} {g1 g2 g3 : Nat} {x y z pa pb pc : ByteArray} (hx : Box3 V g1 x y z) (hy : Box3 V g2 pa pb pc) (hz : Box3 V g3 pa pb pc) {n : Nat} (hb : Below n w V) (hn : w.heap.size = n) : Held V w g1 g2 g3 x y z pa pb pc := by
  subst hn
  exact ⟨hx.1, hx.2.1, hx.2.2, hy.1, hy.2.1, hy.2.2, hz.1, hz.2.1, hz.2.2, hb⟩
theorem held_keep {V V' w : World} {g1 g2 g3 : Nat} {x y z pa pb pc : ByteArray} (h : Held V w g1 g2 g3 x y z pa pb pc) (hb : Below V.heap.size V V') : Held V' w g1 g2 g3 x y z pa pb pc := by
  obtain ⟨a1, a2, a3, b1, b2, b3, c1, c2, c3, d⟩ := h
  obtain ⟨a1, a2, a3⟩ := box_below ⟨a1, a2, a3⟩ hb
  obtain ⟨b1, b2, b3⟩ := box_below ⟨b1, b2, b3⟩ hb
  obtain ⟨c1, c2, c3⟩ := box_below ⟨c1, c2, c3⟩ hb
  exact ⟨a1, a2, a3, b1, b2, b3, c1, c2, c3, d.trans (hb.mono d.size)⟩

set_option maxRecDepth 100000 in
set_option maxHeartbeats 2000000 in
theorem reads_walk (S x y z : ByteArray) (w : World) (hS : S.size ≤ 140737488351232) (ht : Tp.small (x, y, z)) :
    Calls Try.prog 3 #[.string S, .agg #[.string x, .string y, .string z]] w fun e w' => e = .returned (.bool true) ∧ Below w.heap.size w w' := by
  have HA := Lib.hid (fun w => awake_any w)
  have HP := Lib.hid (fun w => parse_any S w (by omega))
  have HQ := Lib.hid (fun w => parseR_any S w (by omega))
  have HO := Lib.hid (fun w => object_any S w (by omega))
  have HOR := Lib.hid (fun w => objectR_any S w (by omega))
  have HU := Lib.hid (fun w => user_any S w (by omega))
  have HUR := Lib.hid (fun w => userR_any S w (by omega))
  have HC := Lib.hid (fun w a h => check_any a 1 1 [(x, y, z)] w h (by omega))
  have HT := Lib.hid (fun w fr t => tups_one w x y z fr ht.1 ht.2.1 ht.2.2 t)
  rw [tupsE_one, show Tp.e (x, y, z) = tupE x y z from rfl] at HC
  have h1 := ht.1
  have h3 := ht.2.2
  simp only at h1 h3
  have HCR := Lib.hid (fun w => checkR_any x y z w (by omega) (by omega))
  have HR := Lib.hid (fun w => print_any x y z w ht.1 ht.2.1 ht.2.2)
  have HRR := Lib.hid (fun w => printR_any x y z w ht.1 ht.2.1 ht.2.2)
  clear ht h1 h3 hS
  unfold TupV at HP HQ HCR HR HRR
  generalize prsA S = pa at *
  generalize prsB S = pb at *
  generalize prsC S = pc at *
  generalize prsE S = pe at *
  generalize objA S = oa at *
  generalize objB S = ob at *
  generalize objE S = oe at *
  generalize usrA S = ua at *
  generalize usrB S = ub at *
  generalize usrE S = ue at *
  generalize tupE x y z = te at *
  generalize prn x y z = ptx at *
  have HB0 := Lib.hid (below_alloc w (.cells #[.string x, .string y, .string z] 23))
  have HX0 := Lib.hid (box_new w x y z 23 (0, 0))
  go_enter Try.func3, Try.ntmps3
  go_wp2_with fail
  refine (HA.out _).mono ?_
  rintro e w1 ⟨rfl, hb1⟩
  have HX1 := Lib.hid (box_below HX0.out hb1)
  have HB1 := Lib.hid (HB0.out.trans (hb1.mono HB0.out.size))
  clear hb1 HX0 HB0
  go_wp2_with fail
  refine (HP.out _).mono ?_
  rintro e w2 ⟨rfl, hb2⟩
  have HX2 := Lib.hid (box_below (box_below HX1.out hb2) (below_alloc w2 (.cells #[.string pa, .string pb, .string pc] 23)))
  have HY2 := Lib.hid (box_new w2 pa pb pc 23 (0, 0))
  have HB2 := Lib.hid ((HB1.out.trans (hb2.mono HB1.out.size)).trans ((below_alloc w2 (.cells #[.string pa, .string pb, .string pc] 23)).mono ((HB1.out.trans (hb2.mono HB1.out.size)).size)))
  clear hb2 HX1 HB1
  go_wp2_with fail
  refine (HQ.out _).mono ?_
  rintro e w3 ⟨rfl, hb3⟩
  have HX3 := Lib.hid (box_below (box_below HX2.out hb3) (below_alloc w3 (.cells #[.string pa, .string pb, .string pc] 23)))
  have HY3 := Lib.hid (box_below (box_below HY2.out hb3) (below_alloc w3 (.cells #[.string pa, .string pb, .string pc] 23)))
  have HZ3 := Lib.hid (box_new w3 pa pb pc 23 (0, 0))
  have HB3 := Lib.hid ((HB2.out.trans (hb3.mono HB2.out.size)).trans ((below_alloc w3 (.cells #[.string pa, .string pb, .string pc] 23)).mono ((HB2.out.trans (hb3.mono HB2.out.size)).size)))
  clear hb3 HX2 HY2 HB2
  go_wp2_with fail
  refine (HO.out _).mono ?_
  rintro e w4 ⟨rfl, n4, rfl⟩
  go_wp2_with fail
  refine (HOR.out _).mono ?_
  rintro e w5 ⟨rfl, n5, rfl⟩
  go_wp2_with fail
  refine (HU.out _).mono ?_
  rintro e w6 ⟨rfl, n6, rfl⟩
  go_wp2_with fail
  refine (HUR.out _).mono ?_
  rintro e w7 ⟨rfl, n7, rfl⟩
  go_wp2_with fail
  have hx : Box3 ((w3.alloc (.cells #[.string pa, .string pb, .string pc] 23)).drewN (n4 + n5 + n6 + n7)) w.heap.size x y z := HX3.out
  have hy : Box3 ((w3.alloc (.cells #[.string pa, .string pb, .string pc] 23)).drewN (n4 + n5 + n6 + n7)) w2.heap.size pa pb pc := HY3.out
  have hz : Box3 ((w3.alloc (.cells #[.string pa, .string pb, .string pc] 23)).drewN (n4 + n5 + n6 + n7)) w3.heap.size pa pb pc := HZ3.out
  have hb : Below w.heap.size w ((w3.alloc (.cells #[.string pa, .string pb, .string pc] 23)).drewN (n4 + n5 + n6 + n7)) := HB3.out.trans ⟨rfl, rfl, rfl, Nat.le_refl _, fun _ _ => rfl⟩
  clear HX3 HY3 HZ3 HB3
  generalize ((w3.alloc (.cells #[.string pa, .string pb, .string pc] 23)).drewN (n4 + n5 + n6 + n7)) = W at *
  generalize w2.heap.size = g2 at *
  generalize w3.heap.size = g3 at *
  generalize hg1 : w.heap.size = g1 at *
  have s1 := held_mk hx hy hz hb hg1
  have q1 : (pa.toList == pa.toList) = true := by simp
  have q2 : (pb.toList == pb.toList) = true := by simp
  have q3 : (pc.toList == pc.toList) = true := by simp
  have q4 : (oa.toList == oa.toList) = true := by simp
  have q5 : (ob.toList == ob.toList) = true := by simp
  have q6 : (ua.toList == ua.toList) = true := by simp
  have q7 : (ub.toList == ub.toList) = true := by simp
  have q8 : (ptx.toList == ptx.toList) = true := by simp
  have HS1 := Lib.hid s1
  clear hx hy hz hb s1 hg1
  refine wp_region_held_drew (S := fun V => Held V w g1 g2 g3 x y z pa pb pc) (by kernel_rfl) (held_keep HS1.out (below_drew ⟨1, rfl⟩)) (fun hHeld => ?_)
  refine wpAnyH_take (i := 0) (oi := { dst := Option.some 57, op := Go.Op.load 23 (Go.Operand.tmp 5), type := 23, pos := "law.go:28", after := #[], guard := Option.none }) (v := ?_) rfl (by kernel_rfl) (by kernel_rfl) (by kernel_rfl) (fun _ _ _ h => h) (Or.inl ⟨by rfl, ?_⟩) (by assumption) ?_
  rotate_left
  · intro w hSw; (try dsimp only at hSw); go_simp; all_goals (with_reducible rfl)
  try simp only [Act.put, List.setIfInBounds_toArray, List.set_cons_zero, List.set_cons_succ]
  refine wpAnyH_take (i := 1) (oi := { dst := Option.some 58, op := Go.Op.load 23 (Go.Operand.tmp 7), type := 23, pos := "law.go:28", after := #[], guard := Option.none }) (v := ?_) rfl (by kernel_rfl) (by kernel_rfl) (by kernel_rfl) (fun _ _ _ h => h) (Or.inl ⟨by rfl, ?_⟩) (by assumption) ?_
  rotate_left
  · intro w hSw; (try dsimp only at hSw); go_simp; all_goals (with_reducible rfl)
  try simp only [Act.put, List.setIfInBounds_toArray, List.set_cons_zero, List.set_cons_succ]
  refine wpAnyH_take (i := 2) (oi := { dst := Option.some 59, op := Go.Op.binOp Go.BinOp.eql 23 (Go.Operand.tmp 57) (Go.Operand.tmp 58) 23, type := 4, pos := "law.go:28", after := #[{ on := 0, ground := Go.Ground.data }, { on := 1, ground := Go.Ground.data }], guard := Option.none }) (v := ?_) rfl (by kernel_rfl) (by kernel_rfl) (by kernel_rfl) (fun _ _ _ h => h) (Or.inl ⟨by rfl, ?_⟩) (by assumption) ?_
  rotate_left
  · intro w hSw; (try dsimp only at hSw); go_simp; all_goals (with_reducible rfl)
  try simp only [Act.put, List.setIfInBounds_toArray, List.set_cons_zero, List.set_cons_succ]
  refine wpAnyH_take (i := 3) (oi := { dst := Option.some 60, op := Go.Op.move (Go.Operand.tmp 59), type := 4, pos := "law.go:28", after := #[{ on := 2, ground := Go.Ground.data }], guard := Option.none }) (v := ?_) rfl (by kernel_rfl) (by kernel_rfl) (by kernel_rfl) (fun _ _ _ h => h) (Or.inl ⟨by rfl, ?_⟩) (by assumption) ?_
  rotate_left
  · intro w hSw; (try dsimp only at hSw); go_simp; all_goals (with_reducible rfl)
  try simp only [Act.put, List.setIfInBounds_toArray, List.set_cons_zero, List.set_cons_succ]
  refine wpAnyH_take (i := 4) (oi := { dst := Option.some 61, op := Go.Op.move (Go.Operand.tmp 6), type := 25, pos := "law.go:28", after := #[{ on := 3, ground := Go.Ground.guard }], guard := Option.some (3, Bool.true) }) (v := ?_) rfl (by kernel_rfl) (by kernel_rfl) (by kernel_rfl) (fun _ _ _ h => h) (Or.inl ⟨by rfl, ?_⟩) (by assumption) ?_
  rotate_left
  · intro w hSw; (try dsimp only at hSw); go_simp; all_goals (with_reducible rfl)
  try simp only [Act.put, List.setIfInBounds_toArray, List.set_cons_zero, List.set_cons_succ]
  refine wpAnyH_take (i := 5) (oi := { dst := Option.some 62, op := Go.Op.move (Go.Operand.tmp 8), type := 3, pos := "law.go:28", after := #[{ on := 3, ground := Go.Ground.guard }], guard := Option.some (3, Bool.true) }) (v := ?_) rfl (by kernel_rfl) (by kernel_rfl) (by kernel_rfl) (fun _ _ _ h => h) (Or.inl ⟨by rfl, ?_⟩) (by assumption) ?_
  rotate_left
  · intro w hSw; (try dsimp only at hSw); go_simp; all_goals (with_reducible rfl)
  try simp only [Act.put, List.setIfInBounds_toArray, List.set_cons_zero, List.set_cons_succ]
  refine wpAnyH_take (i := 6) (oi := { dst := Option.some 63, op := Go.Op.binOp Go.BinOp.eql 3 (Go.Operand.tmp 61) (Go.Operand.tmp 62) 3, type := 4, pos := "law.go:28", after := #[{ on := 4, ground := Go.Ground.data }, { on := 5, ground := Go.Ground.data }, { on := 3, ground := Go.Ground.guard }], guard := Option.some (3, Bool.true) }) (v := ?_) rfl (by kernel_rfl) (by kernel_rfl) (by kernel_rfl) (fun _ _ _ h => h) (Or.inl ⟨by rfl, ?_⟩) (by assumption) ?_
  rotate_left
  · intro w hSw; (try dsimp only at hSw); go_simp; all_goals (with_reducible rfl)
  try simp only [Act.put, List.setIfInBounds_toArray, List.set_cons_zero, List.set_cons_succ]
  refine wpAnyH_take (i := 7) (oi := { dst := Option.some 64, op := Go.Op.pick (Go.Operand.tmp 60) (Go.Operand.tmp 63) (Go.Operand.const (Go.Value.bool Bool.false)), type := 4, pos := "law.go:28", after := #[{ on := 3, ground := Go.Ground.data }, { on := 6, ground := Go.Ground.data }], guard := Option.none }) (v := ?_) rfl (by kernel_rfl) (by kernel_rfl) (by kernel_rfl) (fun _ _ _ h => h) (Or.inl ⟨by rfl, ?_⟩) (by assumption) ?_
  rotate_left
  · intro w hSw; (try dsimp only at hSw); go_simp; all_goals (with_reducible rfl)
  try simp only [Act.put, List.setIfInBounds_toArray, List.set_cons_zero, List.set_cons_succ]
  refine wpAnyH_take (i := 8) (oi := { dst := Option.some 65, op := Go.Op.move (Go.Operand.tmp 64), type := 4, pos := "law.go:28", after := #[{ on := 7, ground := Go.Ground.data }, { on := 3, ground := Go.Ground.chain }], guard := Option.none }) (v := ?_) rfl (by kernel_rfl) (by kernel_rfl) (by kernel_rfl) (fun _ _ _ h => h) (Or.inl ⟨by rfl, ?_⟩) (by assumption) ?_
  rotate_left
  · intro w hSw; (try dsimp only at hSw); go_simp; all_goals (with_reducible rfl)
  try simp only [Act.put, List.setIfInBounds_toArray, List.set_cons_zero, List.set_cons_succ]
  refine wpAnyH_take (i := 9) (oi := { dst := Option.some 66, op := Go.Op.move (Go.Operand.tmp 9), type := 9, pos := "law.go:28", after := #[{ on := 8, ground := Go.Ground.guard }], guard := Option.some (8, Bool.true) }) (v := ?_) rfl (by kernel_rfl) (by kernel_rfl) (by kernel_rfl) (fun _ _ _ h => h) (Or.inl ⟨by rfl, ?_⟩) (by assumption) ?_
  rotate_left
  · intro w hSw; (try dsimp only at hSw); go_simp; all_goals (with_reducible rfl)
  try simp only [Act.put, List.setIfInBounds_toArray, List.set_cons_zero, List.set_cons_succ]
  refine wpAnyH_take (i := 10) (oi := { dst := Option.some 67, op := Go.Op.move (Go.Operand.tmp 12), type := 9, pos := "law.go:28", after := #[{ on := 8, ground := Go.Ground.guard }], guard := Option.some (8, Bool.true) }) (v := ?_) rfl (by kernel_rfl) (by kernel_rfl) (by kernel_rfl) (fun _ _ _ h => h) (Or.inl ⟨by rfl, ?_⟩) (by assumption) ?_
  rotate_left
  · intro w hSw; (try dsimp only at hSw); go_simp; all_goals (with_reducible rfl)
  try simp only [Act.put, List.setIfInBounds_toArray, List.set_cons_zero, List.set_cons_succ]
  refine wpAnyH_take (i := 11) (oi := { dst := Option.some 68, op := Go.Op.binOp Go.BinOp.eql 9 (Go.Operand.tmp 66) (Go.Operand.tmp 67) 9, type := 4, pos := "law.go:28", after := #[{ on := 9, ground := Go.Ground.data }, { on := 10, ground := Go.Ground.data }, { on := 8, ground := Go.Ground.guard }], guard := Option.some (8, Bool.true) }) (v := ?_) rfl (by kernel_rfl) (by kernel_rfl) (by kernel_rfl) (fun _ _ _ h => h) (Or.inl ⟨by rfl, ?_⟩) (by assumption) ?_
  rotate_left
  · intro w hSw; (try dsimp only at hSw); go_simp; all_goals (with_reducible rfl)
  try simp only [Act.put, List.setIfInBounds_toArray, List.set_cons_zero, List.set_cons_succ]
  refine wpAnyH_take (i := 12) (oi := { dst := Option.some 69, op := Go.Op.pick (Go.Operand.tmp 65) (Go.Operand.tmp 68) (Go.Operand.const (Go.Value.bool Bool.false)), type := 4, pos := "law.go:28", after := #[{ on := 8, ground := Go.Ground.data }, { on := 11, ground := Go.Ground.data }], guard := Option.none }) (v := ?_) rfl (by kernel_rfl) (by kernel_rfl) (by kernel_rfl) (fun _ _ _ h => h) (Or.inl ⟨by rfl, ?_⟩) (by assumption) ?_
  rotate_left
  · intro w hSw; (try dsimp only at hSw); go_simp; all_goals (with_reducible rfl)
  try simp only [Act.put, List.setIfInBounds_toArray, List.set_cons_zero, List.set_cons_succ]
  refine wpAnyH_take (i := 13) (oi := { dst := Option.some 70, op := Go.Op.move (Go.Operand.tmp 69), type := 4, pos := "law.go:28", after := #[{ on := 12, ground := Go.Ground.data }, { on := 8, ground := Go.Ground.chain }], guard := Option.none }) (v := ?_) rfl (by kernel_rfl) (by kernel_rfl) (by kernel_rfl) (fun _ _ _ h => h) (Or.inl ⟨by rfl, ?_⟩) (by assumption) ?_
  rotate_left
  · intro w hSw; (try dsimp only at hSw); go_simp; all_goals (with_reducible rfl)
  try simp only [Act.put, List.setIfInBounds_toArray, List.set_cons_zero, List.set_cons_succ]
  refine wpAnyH_take (i := 14) (oi := { dst := Option.some 71, op := Go.Op.move (Go.Operand.tmp 10), type := 9, pos := "law.go:28", after := #[{ on := 13, ground := Go.Ground.guard }], guard := Option.some (13, Bool.true) }) (v := ?_) rfl (by kernel_rfl) (by kernel_rfl) (by kernel_rfl) (fun _ _ _ h => h) (Or.inl ⟨by rfl, ?_⟩) (by assumption) ?_
  rotate_left
  · intro w hSw; (try dsimp only at hSw); go_simp; all_goals (with_reducible rfl)
  try simp only [Act.put, List.setIfInBounds_toArray, List.set_cons_zero, List.set_cons_succ]
  refine wpAnyH_take (i := 15) (oi := { dst := Option.some 72, op := Go.Op.move (Go.Operand.tmp 13), type := 9, pos := "law.go:28", after := #[{ on := 13, ground := Go.Ground.guard }], guard := Option.some (13, Bool.true) }) (v := ?_) rfl (by kernel_rfl) (by kernel_rfl) (by kernel_rfl) (fun _ _ _ h => h) (Or.inl ⟨by rfl, ?_⟩) (by assumption) ?_
  rotate_left
  · intro w hSw; (try dsimp only at hSw); go_simp; all_goals (with_reducible rfl)
  try simp only [Act.put, List.setIfInBounds_toArray, List.set_cons_zero, List.set_cons_succ]
  refine wpAnyH_take (i := 16) (oi := { dst := Option.some 73, op := Go.Op.binOp Go.BinOp.eql 9 (Go.Operand.tmp 71) (Go.Operand.tmp 72) 9, type := 4, pos := "law.go:28", after := #[{ on := 14, ground := Go.Ground.data }, { on := 15, ground := Go.Ground.data }, { on := 13, ground := Go.Ground.guard }], guard := Option.some (13, Bool.true) }) (v := ?_) rfl (by kernel_rfl) (by kernel_rfl) (by kernel_rfl) (fun _ _ _ h => h) (Or.inl ⟨by rfl, ?_⟩) (by assumption) ?_
  rotate_left
  · intro w hSw; (try dsimp only at hSw); go_simp; all_goals (with_reducible rfl)
  try simp only [Act.put, List.setIfInBounds_toArray, List.set_cons_zero, List.set_cons_succ]
  refine wpAnyH_take (i := 17) (oi := { dst := Option.some 74, op := Go.Op.pick (Go.Operand.tmp 70) (Go.Operand.tmp 73) (Go.Operand.const (Go.Value.bool Bool.false)), type := 4, pos := "law.go:28", after := #[{ on := 13, ground := Go.Ground.data }, { on := 16, ground := Go.Ground.data }], guard := Option.none }) (v := ?_) rfl (by kernel_rfl) (by kernel_rfl) (by kernel_rfl) (fun _ _ _ h => h) (Or.inl ⟨by rfl, ?_⟩) (by assumption) ?_
  rotate_left
  · intro w hSw; (try dsimp only at hSw); go_simp; all_goals (with_reducible rfl)
  try simp only [Act.put, List.setIfInBounds_toArray, List.set_cons_zero, List.set_cons_succ]
  refine wpAnyH_take (i := 18) (oi := { dst := Option.some 75, op := Go.Op.move (Go.Operand.tmp 74), type := 4, pos := "law.go:28", after := #[{ on := 17, ground := Go.Ground.data }, { on := 13, ground := Go.Ground.chain }], guard := Option.none }) (v := ?_) rfl (by kernel_rfl) (by kernel_rfl) (by kernel_rfl) (fun _ _ _ h => h) (Or.inl ⟨by rfl, ?_⟩) (by assumption) ?_
  rotate_left
  · intro w hSw; (try dsimp only at hSw); go_simp; all_goals (with_reducible rfl)
  try simp only [Act.put, List.setIfInBounds_toArray, List.set_cons_zero, List.set_cons_succ]
  refine wpAnyH_take (i := 19) (oi := { dst := Option.some 76, op := Go.Op.move (Go.Operand.tmp 11), type := 25, pos := "law.go:28", after := #[{ on := 18, ground := Go.Ground.guard }], guard := Option.some (18, Bool.true) }) (v := ?_) rfl (by kernel_rfl) (by kernel_rfl) (by kernel_rfl) (fun _ _ _ h => h) (Or.inl ⟨by rfl, ?_⟩) (by assumption) ?_
  rotate_left
  · intro w hSw; (try dsimp only at hSw); go_simp; all_goals (with_reducible rfl)
  try simp only [Act.put, List.setIfInBounds_toArray, List.set_cons_zero, List.set_cons_succ]
  refine wpAnyH_take (i := 20) (oi := { dst := Option.some 77, op := Go.Op.move (Go.Operand.tmp 14), type := 3, pos := "law.go:28", after := #[{ on := 18, ground := Go.Ground.guard }], guard := Option.some (18, Bool.true) }) (v := ?_) rfl (by kernel_rfl) (by kernel_rfl) (by kernel_rfl) (fun _ _ _ h => h) (Or.inl ⟨by rfl, ?_⟩) (by assumption) ?_
  rotate_left
  · intro w hSw; (try dsimp only at hSw); go_simp; all_goals (with_reducible rfl)
  try simp only [Act.put, List.setIfInBounds_toArray, List.set_cons_zero, List.set_cons_succ]
  refine wpAnyH_take (i := 21) (oi := { dst := Option.some 78, op := Go.Op.binOp Go.BinOp.eql 3 (Go.Operand.tmp 76) (Go.Operand.tmp 77) 3, type := 4, pos := "law.go:28", after := #[{ on := 19, ground := Go.Ground.data }, { on := 20, ground := Go.Ground.data }, { on := 18, ground := Go.Ground.guard }], guard := Option.some (18, Bool.true) }) (v := ?_) rfl (by kernel_rfl) (by kernel_rfl) (by kernel_rfl) (fun _ _ _ h => h) (Or.inl ⟨by rfl, ?_⟩) (by assumption) ?_
  rotate_left
  · intro w hSw; (try dsimp only at hSw); go_simp; all_goals (with_reducible rfl)
  try simp only [Act.put, List.setIfInBounds_toArray, List.set_cons_zero, List.set_cons_succ]
  refine wpAnyH_take (i := 22) (oi := { dst := Option.some 79, op := Go.Op.pick (Go.Operand.tmp 75) (Go.Operand.tmp 78) (Go.Operand.const (Go.Value.bool Bool.false)), type := 4, pos := "law.go:28", after := #[{ on := 18, ground := Go.Ground.data }, { on := 21, ground := Go.Ground.data }], guard := Option.none }) (v := ?_) rfl (by kernel_rfl) (by kernel_rfl) (by kernel_rfl) (fun _ _ _ h => h) (Or.inl ⟨by rfl, ?_⟩) (by assumption) ?_
  rotate_left
  · intro w hSw; (try dsimp only at hSw); go_simp; all_goals (with_reducible rfl)
  try simp only [Act.put, List.setIfInBounds_toArray, List.set_cons_zero, List.set_cons_succ]
  refine wpAnyH_take (i := 23) (oi := { dst := Option.some 80, op := Go.Op.move (Go.Operand.tmp 79), type := 4, pos := "law.go:28", after := #[{ on := 22, ground := Go.Ground.data }, { on := 18, ground := Go.Ground.chain }], guard := Option.none }) (v := ?_) rfl (by kernel_rfl) (by kernel_rfl) (by kernel_rfl) (fun _ _ _ h => h) (Or.inl ⟨by rfl, ?_⟩) (by assumption) ?_
  rotate_left
  · intro w hSw; (try dsimp only at hSw); go_simp; all_goals (with_reducible rfl)
  try simp only [Act.put, List.setIfInBounds_toArray, List.set_cons_zero, List.set_cons_succ]
  refine wpAnyH_take (i := 24) (oi := { dst := Option.some 81, op := Go.Op.move (Go.Operand.tmp 15), type := 9, pos := "law.go:28", after := #[{ on := 23, ground := Go.Ground.guard }], guard := Option.some (23, Bool.true) }) (v := ?_) rfl (by kernel_rfl) (by kernel_rfl) (by kernel_rfl) (fun _ _ _ h => h) (Or.inl ⟨by rfl, ?_⟩) (by assumption) ?_
  rotate_left
  · intro w hSw; (try dsimp only at hSw); go_simp; all_goals (with_reducible rfl)
  try simp only [Act.put, List.setIfInBounds_toArray, List.set_cons_zero, List.set_cons_succ]
  refine wpAnyH_take (i := 25) (oi := { dst := Option.some 82, op := Go.Op.move (Go.Operand.tmp 18), type := 9, pos := "law.go:28", after := #[{ on := 23, ground := Go.Ground.guard }], guard := Option.some (23, Bool.true) }) (v := ?_) rfl (by kernel_rfl) (by kernel_rfl) (by kernel_rfl) (fun _ _ _ h => h) (Or.inl ⟨by rfl, ?_⟩) (by assumption) ?_
  rotate_left
  · intro w hSw; (try dsimp only at hSw); go_simp; all_goals (with_reducible rfl)
  try simp only [Act.put, List.setIfInBounds_toArray, List.set_cons_zero, List.set_cons_succ]
  refine wpAnyH_take (i := 26) (oi := { dst := Option.some 83, op := Go.Op.binOp Go.BinOp.eql 9 (Go.Operand.tmp 81) (Go.Operand.tmp 82) 9, type := 4, pos := "law.go:28", after := #[{ on := 24, ground := Go.Ground.data }, { on := 25, ground := Go.Ground.data }, { on := 23, ground := Go.Ground.guard }], guard := Option.some (23, Bool.true) }) (v := ?_) rfl (by kernel_rfl) (by kernel_rfl) (by kernel_rfl) (fun _ _ _ h => h) (Or.inl ⟨by rfl, ?_⟩) (by assumption) ?_
  rotate_left
  · intro w hSw; (try dsimp only at hSw); go_simp; all_goals (with_reducible rfl)
  try simp only [Act.put, List.setIfInBounds_toArray, List.set_cons_zero, List.set_cons_succ]
  refine wpAnyH_take (i := 27) (oi := { dst := Option.some 84, op := Go.Op.pick (Go.Operand.tmp 80) (Go.Operand.tmp 83) (Go.Operand.const (Go.Value.bool Bool.false)), type := 4, pos := "law.go:28", after := #[{ on := 23, ground := Go.Ground.data }, { on := 26, ground := Go.Ground.data }], guard := Option.none }) (v := ?_) rfl (by kernel_rfl) (by kernel_rfl) (by kernel_rfl) (fun _ _ _ h => h) (Or.inl ⟨by rfl, ?_⟩) (by assumption) ?_
  rotate_left
  · intro w hSw; (try dsimp only at hSw); go_simp; all_goals (with_reducible rfl)
  try simp only [Act.put, List.setIfInBounds_toArray, List.set_cons_zero, List.set_cons_succ]
  refine wpAnyH_take (i := 28) (oi := { dst := Option.some 85, op := Go.Op.move (Go.Operand.tmp 84), type := 4, pos := "law.go:28", after := #[{ on := 27, ground := Go.Ground.data }, { on := 23, ground := Go.Ground.chain }], guard := Option.none }) (v := ?_) rfl (by kernel_rfl) (by kernel_rfl) (by kernel_rfl) (fun _ _ _ h => h) (Or.inl ⟨by rfl, ?_⟩) (by assumption) ?_
  rotate_left
  · intro w hSw; (try dsimp only at hSw); go_simp; all_goals (with_reducible rfl)
  try simp only [Act.put, List.setIfInBounds_toArray, List.set_cons_zero, List.set_cons_succ]
  refine wpAnyH_take (i := 29) (oi := { dst := Option.some 86, op := Go.Op.move (Go.Operand.tmp 16), type := 9, pos := "law.go:28", after := #[{ on := 28, ground := Go.Ground.guard }], guard := Option.some (28, Bool.true) }) (v := ?_) rfl (by kernel_rfl) (by kernel_rfl) (by kernel_rfl) (fun _ _ _ h => h) (Or.inl ⟨by rfl, ?_⟩) (by assumption) ?_
  rotate_left
  · intro w hSw; (try dsimp only at hSw); go_simp; all_goals (with_reducible rfl)
  try simp only [Act.put, List.setIfInBounds_toArray, List.set_cons_zero, List.set_cons_succ]
  refine wpAnyH_take (i := 30) (oi := { dst := Option.some 87, op := Go.Op.move (Go.Operand.tmp 19), type := 9, pos := "law.go:28", after := #[{ on := 28, ground := Go.Ground.guard }], guard := Option.some (28, Bool.true) }) (v := ?_) rfl (by kernel_rfl) (by kernel_rfl) (by kernel_rfl) (fun _ _ _ h => h) (Or.inl ⟨by rfl, ?_⟩) (by assumption) ?_
  rotate_left
  · intro w hSw; (try dsimp only at hSw); go_simp; all_goals (with_reducible rfl)
  try simp only [Act.put, List.setIfInBounds_toArray, List.set_cons_zero, List.set_cons_succ]
  refine wpAnyH_take (i := 31) (oi := { dst := Option.some 88, op := Go.Op.binOp Go.BinOp.eql 9 (Go.Operand.tmp 86) (Go.Operand.tmp 87) 9, type := 4, pos := "law.go:28", after := #[{ on := 29, ground := Go.Ground.data }, { on := 30, ground := Go.Ground.data }, { on := 28, ground := Go.Ground.guard }], guard := Option.some (28, Bool.true) }) (v := ?_) rfl (by kernel_rfl) (by kernel_rfl) (by kernel_rfl) (fun _ _ _ h => h) (Or.inl ⟨by rfl, ?_⟩) (by assumption) ?_
  rotate_left
  · intro w hSw; (try dsimp only at hSw); go_simp; all_goals (with_reducible rfl)
  try simp only [Act.put, List.setIfInBounds_toArray, List.set_cons_zero, List.set_cons_succ]
  refine wpAnyH_take (i := 32) (oi := { dst := Option.some 89, op := Go.Op.pick (Go.Operand.tmp 85) (Go.Operand.tmp 88) (Go.Operand.const (Go.Value.bool Bool.false)), type := 4, pos := "law.go:28", after := #[{ on := 28, ground := Go.Ground.data }, { on := 31, ground := Go.Ground.data }], guard := Option.none }) (v := ?_) rfl (by kernel_rfl) (by kernel_rfl) (by kernel_rfl) (fun _ _ _ h => h) (Or.inl ⟨by rfl, ?_⟩) (by assumption) ?_
  rotate_left
  · intro w hSw; (try dsimp only at hSw); go_simp; all_goals (with_reducible rfl)
  try simp only [Act.put, List.setIfInBounds_toArray, List.set_cons_zero, List.set_cons_succ]
  refine wpAnyH_take (i := 33) (oi := { dst := Option.some 90, op := Go.Op.move (Go.Operand.tmp 89), type := 4, pos := "law.go:28", after := #[{ on := 32, ground := Go.Ground.data }, { on := 28, ground := Go.Ground.chain }], guard := Option.none }) (v := ?_) rfl (by kernel_rfl) (by kernel_rfl) (by kernel_rfl) (fun _ _ _ h => h) (Or.inl ⟨by rfl, ?_⟩) (by assumption) ?_
  rotate_left
  · intro w hSw; (try dsimp only at hSw); go_simp; all_goals (with_reducible rfl)
  try simp only [Act.put, List.setIfInBounds_toArray, List.set_cons_zero, List.set_cons_succ]
  refine wpAnyH_take (i := 34) (oi := { dst := Option.some 91, op := Go.Op.move (Go.Operand.tmp 17), type := 25, pos := "law.go:28", after := #[{ on := 33, ground := Go.Ground.guard }], guard := Option.some (33, Bool.true) }) (v := ?_) rfl (by kernel_rfl) (by kernel_rfl) (by kernel_rfl) (fun _ _ _ h => h) (Or.inl ⟨by rfl, ?_⟩) (by assumption) ?_
  rotate_left
  · intro w hSw; (try dsimp only at hSw); go_simp; all_goals (with_reducible rfl)
  try simp only [Act.put, List.setIfInBounds_toArray, List.set_cons_zero, List.set_cons_succ]
  refine wpAnyH_take (i := 35) (oi := { dst := Option.some 92, op := Go.Op.move (Go.Operand.tmp 20), type := 3, pos := "law.go:28", after := #[{ on := 33, ground := Go.Ground.guard }], guard := Option.some (33, Bool.true) }) (v := ?_) rfl (by kernel_rfl) (by kernel_rfl) (by kernel_rfl) (fun _ _ _ h => h) (Or.inl ⟨by rfl, ?_⟩) (by assumption) ?_
  rotate_left
  · intro w hSw; (try dsimp only at hSw); go_simp; all_goals (with_reducible rfl)
  try simp only [Act.put, List.setIfInBounds_toArray, List.set_cons_zero, List.set_cons_succ]
  refine wpAnyH_take (i := 36) (oi := { dst := Option.some 93, op := Go.Op.binOp Go.BinOp.eql 3 (Go.Operand.tmp 91) (Go.Operand.tmp 92) 3, type := 4, pos := "law.go:28", after := #[{ on := 34, ground := Go.Ground.data }, { on := 35, ground := Go.Ground.data }, { on := 33, ground := Go.Ground.guard }], guard := Option.some (33, Bool.true) }) (v := ?_) rfl (by kernel_rfl) (by kernel_rfl) (by kernel_rfl) (fun _ _ _ h => h) (Or.inl ⟨by rfl, ?_⟩) (by assumption) ?_
  rotate_left
  · intro w hSw; (try dsimp only at hSw); go_simp; all_goals (with_reducible rfl)
  try simp only [Act.put, List.setIfInBounds_toArray, List.set_cons_zero, List.set_cons_succ]
  refine wpAnyH_take (i := 37) (oi := { dst := Option.some 94, op := Go.Op.pick (Go.Operand.tmp 90) (Go.Operand.tmp 93) (Go.Operand.const (Go.Value.bool Bool.false)), type := 4, pos := "law.go:28", after := #[{ on := 33, ground := Go.Ground.data }, { on := 36, ground := Go.Ground.data }], guard := Option.none }) (v := ?_) rfl (by kernel_rfl) (by kernel_rfl) (by kernel_rfl) (fun _ _ _ h => h) (Or.inl ⟨by rfl, ?_⟩) (by assumption) ?_
  rotate_left
  · intro w hSw; (try dsimp only at hSw); go_simp; all_goals (with_reducible rfl)
  try simp only [Act.put, List.setIfInBounds_toArray, List.set_cons_zero, List.set_cons_succ]
  refine wpAnyH_take (i := 38) (oi := { dst := Option.some 95, op := Go.Op.move (Go.Operand.tmp 94), type := 4, pos := "law.go:28", after := #[{ on := 37, ground := Go.Ground.data }, { on := 33, ground := Go.Ground.chain }], guard := Option.none }) (v := ?_) rfl (by kernel_rfl) (by kernel_rfl) (by kernel_rfl) (fun _ _ _ h => h) (Or.inl ⟨by rfl, ?_⟩) (by assumption) ?_
  rotate_left
  · intro w hSw; (try dsimp only at hSw); go_simp; all_goals (with_reducible rfl)
  try simp only [Act.put, List.setIfInBounds_toArray, List.set_cons_zero, List.set_cons_succ]
  refine wpAnyH_take (i := 39) (oi := { dst := Option.some 96, op := Go.Op.load 23 (Go.Operand.tmp 3), type := 23, pos := "law.go:28", after := #[{ on := 38, ground := Go.Ground.guard }], guard := Option.some (38, Bool.true) }) (v := ?_) rfl (by kernel_rfl) (by kernel_rfl) (by kernel_rfl) (fun _ _ _ h => h) (Or.inl ⟨by rfl, ?_⟩) (by assumption) ?_
  rotate_left
  · intro w hSw; (try dsimp only at hSw); go_simp; all_goals (with_reducible rfl)
  try simp only [Act.put, List.setIfInBounds_toArray, List.set_cons_zero, List.set_cons_succ]
  refine wpAnyH_take (i := 42) (oi := { dst := Option.some 99, op := Go.Op.load 23 (Go.Operand.tmp 3), type := 23, pos := "law.go:28", after := #[{ on := 38, ground := Go.Ground.guard }], guard := Option.some (38, Bool.true) }) (v := ?_) rfl (by kernel_rfl) (by kernel_rfl) (by kernel_rfl) (fun _ _ _ h => h) (Or.inl ⟨by rfl, ?_⟩) (by assumption) ?_
  rotate_left
  · intro w hSw; (try dsimp only at hSw); go_simp; all_goals (with_reducible rfl)
  try simp only [Act.put, List.setIfInBounds_toArray, List.set_cons_zero, List.set_cons_succ]
  refine wpAnyH_ready (rs := [40]) (by kernel_rfl) (by simp) ?_
  refine AllReadyH.cons (o := { dst := Option.some 97, op := Go.Op.buildSlice 38 1 #[(0, Go.Operand.tmp 96)], type := 38, pos := "law.go:28", after := #[{ on := 39, ground := Go.Ground.data }, { on := 38, ground := Go.Ground.guard }], guard := Option.some (38, Bool.true) }) rfl (fun K hK => ?_) AllReadyH.nil
  go_simp
  have hH2 := held_keep hHeld (below_alloc _ (.cells #[.string x, .string y, .string z] 23))
  clear hHeld
  refine hK.out _ _ (hH2) (fun hHeld => ?_)
  clear hK K
  try simp only [Act.put, List.setIfInBounds_toArray, List.set_cons_zero, List.set_cons_succ]
  refine wpAnyH_ready (rs := [41]) (by kernel_rfl) (by simp) ?_
  refine AllReadyH.cons (o := { dst := Option.some 98, op := Go.Op.call { callee := Go.Callee.value (Go.Operand.func 14), args := #[Go.Operand.tmp 97], argTypes := #[38] }, type := 25, pos := "law.go:28", after := #[{ on := 40, ground := Go.Ground.data }, { on := 38, ground := Go.Ground.chain }, { on := 38, ground := Go.Ground.guard }], guard := Option.some (38, Bool.true) }) rfl (fun K hK => ?_) AllReadyH.nil
  go_simp
  refine (HC.out _ _ ((HT.out W (0, 0) 23).below (below_drew ⟨1, rfl⟩))).mono ?_
  rintro e w' ⟨rfl, hbn⟩
  have hH2 := held_keep hHeld hbn
  clear hbn hHeld
  go_wp2_with fail
  refine hK.out _ _ (hH2) (fun hHeld => ?_)
  clear hK K
  try simp only [Act.put, List.setIfInBounds_toArray, List.set_cons_zero, List.set_cons_succ]
  refine wpAnyH_ready (rs := [43]) (by kernel_rfl) (by simp) ?_
  refine AllReadyH.cons (o := { dst := Option.some 100, op := Go.Op.call { callee := Go.Callee.value (Go.Operand.func 15), args := #[Go.Operand.tmp 99], argTypes := #[23] }, type := 3, pos := "law.go:28", after := #[{ on := 42, ground := Go.Ground.data }, { on := 41, ground := Go.Ground.chain }, { on := 38, ground := Go.Ground.guard }], guard := Option.some (38, Bool.true) }) rfl (fun K hK => ?_) AllReadyH.nil
  go_simp
  refine (HCR.out _).mono ?_
  rintro e w' ⟨rfl, hbn⟩
  have hH2 := held_keep hHeld hbn
  clear hbn hHeld
  go_wp2_with fail
  refine hK.out _ _ (hH2) (fun hHeld => ?_)
  clear hK K
  try simp only [Act.put, List.setIfInBounds_toArray, List.set_cons_zero, List.set_cons_succ]
  refine wpAnyH_take (i := 44) (oi := { dst := Option.some 101, op := Go.Op.binOp Go.BinOp.eql 3 (Go.Operand.tmp 98) (Go.Operand.tmp 100) 3, type := 4, pos := "law.go:28", after := #[{ on := 41, ground := Go.Ground.data }, { on := 43, ground := Go.Ground.data }, { on := 38, ground := Go.Ground.guard }], guard := Option.some (38, Bool.true) }) (v := ?_) rfl (by kernel_rfl) (by kernel_rfl) (by kernel_rfl) (fun _ _ _ h => h) (Or.inl ⟨by rfl, ?_⟩) (by assumption) ?_
  rotate_left
  · intro w hSw; (try dsimp only at hSw); go_simp; all_goals (with_reducible rfl)
  try simp only [Act.put, List.setIfInBounds_toArray, List.set_cons_zero, List.set_cons_succ]
  refine wpAnyH_take (i := 45) (oi := { dst := Option.some 102, op := Go.Op.pick (Go.Operand.tmp 95) (Go.Operand.tmp 101) (Go.Operand.const (Go.Value.bool Bool.false)), type := 4, pos := "law.go:28", after := #[{ on := 38, ground := Go.Ground.data }, { on := 44, ground := Go.Ground.data }], guard := Option.none }) (v := ?_) rfl (by kernel_rfl) (by kernel_rfl) (by kernel_rfl) (fun _ _ _ h => h) (Or.inl ⟨by rfl, ?_⟩) (by assumption) ?_
  rotate_left
  · intro w hSw; (try dsimp only at hSw); go_simp; all_goals (with_reducible rfl)
  try simp only [Act.put, List.setIfInBounds_toArray, List.set_cons_zero, List.set_cons_succ]
  refine wpAnyH_take (i := 46) (oi := { dst := Option.some 103, op := Go.Op.move (Go.Operand.tmp 102), type := 4, pos := "law.go:28", after := #[{ on := 45, ground := Go.Ground.data }, { on := 43, ground := Go.Ground.chain }], guard := Option.none }) (v := ?_) rfl (by kernel_rfl) (by kernel_rfl) (by kernel_rfl) (fun _ _ _ h => h) (Or.inl ⟨by rfl, ?_⟩) (by assumption) ?_
  rotate_left
  · intro w hSw; (try dsimp only at hSw); go_simp; all_goals (with_reducible rfl)
  try simp only [Act.put, List.setIfInBounds_toArray, List.set_cons_zero, List.set_cons_succ]
  refine wpAnyH_take (i := 47) (oi := { dst := Option.some 104, op := Go.Op.load 23 (Go.Operand.tmp 3), type := 23, pos := "law.go:28", after := #[{ on := 46, ground := Go.Ground.guard }], guard := Option.some (46, Bool.true) }) (v := ?_) rfl (by kernel_rfl) (by kernel_rfl) (by kernel_rfl) (fun _ _ _ h => h) (Or.inl ⟨by rfl, ?_⟩) (by assumption) ?_
  rotate_left
  · intro w hSw; (try dsimp only at hSw); go_simp; all_goals (with_reducible rfl)
  try simp only [Act.put, List.setIfInBounds_toArray, List.set_cons_zero, List.set_cons_succ]
  refine wpAnyH_take (i := 49) (oi := { dst := Option.some 106, op := Go.Op.load 23 (Go.Operand.tmp 3), type := 23, pos := "law.go:28", after := #[{ on := 46, ground := Go.Ground.guard }], guard := Option.some (46, Bool.true) }) (v := ?_) rfl (by kernel_rfl) (by kernel_rfl) (by kernel_rfl) (fun _ _ _ h => h) (Or.inl ⟨by rfl, ?_⟩) (by assumption) ?_
  rotate_left
  · intro w hSw; (try dsimp only at hSw); go_simp; all_goals (with_reducible rfl)
  try simp only [Act.put, List.setIfInBounds_toArray, List.set_cons_zero, List.set_cons_succ]
  refine wpAnyH_ready (rs := [48]) (by kernel_rfl) (by simp) ?_
  refine AllReadyH.cons (o := { dst := Option.some 105, op := Go.Op.call { callee := Go.Callee.value (Go.Operand.func 16), args := #[Go.Operand.tmp 104], argTypes := #[23] }, type := 9, pos := "law.go:28", after := #[{ on := 47, ground := Go.Ground.data }, { on := 46, ground := Go.Ground.chain }, { on := 46, ground := Go.Ground.guard }], guard := Option.some (46, Bool.true) }) rfl (fun K hK => ?_) AllReadyH.nil
  go_simp
  refine (HR.out _).mono ?_
  rintro e w' ⟨rfl, hbn⟩
  have hH2 := held_keep hHeld hbn
  clear hbn hHeld
  go_wp2_with fail
  refine hK.out _ _ (hH2) (fun hHeld => ?_)
  clear hK K
  try simp only [Act.put, List.setIfInBounds_toArray, List.set_cons_zero, List.set_cons_succ]
  refine wpAnyH_ready (rs := [50]) (by kernel_rfl) (by simp) ?_
  refine AllReadyH.cons (o := { dst := Option.some 107, op := Go.Op.call { callee := Go.Callee.value (Go.Operand.func 17), args := #[Go.Operand.tmp 106], argTypes := #[23] }, type := 9, pos := "law.go:28", after := #[{ on := 49, ground := Go.Ground.data }, { on := 48, ground := Go.Ground.chain }, { on := 46, ground := Go.Ground.guard }], guard := Option.some (46, Bool.true) }) rfl (fun K hK => ?_) AllReadyH.nil
  go_simp
  refine (HRR.out _).mono ?_
  rintro e w' ⟨rfl, hbn⟩
  have hH2 := held_keep hHeld hbn
  clear hbn hHeld
  go_wp2_with fail
  refine hK.out _ _ (hH2) (fun hHeld => ?_)
  clear hK K
  try simp only [Act.put, List.setIfInBounds_toArray, List.set_cons_zero, List.set_cons_succ]
  refine wpAnyH_take (i := 51) (oi := { dst := Option.some 108, op := Go.Op.binOp Go.BinOp.eql 9 (Go.Operand.tmp 105) (Go.Operand.tmp 107) 9, type := 4, pos := "law.go:28", after := #[{ on := 48, ground := Go.Ground.data }, { on := 50, ground := Go.Ground.data }, { on := 46, ground := Go.Ground.guard }], guard := Option.some (46, Bool.true) }) (v := ?_) rfl (by kernel_rfl) (by kernel_rfl) (by kernel_rfl) (fun _ _ _ h => h) (Or.inl ⟨by rfl, ?_⟩) (by assumption) ?_
  rotate_left
  · intro w hSw; (try dsimp only at hSw); go_simp; all_goals (with_reducible rfl)
  try simp only [Act.put, List.setIfInBounds_toArray, List.set_cons_zero, List.set_cons_succ]
  refine wpAnyH_take (i := 52) (oi := { dst := Option.some 109, op := Go.Op.pick (Go.Operand.tmp 103) (Go.Operand.tmp 108) (Go.Operand.const (Go.Value.bool Bool.false)), type := 4, pos := "law.go:28", after := #[{ on := 46, ground := Go.Ground.data }, { on := 51, ground := Go.Ground.data }], guard := Option.none }) (v := ?_) rfl (by kernel_rfl) (by kernel_rfl) (by kernel_rfl) (fun _ _ _ h => h) (Or.inl ⟨by rfl, ?_⟩) (by assumption) ?_
  rotate_left
  · intro w hSw; (try dsimp only at hSw); go_simp; all_goals (with_reducible rfl)
  try simp only [Act.put, List.setIfInBounds_toArray, List.set_cons_zero, List.set_cons_succ]
  refine wpAnyH_take (i := 53) (oi := { dst := Option.some 4, op := Go.Op.assign (Go.Operand.tmp 109), type := 4, pos := "law.go:28", after := #[{ on := 52, ground := Go.Ground.data }, { on := 50, ground := Go.Ground.chain }, { on := 0, ground := Go.Ground.phase }, { on := 1, ground := Go.Ground.phase }, { on := 2, ground := Go.Ground.phase }, { on := 3, ground := Go.Ground.phase }, { on := 4, ground := Go.Ground.phase }, { on := 5, ground := Go.Ground.phase }, { on := 6, ground := Go.Ground.phase }, { on := 7, ground := Go.Ground.phase }, { on := 8, ground := Go.Ground.phase }, { on := 9, ground := Go.Ground.phase }, { on := 10, ground := Go.Ground.phase }, { on := 11, ground := Go.Ground.phase }, { on := 12, ground := Go.Ground.phase }, { on := 13, ground := Go.Ground.phase }, { on := 14, ground := Go.Ground.phase }, { on := 15, ground := Go.Ground.phase }, { on := 16, ground := Go.Ground.phase }, { on := 17, ground := Go.Ground.phase }, { on := 18, ground := Go.Ground.phase }, { on := 19, ground := Go.Ground.phase }, { on := 20, ground := Go.Ground.phase }, { on := 21, ground := Go.Ground.phase }, { on := 22, ground := Go.Ground.phase }, { on := 23, ground := Go.Ground.phase }, { on := 24, ground := Go.Ground.phase }, { on := 25, ground := Go.Ground.phase }, { on := 26, ground := Go.Ground.phase }, { on := 27, ground := Go.Ground.phase }, { on := 28, ground := Go.Ground.phase }, { on := 29, ground := Go.Ground.phase }, { on := 30, ground := Go.Ground.phase }, { on := 31, ground := Go.Ground.phase }, { on := 32, ground := Go.Ground.phase }, { on := 33, ground := Go.Ground.phase }, { on := 34, ground := Go.Ground.phase }, { on := 35, ground := Go.Ground.phase }, { on := 36, ground := Go.Ground.phase }, { on := 37, ground := Go.Ground.phase }, { on := 38, ground := Go.Ground.phase }, { on := 39, ground := Go.Ground.phase }, { on := 40, ground := Go.Ground.phase }, { on := 41, ground := Go.Ground.phase }, { on := 42, ground := Go.Ground.phase }, { on := 43, ground := Go.Ground.phase }, { on := 44, ground := Go.Ground.phase }, { on := 45, ground := Go.Ground.phase }, { on := 46, ground := Go.Ground.phase }, { on := 47, ground := Go.Ground.phase }, { on := 48, ground := Go.Ground.phase }, { on := 49, ground := Go.Ground.phase }, { on := 50, ground := Go.Ground.phase }, { on := 51, ground := Go.Ground.phase }, { on := 52, ground := Go.Ground.phase }], guard := Option.none }) (v := ?_) rfl (by kernel_rfl) (by kernel_rfl) (by kernel_rfl) (fun _ _ _ h => h) (Or.inl ⟨by rfl, ?_⟩) (by assumption) ?_
  rotate_left
  · intro w hSw; (try dsimp only at hSw); go_simp; all_goals (with_reducible rfl)
  try simp only [Act.put, List.setIfInBounds_toArray, List.set_cons_zero, List.set_cons_succ]
  refine wpAnyH_done (by kernel_rfl) ?_ _
  have HF := Lib.hid hHeld
  clear hHeld
  go_wp2
  go_ret
  exact ⟨rfl, HF.out.2.2.2.2.2.2.2.2.2⟩
end Go.Proofs.Ytfomhbaebgcleaa
