/- FrameAffine's last region: four sums whose row literals are made in whatever order. -/
import Derived.Test.YtojkegnflbfloaaSums
import Derived.BigRegion
import Derived.Deep.RegionHeld3
namespace Go.Proofs.Ytojkegnflbfloaa
open Go.RowKit
set_option linter.unusedVariables false

def affOps : Array Oper := #[{ dst := some 44, op := Go.Op.move (Go.Operand.tmp 0), type := 22, pos :=  "law.go:148", after := #[], guard := none }, { dst := some 45, op := Go.Op.move (Go.Operand.tmp 7), type := 3, pos :=  "law.go:148", after := #[], guard := none }, { dst := some 46, op := Go.Op.slice 22 (Go.Operand.tmp 44) none (some (Go.Operand.tmp 45)) none, type := 22, pos :=  "law.go:148", after := #[{ on := 0, ground := Go.Ground.data }, { on := 1, ground := Go.Ground.data }], guard := none }, { dst := some 47, op := Go.Op.buildSlice 37 1 #[(0, Go.Operand.tmp 46)], type := 37, pos :=  "law.go:148", after := #[{ on := 2, ground := Go.Ground.data }], guard := none }, { dst := some 48, op := Go.Op.call { callee := Go.Callee.value (Go.Operand.func 13), args := #[Go.Operand.tmp 47], argTypes := #[37] }, type := 24, pos :=  "law.go:148", after := #[{ on := 3, ground := Go.Ground.data }], guard := none }, { dst := some 49, op := Go.Op.move (Go.Operand.tmp 1), type := 22, pos :=  "law.go:148", after := #[], guard := none }, { dst := some 50, op := Go.Op.move (Go.Operand.tmp 7), type := 3, pos :=  "law.go:148", after := #[], guard := none }, { dst := some 51, op := Go.Op.slice 22 (Go.Operand.tmp 49) none (some (Go.Operand.tmp 50)) none, type := 22, pos :=  "law.go:148", after := #[{ on := 5, ground := Go.Ground.data }, { on := 6, ground := Go.Ground.data }], guard := none }, { dst := some 52, op := Go.Op.buildSlice 37 1 #[(0, Go.Operand.tmp 51)], type := 37, pos :=  "law.go:148", after := #[{ on := 7, ground := Go.Ground.data }], guard := none }, { dst := some 53, op := Go.Op.call { callee := Go.Callee.value (Go.Operand.func 13), args := #[Go.Operand.tmp 52], argTypes := #[37] }, type := 24, pos :=  "law.go:148", after := #[{ on := 8, ground := Go.Ground.data }, { on := 4, ground := Go.Ground.chain }], guard := none }, { dst := some 54, op := Go.Op.binOp Go.BinOp.xor 24 (Go.Operand.tmp 48) (Go.Operand.tmp 53) 24, type := 24, pos :=  "law.go:148", after := #[{ on := 4, ground := Go.Ground.data }, { on := 9, ground := Go.Ground.data }], guard := none }, { dst := some 55, op := Go.Op.move (Go.Operand.tmp 2), type := 22, pos :=  "law.go:148", after := #[], guard := none }, { dst := some 56, op := Go.Op.move (Go.Operand.tmp 7), type := 3, pos :=  "law.go:148", after := #[], guard := none }, { dst := some 57, op := Go.Op.slice 22 (Go.Operand.tmp 55) none (some (Go.Operand.tmp 56)) none, type := 22, pos :=  "law.go:148", after := #[{ on := 11, ground := Go.Ground.data }, { on := 12, ground := Go.Ground.data }], guard := none }, { dst := some 58, op := Go.Op.buildSlice 37 1 #[(0, Go.Operand.tmp 57)], type := 37, pos :=  "law.go:148", after := #[{ on := 13, ground := Go.Ground.data }], guard := none }, { dst := some 59, op := Go.Op.call { callee := Go.Callee.value (Go.Operand.func 13), args := #[Go.Operand.tmp 58], argTypes := #[37] }, type := 24, pos :=  "law.go:148", after := #[{ on := 14, ground := Go.Ground.data }, { on := 9, ground := Go.Ground.chain }], guard := none }, { dst := some 60, op := Go.Op.binOp Go.BinOp.xor 24 (Go.Operand.tmp 54) (Go.Operand.tmp 59) 24, type := 24, pos :=  "law.go:148", after := #[{ on := 10, ground := Go.Ground.data }, { on := 15, ground := Go.Ground.data }], guard := none }, { dst := some 61, op := Go.Op.move (Go.Operand.tmp 8), type := 22, pos :=  "law.go:148", after := #[], guard := none }, { dst := some 62, op := Go.Op.buildSlice 37 1 #[(0, Go.Operand.tmp 61)], type := 37, pos :=  "law.go:148", after := #[{ on := 17, ground := Go.Ground.data }], guard := none }, { dst := some 63, op := Go.Op.call { callee := Go.Callee.value (Go.Operand.func 13), args := #[Go.Operand.tmp 62], argTypes := #[37] }, type := 24, pos :=  "law.go:148", after := #[{ on := 18, ground := Go.Ground.data }, { on := 15, ground := Go.Ground.chain }], guard := none }, { dst := some 64, op := Go.Op.binOp Go.BinOp.eql 24 (Go.Operand.tmp 60) (Go.Operand.tmp 63) 24, type := 4, pos :=  "law.go:148", after := #[{ on := 16, ground := Go.Ground.data }, { on := 19, ground := Go.Ground.data }], guard := none }, { dst := some 6, op := Go.Op.assign (Go.Operand.tmp 64), type := 4, pos :=  "law.go:148", after := #[{ on := 20, ground := Go.Ground.data }, { on := 19, ground := Go.Ground.chain }, { on := 0, ground := Go.Ground.phase }, { on := 1, ground := Go.Ground.phase }, { on := 2, ground := Go.Ground.phase }, { on := 3, ground := Go.Ground.phase }, { on := 4, ground := Go.Ground.phase }, { on := 5, ground := Go.Ground.phase }, { on := 6, ground := Go.Ground.phase }, { on := 7, ground := Go.Ground.phase }, { on := 8, ground := Go.Ground.phase }, { on := 9, ground := Go.Ground.phase }, { on := 10, ground := Go.Ground.phase }, { on := 11, ground := Go.Ground.phase }, { on := 12, ground := Go.Ground.phase }, { on := 13, ground := Go.Ground.phase }, { on := 14, ground := Go.Ground.phase }, { on := 15, ground := Go.Ground.phase }, { on := 16, ground := Go.Ground.phase }, { on := 17, ground := Go.Ground.phase }, { on := 18, ground := Go.Ground.phase }, { on := 19, ground := Go.Ground.phase }, { on := 20, ground := Go.Ground.phase }], guard := none }]
theorem put_size (a : Act) (d : Nat) (v : Value) : (a.put (some d) v).tmps.size = a.tmps.size := by simp [Act.put]
theorem put_defers (a : Act) (d : Nat) (v : Value) : (a.put (some d) v).defers = a.defers := rfl
theorem put_same (a : Act) (d : Nat) (v : Value) (h : a.tmps.size = 65) (hd : d < 65) : (a.put (some d) v).tmps.getD d undef = v := by
  have : d < a.tmps.size := by omega
  simp [Act.put, Array.getD, this]
theorem put_other (a : Act) (d k : Nat) (v : Value) (hd : d ≠ k) : (a.put (some d) v).tmps.getD k undef = a.tmps.getD k undef := by
  simp [Act.put, Array.getD_eq_getD_getElem?, Array.getElem?_setIfInBounds_ne hd]
theorem cell_new (W : World) (v : Value) (t : TypeId) : (W.alloc (.cells #[v] t)).cell? ⟨W.heap.size, 0, none⟩ = some v := by
  rw [World.cell?_alloc_mark]
  simp
theorem cell_kept (W : World) (o : Obj) {b : Nat} {v : Value} (h : W.cell? ⟨b, 0, none⟩ = some v) : (W.alloc o).cell? ⟨b, 0, none⟩ = some v := (((Below.refl W.heap.size W).alloc (Nat.le_refl _) o).cell (p := ⟨b, 0, none⟩) (World.block_lt_of_cell? W _ h)).trans h
def SumIs (w0 : World) (v : Value) (T : Nat) : Prop := ∀ (W : World) (b : Nat), Below w0.heap.size w0 W → W.cell? ⟨b, 0, none⟩ = some v → Calls Try.prog 13 #[.slice (some ⟨b, 0, none⟩) 1 1] W fun e w' => e = .returned (.int .u32 (T : Nat)) ∧ W = w'

set_option maxHeartbeats 1000000 in
theorem aff_3_1234 {Q : Exit → Act → World → Prop} {w0 : World} {p1 p2 p3 p4 : Option Addr} {m1 m2 m3 m4 k1 k2 k3 k4 : Nat} {T1 T2 T3 T4 T5 : Nat} (F1 : SumIs w0 (.slice p1 m1 k1) T1) (F2 : SumIs w0 (.slice p2 m2 k2) T2) (F3 : SumIs w0 (.slice p3 m3 k3) T3) (F4 : SumIs w0 (.slice p4 m4 k4) T4) (X1 : bits .xor .u32 (T1 : Int) (T2 : Int) = (T5 : Int)) (X2 : bits .xor .u32 (T5 : Int) (T3 : Int) = (T4 : Int)) (hQp : ∀ c a d v w, Q (.panic c) (Act.put a d v) w → Q (.panic c) a w) (hfin : ∀ a W, a.tmps.size = 65 → a.defers = [] → a.tmps.getD 6 undef = .bool true → Below w0.heap.size w0 W → Q .normal a W) (a : Act) (W : World) (hs : a.tmps.size = 65) (hd : Hid (a.defers = [])) (hb : Below w0.heap.size w0 W) (b4 : Nat) (g62 : a.tmps.getD 62 undef = .slice (some ⟨b4, 0, none⟩) 1 1) (g60 : a.tmps.getD 60 undef = .int .u32 (T4 : Int)) (hc4 : W.cell? ⟨b4, 0, none⟩ = some (.slice p4 m4 k4)) (listed : Array Bool) (hl : listed = #[true, true, true, true, true, true, true, true, true, true, true, true, true, true, true, true, true, true, true, false, false, false]) (fuel : Nat) (hf : fuel = 3) :
    wpAnyH Try.prog .any affOps Q (fun _ => True) fuel listed a W := by
  subst hl hf
  have ht : True := trivial
  refine wpAnyH_ready (rs := [19]) (by kernel_rfl) (by simp) ?_
  refine AllReadyH.cons (o := { dst := some 63, op := Go.Op.call { callee := Go.Callee.value (Go.Operand.func 13), args := #[Go.Operand.tmp 62], argTypes := #[37] }, type := 24, pos :=  "law.go:148", after := #[{ on := 18, ground := Go.Ground.data }, { on := 15, ground := Go.Ground.chain }], guard := none }) rfl (fun K hK => ?_) ?_
  · go_simp
    refine (F4 W b4 hb hc4).mono ?_
    rintro e w' ⟨rfl, rfl⟩
    go_wp2_with fail
    refine hK.out _ _ trivial (fun _ => ?_)
    have g63 : (a.put (some 63) (.int .u32 (T4 : Int))).tmps.getD 63 undef = .int .u32 (T4 : Int) := put_same a 63 _ hs (by omega)
    have hs1 : (a.put (some 63) (.int .u32 (T4 : Int))).tmps.size = 65 := (put_size a 63 _).trans hs
    have hd1 : Hid ((a.put (some 63) (.int .u32 (T4 : Int))).defers = []) := Lib.hid hd.out
    replace g60 := (put_other a 63 60 (.int .u32 (T4 : Int)) (by omega)).trans g60
    change wpAnyH Try.prog .any affOps Q (fun _ => True) _ _ (a.put (some 63) (.int .u32 (T4 : Int))) _
    generalize (a.put (some 63) (.int .u32 (T4 : Int))) = a1 at *
    refine wpAnyH_take (i := 20) (oi := { dst := some 64, op := Go.Op.binOp Go.BinOp.eql 24 (Go.Operand.tmp 60) (Go.Operand.tmp 63) 24, type := 4, pos :=  "law.go:148", after := #[{ on := 16, ground := Go.Ground.data }, { on := 19, ground := Go.Ground.data }], guard := none }) (v := .bool true) rfl (by kernel_rfl) (by kernel_rfl) (by kernel_rfl) (fun c a w h => hQp c a _ _ w h) (Or.inl ⟨by rfl, ?_⟩) trivial ?_
    · intro w hSw; go_simp; all_goals (with_reducible rfl)
    have e64 : (a1.put (some 64) (.bool true)).tmps.getD 64 undef = .bool true := put_same a1 64 _ hs1 (by omega)
    have hs2 : (a1.put (some 64) (.bool true)).tmps.size = 65 := (put_size a1 64 _).trans hs1
    have hd2 : Hid ((a1.put (some 64) (.bool true)).defers = []) := Lib.hid hd1.out
    replace g60 := (put_other a1 64 60 (.bool true) (by omega)).trans g60
    replace g63 := (put_other a1 64 63 (.bool true) (by omega)).trans g63
    have g64 := e64
    clear e64
    change wpAnyH Try.prog .any affOps Q (fun _ => True) _ _ (a1.put (some 64) (.bool true)) _
    generalize (a1.put (some 64) (.bool true)) = a2 at *
    refine wpAnyH_take (i := 21) (oi := { dst := some 6, op := Go.Op.assign (Go.Operand.tmp 64), type := 4, pos :=  "law.go:148", after := #[{ on := 20, ground := Go.Ground.data }, { on := 19, ground := Go.Ground.chain }, { on := 0, ground := Go.Ground.phase }, { on := 1, ground := Go.Ground.phase }, { on := 2, ground := Go.Ground.phase }, { on := 3, ground := Go.Ground.phase }, { on := 4, ground := Go.Ground.phase }, { on := 5, ground := Go.Ground.phase }, { on := 6, ground := Go.Ground.phase }, { on := 7, ground := Go.Ground.phase }, { on := 8, ground := Go.Ground.phase }, { on := 9, ground := Go.Ground.phase }, { on := 10, ground := Go.Ground.phase }, { on := 11, ground := Go.Ground.phase }, { on := 12, ground := Go.Ground.phase }, { on := 13, ground := Go.Ground.phase }, { on := 14, ground := Go.Ground.phase }, { on := 15, ground := Go.Ground.phase }, { on := 16, ground := Go.Ground.phase }, { on := 17, ground := Go.Ground.phase }, { on := 18, ground := Go.Ground.phase }, { on := 19, ground := Go.Ground.phase }, { on := 20, ground := Go.Ground.phase }], guard := none }) (v := .bool true) rfl (by kernel_rfl) (by kernel_rfl) (by kernel_rfl) (fun c a w h => hQp c a _ _ w h) (Or.inl ⟨by rfl, ?_⟩) trivial ?_
    · intro w hSw; go_simp; all_goals (with_reducible rfl)
    have e6 : (a2.put (some 6) (.bool true)).tmps.getD 6 undef = .bool true := put_same a2 6 _ hs2 (by omega)
    have hs3 : (a2.put (some 6) (.bool true)).tmps.size = 65 := (put_size a2 6 _).trans hs2
    have hd3 : Hid ((a2.put (some 6) (.bool true)).defers = []) := Lib.hid hd2.out
    replace g60 := (put_other a2 6 60 (.bool true) (by omega)).trans g60
    replace g63 := (put_other a2 6 63 (.bool true) (by omega)).trans g63
    replace g64 := (put_other a2 6 64 (.bool true) (by omega)).trans g64
    have g6 := e6
    clear e6
    change wpAnyH Try.prog .any affOps Q (fun _ => True) _ _ (a2.put (some 6) (.bool true)) _
    generalize (a2.put (some 6) (.bool true)) = a3 at *
    refine wpAnyH_done (by kernel_rfl) ?_ _
    exact hfin _ _ hs3 hd3.out g6 hb
  exact AllReadyH.nil
set_option maxHeartbeats 1000000 in
theorem aff_3_123 {Q : Exit → Act → World → Prop} {w0 : World} {p1 p2 p3 p4 : Option Addr} {m1 m2 m3 m4 k1 k2 k3 k4 : Nat} {T1 T2 T3 T4 T5 : Nat} (F1 : SumIs w0 (.slice p1 m1 k1) T1) (F2 : SumIs w0 (.slice p2 m2 k2) T2) (F3 : SumIs w0 (.slice p3 m3 k3) T3) (F4 : SumIs w0 (.slice p4 m4 k4) T4) (X1 : bits .xor .u32 (T1 : Int) (T2 : Int) = (T5 : Int)) (X2 : bits .xor .u32 (T5 : Int) (T3 : Int) = (T4 : Int)) (hQp : ∀ c a d v w, Q (.panic c) (Act.put a d v) w → Q (.panic c) a w) (hfin : ∀ a W, a.tmps.size = 65 → a.defers = [] → a.tmps.getD 6 undef = .bool true → Below w0.heap.size w0 W → Q .normal a W) (a : Act) (W : World) (hs : a.tmps.size = 65) (hd : Hid (a.defers = [])) (hb : Below w0.heap.size w0 W)  (g61 : a.tmps.getD 61 undef = .slice p4 m4 k4) (g60 : a.tmps.getD 60 undef = .int .u32 (T4 : Int))  (listed : Array Bool) (hl : listed = #[true, true, true, true, true, true, true, true, true, true, true, true, true, true, true, true, true, true, false, false, false, false]) (fuel : Nat) (hf : fuel = 4) :
    wpAnyH Try.prog .any affOps Q (fun _ => True) fuel listed a W := by
  subst hl hf
  have ht : True := trivial
  refine wpAnyH_ready (rs := [18]) (by kernel_rfl) (by simp) ?_
  refine AllReadyH.cons (o := { dst := some 62, op := Go.Op.buildSlice 37 1 #[(0, Go.Operand.tmp 61)], type := 37, pos :=  "law.go:148", after := #[{ on := 17, ground := Go.Ground.data }], guard := none }) rfl (fun K hK => ?_) ?_
  · have e61 : a.tmps[61]'(by omega) = .slice p4 m4 k4 := by have h := g61; simp [Array.getD, hs] at h; exact h
    go_simp
    refine hK.out _ _ trivial (fun _ => ?_)
    exact aff_3_1234 F1 F2 F3 F4 X1 X2 hQp hfin _ _ ((put_size a 62 _).trans hs) (Lib.hid ((put_defers a 62 _).trans hd.out)) (hb.alloc hb.size _) W.heap.size (put_same a 62 _ hs (by omega)) ((put_other a 62 60 _ (by omega)).trans g60) (cell_new _ _ _) _ (by kernel_rfl) _ rfl
  exact AllReadyH.nil
set_option maxHeartbeats 1000000 in
theorem aff_2_1234 {Q : Exit → Act → World → Prop} {w0 : World} {p1 p2 p3 p4 : Option Addr} {m1 m2 m3 m4 k1 k2 k3 k4 : Nat} {T1 T2 T3 T4 T5 : Nat} (F1 : SumIs w0 (.slice p1 m1 k1) T1) (F2 : SumIs w0 (.slice p2 m2 k2) T2) (F3 : SumIs w0 (.slice p3 m3 k3) T3) (F4 : SumIs w0 (.slice p4 m4 k4) T4) (X1 : bits .xor .u32 (T1 : Int) (T2 : Int) = (T5 : Int)) (X2 : bits .xor .u32 (T5 : Int) (T3 : Int) = (T4 : Int)) (hQp : ∀ c a d v w, Q (.panic c) (Act.put a d v) w → Q (.panic c) a w) (hfin : ∀ a W, a.tmps.size = 65 → a.defers = [] → a.tmps.getD 6 undef = .bool true → Below w0.heap.size w0 W → Q .normal a W) (a : Act) (W : World) (hs : a.tmps.size = 65) (hd : Hid (a.defers = [])) (hb : Below w0.heap.size w0 W) (b3 : Nat) (b4 : Nat) (g58 : a.tmps.getD 58 undef = .slice (some ⟨b3, 0, none⟩) 1 1) (g62 : a.tmps.getD 62 undef = .slice (some ⟨b4, 0, none⟩) 1 1) (g54 : a.tmps.getD 54 undef = .int .u32 (T5 : Int)) (hc3 : W.cell? ⟨b3, 0, none⟩ = some (.slice p3 m3 k3)) (hc4 : W.cell? ⟨b4, 0, none⟩ = some (.slice p4 m4 k4)) (listed : Array Bool) (hl : listed = #[true, true, true, true, true, true, true, true, true, true, true, true, true, true, true, false, false, true, true, false, false, false]) (fuel : Nat) (hf : fuel = 5) :
    wpAnyH Try.prog .any affOps Q (fun _ => True) fuel listed a W := by
  subst hl hf
  have ht : True := trivial
  refine wpAnyH_ready (rs := [15]) (by kernel_rfl) (by simp) ?_
  refine AllReadyH.cons (o := { dst := some 59, op := Go.Op.call { callee := Go.Callee.value (Go.Operand.func 13), args := #[Go.Operand.tmp 58], argTypes := #[37] }, type := 24, pos :=  "law.go:148", after := #[{ on := 14, ground := Go.Ground.data }, { on := 9, ground := Go.Ground.chain }], guard := none }) rfl (fun K hK => ?_) ?_
  · go_simp
    refine (F3 W b3 hb hc3).mono ?_
    rintro e w' ⟨rfl, rfl⟩
    go_wp2_with fail
    refine hK.out _ _ trivial (fun _ => ?_)
    have g59 : (a.put (some 59) (.int .u32 (T3 : Int))).tmps.getD 59 undef = .int .u32 (T3 : Int) := put_same a 59 _ hs (by omega)
    have hs1 : (a.put (some 59) (.int .u32 (T3 : Int))).tmps.size = 65 := (put_size a 59 _).trans hs
    have hd1 : Hid ((a.put (some 59) (.int .u32 (T3 : Int))).defers = []) := Lib.hid hd.out
    replace g62 := (put_other a 59 62 (.int .u32 (T3 : Int)) (by omega)).trans g62
    replace g54 := (put_other a 59 54 (.int .u32 (T3 : Int)) (by omega)).trans g54
    change wpAnyH Try.prog .any affOps Q (fun _ => True) _ _ (a.put (some 59) (.int .u32 (T3 : Int))) _
    generalize (a.put (some 59) (.int .u32 (T3 : Int))) = a1 at *
    refine wpAnyH_take (i := 16) (oi := { dst := some 60, op := Go.Op.binOp Go.BinOp.xor 24 (Go.Operand.tmp 54) (Go.Operand.tmp 59) 24, type := 24, pos :=  "law.go:148", after := #[{ on := 10, ground := Go.Ground.data }, { on := 15, ground := Go.Ground.data }], guard := none }) (v := .int .u32 (T4 : Int)) rfl (by kernel_rfl) (by kernel_rfl) (by kernel_rfl) (fun c a w h => hQp c a _ _ w h) (Or.inl ⟨by rfl, ?_⟩) trivial ?_
    · intro w hSw; go_simp; all_goals (with_reducible rfl)
    have e60 : (a1.put (some 60) (.int .u32 (T4 : Int))).tmps.getD 60 undef = .int .u32 (T4 : Int) := put_same a1 60 _ hs1 (by omega)
    have hs2 : (a1.put (some 60) (.int .u32 (T4 : Int))).tmps.size = 65 := (put_size a1 60 _).trans hs1
    have hd2 : Hid ((a1.put (some 60) (.int .u32 (T4 : Int))).defers = []) := Lib.hid hd1.out
    replace g62 := (put_other a1 60 62 (.int .u32 (T4 : Int)) (by omega)).trans g62
    replace g54 := (put_other a1 60 54 (.int .u32 (T4 : Int)) (by omega)).trans g54
    replace g59 := (put_other a1 60 59 (.int .u32 (T4 : Int)) (by omega)).trans g59
    have g60 := e60
    clear e60
    change wpAnyH Try.prog .any affOps Q (fun _ => True) _ _ (a1.put (some 60) (.int .u32 (T4 : Int))) _
    generalize (a1.put (some 60) (.int .u32 (T4 : Int))) = a2 at *
    exact aff_3_1234 F1 F2 F3 F4 X1 X2 hQp hfin _ _ hs2 hd2 hb b4 g62 g60 hc4 _ (by kernel_rfl) _ rfl
  exact AllReadyH.nil
set_option maxHeartbeats 1000000 in
theorem aff_2_123 {Q : Exit → Act → World → Prop} {w0 : World} {p1 p2 p3 p4 : Option Addr} {m1 m2 m3 m4 k1 k2 k3 k4 : Nat} {T1 T2 T3 T4 T5 : Nat} (F1 : SumIs w0 (.slice p1 m1 k1) T1) (F2 : SumIs w0 (.slice p2 m2 k2) T2) (F3 : SumIs w0 (.slice p3 m3 k3) T3) (F4 : SumIs w0 (.slice p4 m4 k4) T4) (X1 : bits .xor .u32 (T1 : Int) (T2 : Int) = (T5 : Int)) (X2 : bits .xor .u32 (T5 : Int) (T3 : Int) = (T4 : Int)) (hQp : ∀ c a d v w, Q (.panic c) (Act.put a d v) w → Q (.panic c) a w) (hfin : ∀ a W, a.tmps.size = 65 → a.defers = [] → a.tmps.getD 6 undef = .bool true → Below w0.heap.size w0 W → Q .normal a W) (a : Act) (W : World) (hs : a.tmps.size = 65) (hd : Hid (a.defers = [])) (hb : Below w0.heap.size w0 W) (b3 : Nat) (g61 : a.tmps.getD 61 undef = .slice p4 m4 k4) (g58 : a.tmps.getD 58 undef = .slice (some ⟨b3, 0, none⟩) 1 1) (g54 : a.tmps.getD 54 undef = .int .u32 (T5 : Int)) (hc3 : W.cell? ⟨b3, 0, none⟩ = some (.slice p3 m3 k3)) (listed : Array Bool) (hl : listed = #[true, true, true, true, true, true, true, true, true, true, true, true, true, true, true, false, false, true, false, false, false, false]) (fuel : Nat) (hf : fuel = 6) :
    wpAnyH Try.prog .any affOps Q (fun _ => True) fuel listed a W := by
  subst hl hf
  have ht : True := trivial
  refine wpAnyH_ready (rs := [15, 18]) (by kernel_rfl) (by simp) ?_
  refine AllReadyH.cons (o := { dst := some 59, op := Go.Op.call { callee := Go.Callee.value (Go.Operand.func 13), args := #[Go.Operand.tmp 58], argTypes := #[37] }, type := 24, pos :=  "law.go:148", after := #[{ on := 14, ground := Go.Ground.data }, { on := 9, ground := Go.Ground.chain }], guard := none }) rfl (fun K hK => ?_) ?_
  · go_simp
    refine (F3 W b3 hb hc3).mono ?_
    rintro e w' ⟨rfl, rfl⟩
    go_wp2_with fail
    refine hK.out _ _ trivial (fun _ => ?_)
    have g59 : (a.put (some 59) (.int .u32 (T3 : Int))).tmps.getD 59 undef = .int .u32 (T3 : Int) := put_same a 59 _ hs (by omega)
    have hs1 : (a.put (some 59) (.int .u32 (T3 : Int))).tmps.size = 65 := (put_size a 59 _).trans hs
    have hd1 : Hid ((a.put (some 59) (.int .u32 (T3 : Int))).defers = []) := Lib.hid hd.out
    replace g61 := (put_other a 59 61 (.int .u32 (T3 : Int)) (by omega)).trans g61
    replace g54 := (put_other a 59 54 (.int .u32 (T3 : Int)) (by omega)).trans g54
    change wpAnyH Try.prog .any affOps Q (fun _ => True) _ _ (a.put (some 59) (.int .u32 (T3 : Int))) _
    generalize (a.put (some 59) (.int .u32 (T3 : Int))) = a1 at *
    refine wpAnyH_take (i := 16) (oi := { dst := some 60, op := Go.Op.binOp Go.BinOp.xor 24 (Go.Operand.tmp 54) (Go.Operand.tmp 59) 24, type := 24, pos :=  "law.go:148", after := #[{ on := 10, ground := Go.Ground.data }, { on := 15, ground := Go.Ground.data }], guard := none }) (v := .int .u32 (T4 : Int)) rfl (by kernel_rfl) (by kernel_rfl) (by kernel_rfl) (fun c a w h => hQp c a _ _ w h) (Or.inl ⟨by rfl, ?_⟩) trivial ?_
    · intro w hSw; go_simp; all_goals (with_reducible rfl)
    have e60 : (a1.put (some 60) (.int .u32 (T4 : Int))).tmps.getD 60 undef = .int .u32 (T4 : Int) := put_same a1 60 _ hs1 (by omega)
    have hs2 : (a1.put (some 60) (.int .u32 (T4 : Int))).tmps.size = 65 := (put_size a1 60 _).trans hs1
    have hd2 : Hid ((a1.put (some 60) (.int .u32 (T4 : Int))).defers = []) := Lib.hid hd1.out
    replace g61 := (put_other a1 60 61 (.int .u32 (T4 : Int)) (by omega)).trans g61
    replace g54 := (put_other a1 60 54 (.int .u32 (T4 : Int)) (by omega)).trans g54
    replace g59 := (put_other a1 60 59 (.int .u32 (T4 : Int)) (by omega)).trans g59
    have g60 := e60
    clear e60
    change wpAnyH Try.prog .any affOps Q (fun _ => True) _ _ (a1.put (some 60) (.int .u32 (T4 : Int))) _
    generalize (a1.put (some 60) (.int .u32 (T4 : Int))) = a2 at *
    exact aff_3_123 F1 F2 F3 F4 X1 X2 hQp hfin _ _ hs2 hd2 hb g61 g60 _ (by kernel_rfl) _ rfl
  refine AllReadyH.cons (o := { dst := some 62, op := Go.Op.buildSlice 37 1 #[(0, Go.Operand.tmp 61)], type := 37, pos :=  "law.go:148", after := #[{ on := 17, ground := Go.Ground.data }], guard := none }) rfl (fun K hK => ?_) ?_
  · have e61 : a.tmps[61]'(by omega) = .slice p4 m4 k4 := by have h := g61; simp [Array.getD, hs] at h; exact h
    go_simp
    refine hK.out _ _ trivial (fun _ => ?_)
    exact aff_2_1234 F1 F2 F3 F4 X1 X2 hQp hfin _ _ ((put_size a 62 _).trans hs) (Lib.hid ((put_defers a 62 _).trans hd.out)) (hb.alloc hb.size _) b3 W.heap.size ((put_other a 62 58 _ (by omega)).trans g58) (put_same a 62 _ hs (by omega)) ((put_other a 62 54 _ (by omega)).trans g54) ((cell_kept W _ hc3)) (cell_new _ _ _) _ (by kernel_rfl) _ rfl
  exact AllReadyH.nil
set_option maxHeartbeats 1000000 in
theorem aff_2_124 {Q : Exit → Act → World → Prop} {w0 : World} {p1 p2 p3 p4 : Option Addr} {m1 m2 m3 m4 k1 k2 k3 k4 : Nat} {T1 T2 T3 T4 T5 : Nat} (F1 : SumIs w0 (.slice p1 m1 k1) T1) (F2 : SumIs w0 (.slice p2 m2 k2) T2) (F3 : SumIs w0 (.slice p3 m3 k3) T3) (F4 : SumIs w0 (.slice p4 m4 k4) T4) (X1 : bits .xor .u32 (T1 : Int) (T2 : Int) = (T5 : Int)) (X2 : bits .xor .u32 (T5 : Int) (T3 : Int) = (T4 : Int)) (hQp : ∀ c a d v w, Q (.panic c) (Act.put a d v) w → Q (.panic c) a w) (hfin : ∀ a W, a.tmps.size = 65 → a.defers = [] → a.tmps.getD 6 undef = .bool true → Below w0.heap.size w0 W → Q .normal a W) (a : Act) (W : World) (hs : a.tmps.size = 65) (hd : Hid (a.defers = [])) (hb : Below w0.heap.size w0 W) (b4 : Nat) (g57 : a.tmps.getD 57 undef = .slice p3 m3 k3) (g62 : a.tmps.getD 62 undef = .slice (some ⟨b4, 0, none⟩) 1 1) (g54 : a.tmps.getD 54 undef = .int .u32 (T5 : Int)) (hc4 : W.cell? ⟨b4, 0, none⟩ = some (.slice p4 m4 k4)) (listed : Array Bool) (hl : listed = #[true, true, true, true, true, true, true, true, true, true, true, true, true, true, false, false, false, true, true, false, false, false]) (fuel : Nat) (hf : fuel = 6) :
    wpAnyH Try.prog .any affOps Q (fun _ => True) fuel listed a W := by
  subst hl hf
  have ht : True := trivial
  refine wpAnyH_ready (rs := [14]) (by kernel_rfl) (by simp) ?_
  refine AllReadyH.cons (o := { dst := some 58, op := Go.Op.buildSlice 37 1 #[(0, Go.Operand.tmp 57)], type := 37, pos :=  "law.go:148", after := #[{ on := 13, ground := Go.Ground.data }], guard := none }) rfl (fun K hK => ?_) ?_
  · have e57 : a.tmps[57]'(by omega) = .slice p3 m3 k3 := by have h := g57; simp [Array.getD, hs] at h; exact h
    go_simp
    refine hK.out _ _ trivial (fun _ => ?_)
    exact aff_2_1234 F1 F2 F3 F4 X1 X2 hQp hfin _ _ ((put_size a 58 _).trans hs) (Lib.hid ((put_defers a 58 _).trans hd.out)) (hb.alloc hb.size _) W.heap.size b4 (put_same a 58 _ hs (by omega)) ((put_other a 58 62 _ (by omega)).trans g62) ((put_other a 58 54 _ (by omega)).trans g54) (cell_new _ _ _) ((cell_kept W _ hc4)) _ (by kernel_rfl) _ rfl
  exact AllReadyH.nil
set_option maxHeartbeats 1000000 in
theorem aff_1_1234 {Q : Exit → Act → World → Prop} {w0 : World} {p1 p2 p3 p4 : Option Addr} {m1 m2 m3 m4 k1 k2 k3 k4 : Nat} {T1 T2 T3 T4 T5 : Nat} (F1 : SumIs w0 (.slice p1 m1 k1) T1) (F2 : SumIs w0 (.slice p2 m2 k2) T2) (F3 : SumIs w0 (.slice p3 m3 k3) T3) (F4 : SumIs w0 (.slice p4 m4 k4) T4) (X1 : bits .xor .u32 (T1 : Int) (T2 : Int) = (T5 : Int)) (X2 : bits .xor .u32 (T5 : Int) (T3 : Int) = (T4 : Int)) (hQp : ∀ c a d v w, Q (.panic c) (Act.put a d v) w → Q (.panic c) a w) (hfin : ∀ a W, a.tmps.size = 65 → a.defers = [] → a.tmps.getD 6 undef = .bool true → Below w0.heap.size w0 W → Q .normal a W) (a : Act) (W : World) (hs : a.tmps.size = 65) (hd : Hid (a.defers = [])) (hb : Below w0.heap.size w0 W) (b2 : Nat) (b3 : Nat) (b4 : Nat) (g52 : a.tmps.getD 52 undef = .slice (some ⟨b2, 0, none⟩) 1 1) (g58 : a.tmps.getD 58 undef = .slice (some ⟨b3, 0, none⟩) 1 1) (g62 : a.tmps.getD 62 undef = .slice (some ⟨b4, 0, none⟩) 1 1) (g48 : a.tmps.getD 48 undef = .int .u32 (T1 : Int)) (hc2 : W.cell? ⟨b2, 0, none⟩ = some (.slice p2 m2 k2)) (hc3 : W.cell? ⟨b3, 0, none⟩ = some (.slice p3 m3 k3)) (hc4 : W.cell? ⟨b4, 0, none⟩ = some (.slice p4 m4 k4)) (listed : Array Bool) (hl : listed = #[true, true, true, true, true, true, true, true, true, false, false, true, true, true, true, false, false, true, true, false, false, false]) (fuel : Nat) (hf : fuel = 7) :
    wpAnyH Try.prog .any affOps Q (fun _ => True) fuel listed a W := by
  subst hl hf
  have ht : True := trivial
  refine wpAnyH_ready (rs := [9]) (by kernel_rfl) (by simp) ?_
  refine AllReadyH.cons (o := { dst := some 53, op := Go.Op.call { callee := Go.Callee.value (Go.Operand.func 13), args := #[Go.Operand.tmp 52], argTypes := #[37] }, type := 24, pos :=  "law.go:148", after := #[{ on := 8, ground := Go.Ground.data }, { on := 4, ground := Go.Ground.chain }], guard := none }) rfl (fun K hK => ?_) ?_
  · go_simp
    refine (F2 W b2 hb hc2).mono ?_
    rintro e w' ⟨rfl, rfl⟩
    go_wp2_with fail
    refine hK.out _ _ trivial (fun _ => ?_)
    have g53 : (a.put (some 53) (.int .u32 (T2 : Int))).tmps.getD 53 undef = .int .u32 (T2 : Int) := put_same a 53 _ hs (by omega)
    have hs1 : (a.put (some 53) (.int .u32 (T2 : Int))).tmps.size = 65 := (put_size a 53 _).trans hs
    have hd1 : Hid ((a.put (some 53) (.int .u32 (T2 : Int))).defers = []) := Lib.hid hd.out
    replace g58 := (put_other a 53 58 (.int .u32 (T2 : Int)) (by omega)).trans g58
    replace g62 := (put_other a 53 62 (.int .u32 (T2 : Int)) (by omega)).trans g62
    replace g48 := (put_other a 53 48 (.int .u32 (T2 : Int)) (by omega)).trans g48
    change wpAnyH Try.prog .any affOps Q (fun _ => True) _ _ (a.put (some 53) (.int .u32 (T2 : Int))) _
    generalize (a.put (some 53) (.int .u32 (T2 : Int))) = a1 at *
    refine wpAnyH_take (i := 10) (oi := { dst := some 54, op := Go.Op.binOp Go.BinOp.xor 24 (Go.Operand.tmp 48) (Go.Operand.tmp 53) 24, type := 24, pos :=  "law.go:148", after := #[{ on := 4, ground := Go.Ground.data }, { on := 9, ground := Go.Ground.data }], guard := none }) (v := .int .u32 (T5 : Int)) rfl (by kernel_rfl) (by kernel_rfl) (by kernel_rfl) (fun c a w h => hQp c a _ _ w h) (Or.inl ⟨by rfl, ?_⟩) trivial ?_
    · intro w hSw; go_simp; all_goals (with_reducible rfl)
    have e54 : (a1.put (some 54) (.int .u32 (T5 : Int))).tmps.getD 54 undef = .int .u32 (T5 : Int) := put_same a1 54 _ hs1 (by omega)
    have hs2 : (a1.put (some 54) (.int .u32 (T5 : Int))).tmps.size = 65 := (put_size a1 54 _).trans hs1
    have hd2 : Hid ((a1.put (some 54) (.int .u32 (T5 : Int))).defers = []) := Lib.hid hd1.out
    replace g58 := (put_other a1 54 58 (.int .u32 (T5 : Int)) (by omega)).trans g58
    replace g62 := (put_other a1 54 62 (.int .u32 (T5 : Int)) (by omega)).trans g62
    replace g48 := (put_other a1 54 48 (.int .u32 (T5 : Int)) (by omega)).trans g48
    replace g53 := (put_other a1 54 53 (.int .u32 (T5 : Int)) (by omega)).trans g53
    have g54 := e54
    clear e54
    change wpAnyH Try.prog .any affOps Q (fun _ => True) _ _ (a1.put (some 54) (.int .u32 (T5 : Int))) _
    generalize (a1.put (some 54) (.int .u32 (T5 : Int))) = a2 at *
    exact aff_2_1234 F1 F2 F3 F4 X1 X2 hQp hfin _ _ hs2 hd2 hb b3 b4 g58 g62 g54 hc3 hc4 _ (by kernel_rfl) _ rfl
  exact AllReadyH.nil
set_option maxHeartbeats 1000000 in
theorem aff_2_12 {Q : Exit → Act → World → Prop} {w0 : World} {p1 p2 p3 p4 : Option Addr} {m1 m2 m3 m4 k1 k2 k3 k4 : Nat} {T1 T2 T3 T4 T5 : Nat} (F1 : SumIs w0 (.slice p1 m1 k1) T1) (F2 : SumIs w0 (.slice p2 m2 k2) T2) (F3 : SumIs w0 (.slice p3 m3 k3) T3) (F4 : SumIs w0 (.slice p4 m4 k4) T4) (X1 : bits .xor .u32 (T1 : Int) (T2 : Int) = (T5 : Int)) (X2 : bits .xor .u32 (T5 : Int) (T3 : Int) = (T4 : Int)) (hQp : ∀ c a d v w, Q (.panic c) (Act.put a d v) w → Q (.panic c) a w) (hfin : ∀ a W, a.tmps.size = 65 → a.defers = [] → a.tmps.getD 6 undef = .bool true → Below w0.heap.size w0 W → Q .normal a W) (a : Act) (W : World) (hs : a.tmps.size = 65) (hd : Hid (a.defers = [])) (hb : Below w0.heap.size w0 W)  (g57 : a.tmps.getD 57 undef = .slice p3 m3 k3) (g61 : a.tmps.getD 61 undef = .slice p4 m4 k4) (g54 : a.tmps.getD 54 undef = .int .u32 (T5 : Int))  (listed : Array Bool) (hl : listed = #[true, true, true, true, true, true, true, true, true, true, true, true, true, true, false, false, false, true, false, false, false, false]) (fuel : Nat) (hf : fuel = 7) :
    wpAnyH Try.prog .any affOps Q (fun _ => True) fuel listed a W := by
  subst hl hf
  have ht : True := trivial
  refine wpAnyH_ready (rs := [14, 18]) (by kernel_rfl) (by simp) ?_
  refine AllReadyH.cons (o := { dst := some 58, op := Go.Op.buildSlice 37 1 #[(0, Go.Operand.tmp 57)], type := 37, pos :=  "law.go:148", after := #[{ on := 13, ground := Go.Ground.data }], guard := none }) rfl (fun K hK => ?_) ?_
  · have e57 : a.tmps[57]'(by omega) = .slice p3 m3 k3 := by have h := g57; simp [Array.getD, hs] at h; exact h
    go_simp
    refine hK.out _ _ trivial (fun _ => ?_)
    exact aff_2_123 F1 F2 F3 F4 X1 X2 hQp hfin _ _ ((put_size a 58 _).trans hs) (Lib.hid ((put_defers a 58 _).trans hd.out)) (hb.alloc hb.size _) W.heap.size ((put_other a 58 61 _ (by omega)).trans g61) (put_same a 58 _ hs (by omega)) ((put_other a 58 54 _ (by omega)).trans g54) (cell_new _ _ _) _ (by kernel_rfl) _ rfl
  refine AllReadyH.cons (o := { dst := some 62, op := Go.Op.buildSlice 37 1 #[(0, Go.Operand.tmp 61)], type := 37, pos :=  "law.go:148", after := #[{ on := 17, ground := Go.Ground.data }], guard := none }) rfl (fun K hK => ?_) ?_
  · have e61 : a.tmps[61]'(by omega) = .slice p4 m4 k4 := by have h := g61; simp [Array.getD, hs] at h; exact h
    go_simp
    refine hK.out _ _ trivial (fun _ => ?_)
    exact aff_2_124 F1 F2 F3 F4 X1 X2 hQp hfin _ _ ((put_size a 62 _).trans hs) (Lib.hid ((put_defers a 62 _).trans hd.out)) (hb.alloc hb.size _) W.heap.size ((put_other a 62 57 _ (by omega)).trans g57) (put_same a 62 _ hs (by omega)) ((put_other a 62 54 _ (by omega)).trans g54) (cell_new _ _ _) _ (by kernel_rfl) _ rfl
  exact AllReadyH.nil
set_option maxHeartbeats 1000000 in
theorem aff_1_123 {Q : Exit → Act → World → Prop} {w0 : World} {p1 p2 p3 p4 : Option Addr} {m1 m2 m3 m4 k1 k2 k3 k4 : Nat} {T1 T2 T3 T4 T5 : Nat} (F1 : SumIs w0 (.slice p1 m1 k1) T1) (F2 : SumIs w0 (.slice p2 m2 k2) T2) (F3 : SumIs w0 (.slice p3 m3 k3) T3) (F4 : SumIs w0 (.slice p4 m4 k4) T4) (X1 : bits .xor .u32 (T1 : Int) (T2 : Int) = (T5 : Int)) (X2 : bits .xor .u32 (T5 : Int) (T3 : Int) = (T4 : Int)) (hQp : ∀ c a d v w, Q (.panic c) (Act.put a d v) w → Q (.panic c) a w) (hfin : ∀ a W, a.tmps.size = 65 → a.defers = [] → a.tmps.getD 6 undef = .bool true → Below w0.heap.size w0 W → Q .normal a W) (a : Act) (W : World) (hs : a.tmps.size = 65) (hd : Hid (a.defers = [])) (hb : Below w0.heap.size w0 W) (b2 : Nat) (b3 : Nat) (g61 : a.tmps.getD 61 undef = .slice p4 m4 k4) (g52 : a.tmps.getD 52 undef = .slice (some ⟨b2, 0, none⟩) 1 1) (g58 : a.tmps.getD 58 undef = .slice (some ⟨b3, 0, none⟩) 1 1) (g48 : a.tmps.getD 48 undef = .int .u32 (T1 : Int)) (hc2 : W.cell? ⟨b2, 0, none⟩ = some (.slice p2 m2 k2)) (hc3 : W.cell? ⟨b3, 0, none⟩ = some (.slice p3 m3 k3)) (listed : Array Bool) (hl : listed = #[true, true, true, true, true, true, true, true, true, false, false, true, true, true, true, false, false, true, false, false, false, false]) (fuel : Nat) (hf : fuel = 8) :
    wpAnyH Try.prog .any affOps Q (fun _ => True) fuel listed a W := by
  subst hl hf
  have ht : True := trivial
  refine wpAnyH_ready (rs := [9, 18]) (by kernel_rfl) (by simp) ?_
  refine AllReadyH.cons (o := { dst := some 53, op := Go.Op.call { callee := Go.Callee.value (Go.Operand.func 13), args := #[Go.Operand.tmp 52], argTypes := #[37] }, type := 24, pos :=  "law.go:148", after := #[{ on := 8, ground := Go.Ground.data }, { on := 4, ground := Go.Ground.chain }], guard := none }) rfl (fun K hK => ?_) ?_
  · go_simp
    refine (F2 W b2 hb hc2).mono ?_
    rintro e w' ⟨rfl, rfl⟩
    go_wp2_with fail
    refine hK.out _ _ trivial (fun _ => ?_)
    have g53 : (a.put (some 53) (.int .u32 (T2 : Int))).tmps.getD 53 undef = .int .u32 (T2 : Int) := put_same a 53 _ hs (by omega)
    have hs1 : (a.put (some 53) (.int .u32 (T2 : Int))).tmps.size = 65 := (put_size a 53 _).trans hs
    have hd1 : Hid ((a.put (some 53) (.int .u32 (T2 : Int))).defers = []) := Lib.hid hd.out
    replace g61 := (put_other a 53 61 (.int .u32 (T2 : Int)) (by omega)).trans g61
    replace g58 := (put_other a 53 58 (.int .u32 (T2 : Int)) (by omega)).trans g58
    replace g48 := (put_other a 53 48 (.int .u32 (T2 : Int)) (by omega)).trans g48
    change wpAnyH Try.prog .any affOps Q (fun _ => True) _ _ (a.put (some 53) (.int .u32 (T2 : Int))) _
    generalize (a.put (some 53) (.int .u32 (T2 : Int))) = a1 at *
    refine wpAnyH_take (i := 10) (oi := { dst := some 54, op := Go.Op.binOp Go.BinOp.xor 24 (Go.Operand.tmp 48) (Go.Operand.tmp 53) 24, type := 24, pos :=  "law.go:148", after := #[{ on := 4, ground := Go.Ground.data }, { on := 9, ground := Go.Ground.data }], guard := none }) (v := .int .u32 (T5 : Int)) rfl (by kernel_rfl) (by kernel_rfl) (by kernel_rfl) (fun c a w h => hQp c a _ _ w h) (Or.inl ⟨by rfl, ?_⟩) trivial ?_
    · intro w hSw; go_simp; all_goals (with_reducible rfl)
    have e54 : (a1.put (some 54) (.int .u32 (T5 : Int))).tmps.getD 54 undef = .int .u32 (T5 : Int) := put_same a1 54 _ hs1 (by omega)
    have hs2 : (a1.put (some 54) (.int .u32 (T5 : Int))).tmps.size = 65 := (put_size a1 54 _).trans hs1
    have hd2 : Hid ((a1.put (some 54) (.int .u32 (T5 : Int))).defers = []) := Lib.hid hd1.out
    replace g61 := (put_other a1 54 61 (.int .u32 (T5 : Int)) (by omega)).trans g61
    replace g58 := (put_other a1 54 58 (.int .u32 (T5 : Int)) (by omega)).trans g58
    replace g48 := (put_other a1 54 48 (.int .u32 (T5 : Int)) (by omega)).trans g48
    replace g53 := (put_other a1 54 53 (.int .u32 (T5 : Int)) (by omega)).trans g53
    have g54 := e54
    clear e54
    change wpAnyH Try.prog .any affOps Q (fun _ => True) _ _ (a1.put (some 54) (.int .u32 (T5 : Int))) _
    generalize (a1.put (some 54) (.int .u32 (T5 : Int))) = a2 at *
    exact aff_2_123 F1 F2 F3 F4 X1 X2 hQp hfin _ _ hs2 hd2 hb b3 g61 g58 g54 hc3 _ (by kernel_rfl) _ rfl
  refine AllReadyH.cons (o := { dst := some 62, op := Go.Op.buildSlice 37 1 #[(0, Go.Operand.tmp 61)], type := 37, pos :=  "law.go:148", after := #[{ on := 17, ground := Go.Ground.data }], guard := none }) rfl (fun K hK => ?_) ?_
  · have e61 : a.tmps[61]'(by omega) = .slice p4 m4 k4 := by have h := g61; simp [Array.getD, hs] at h; exact h
    go_simp
    refine hK.out _ _ trivial (fun _ => ?_)
    exact aff_1_1234 F1 F2 F3 F4 X1 X2 hQp hfin _ _ ((put_size a 62 _).trans hs) (Lib.hid ((put_defers a 62 _).trans hd.out)) (hb.alloc hb.size _) b2 b3 W.heap.size ((put_other a 62 52 _ (by omega)).trans g52) ((put_other a 62 58 _ (by omega)).trans g58) (put_same a 62 _ hs (by omega)) ((put_other a 62 48 _ (by omega)).trans g48) ((cell_kept W _ hc2)) ((cell_kept W _ hc3)) (cell_new _ _ _) _ (by kernel_rfl) _ rfl
  exact AllReadyH.nil
set_option maxHeartbeats 1000000 in
theorem aff_1_124 {Q : Exit → Act → World → Prop} {w0 : World} {p1 p2 p3 p4 : Option Addr} {m1 m2 m3 m4 k1 k2 k3 k4 : Nat} {T1 T2 T3 T4 T5 : Nat} (F1 : SumIs w0 (.slice p1 m1 k1) T1) (F2 : SumIs w0 (.slice p2 m2 k2) T2) (F3 : SumIs w0 (.slice p3 m3 k3) T3) (F4 : SumIs w0 (.slice p4 m4 k4) T4) (X1 : bits .xor .u32 (T1 : Int) (T2 : Int) = (T5 : Int)) (X2 : bits .xor .u32 (T5 : Int) (T3 : Int) = (T4 : Int)) (hQp : ∀ c a d v w, Q (.panic c) (Act.put a d v) w → Q (.panic c) a w) (hfin : ∀ a W, a.tmps.size = 65 → a.defers = [] → a.tmps.getD 6 undef = .bool true → Below w0.heap.size w0 W → Q .normal a W) (a : Act) (W : World) (hs : a.tmps.size = 65) (hd : Hid (a.defers = [])) (hb : Below w0.heap.size w0 W) (b2 : Nat) (b4 : Nat) (g57 : a.tmps.getD 57 undef = .slice p3 m3 k3) (g52 : a.tmps.getD 52 undef = .slice (some ⟨b2, 0, none⟩) 1 1) (g62 : a.tmps.getD 62 undef = .slice (some ⟨b4, 0, none⟩) 1 1) (g48 : a.tmps.getD 48 undef = .int .u32 (T1 : Int)) (hc2 : W.cell? ⟨b2, 0, none⟩ = some (.slice p2 m2 k2)) (hc4 : W.cell? ⟨b4, 0, none⟩ = some (.slice p4 m4 k4)) (listed : Array Bool) (hl : listed = #[true, true, true, true, true, true, true, true, true, false, false, true, true, true, false, false, false, true, true, false, false, false]) (fuel : Nat) (hf : fuel = 8) :
    wpAnyH Try.prog .any affOps Q (fun _ => True) fuel listed a W := by
  subst hl hf
  have ht : True := trivial
  refine wpAnyH_ready (rs := [9, 14]) (by kernel_rfl) (by simp) ?_
  refine AllReadyH.cons (o := { dst := some 53, op := Go.Op.call { callee := Go.Callee.value (Go.Operand.func 13), args := #[Go.Operand.tmp 52], argTypes := #[37] }, type := 24, pos :=  "law.go:148", after := #[{ on := 8, ground := Go.Ground.data }, { on := 4, ground := Go.Ground.chain }], guard := none }) rfl (fun K hK => ?_) ?_
  · go_simp
    refine (F2 W b2 hb hc2).mono ?_
    rintro e w' ⟨rfl, rfl⟩
    go_wp2_with fail
    refine hK.out _ _ trivial (fun _ => ?_)
    have g53 : (a.put (some 53) (.int .u32 (T2 : Int))).tmps.getD 53 undef = .int .u32 (T2 : Int) := put_same a 53 _ hs (by omega)
    have hs1 : (a.put (some 53) (.int .u32 (T2 : Int))).tmps.size = 65 := (put_size a 53 _).trans hs
    have hd1 : Hid ((a.put (some 53) (.int .u32 (T2 : Int))).defers = []) := Lib.hid hd.out
    replace g57 := (put_other a 53 57 (.int .u32 (T2 : Int)) (by omega)).trans g57
    replace g62 := (put_other a 53 62 (.int .u32 (T2 : Int)) (by omega)).trans g62
    replace g48 := (put_other a 53 48 (.int .u32 (T2 : Int)) (by omega)).trans g48
    change wpAnyH Try.prog .any affOps Q (fun _ => True) _ _ (a.put (some 53) (.int .u32 (T2 : Int))) _
    generalize (a.put (some 53) (.int .u32 (T2 : Int))) = a1 at *
    refine wpAnyH_take (i := 10) (oi := { dst := some 54, op := Go.Op.binOp Go.BinOp.xor 24 (Go.Operand.tmp 48) (Go.Operand.tmp 53) 24, type := 24, pos :=  "law.go:148", after := #[{ on := 4, ground := Go.Ground.data }, { on := 9, ground := Go.Ground.data }], guard := none }) (v := .int .u32 (T5 : Int)) rfl (by kernel_rfl) (by kernel_rfl) (by kernel_rfl) (fun c a w h => hQp c a _ _ w h) (Or.inl ⟨by rfl, ?_⟩) trivial ?_
    · intro w hSw; go_simp; all_goals (with_reducible rfl)
    have e54 : (a1.put (some 54) (.int .u32 (T5 : Int))).tmps.getD 54 undef = .int .u32 (T5 : Int) := put_same a1 54 _ hs1 (by omega)
    have hs2 : (a1.put (some 54) (.int .u32 (T5 : Int))).tmps.size = 65 := (put_size a1 54 _).trans hs1
    have hd2 : Hid ((a1.put (some 54) (.int .u32 (T5 : Int))).defers = []) := Lib.hid hd1.out
    replace g57 := (put_other a1 54 57 (.int .u32 (T5 : Int)) (by omega)).trans g57
    replace g62 := (put_other a1 54 62 (.int .u32 (T5 : Int)) (by omega)).trans g62
    replace g48 := (put_other a1 54 48 (.int .u32 (T5 : Int)) (by omega)).trans g48
    replace g53 := (put_other a1 54 53 (.int .u32 (T5 : Int)) (by omega)).trans g53
    have g54 := e54
    clear e54
    change wpAnyH Try.prog .any affOps Q (fun _ => True) _ _ (a1.put (some 54) (.int .u32 (T5 : Int))) _
    generalize (a1.put (some 54) (.int .u32 (T5 : Int))) = a2 at *
    exact aff_2_124 F1 F2 F3 F4 X1 X2 hQp hfin _ _ hs2 hd2 hb b4 g57 g62 g54 hc4 _ (by kernel_rfl) _ rfl
  refine AllReadyH.cons (o := { dst := some 58, op := Go.Op.buildSlice 37 1 #[(0, Go.Operand.tmp 57)], type := 37, pos :=  "law.go:148", after := #[{ on := 13, ground := Go.Ground.data }], guard := none }) rfl (fun K hK => ?_) ?_
  · have e57 : a.tmps[57]'(by omega) = .slice p3 m3 k3 := by have h := g57; simp [Array.getD, hs] at h; exact h
    go_simp
    refine hK.out _ _ trivial (fun _ => ?_)
    exact aff_1_1234 F1 F2 F3 F4 X1 X2 hQp hfin _ _ ((put_size a 58 _).trans hs) (Lib.hid ((put_defers a 58 _).trans hd.out)) (hb.alloc hb.size _) b2 W.heap.size b4 ((put_other a 58 52 _ (by omega)).trans g52) (put_same a 58 _ hs (by omega)) ((put_other a 58 62 _ (by omega)).trans g62) ((put_other a 58 48 _ (by omega)).trans g48) ((cell_kept W _ hc2)) (cell_new _ _ _) ((cell_kept W _ hc4)) _ (by kernel_rfl) _ rfl
  exact AllReadyH.nil
set_option maxHeartbeats 1000000 in
theorem aff_1_134 {Q : Exit → Act → World → Prop} {w0 : World} {p1 p2 p3 p4 : Option Addr} {m1 m2 m3 m4 k1 k2 k3 k4 : Nat} {T1 T2 T3 T4 T5 : Nat} (F1 : SumIs w0 (.slice p1 m1 k1) T1) (F2 : SumIs w0 (.slice p2 m2 k2) T2) (F3 : SumIs w0 (.slice p3 m3 k3) T3) (F4 : SumIs w0 (.slice p4 m4 k4) T4) (X1 : bits .xor .u32 (T1 : Int) (T2 : Int) = (T5 : Int)) (X2 : bits .xor .u32 (T5 : Int) (T3 : Int) = (T4 : Int)) (hQp : ∀ c a d v w, Q (.panic c) (Act.put a d v) w → Q (.panic c) a w) (hfin : ∀ a W, a.tmps.size = 65 → a.defers = [] → a.tmps.getD 6 undef = .bool true → Below w0.heap.size w0 W → Q .normal a W) (a : Act) (W : World) (hs : a.tmps.size = 65) (hd : Hid (a.defers = [])) (hb : Below w0.heap.size w0 W) (b3 : Nat) (b4 : Nat) (g51 : a.tmps.getD 51 undef = .slice p2 m2 k2) (g58 : a.tmps.getD 58 undef = .slice (some ⟨b3, 0, none⟩) 1 1) (g62 : a.tmps.getD 62 undef = .slice (some ⟨b4, 0, none⟩) 1 1) (g48 : a.tmps.getD 48 undef = .int .u32 (T1 : Int)) (hc3 : W.cell? ⟨b3, 0, none⟩ = some (.slice p3 m3 k3)) (hc4 : W.cell? ⟨b4, 0, none⟩ = some (.slice p4 m4 k4)) (listed : Array Bool) (hl : listed = #[true, true, true, true, true, true, true, true, false, false, false, true, true, true, true, false, false, true, true, false, false, false]) (fuel : Nat) (hf : fuel = 8) :
    wpAnyH Try.prog .any affOps Q (fun _ => True) fuel listed a W := by
  subst hl hf
  have ht : True := trivial
  refine wpAnyH_ready (rs := [8]) (by kernel_rfl) (by simp) ?_
  refine AllReadyH.cons (o := { dst := some 52, op := Go.Op.buildSlice 37 1 #[(0, Go.Operand.tmp 51)], type := 37, pos :=  "law.go:148", after := #[{ on := 7, ground := Go.Ground.data }], guard := none }) rfl (fun K hK => ?_) ?_
  · have e51 : a.tmps[51]'(by omega) = .slice p2 m2 k2 := by have h := g51; simp [Array.getD, hs] at h; exact h
    go_simp
    refine hK.out _ _ trivial (fun _ => ?_)
    exact aff_1_1234 F1 F2 F3 F4 X1 X2 hQp hfin _ _ ((put_size a 52 _).trans hs) (Lib.hid ((put_defers a 52 _).trans hd.out)) (hb.alloc hb.size _) W.heap.size b3 b4 (put_same a 52 _ hs (by omega)) ((put_other a 52 58 _ (by omega)).trans g58) ((put_other a 52 62 _ (by omega)).trans g62) ((put_other a 52 48 _ (by omega)).trans g48) (cell_new _ _ _) ((cell_kept W _ hc3)) ((cell_kept W _ hc4)) _ (by kernel_rfl) _ rfl
  exact AllReadyH.nil
set_option maxHeartbeats 1000000 in
theorem aff_0_1234 {Q : Exit → Act → World → Prop} {w0 : World} {p1 p2 p3 p4 : Option Addr} {m1 m2 m3 m4 k1 k2 k3 k4 : Nat} {T1 T2 T3 T4 T5 : Nat} (F1 : SumIs w0 (.slice p1 m1 k1) T1) (F2 : SumIs w0 (.slice p2 m2 k2) T2) (F3 : SumIs w0 (.slice p3 m3 k3) T3) (F4 : SumIs w0 (.slice p4 m4 k4) T4) (X1 : bits .xor .u32 (T1 : Int) (T2 : Int) = (T5 : Int)) (X2 : bits .xor .u32 (T5 : Int) (T3 : Int) = (T4 : Int)) (hQp : ∀ c a d v w, Q (.panic c) (Act.put a d v) w → Q (.panic c) a w) (hfin : ∀ a W, a.tmps.size = 65 → a.defers = [] → a.tmps.getD 6 undef = .bool true → Below w0.heap.size w0 W → Q .normal a W) (a : Act) (W : World) (hs : a.tmps.size = 65) (hd : Hid (a.defers = [])) (hb : Below w0.heap.size w0 W) (b1 : Nat) (b2 : Nat) (b3 : Nat) (b4 : Nat) (g47 : a.tmps.getD 47 undef = .slice (some ⟨b1, 0, none⟩) 1 1) (g52 : a.tmps.getD 52 undef = .slice (some ⟨b2, 0, none⟩) 1 1) (g58 : a.tmps.getD 58 undef = .slice (some ⟨b3, 0, none⟩) 1 1) (g62 : a.tmps.getD 62 undef = .slice (some ⟨b4, 0, none⟩) 1 1) (hc1 : W.cell? ⟨b1, 0, none⟩ = some (.slice p1 m1 k1)) (hc2 : W.cell? ⟨b2, 0, none⟩ = some (.slice p2 m2 k2)) (hc3 : W.cell? ⟨b3, 0, none⟩ = some (.slice p3 m3 k3)) (hc4 : W.cell? ⟨b4, 0, none⟩ = some (.slice p4 m4 k4)) (listed : Array Bool) (hl : listed = #[true, true, true, true, false, true, true, true, true, false, false, true, true, true, true, false, false, true, true, false, false, false]) (fuel : Nat) (hf : fuel = 8) :
    wpAnyH Try.prog .any affOps Q (fun _ => True) fuel listed a W := by
  subst hl hf
  have ht : True := trivial
  refine wpAnyH_ready (rs := [4]) (by kernel_rfl) (by simp) ?_
  refine AllReadyH.cons (o := { dst := some 48, op := Go.Op.call { callee := Go.Callee.value (Go.Operand.func 13), args := #[Go.Operand.tmp 47], argTypes := #[37] }, type := 24, pos :=  "law.go:148", after := #[{ on := 3, ground := Go.Ground.data }], guard := none }) rfl (fun K hK => ?_) ?_
  · go_simp
    refine (F1 W b1 hb hc1).mono ?_
    rintro e w' ⟨rfl, rfl⟩
    go_wp2_with fail
    refine hK.out _ _ trivial (fun _ => ?_)
    have g48 : (a.put (some 48) (.int .u32 (T1 : Int))).tmps.getD 48 undef = .int .u32 (T1 : Int) := put_same a 48 _ hs (by omega)
    have hs1 : (a.put (some 48) (.int .u32 (T1 : Int))).tmps.size = 65 := (put_size a 48 _).trans hs
    have hd1 : Hid ((a.put (some 48) (.int .u32 (T1 : Int))).defers = []) := Lib.hid hd.out
    replace g52 := (put_other a 48 52 (.int .u32 (T1 : Int)) (by omega)).trans g52
    replace g58 := (put_other a 48 58 (.int .u32 (T1 : Int)) (by omega)).trans g58
    replace g62 := (put_other a 48 62 (.int .u32 (T1 : Int)) (by omega)).trans g62
    change wpAnyH Try.prog .any affOps Q (fun _ => True) _ _ (a.put (some 48) (.int .u32 (T1 : Int))) _
    generalize (a.put (some 48) (.int .u32 (T1 : Int))) = a1 at *
    exact aff_1_1234 F1 F2 F3 F4 X1 X2 hQp hfin _ _ hs1 hd1 hb b2 b3 b4 g52 g58 g62 g48 hc2 hc3 hc4 _ (by kernel_rfl) _ rfl
  exact AllReadyH.nil
set_option maxHeartbeats 1000000 in
theorem aff_1_12 {Q : Exit → Act → World → Prop} {w0 : World} {p1 p2 p3 p4 : Option Addr} {m1 m2 m3 m4 k1 k2 k3 k4 : Nat} {T1 T2 T3 T4 T5 : Nat} (F1 : SumIs w0 (.slice p1 m1 k1) T1) (F2 : SumIs w0 (.slice p2 m2 k2) T2) (F3 : SumIs w0 (.slice p3 m3 k3) T3) (F4 : SumIs w0 (.slice p4 m4 k4) T4) (X1 : bits .xor .u32 (T1 : Int) (T2 : Int) = (T5 : Int)) (X2 : bits .xor .u32 (T5 : Int) (T3 : Int) = (T4 : Int)) (hQp : ∀ c a d v w, Q (.panic c) (Act.put a d v) w → Q (.panic c) a w) (hfin : ∀ a W, a.tmps.size = 65 → a.defers = [] → a.tmps.getD 6 undef = .bool true → Below w0.heap.size w0 W → Q .normal a W) (a : Act) (W : World) (hs : a.tmps.size = 65) (hd : Hid (a.defers = [])) (hb : Below w0.heap.size w0 W) (b2 : Nat) (g57 : a.tmps.getD 57 undef = .slice p3 m3 k3) (g61 : a.tmps.getD 61 undef = .slice p4 m4 k4) (g52 : a.tmps.getD 52 undef = .slice (some ⟨b2, 0, none⟩) 1 1) (g48 : a.tmps.getD 48 undef = .int .u32 (T1 : Int)) (hc2 : W.cell? ⟨b2, 0, none⟩ = some (.slice p2 m2 k2)) (listed : Array Bool) (hl : listed = #[true, true, true, true, true, true, true, true, true, false, false, true, true, true, false, false, false, true, false, false, false, false]) (fuel : Nat) (hf : fuel = 9) :
    wpAnyH Try.prog .any affOps Q (fun _ => True) fuel listed a W := by
  subst hl hf
  have ht : True := trivial
  refine wpAnyH_ready (rs := [9, 14, 18]) (by kernel_rfl) (by simp) ?_
  refine AllReadyH.cons (o := { dst := some 53, op := Go.Op.call { callee := Go.Callee.value (Go.Operand.func 13), args := #[Go.Operand.tmp 52], argTypes := #[37] }, type := 24, pos :=  "law.go:148", after := #[{ on := 8, ground := Go.Ground.data }, { on := 4, ground := Go.Ground.chain }], guard := none }) rfl (fun K hK => ?_) ?_
  · go_simp
    refine (F2 W b2 hb hc2).mono ?_
    rintro e w' ⟨rfl, rfl⟩
    go_wp2_with fail
    refine hK.out _ _ trivial (fun _ => ?_)
    have g53 : (a.put (some 53) (.int .u32 (T2 : Int))).tmps.getD 53 undef = .int .u32 (T2 : Int) := put_same a 53 _ hs (by omega)
    have hs1 : (a.put (some 53) (.int .u32 (T2 : Int))).tmps.size = 65 := (put_size a 53 _).trans hs
    have hd1 : Hid ((a.put (some 53) (.int .u32 (T2 : Int))).defers = []) := Lib.hid hd.out
    replace g57 := (put_other a 53 57 (.int .u32 (T2 : Int)) (by omega)).trans g57
    replace g61 := (put_other a 53 61 (.int .u32 (T2 : Int)) (by omega)).trans g61
    replace g48 := (put_other a 53 48 (.int .u32 (T2 : Int)) (by omega)).trans g48
    change wpAnyH Try.prog .any affOps Q (fun _ => True) _ _ (a.put (some 53) (.int .u32 (T2 : Int))) _
    generalize (a.put (some 53) (.int .u32 (T2 : Int))) = a1 at *
    refine wpAnyH_take (i := 10) (oi := { dst := some 54, op := Go.Op.binOp Go.BinOp.xor 24 (Go.Operand.tmp 48) (Go.Operand.tmp 53) 24, type := 24, pos :=  "law.go:148", after := #[{ on := 4, ground := Go.Ground.data }, { on := 9, ground := Go.Ground.data }], guard := none }) (v := .int .u32 (T5 : Int)) rfl (by kernel_rfl) (by kernel_rfl) (by kernel_rfl) (fun c a w h => hQp c a _ _ w h) (Or.inl ⟨by rfl, ?_⟩) trivial ?_
    · intro w hSw; go_simp; all_goals (with_reducible rfl)
    have e54 : (a1.put (some 54) (.int .u32 (T5 : Int))).tmps.getD 54 undef = .int .u32 (T5 : Int) := put_same a1 54 _ hs1 (by omega)
    have hs2 : (a1.put (some 54) (.int .u32 (T5 : Int))).tmps.size = 65 := (put_size a1 54 _).trans hs1
    have hd2 : Hid ((a1.put (some 54) (.int .u32 (T5 : Int))).defers = []) := Lib.hid hd1.out
    replace g57 := (put_other a1 54 57 (.int .u32 (T5 : Int)) (by omega)).trans g57
    replace g61 := (put_other a1 54 61 (.int .u32 (T5 : Int)) (by omega)).trans g61
    replace g48 := (put_other a1 54 48 (.int .u32 (T5 : Int)) (by omega)).trans g48
    replace g53 := (put_other a1 54 53 (.int .u32 (T5 : Int)) (by omega)).trans g53
    have g54 := e54
    clear e54
    change wpAnyH Try.prog .any affOps Q (fun _ => True) _ _ (a1.put (some 54) (.int .u32 (T5 : Int))) _
    generalize (a1.put (some 54) (.int .u32 (T5 : Int))) = a2 at *
    exact aff_2_12 F1 F2 F3 F4 X1 X2 hQp hfin _ _ hs2 hd2 hb g57 g61 g54 _ (by kernel_rfl) _ rfl
  refine AllReadyH.cons (o := { dst := some 58, op := Go.Op.buildSlice 37 1 #[(0, Go.Operand.tmp 57)], type := 37, pos :=  "law.go:148", after := #[{ on := 13, ground := Go.Ground.data }], guard := none }) rfl (fun K hK => ?_) ?_
  · have e57 : a.tmps[57]'(by omega) = .slice p3 m3 k3 := by have h := g57; simp [Array.getD, hs] at h; exact h
    go_simp
    refine hK.out _ _ trivial (fun _ => ?_)
    exact aff_1_123 F1 F2 F3 F4 X1 X2 hQp hfin _ _ ((put_size a 58 _).trans hs) (Lib.hid ((put_defers a 58 _).trans hd.out)) (hb.alloc hb.size _) b2 W.heap.size ((put_other a 58 61 _ (by omega)).trans g61) ((put_other a 58 52 _ (by omega)).trans g52) (put_same a 58 _ hs (by omega)) ((put_other a 58 48 _ (by omega)).trans g48) ((cell_kept W _ hc2)) (cell_new _ _ _) _ (by kernel_rfl) _ rfl
  refine AllReadyH.cons (o := { dst := some 62, op := Go.Op.buildSlice 37 1 #[(0, Go.Operand.tmp 61)], type := 37, pos :=  "law.go:148", after := #[{ on := 17, ground := Go.Ground.data }], guard := none }) rfl (fun K hK => ?_) ?_
  · have e61 : a.tmps[61]'(by omega) = .slice p4 m4 k4 := by have h := g61; simp [Array.getD, hs] at h; exact h
    go_simp
    refine hK.out _ _ trivial (fun _ => ?_)
    exact aff_1_124 F1 F2 F3 F4 X1 X2 hQp hfin _ _ ((put_size a 62 _).trans hs) (Lib.hid ((put_defers a 62 _).trans hd.out)) (hb.alloc hb.size _) b2 W.heap.size ((put_other a 62 57 _ (by omega)).trans g57) ((put_other a 62 52 _ (by omega)).trans g52) (put_same a 62 _ hs (by omega)) ((put_other a 62 48 _ (by omega)).trans g48) ((cell_kept W _ hc2)) (cell_new _ _ _) _ (by kernel_rfl) _ rfl
  exact AllReadyH.nil
set_option maxHeartbeats 1000000 in
theorem aff_1_13 {Q : Exit → Act → World → Prop} {w0 : World} {p1 p2 p3 p4 : Option Addr} {m1 m2 m3 m4 k1 k2 k3 k4 : Nat} {T1 T2 T3 T4 T5 : Nat} (F1 : SumIs w0 (.slice p1 m1 k1) T1) (F2 : SumIs w0 (.slice p2 m2 k2) T2) (F3 : SumIs w0 (.slice p3 m3 k3) T3) (F4 : SumIs w0 (.slice p4 m4 k4) T4) (X1 : bits .xor .u32 (T1 : Int) (T2 : Int) = (T5 : Int)) (X2 : bits .xor .u32 (T5 : Int) (T3 : Int) = (T4 : Int)) (hQp : ∀ c a d v w, Q (.panic c) (Act.put a d v) w → Q (.panic c) a w) (hfin : ∀ a W, a.tmps.size = 65 → a.defers = [] → a.tmps.getD 6 undef = .bool true → Below w0.heap.size w0 W → Q .normal a W) (a : Act) (W : World) (hs : a.tmps.size = 65) (hd : Hid (a.defers = [])) (hb : Below w0.heap.size w0 W) (b3 : Nat) (g51 : a.tmps.getD 51 undef = .slice p2 m2 k2) (g61 : a.tmps.getD 61 undef = .slice p4 m4 k4) (g58 : a.tmps.getD 58 undef = .slice (some ⟨b3, 0, none⟩) 1 1) (g48 : a.tmps.getD 48 undef = .int .u32 (T1 : Int)) (hc3 : W.cell? ⟨b3, 0, none⟩ = some (.slice p3 m3 k3)) (listed : Array Bool) (hl : listed = #[true, true, true, true, true, true, true, true, false, false, false, true, true, true, true, false, false, true, false, false, false, false]) (fuel : Nat) (hf : fuel = 9) :
    wpAnyH Try.prog .any affOps Q (fun _ => True) fuel listed a W := by
  subst hl hf
  have ht : True := trivial
  refine wpAnyH_ready (rs := [8, 18]) (by kernel_rfl) (by simp) ?_
  refine AllReadyH.cons (o := { dst := some 52, op := Go.Op.buildSlice 37 1 #[(0, Go.Operand.tmp 51)], type := 37, pos :=  "law.go:148", after := #[{ on := 7, ground := Go.Ground.data }], guard := none }) rfl (fun K hK => ?_) ?_
  · have e51 : a.tmps[51]'(by omega) = .slice p2 m2 k2 := by have h := g51; simp [Array.getD, hs] at h; exact h
    go_simp
    refine hK.out _ _ trivial (fun _ => ?_)
    exact aff_1_123 F1 F2 F3 F4 X1 X2 hQp hfin _ _ ((put_size a 52 _).trans hs) (Lib.hid ((put_defers a 52 _).trans hd.out)) (hb.alloc hb.size _) W.heap.size b3 ((put_other a 52 61 _ (by omega)).trans g61) (put_same a 52 _ hs (by omega)) ((put_other a 52 58 _ (by omega)).trans g58) ((put_other a 52 48 _ (by omega)).trans g48) (cell_new _ _ _) ((cell_kept W _ hc3)) _ (by kernel_rfl) _ rfl
  refine AllReadyH.cons (o := { dst := some 62, op := Go.Op.buildSlice 37 1 #[(0, Go.Operand.tmp 61)], type := 37, pos :=  "law.go:148", after := #[{ on := 17, ground := Go.Ground.data }], guard := none }) rfl (fun K hK => ?_) ?_
  · have e61 : a.tmps[61]'(by omega) = .slice p4 m4 k4 := by have h := g61; simp [Array.getD, hs] at h; exact h
    go_simp
    refine hK.out _ _ trivial (fun _ => ?_)
    exact aff_1_134 F1 F2 F3 F4 X1 X2 hQp hfin _ _ ((put_size a 62 _).trans hs) (Lib.hid ((put_defers a 62 _).trans hd.out)) (hb.alloc hb.size _) b3 W.heap.size ((put_other a 62 51 _ (by omega)).trans g51) ((put_other a 62 58 _ (by omega)).trans g58) (put_same a 62 _ hs (by omega)) ((put_other a 62 48 _ (by omega)).trans g48) ((cell_kept W _ hc3)) (cell_new _ _ _) _ (by kernel_rfl) _ rfl
  exact AllReadyH.nil
set_option maxHeartbeats 1000000 in
theorem aff_1_14 {Q : Exit → Act → World → Prop} {w0 : World} {p1 p2 p3 p4 : Option Addr} {m1 m2 m3 m4 k1 k2 k3 k4 : Nat} {T1 T2 T3 T4 T5 : Nat} (F1 : SumIs w0 (.slice p1 m1 k1) T1) (F2 : SumIs w0 (.slice p2 m2 k2) T2) (F3 : SumIs w0 (.slice p3 m3 k3) T3) (F4 : SumIs w0 (.slice p4 m4 k4) T4) (X1 : bits .xor .u32 (T1 : Int) (T2 : Int) = (T5 : Int)) (X2 : bits .xor .u32 (T5 : Int) (T3 : Int) = (T4 : Int)) (hQp : ∀ c a d v w, Q (.panic c) (Act.put a d v) w → Q (.panic c) a w) (hfin : ∀ a W, a.tmps.size = 65 → a.defers = [] → a.tmps.getD 6 undef = .bool true → Below w0.heap.size w0 W → Q .normal a W) (a : Act) (W : World) (hs : a.tmps.size = 65) (hd : Hid (a.defers = [])) (hb : Below w0.heap.size w0 W) (b4 : Nat) (g51 : a.tmps.getD 51 undef = .slice p2 m2 k2) (g57 : a.tmps.getD 57 undef = .slice p3 m3 k3) (g62 : a.tmps.getD 62 undef = .slice (some ⟨b4, 0, none⟩) 1 1) (g48 : a.tmps.getD 48 undef = .int .u32 (T1 : Int)) (hc4 : W.cell? ⟨b4, 0, none⟩ = some (.slice p4 m4 k4)) (listed : Array Bool) (hl : listed = #[true, true, true, true, true, true, true, true, false, false, false, true, true, true, false, false, false, true, true, false, false, false]) (fuel : Nat) (hf : fuel = 9) :
    wpAnyH Try.prog .any affOps Q (fun _ => True) fuel listed a W := by
  subst hl hf
  have ht : True := trivial
  refine wpAnyH_ready (rs := [8, 14]) (by kernel_rfl) (by simp) ?_
  refine AllReadyH.cons (o := { dst := some 52, op := Go.Op.buildSlice 37 1 #[(0, Go.Operand.tmp 51)], type := 37, pos :=  "law.go:148", after := #[{ on := 7, ground := Go.Ground.data }], guard := none }) rfl (fun K hK => ?_) ?_
  · have e51 : a.tmps[51]'(by omega) = .slice p2 m2 k2 := by have h := g51; simp [Array.getD, hs] at h; exact h
    go_simp
    refine hK.out _ _ trivial (fun _ => ?_)
    exact aff_1_124 F1 F2 F3 F4 X1 X2 hQp hfin _ _ ((put_size a 52 _).trans hs) (Lib.hid ((put_defers a 52 _).trans hd.out)) (hb.alloc hb.size _) W.heap.size b4 ((put_other a 52 57 _ (by omega)).trans g57) (put_same a 52 _ hs (by omega)) ((put_other a 52 62 _ (by omega)).trans g62) ((put_other a 52 48 _ (by omega)).trans g48) (cell_new _ _ _) ((cell_kept W _ hc4)) _ (by kernel_rfl) _ rfl
  refine AllReadyH.cons (o := { dst := some 58, op := Go.Op.buildSlice 37 1 #[(0, Go.Operand.tmp 57)], type := 37, pos :=  "law.go:148", after := #[{ on := 13, ground := Go.Ground.data }], guard := none }) rfl (fun K hK => ?_) ?_
  · have e57 : a.tmps[57]'(by omega) = .slice p3 m3 k3 := by have h := g57; simp [Array.getD, hs] at h; exact h
    go_simp
    refine hK.out _ _ trivial (fun _ => ?_)
    exact aff_1_134 F1 F2 F3 F4 X1 X2 hQp hfin _ _ ((put_size a 58 _).trans hs) (Lib.hid ((put_defers a 58 _).trans hd.out)) (hb.alloc hb.size _) W.heap.size b4 ((put_other a 58 51 _ (by omega)).trans g51) (put_same a 58 _ hs (by omega)) ((put_other a 58 62 _ (by omega)).trans g62) ((put_other a 58 48 _ (by omega)).trans g48) (cell_new _ _ _) ((cell_kept W _ hc4)) _ (by kernel_rfl) _ rfl
  exact AllReadyH.nil
set_option maxHeartbeats 1000000 in
theorem aff_0_123 {Q : Exit → Act → World → Prop} {w0 : World} {p1 p2 p3 p4 : Option Addr} {m1 m2 m3 m4 k1 k2 k3 k4 : Nat} {T1 T2 T3 T4 T5 : Nat} (F1 : SumIs w0 (.slice p1 m1 k1) T1) (F2 : SumIs w0 (.slice p2 m2 k2) T2) (F3 : SumIs w0 (.slice p3 m3 k3) T3) (F4 : SumIs w0 (.slice p4 m4 k4) T4) (X1 : bits .xor .u32 (T1 : Int) (T2 : Int) = (T5 : Int)) (X2 : bits .xor .u32 (T5 : Int) (T3 : Int) = (T4 : Int)) (hQp : ∀ c a d v w, Q (.panic c) (Act.put a d v) w → Q (.panic c) a w) (hfin : ∀ a W, a.tmps.size = 65 → a.defers = [] → a.tmps.getD 6 undef = .bool true → Below w0.heap.size w0 W → Q .normal a W) (a : Act) (W : World) (hs : a.tmps.size = 65) (hd : Hid (a.defers = [])) (hb : Below w0.heap.size w0 W) (b1 : Nat) (b2 : Nat) (b3 : Nat) (g61 : a.tmps.getD 61 undef = .slice p4 m4 k4) (g47 : a.tmps.getD 47 undef = .slice (some ⟨b1, 0, none⟩) 1 1) (g52 : a.tmps.getD 52 undef = .slice (some ⟨b2, 0, none⟩) 1 1) (g58 : a.tmps.getD 58 undef = .slice (some ⟨b3, 0, none⟩) 1 1) (hc1 : W.cell? ⟨b1, 0, none⟩ = some (.slice p1 m1 k1)) (hc2 : W.cell? ⟨b2, 0, none⟩ = some (.slice p2 m2 k2)) (hc3 : W.cell? ⟨b3, 0, none⟩ = some (.slice p3 m3 k3)) (listed : Array Bool) (hl : listed = #[true, true, true, true, false, true, true, true, true, false, false, true, true, true, true, false, false, true, false, false, false, false]) (fuel : Nat) (hf : fuel = 9) :
    wpAnyH Try.prog .any affOps Q (fun _ => True) fuel listed a W := by
  subst hl hf
  have ht : True := trivial
  refine wpAnyH_ready (rs := [4, 18]) (by kernel_rfl) (by simp) ?_
  refine AllReadyH.cons (o := { dst := some 48, op := Go.Op.call { callee := Go.Callee.value (Go.Operand.func 13), args := #[Go.Operand.tmp 47], argTypes := #[37] }, type := 24, pos :=  "law.go:148", after := #[{ on := 3, ground := Go.Ground.data }], guard := none }) rfl (fun K hK => ?_) ?_
  · go_simp
    refine (F1 W b1 hb hc1).mono ?_
    rintro e w' ⟨rfl, rfl⟩
    go_wp2_with fail
    refine hK.out _ _ trivial (fun _ => ?_)
    have g48 : (a.put (some 48) (.int .u32 (T1 : Int))).tmps.getD 48 undef = .int .u32 (T1 : Int) := put_same a 48 _ hs (by omega)
    have hs1 : (a.put (some 48) (.int .u32 (T1 : Int))).tmps.size = 65 := (put_size a 48 _).trans hs
    have hd1 : Hid ((a.put (some 48) (.int .u32 (T1 : Int))).defers = []) := Lib.hid hd.out
    replace g61 := (put_other a 48 61 (.int .u32 (T1 : Int)) (by omega)).trans g61
    replace g52 := (put_other a 48 52 (.int .u32 (T1 : Int)) (by omega)).trans g52
    replace g58 := (put_other a 48 58 (.int .u32 (T1 : Int)) (by omega)).trans g58
    change wpAnyH Try.prog .any affOps Q (fun _ => True) _ _ (a.put (some 48) (.int .u32 (T1 : Int))) _
    generalize (a.put (some 48) (.int .u32 (T1 : Int))) = a1 at *
    exact aff_1_123 F1 F2 F3 F4 X1 X2 hQp hfin _ _ hs1 hd1 hb b2 b3 g61 g52 g58 g48 hc2 hc3 _ (by kernel_rfl) _ rfl
  refine AllReadyH.cons (o := { dst := some 62, op := Go.Op.buildSlice 37 1 #[(0, Go.Operand.tmp 61)], type := 37, pos :=  "law.go:148", after := #[{ on := 17, ground := Go.Ground.data }], guard := none }) rfl (fun K hK => ?_) ?_
  · have e61 : a.tmps[61]'(by omega) = .slice p4 m4 k4 := by have h := g61; simp [Array.getD, hs] at h; exact h
    go_simp
    refine hK.out _ _ trivial (fun _ => ?_)
    exact aff_0_1234 F1 F2 F3 F4 X1 X2 hQp hfin _ _ ((put_size a 62 _).trans hs) (Lib.hid ((put_defers a 62 _).trans hd.out)) (hb.alloc hb.size _) b1 b2 b3 W.heap.size ((put_other a 62 47 _ (by omega)).trans g47) ((put_other a 62 52 _ (by omega)).trans g52) ((put_other a 62 58 _ (by omega)).trans g58) (put_same a 62 _ hs (by omega)) ((cell_kept W _ hc1)) ((cell_kept W _ hc2)) ((cell_kept W _ hc3)) (cell_new _ _ _) _ (by kernel_rfl) _ rfl
  exact AllReadyH.nil
set_option maxHeartbeats 1000000 in
theorem aff_0_124 {Q : Exit → Act → World → Prop} {w0 : World} {p1 p2 p3 p4 : Option Addr} {m1 m2 m3 m4 k1 k2 k3 k4 : Nat} {T1 T2 T3 T4 T5 : Nat} (F1 : SumIs w0 (.slice p1 m1 k1) T1) (F2 : SumIs w0 (.slice p2 m2 k2) T2) (F3 : SumIs w0 (.slice p3 m3 k3) T3) (F4 : SumIs w0 (.slice p4 m4 k4) T4) (X1 : bits .xor .u32 (T1 : Int) (T2 : Int) = (T5 : Int)) (X2 : bits .xor .u32 (T5 : Int) (T3 : Int) = (T4 : Int)) (hQp : ∀ c a d v w, Q (.panic c) (Act.put a d v) w → Q (.panic c) a w) (hfin : ∀ a W, a.tmps.size = 65 → a.defers = [] → a.tmps.getD 6 undef = .bool true → Below w0.heap.size w0 W → Q .normal a W) (a : Act) (W : World) (hs : a.tmps.size = 65) (hd : Hid (a.defers = [])) (hb : Below w0.heap.size w0 W) (b1 : Nat) (b2 : Nat) (b4 : Nat) (g57 : a.tmps.getD 57 undef = .slice p3 m3 k3) (g47 : a.tmps.getD 47 undef = .slice (some ⟨b1, 0, none⟩) 1 1) (g52 : a.tmps.getD 52 undef = .slice (some ⟨b2, 0, none⟩) 1 1) (g62 : a.tmps.getD 62 undef = .slice (some ⟨b4, 0, none⟩) 1 1) (hc1 : W.cell? ⟨b1, 0, none⟩ = some (.slice p1 m1 k1)) (hc2 : W.cell? ⟨b2, 0, none⟩ = some (.slice p2 m2 k2)) (hc4 : W.cell? ⟨b4, 0, none⟩ = some (.slice p4 m4 k4)) (listed : Array Bool) (hl : listed = #[true, true, true, true, false, true, true, true, true, false, false, true, true, true, false, false, false, true, true, false, false, false]) (fuel : Nat) (hf : fuel = 9) :
    wpAnyH Try.prog .any affOps Q (fun _ => True) fuel listed a W := by
  subst hl hf
  have ht : True := trivial
  refine wpAnyH_ready (rs := [4, 14]) (by kernel_rfl) (by simp) ?_
  refine AllReadyH.cons (o := { dst := some 48, op := Go.Op.call { callee := Go.Callee.value (Go.Operand.func 13), args := #[Go.Operand.tmp 47], argTypes := #[37] }, type := 24, pos :=  "law.go:148", after := #[{ on := 3, ground := Go.Ground.data }], guard := none }) rfl (fun K hK => ?_) ?_
  · go_simp
    refine (F1 W b1 hb hc1).mono ?_
    rintro e w' ⟨rfl, rfl⟩
    go_wp2_with fail
    refine hK.out _ _ trivial (fun _ => ?_)
    have g48 : (a.put (some 48) (.int .u32 (T1 : Int))).tmps.getD 48 undef = .int .u32 (T1 : Int) := put_same a 48 _ hs (by omega)
    have hs1 : (a.put (some 48) (.int .u32 (T1 : Int))).tmps.size = 65 := (put_size a 48 _).trans hs
    have hd1 : Hid ((a.put (some 48) (.int .u32 (T1 : Int))).defers = []) := Lib.hid hd.out
    replace g57 := (put_other a 48 57 (.int .u32 (T1 : Int)) (by omega)).trans g57
    replace g52 := (put_other a 48 52 (.int .u32 (T1 : Int)) (by omega)).trans g52
    replace g62 := (put_other a 48 62 (.int .u32 (T1 : Int)) (by omega)).trans g62
    change wpAnyH Try.prog .any affOps Q (fun _ => True) _ _ (a.put (some 48) (.int .u32 (T1 : Int))) _
    generalize (a.put (some 48) (.int .u32 (T1 : Int))) = a1 at *
    exact aff_1_124 F1 F2 F3 F4 X1 X2 hQp hfin _ _ hs1 hd1 hb b2 b4 g57 g52 g62 g48 hc2 hc4 _ (by kernel_rfl) _ rfl
  refine AllReadyH.cons (o := { dst := some 58, op := Go.Op.buildSlice 37 1 #[(0, Go.Operand.tmp 57)], type := 37, pos :=  "law.go:148", after := #[{ on := 13, ground := Go.Ground.data }], guard := none }) rfl (fun K hK => ?_) ?_
  · have e57 : a.tmps[57]'(by omega) = .slice p3 m3 k3 := by have h := g57; simp [Array.getD, hs] at h; exact h
    go_simp
    refine hK.out _ _ trivial (fun _ => ?_)
    exact aff_0_1234 F1 F2 F3 F4 X1 X2 hQp hfin _ _ ((put_size a 58 _).trans hs) (Lib.hid ((put_defers a 58 _).trans hd.out)) (hb.alloc hb.size _) b1 b2 W.heap.size b4 ((put_other a 58 47 _ (by omega)).trans g47) ((put_other a 58 52 _ (by omega)).trans g52) (put_same a 58 _ hs (by omega)) ((put_other a 58 62 _ (by omega)).trans g62) ((cell_kept W _ hc1)) ((cell_kept W _ hc2)) (cell_new _ _ _) ((cell_kept W _ hc4)) _ (by kernel_rfl) _ rfl
  exact AllReadyH.nil
set_option maxHeartbeats 1000000 in
theorem aff_0_134 {Q : Exit → Act → World → Prop} {w0 : World} {p1 p2 p3 p4 : Option Addr} {m1 m2 m3 m4 k1 k2 k3 k4 : Nat} {T1 T2 T3 T4 T5 : Nat} (F1 : SumIs w0 (.slice p1 m1 k1) T1) (F2 : SumIs w0 (.slice p2 m2 k2) T2) (F3 : SumIs w0 (.slice p3 m3 k3) T3) (F4 : SumIs w0 (.slice p4 m4 k4) T4) (X1 : bits .xor .u32 (T1 : Int) (T2 : Int) = (T5 : Int)) (X2 : bits .xor .u32 (T5 : Int) (T3 : Int) = (T4 : Int)) (hQp : ∀ c a d v w, Q (.panic c) (Act.put a d v) w → Q (.panic c) a w) (hfin : ∀ a W, a.tmps.size = 65 → a.defers = [] → a.tmps.getD 6 undef = .bool true → Below w0.heap.size w0 W → Q .normal a W) (a : Act) (W : World) (hs : a.tmps.size = 65) (hd : Hid (a.defers = [])) (hb : Below w0.heap.size w0 W) (b1 : Nat) (b3 : Nat) (b4 : Nat) (g51 : a.tmps.getD 51 undef = .slice p2 m2 k2) (g47 : a.tmps.getD 47 undef = .slice (some ⟨b1, 0, none⟩) 1 1) (g58 : a.tmps.getD 58 undef = .slice (some ⟨b3, 0, none⟩) 1 1) (g62 : a.tmps.getD 62 undef = .slice (some ⟨b4, 0, none⟩) 1 1) (hc1 : W.cell? ⟨b1, 0, none⟩ = some (.slice p1 m1 k1)) (hc3 : W.cell? ⟨b3, 0, none⟩ = some (.slice p3 m3 k3)) (hc4 : W.cell? ⟨b4, 0, none⟩ = some (.slice p4 m4 k4)) (listed : Array Bool) (hl : listed = #[true, true, true, true, false, true, true, true, false, false, false, true, true, true, true, false, false, true, true, false, false, false]) (fuel : Nat) (hf : fuel = 9) :
    wpAnyH Try.prog .any affOps Q (fun _ => True) fuel listed a W := by
  subst hl hf
  have ht : True := trivial
  refine wpAnyH_ready (rs := [4, 8]) (by kernel_rfl) (by simp) ?_
  refine AllReadyH.cons (o := { dst := some 48, op := Go.Op.call { callee := Go.Callee.value (Go.Operand.func 13), args := #[Go.Operand.tmp 47], argTypes := #[37] }, type := 24, pos :=  "law.go:148", after := #[{ on := 3, ground := Go.Ground.data }], guard := none }) rfl (fun K hK => ?_) ?_
  · go_simp
    refine (F1 W b1 hb hc1).mono ?_
    rintro e w' ⟨rfl, rfl⟩
    go_wp2_with fail
    refine hK.out _ _ trivial (fun _ => ?_)
    have g48 : (a.put (some 48) (.int .u32 (T1 : Int))).tmps.getD 48 undef = .int .u32 (T1 : Int) := put_same a 48 _ hs (by omega)
    have hs1 : (a.put (some 48) (.int .u32 (T1 : Int))).tmps.size = 65 := (put_size a 48 _).trans hs
    have hd1 : Hid ((a.put (some 48) (.int .u32 (T1 : Int))).defers = []) := Lib.hid hd.out
    replace g51 := (put_other a 48 51 (.int .u32 (T1 : Int)) (by omega)).trans g51
    replace g58 := (put_other a 48 58 (.int .u32 (T1 : Int)) (by omega)).trans g58
    replace g62 := (put_other a 48 62 (.int .u32 (T1 : Int)) (by omega)).trans g62
    change wpAnyH Try.prog .any affOps Q (fun _ => True) _ _ (a.put (some 48) (.int .u32 (T1 : Int))) _
    generalize (a.put (some 48) (.int .u32 (T1 : Int))) = a1 at *
    exact aff_1_134 F1 F2 F3 F4 X1 X2 hQp hfin _ _ hs1 hd1 hb b3 b4 g51 g58 g62 g48 hc3 hc4 _ (by kernel_rfl) _ rfl
  refine AllReadyH.cons (o := { dst := some 52, op := Go.Op.buildSlice 37 1 #[(0, Go.Operand.tmp 51)], type := 37, pos :=  "law.go:148", after := #[{ on := 7, ground := Go.Ground.data }], guard := none }) rfl (fun K hK => ?_) ?_
  · have e51 : a.tmps[51]'(by omega) = .slice p2 m2 k2 := by have h := g51; simp [Array.getD, hs] at h; exact h
    go_simp
    refine hK.out _ _ trivial (fun _ => ?_)
    exact aff_0_1234 F1 F2 F3 F4 X1 X2 hQp hfin _ _ ((put_size a 52 _).trans hs) (Lib.hid ((put_defers a 52 _).trans hd.out)) (hb.alloc hb.size _) b1 W.heap.size b3 b4 ((put_other a 52 47 _ (by omega)).trans g47) (put_same a 52 _ hs (by omega)) ((put_other a 52 58 _ (by omega)).trans g58) ((put_other a 52 62 _ (by omega)).trans g62) ((cell_kept W _ hc1)) (cell_new _ _ _) ((cell_kept W _ hc3)) ((cell_kept W _ hc4)) _ (by kernel_rfl) _ rfl
  exact AllReadyH.nil
set_option maxHeartbeats 1000000 in
theorem aff_0_234 {Q : Exit → Act → World → Prop} {w0 : World} {p1 p2 p3 p4 : Option Addr} {m1 m2 m3 m4 k1 k2 k3 k4 : Nat} {T1 T2 T3 T4 T5 : Nat} (F1 : SumIs w0 (.slice p1 m1 k1) T1) (F2 : SumIs w0 (.slice p2 m2 k2) T2) (F3 : SumIs w0 (.slice p3 m3 k3) T3) (F4 : SumIs w0 (.slice p4 m4 k4) T4) (X1 : bits .xor .u32 (T1 : Int) (T2 : Int) = (T5 : Int)) (X2 : bits .xor .u32 (T5 : Int) (T3 : Int) = (T4 : Int)) (hQp : ∀ c a d v w, Q (.panic c) (Act.put a d v) w → Q (.panic c) a w) (hfin : ∀ a W, a.tmps.size = 65 → a.defers = [] → a.tmps.getD 6 undef = .bool true → Below w0.heap.size w0 W → Q .normal a W) (a : Act) (W : World) (hs : a.tmps.size = 65) (hd : Hid (a.defers = [])) (hb : Below w0.heap.size w0 W) (b2 : Nat) (b3 : Nat) (b4 : Nat) (g46 : a.tmps.getD 46 undef = .slice p1 m1 k1) (g52 : a.tmps.getD 52 undef = .slice (some ⟨b2, 0, none⟩) 1 1) (g58 : a.tmps.getD 58 undef = .slice (some ⟨b3, 0, none⟩) 1 1) (g62 : a.tmps.getD 62 undef = .slice (some ⟨b4, 0, none⟩) 1 1) (hc2 : W.cell? ⟨b2, 0, none⟩ = some (.slice p2 m2 k2)) (hc3 : W.cell? ⟨b3, 0, none⟩ = some (.slice p3 m3 k3)) (hc4 : W.cell? ⟨b4, 0, none⟩ = some (.slice p4 m4 k4)) (listed : Array Bool) (hl : listed = #[true, true, true, false, false, true, true, true, true, false, false, true, true, true, true, false, false, true, true, false, false, false]) (fuel : Nat) (hf : fuel = 9) :
    wpAnyH Try.prog .any affOps Q (fun _ => True) fuel listed a W := by
  subst hl hf
  have ht : True := trivial
  refine wpAnyH_ready (rs := [3]) (by kernel_rfl) (by simp) ?_
  refine AllReadyH.cons (o := { dst := some 47, op := Go.Op.buildSlice 37 1 #[(0, Go.Operand.tmp 46)], type := 37, pos :=  "law.go:148", after := #[{ on := 2, ground := Go.Ground.data }], guard := none }) rfl (fun K hK => ?_) ?_
  · have e46 : a.tmps[46]'(by omega) = .slice p1 m1 k1 := by have h := g46; simp [Array.getD, hs] at h; exact h
    go_simp
    refine hK.out _ _ trivial (fun _ => ?_)
    exact aff_0_1234 F1 F2 F3 F4 X1 X2 hQp hfin _ _ ((put_size a 47 _).trans hs) (Lib.hid ((put_defers a 47 _).trans hd.out)) (hb.alloc hb.size _) W.heap.size b2 b3 b4 (put_same a 47 _ hs (by omega)) ((put_other a 47 52 _ (by omega)).trans g52) ((put_other a 47 58 _ (by omega)).trans g58) ((put_other a 47 62 _ (by omega)).trans g62) (cell_new _ _ _) ((cell_kept W _ hc2)) ((cell_kept W _ hc3)) ((cell_kept W _ hc4)) _ (by kernel_rfl) _ rfl
  exact AllReadyH.nil
set_option maxHeartbeats 1000000 in
theorem aff_1_1 {Q : Exit → Act → World → Prop} {w0 : World} {p1 p2 p3 p4 : Option Addr} {m1 m2 m3 m4 k1 k2 k3 k4 : Nat} {T1 T2 T3 T4 T5 : Nat} (F1 : SumIs w0 (.slice p1 m1 k1) T1) (F2 : SumIs w0 (.slice p2 m2 k2) T2) (F3 : SumIs w0 (.slice p3 m3 k3) T3) (F4 : SumIs w0 (.slice p4 m4 k4) T4) (X1 : bits .xor .u32 (T1 : Int) (T2 : Int) = (T5 : Int)) (X2 : bits .xor .u32 (T5 : Int) (T3 : Int) = (T4 : Int)) (hQp : ∀ c a d v w, Q (.panic c) (Act.put a d v) w → Q (.panic c) a w) (hfin : ∀ a W, a.tmps.size = 65 → a.defers = [] → a.tmps.getD 6 undef = .bool true → Below w0.heap.size w0 W → Q .normal a W) (a : Act) (W : World) (hs : a.tmps.size = 65) (hd : Hid (a.defers = [])) (hb : Below w0.heap.size w0 W)  (g51 : a.tmps.getD 51 undef = .slice p2 m2 k2) (g57 : a.tmps.getD 57 undef = .slice p3 m3 k3) (g61 : a.tmps.getD 61 undef = .slice p4 m4 k4) (g48 : a.tmps.getD 48 undef = .int .u32 (T1 : Int))  (listed : Array Bool) (hl : listed = #[true, true, true, true, true, true, true, true, false, false, false, true, true, true, false, false, false, true, false, false, false, false]) (fuel : Nat) (hf : fuel = 10) :
    wpAnyH Try.prog .any affOps Q (fun _ => True) fuel listed a W := by
  subst hl hf
  have ht : True := trivial
  refine wpAnyH_ready (rs := [8, 14, 18]) (by kernel_rfl) (by simp) ?_
  refine AllReadyH.cons (o := { dst := some 52, op := Go.Op.buildSlice 37 1 #[(0, Go.Operand.tmp 51)], type := 37, pos :=  "law.go:148", after := #[{ on := 7, ground := Go.Ground.data }], guard := none }) rfl (fun K hK => ?_) ?_
  · have e51 : a.tmps[51]'(by omega) = .slice p2 m2 k2 := by have h := g51; simp [Array.getD, hs] at h; exact h
    go_simp
    refine hK.out _ _ trivial (fun _ => ?_)
    exact aff_1_12 F1 F2 F3 F4 X1 X2 hQp hfin _ _ ((put_size a 52 _).trans hs) (Lib.hid ((put_defers a 52 _).trans hd.out)) (hb.alloc hb.size _) W.heap.size ((put_other a 52 57 _ (by omega)).trans g57) ((put_other a 52 61 _ (by omega)).trans g61) (put_same a 52 _ hs (by omega)) ((put_other a 52 48 _ (by omega)).trans g48) (cell_new _ _ _) _ (by kernel_rfl) _ rfl
  refine AllReadyH.cons (o := { dst := some 58, op := Go.Op.buildSlice 37 1 #[(0, Go.Operand.tmp 57)], type := 37, pos :=  "law.go:148", after := #[{ on := 13, ground := Go.Ground.data }], guard := none }) rfl (fun K hK => ?_) ?_
  · have e57 : a.tmps[57]'(by omega) = .slice p3 m3 k3 := by have h := g57; simp [Array.getD, hs] at h; exact h
    go_simp
    refine hK.out _ _ trivial (fun _ => ?_)
    exact aff_1_13 F1 F2 F3 F4 X1 X2 hQp hfin _ _ ((put_size a 58 _).trans hs) (Lib.hid ((put_defers a 58 _).trans hd.out)) (hb.alloc hb.size _) W.heap.size ((put_other a 58 51 _ (by omega)).trans g51) ((put_other a 58 61 _ (by omega)).trans g61) (put_same a 58 _ hs (by omega)) ((put_other a 58 48 _ (by omega)).trans g48) (cell_new _ _ _) _ (by kernel_rfl) _ rfl
  refine AllReadyH.cons (o := { dst := some 62, op := Go.Op.buildSlice 37 1 #[(0, Go.Operand.tmp 61)], type := 37, pos :=  "law.go:148", after := #[{ on := 17, ground := Go.Ground.data }], guard := none }) rfl (fun K hK => ?_) ?_
  · have e61 : a.tmps[61]'(by omega) = .slice p4 m4 k4 := by have h := g61; simp [Array.getD, hs] at h; exact h
    go_simp
    refine hK.out _ _ trivial (fun _ => ?_)
    exact aff_1_14 F1 F2 F3 F4 X1 X2 hQp hfin _ _ ((put_size a 62 _).trans hs) (Lib.hid ((put_defers a 62 _).trans hd.out)) (hb.alloc hb.size _) W.heap.size ((put_other a 62 51 _ (by omega)).trans g51) ((put_other a 62 57 _ (by omega)).trans g57) (put_same a 62 _ hs (by omega)) ((put_other a 62 48 _ (by omega)).trans g48) (cell_new _ _ _) _ (by kernel_rfl) _ rfl
  exact AllReadyH.nil
set_option maxHeartbeats 1000000 in
theorem aff_0_12 {Q : Exit → Act → World → Prop} {w0 : World} {p1 p2 p3 p4 : Option Addr} {m1 m2 m3 m4 k1 k2 k3 k4 : Nat} {T1 T2 T3 T4 T5 : Nat} (F1 : SumIs w0 (.slice p1 m1 k1) T1) (F2 : SumIs w0 (.slice p2 m2 k2) T2) (F3 : SumIs w0 (.slice p3 m3 k3) T3) (F4 : SumIs w0 (.slice p4 m4 k4) T4) (X1 : bits .xor .u32 (T1 : Int) (T2 : Int) = (T5 : Int)) (X2 : bits .xor .u32 (T5 : Int) (T3 : Int) = (T4 : Int)) (hQp : ∀ c a d v w, Q (.panic c) (Act.put a d v) w → Q (.panic c) a w) (hfin : ∀ a W, a.tmps.size = 65 → a.defers = [] → a.tmps.getD 6 undef = .bool true → Below w0.heap.size w0 W → Q .normal a W) (a : Act) (W : World) (hs : a.tmps.size = 65) (hd : Hid (a.defers = [])) (hb : Below w0.heap.size w0 W) (b1 : Nat) (b2 : Nat) (g57 : a.tmps.getD 57 undef = .slice p3 m3 k3) (g61 : a.tmps.getD 61 undef = .slice p4 m4 k4) (g47 : a.tmps.getD 47 undef = .slice (some ⟨b1, 0, none⟩) 1 1) (g52 : a.tmps.getD 52 undef = .slice (some ⟨b2, 0, none⟩) 1 1) (hc1 : W.cell? ⟨b1, 0, none⟩ = some (.slice p1 m1 k1)) (hc2 : W.cell? ⟨b2, 0, none⟩ = some (.slice p2 m2 k2)) (listed : Array Bool) (hl : listed = #[true, true, true, true, false, true, true, true, true, false, false, true, true, true, false, false, false, true, false, false, false, false]) (fuel : Nat) (hf : fuel = 10) :
    wpAnyH Try.prog .any affOps Q (fun _ => True) fuel listed a W := by
  subst hl hf
  have ht : True := trivial
  refine wpAnyH_ready (rs := [4, 14, 18]) (by kernel_rfl) (by simp) ?_
  refine AllReadyH.cons (o := { dst := some 48, op := Go.Op.call { callee := Go.Callee.value (Go.Operand.func 13), args := #[Go.Operand.tmp 47], argTypes := #[37] }, type := 24, pos :=  "law.go:148", after := #[{ on := 3, ground := Go.Ground.data }], guard := none }) rfl (fun K hK => ?_) ?_
  · go_simp
    refine (F1 W b1 hb hc1).mono ?_
    rintro e w' ⟨rfl, rfl⟩
    go_wp2_with fail
    refine hK.out _ _ trivial (fun _ => ?_)
    have g48 : (a.put (some 48) (.int .u32 (T1 : Int))).tmps.getD 48 undef = .int .u32 (T1 : Int) := put_same a 48 _ hs (by omega)
    have hs1 : (a.put (some 48) (.int .u32 (T1 : Int))).tmps.size = 65 := (put_size a 48 _).trans hs
    have hd1 : Hid ((a.put (some 48) (.int .u32 (T1 : Int))).defers = []) := Lib.hid hd.out
    replace g57 := (put_other a 48 57 (.int .u32 (T1 : Int)) (by omega)).trans g57
    replace g61 := (put_other a 48 61 (.int .u32 (T1 : Int)) (by omega)).trans g61
    replace g52 := (put_other a 48 52 (.int .u32 (T1 : Int)) (by omega)).trans g52
    change wpAnyH Try.prog .any affOps Q (fun _ => True) _ _ (a.put (some 48) (.int .u32 (T1 : Int))) _
    generalize (a.put (some 48) (.int .u32 (T1 : Int))) = a1 at *
    exact aff_1_12 F1 F2 F3 F4 X1 X2 hQp hfin _ _ hs1 hd1 hb b2 g57 g61 g52 g48 hc2 _ (by kernel_rfl) _ rfl
  refine AllReadyH.cons (o := { dst := some 58, op := Go.Op.buildSlice 37 1 #[(0, Go.Operand.tmp 57)], type := 37, pos :=  "law.go:148", after := #[{ on := 13, ground := Go.Ground.data }], guard := none }) rfl (fun K hK => ?_) ?_
  · have e57 : a.tmps[57]'(by omega) = .slice p3 m3 k3 := by have h := g57; simp [Array.getD, hs] at h; exact h
    go_simp
    refine hK.out _ _ trivial (fun _ => ?_)
    exact aff_0_123 F1 F2 F3 F4 X1 X2 hQp hfin _ _ ((put_size a 58 _).trans hs) (Lib.hid ((put_defers a 58 _).trans hd.out)) (hb.alloc hb.size _) b1 b2 W.heap.size ((put_other a 58 61 _ (by omega)).trans g61) ((put_other a 58 47 _ (by omega)).trans g47) ((put_other a 58 52 _ (by omega)).trans g52) (put_same a 58 _ hs (by omega)) ((cell_kept W _ hc1)) ((cell_kept W _ hc2)) (cell_new _ _ _) _ (by kernel_rfl) _ rfl
  refine AllReadyH.cons (o := { dst := some 62, op := Go.Op.buildSlice 37 1 #[(0, Go.Operand.tmp 61)], type := 37, pos :=  "law.go:148", after := #[{ on := 17, ground := Go.Ground.data }], guard := none }) rfl (fun K hK => ?_) ?_
  · have e61 : a.tmps[61]'(by omega) = .slice p4 m4 k4 := by have h := g61; simp [Array.getD, hs] at h; exact h
    go_simp
    refine hK.out _ _ trivial (fun _ => ?_)
    exact aff_0_124 F1 F2 F3 F4 X1 X2 hQp hfin _ _ ((put_size a 62 _).trans hs) (Lib.hid ((put_defers a 62 _).trans hd.out)) (hb.alloc hb.size _) b1 b2 W.heap.size ((put_other a 62 57 _ (by omega)).trans g57) ((put_other a 62 47 _ (by omega)).trans g47) ((put_other a 62 52 _ (by omega)).trans g52) (put_same a 62 _ hs (by omega)) ((cell_kept W _ hc1)) ((cell_kept W _ hc2)) (cell_new _ _ _) _ (by kernel_rfl) _ rfl
  exact AllReadyH.nil
set_option maxHeartbeats 1000000 in
theorem aff_0_13 {Q : Exit → Act → World → Prop} {w0 : World} {p1 p2 p3 p4 : Option Addr} {m1 m2 m3 m4 k1 k2 k3 k4 : Nat} {T1 T2 T3 T4 T5 : Nat} (F1 : SumIs w0 (.slice p1 m1 k1) T1) (F2 : SumIs w0 (.slice p2 m2 k2) T2) (F3 : SumIs w0 (.slice p3 m3 k3) T3) (F4 : SumIs w0 (.slice p4 m4 k4) T4) (X1 : bits .xor .u32 (T1 : Int) (T2 : Int) = (T5 : Int)) (X2 : bits .xor .u32 (T5 : Int) (T3 : Int) = (T4 : Int)) (hQp : ∀ c a d v w, Q (.panic c) (Act.put a d v) w → Q (.panic c) a w) (hfin : ∀ a W, a.tmps.size = 65 → a.defers = [] → a.tmps.getD 6 undef = .bool true → Below w0.heap.size w0 W → Q .normal a W) (a : Act) (W : World) (hs : a.tmps.size = 65) (hd : Hid (a.defers = [])) (hb : Below w0.heap.size w0 W) (b1 : Nat) (b3 : Nat) (g51 : a.tmps.getD 51 undef = .slice p2 m2 k2) (g61 : a.tmps.getD 61 undef = .slice p4 m4 k4) (g47 : a.tmps.getD 47 undef = .slice (some ⟨b1, 0, none⟩) 1 1) (g58 : a.tmps.getD 58 undef = .slice (some ⟨b3, 0, none⟩) 1 1) (hc1 : W.cell? ⟨b1, 0, none⟩ = some (.slice p1 m1 k1)) (hc3 : W.cell? ⟨b3, 0, none⟩ = some (.slice p3 m3 k3)) (listed : Array Bool) (hl : listed = #[true, true, true, true, false, true, true, true, false, false, false, true, true, true, true, false, false, true, false, false, false, false]) (fuel : Nat) (hf : fuel = 10) :
    wpAnyH Try.prog .any affOps Q (fun _ => True) fuel listed a W := by
  subst hl hf
  have ht : True := trivial
  refine wpAnyH_ready (rs := [4, 8, 18]) (by kernel_rfl) (by simp) ?_
  refine AllReadyH.cons (o := { dst := some 48, op := Go.Op.call { callee := Go.Callee.value (Go.Operand.func 13), args := #[Go.Operand.tmp 47], argTypes := #[37] }, type := 24, pos :=  "law.go:148", after := #[{ on := 3, ground := Go.Ground.data }], guard := none }) rfl (fun K hK => ?_) ?_
  · go_simp
    refine (F1 W b1 hb hc1).mono ?_
    rintro e w' ⟨rfl, rfl⟩
    go_wp2_with fail
    refine hK.out _ _ trivial (fun _ => ?_)
    have g48 : (a.put (some 48) (.int .u32 (T1 : Int))).tmps.getD 48 undef = .int .u32 (T1 : Int) := put_same a 48 _ hs (by omega)
    have hs1 : (a.put (some 48) (.int .u32 (T1 : Int))).tmps.size = 65 := (put_size a 48 _).trans hs
    have hd1 : Hid ((a.put (some 48) (.int .u32 (T1 : Int))).defers = []) := Lib.hid hd.out
    replace g51 := (put_other a 48 51 (.int .u32 (T1 : Int)) (by omega)).trans g51
    replace g61 := (put_other a 48 61 (.int .u32 (T1 : Int)) (by omega)).trans g61
    replace g58 := (put_other a 48 58 (.int .u32 (T1 : Int)) (by omega)).trans g58
    change wpAnyH Try.prog .any affOps Q (fun _ => True) _ _ (a.put (some 48) (.int .u32 (T1 : Int))) _
    generalize (a.put (some 48) (.int .u32 (T1 : Int))) = a1 at *
    exact aff_1_13 F1 F2 F3 F4 X1 X2 hQp hfin _ _ hs1 hd1 hb b3 g51 g61 g58 g48 hc3 _ (by kernel_rfl) _ rfl
  refine AllReadyH.cons (o := { dst := some 52, op := Go.Op.buildSlice 37 1 #[(0, Go.Operand.tmp 51)], type := 37, pos :=  "law.go:148", after := #[{ on := 7, ground := Go.Ground.data }], guard := none }) rfl (fun K hK => ?_) ?_
  · have e51 : a.tmps[51]'(by omega) = .slice p2 m2 k2 := by have h := g51; simp [Array.getD, hs] at h; exact h
    go_simp
    refine hK.out _ _ trivial (fun _ => ?_)
    exact aff_0_123 F1 F2 F3 F4 X1 X2 hQp hfin _ _ ((put_size a 52 _).trans hs) (Lib.hid ((put_defers a 52 _).trans hd.out)) (hb.alloc hb.size _) b1 W.heap.size b3 ((put_other a 52 61 _ (by omega)).trans g61) ((put_other a 52 47 _ (by omega)).trans g47) (put_same a 52 _ hs (by omega)) ((put_other a 52 58 _ (by omega)).trans g58) ((cell_kept W _ hc1)) (cell_new _ _ _) ((cell_kept W _ hc3)) _ (by kernel_rfl) _ rfl
  refine AllReadyH.cons (o := { dst := some 62, op := Go.Op.buildSlice 37 1 #[(0, Go.Operand.tmp 61)], type := 37, pos :=  "law.go:148", after := #[{ on := 17, ground := Go.Ground.data }], guard := none }) rfl (fun K hK => ?_) ?_
  · have e61 : a.tmps[61]'(by omega) = .slice p4 m4 k4 := by have h := g61; simp [Array.getD, hs] at h; exact h
    go_simp
    refine hK.out _ _ trivial (fun _ => ?_)
    exact aff_0_134 F1 F2 F3 F4 X1 X2 hQp hfin _ _ ((put_size a 62 _).trans hs) (Lib.hid ((put_defers a 62 _).trans hd.out)) (hb.alloc hb.size _) b1 b3 W.heap.size ((put_other a 62 51 _ (by omega)).trans g51) ((put_other a 62 47 _ (by omega)).trans g47) ((put_other a 62 58 _ (by omega)).trans g58) (put_same a 62 _ hs (by omega)) ((cell_kept W _ hc1)) ((cell_kept W _ hc3)) (cell_new _ _ _) _ (by kernel_rfl) _ rfl
  exact AllReadyH.nil
set_option maxHeartbeats 1000000 in
theorem aff_0_14 {Q : Exit → Act → World → Prop} {w0 : World} {p1 p2 p3 p4 : Option Addr} {m1 m2 m3 m4 k1 k2 k3 k4 : Nat} {T1 T2 T3 T4 T5 : Nat} (F1 : SumIs w0 (.slice p1 m1 k1) T1) (F2 : SumIs w0 (.slice p2 m2 k2) T2) (F3 : SumIs w0 (.slice p3 m3 k3) T3) (F4 : SumIs w0 (.slice p4 m4 k4) T4) (X1 : bits .xor .u32 (T1 : Int) (T2 : Int) = (T5 : Int)) (X2 : bits .xor .u32 (T5 : Int) (T3 : Int) = (T4 : Int)) (hQp : ∀ c a d v w, Q (.panic c) (Act.put a d v) w → Q (.panic c) a w) (hfin : ∀ a W, a.tmps.size = 65 → a.defers = [] → a.tmps.getD 6 undef = .bool true → Below w0.heap.size w0 W → Q .normal a W) (a : Act) (W : World) (hs : a.tmps.size = 65) (hd : Hid (a.defers = [])) (hb : Below w0.heap.size w0 W) (b1 : Nat) (b4 : Nat) (g51 : a.tmps.getD 51 undef = .slice p2 m2 k2) (g57 : a.tmps.getD 57 undef = .slice p3 m3 k3) (g47 : a.tmps.getD 47 undef = .slice (some ⟨b1, 0, none⟩) 1 1) (g62 : a.tmps.getD 62 undef = .slice (some ⟨b4, 0, none⟩) 1 1) (hc1 : W.cell? ⟨b1, 0, none⟩ = some (.slice p1 m1 k1)) (hc4 : W.cell? ⟨b4, 0, none⟩ = some (.slice p4 m4 k4)) (listed : Array Bool) (hl : listed = #[true, true, true, true, false, true, true, true, false, false, false, true, true, true, false, false, false, true, true, false, false, false]) (fuel : Nat) (hf : fuel = 10) :
    wpAnyH Try.prog .any affOps Q (fun _ => True) fuel listed a W := by
  subst hl hf
  have ht : True := trivial
  refine wpAnyH_ready (rs := [4, 8, 14]) (by kernel_rfl) (by simp) ?_
  refine AllReadyH.cons (o := { dst := some 48, op := Go.Op.call { callee := Go.Callee.value (Go.Operand.func 13), args := #[Go.Operand.tmp 47], argTypes := #[37] }, type := 24, pos :=  "law.go:148", after := #[{ on := 3, ground := Go.Ground.data }], guard := none }) rfl (fun K hK => ?_) ?_
  · go_simp
    refine (F1 W b1 hb hc1).mono ?_
    rintro e w' ⟨rfl, rfl⟩
    go_wp2_with fail
    refine hK.out _ _ trivial (fun _ => ?_)
    have g48 : (a.put (some 48) (.int .u32 (T1 : Int))).tmps.getD 48 undef = .int .u32 (T1 : Int) := put_same a 48 _ hs (by omega)
    have hs1 : (a.put (some 48) (.int .u32 (T1 : Int))).tmps.size = 65 := (put_size a 48 _).trans hs
    have hd1 : Hid ((a.put (some 48) (.int .u32 (T1 : Int))).defers = []) := Lib.hid hd.out
    replace g51 := (put_other a 48 51 (.int .u32 (T1 : Int)) (by omega)).trans g51
    replace g57 := (put_other a 48 57 (.int .u32 (T1 : Int)) (by omega)).trans g57
    replace g62 := (put_other a 48 62 (.int .u32 (T1 : Int)) (by omega)).trans g62
    change wpAnyH Try.prog .any affOps Q (fun _ => True) _ _ (a.put (some 48) (.int .u32 (T1 : Int))) _
    generalize (a.put (some 48) (.int .u32 (T1 : Int))) = a1 at *
    exact aff_1_14 F1 F2 F3 F4 X1 X2 hQp hfin _ _ hs1 hd1 hb b4 g51 g57 g62 g48 hc4 _ (by kernel_rfl) _ rfl
  refine AllReadyH.cons (o := { dst := some 52, op := Go.Op.buildSlice 37 1 #[(0, Go.Operand.tmp 51)], type := 37, pos :=  "law.go:148", after := #[{ on := 7, ground := Go.Ground.data }], guard := none }) rfl (fun K hK => ?_) ?_
  · have e51 : a.tmps[51]'(by omega) = .slice p2 m2 k2 := by have h := g51; simp [Array.getD, hs] at h; exact h
    go_simp
    refine hK.out _ _ trivial (fun _ => ?_)
    exact aff_0_124 F1 F2 F3 F4 X1 X2 hQp hfin _ _ ((put_size a 52 _).trans hs) (Lib.hid ((put_defers a 52 _).trans hd.out)) (hb.alloc hb.size _) b1 W.heap.size b4 ((put_other a 52 57 _ (by omega)).trans g57) ((put_other a 52 47 _ (by omega)).trans g47) (put_same a 52 _ hs (by omega)) ((put_other a 52 62 _ (by omega)).trans g62) ((cell_kept W _ hc1)) (cell_new _ _ _) ((cell_kept W _ hc4)) _ (by kernel_rfl) _ rfl
  refine AllReadyH.cons (o := { dst := some 58, op := Go.Op.buildSlice 37 1 #[(0, Go.Operand.tmp 57)], type := 37, pos :=  "law.go:148", after := #[{ on := 13, ground := Go.Ground.data }], guard := none }) rfl (fun K hK => ?_) ?_
  · have e57 : a.tmps[57]'(by omega) = .slice p3 m3 k3 := by have h := g57; simp [Array.getD, hs] at h; exact h
    go_simp
    refine hK.out _ _ trivial (fun _ => ?_)
    exact aff_0_134 F1 F2 F3 F4 X1 X2 hQp hfin _ _ ((put_size a 58 _).trans hs) (Lib.hid ((put_defers a 58 _).trans hd.out)) (hb.alloc hb.size _) b1 W.heap.size b4 ((put_other a 58 51 _ (by omega)).trans g51) ((put_other a 58 47 _ (by omega)).trans g47) (put_same a 58 _ hs (by omega)) ((put_other a 58 62 _ (by omega)).trans g62) ((cell_kept W _ hc1)) (cell_new _ _ _) ((cell_kept W _ hc4)) _ (by kernel_rfl) _ rfl
  exact AllReadyH.nil
set_option maxHeartbeats 1000000 in
theorem aff_0_23 {Q : Exit → Act → World → Prop} {w0 : World} {p1 p2 p3 p4 : Option Addr} {m1 m2 m3 m4 k1 k2 k3 k4 : Nat} {T1 T2 T3 T4 T5 : Nat} (F1 : SumIs w0 (.slice p1 m1 k1) T1) (F2 : SumIs w0 (.slice p2 m2 k2) T2) (F3 : SumIs w0 (.slice p3 m3 k3) T3) (F4 : SumIs w0 (.slice p4 m4 k4) T4) (X1 : bits .xor .u32 (T1 : Int) (T2 : Int) = (T5 : Int)) (X2 : bits .xor .u32 (T5 : Int) (T3 : Int) = (T4 : Int)) (hQp : ∀ c a d v w, Q (.panic c) (Act.put a d v) w → Q (.panic c) a w) (hfin : ∀ a W, a.tmps.size = 65 → a.defers = [] → a.tmps.getD 6 undef = .bool true → Below w0.heap.size w0 W → Q .normal a W) (a : Act) (W : World) (hs : a.tmps.size = 65) (hd : Hid (a.defers = [])) (hb : Below w0.heap.size w0 W) (b2 : Nat) (b3 : Nat) (g46 : a.tmps.getD 46 undef = .slice p1 m1 k1) (g61 : a.tmps.getD 61 undef = .slice p4 m4 k4) (g52 : a.tmps.getD 52 undef = .slice (some ⟨b2, 0, none⟩) 1 1) (g58 : a.tmps.getD 58 undef = .slice (some ⟨b3, 0, none⟩) 1 1) (hc2 : W.cell? ⟨b2, 0, none⟩ = some (.slice p2 m2 k2)) (hc3 : W.cell? ⟨b3, 0, none⟩ = some (.slice p3 m3 k3)) (listed : Array Bool) (hl : listed = #[true, true, true, false, false, true, true, true, true, false, false, true, true, true, true, false, false, true, false, false, false, false]) (fuel : Nat) (hf : fuel = 10) :
    wpAnyH Try.prog .any affOps Q (fun _ => True) fuel listed a W := by
  subst hl hf
  have ht : True := trivial
  refine wpAnyH_ready (rs := [3, 18]) (by kernel_rfl) (by simp) ?_
  refine AllReadyH.cons (o := { dst := some 47, op := Go.Op.buildSlice 37 1 #[(0, Go.Operand.tmp 46)], type := 37, pos :=  "law.go:148", after := #[{ on := 2, ground := Go.Ground.data }], guard := none }) rfl (fun K hK => ?_) ?_
  · have e46 : a.tmps[46]'(by omega) = .slice p1 m1 k1 := by have h := g46; simp [Array.getD, hs] at h; exact h
    go_simp
    refine hK.out _ _ trivial (fun _ => ?_)
    exact aff_0_123 F1 F2 F3 F4 X1 X2 hQp hfin _ _ ((put_size a 47 _).trans hs) (Lib.hid ((put_defers a 47 _).trans hd.out)) (hb.alloc hb.size _) W.heap.size b2 b3 ((put_other a 47 61 _ (by omega)).trans g61) (put_same a 47 _ hs (by omega)) ((put_other a 47 52 _ (by omega)).trans g52) ((put_other a 47 58 _ (by omega)).trans g58) (cell_new _ _ _) ((cell_kept W _ hc2)) ((cell_kept W _ hc3)) _ (by kernel_rfl) _ rfl
  refine AllReadyH.cons (o := { dst := some 62, op := Go.Op.buildSlice 37 1 #[(0, Go.Operand.tmp 61)], type := 37, pos :=  "law.go:148", after := #[{ on := 17, ground := Go.Ground.data }], guard := none }) rfl (fun K hK => ?_) ?_
  · have e61 : a.tmps[61]'(by omega) = .slice p4 m4 k4 := by have h := g61; simp [Array.getD, hs] at h; exact h
    go_simp
    refine hK.out _ _ trivial (fun _ => ?_)
    exact aff_0_234 F1 F2 F3 F4 X1 X2 hQp hfin _ _ ((put_size a 62 _).trans hs) (Lib.hid ((put_defers a 62 _).trans hd.out)) (hb.alloc hb.size _) b2 b3 W.heap.size ((put_other a 62 46 _ (by omega)).trans g46) ((put_other a 62 52 _ (by omega)).trans g52) ((put_other a 62 58 _ (by omega)).trans g58) (put_same a 62 _ hs (by omega)) ((cell_kept W _ hc2)) ((cell_kept W _ hc3)) (cell_new _ _ _) _ (by kernel_rfl) _ rfl
  exact AllReadyH.nil
set_option maxHeartbeats 1000000 in
theorem aff_0_24 {Q : Exit → Act → World → Prop} {w0 : World} {p1 p2 p3 p4 : Option Addr} {m1 m2 m3 m4 k1 k2 k3 k4 : Nat} {T1 T2 T3 T4 T5 : Nat} (F1 : SumIs w0 (.slice p1 m1 k1) T1) (F2 : SumIs w0 (.slice p2 m2 k2) T2) (F3 : SumIs w0 (.slice p3 m3 k3) T3) (F4 : SumIs w0 (.slice p4 m4 k4) T4) (X1 : bits .xor .u32 (T1 : Int) (T2 : Int) = (T5 : Int)) (X2 : bits .xor .u32 (T5 : Int) (T3 : Int) = (T4 : Int)) (hQp : ∀ c a d v w, Q (.panic c) (Act.put a d v) w → Q (.panic c) a w) (hfin : ∀ a W, a.tmps.size = 65 → a.defers = [] → a.tmps.getD 6 undef = .bool true → Below w0.heap.size w0 W → Q .normal a W) (a : Act) (W : World) (hs : a.tmps.size = 65) (hd : Hid (a.defers = [])) (hb : Below w0.heap.size w0 W) (b2 : Nat) (b4 : Nat) (g46 : a.tmps.getD 46 undef = .slice p1 m1 k1) (g57 : a.tmps.getD 57 undef = .slice p3 m3 k3) (g52 : a.tmps.getD 52 undef = .slice (some ⟨b2, 0, none⟩) 1 1) (g62 : a.tmps.getD 62 undef = .slice (some ⟨b4, 0, none⟩) 1 1) (hc2 : W.cell? ⟨b2, 0, none⟩ = some (.slice p2 m2 k2)) (hc4 : W.cell? ⟨b4, 0, none⟩ = some (.slice p4 m4 k4)) (listed : Array Bool) (hl : listed = #[true, true, true, false, false, true, true, true, true, false, false, true, true, true, false, false, false, true, true, false, false, false]) (fuel : Nat) (hf : fuel = 10) :
    wpAnyH Try.prog .any affOps Q (fun _ => True) fuel listed a W := by
  subst hl hf
  have ht : True := trivial
  refine wpAnyH_ready (rs := [3, 14]) (by kernel_rfl) (by simp) ?_
  refine AllReadyH.cons (o := { dst := some 47, op := Go.Op.buildSlice 37 1 #[(0, Go.Operand.tmp 46)], type := 37, pos :=  "law.go:148", after := #[{ on := 2, ground := Go.Ground.data }], guard := none }) rfl (fun K hK => ?_) ?_
  · have e46 : a.tmps[46]'(by omega) = .slice p1 m1 k1 := by have h := g46; simp [Array.getD, hs] at h; exact h
    go_simp
    refine hK.out _ _ trivial (fun _ => ?_)
    exact aff_0_124 F1 F2 F3 F4 X1 X2 hQp hfin _ _ ((put_size a 47 _).trans hs) (Lib.hid ((put_defers a 47 _).trans hd.out)) (hb.alloc hb.size _) W.heap.size b2 b4 ((put_other a 47 57 _ (by omega)).trans g57) (put_same a 47 _ hs (by omega)) ((put_other a 47 52 _ (by omega)).trans g52) ((put_other a 47 62 _ (by omega)).trans g62) (cell_new _ _ _) ((cell_kept W _ hc2)) ((cell_kept W _ hc4)) _ (by kernel_rfl) _ rfl
  refine AllReadyH.cons (o := { dst := some 58, op := Go.Op.buildSlice 37 1 #[(0, Go.Operand.tmp 57)], type := 37, pos :=  "law.go:148", after := #[{ on := 13, ground := Go.Ground.data }], guard := none }) rfl (fun K hK => ?_) ?_
  · have e57 : a.tmps[57]'(by omega) = .slice p3 m3 k3 := by have h := g57; simp [Array.getD, hs] at h; exact h
    go_simp
    refine hK.out _ _ trivial (fun _ => ?_)
    exact aff_0_234 F1 F2 F3 F4 X1 X2 hQp hfin _ _ ((put_size a 58 _).trans hs) (Lib.hid ((put_defers a 58 _).trans hd.out)) (hb.alloc hb.size _) b2 W.heap.size b4 ((put_other a 58 46 _ (by omega)).trans g46) ((put_other a 58 52 _ (by omega)).trans g52) (put_same a 58 _ hs (by omega)) ((put_other a 58 62 _ (by omega)).trans g62) ((cell_kept W _ hc2)) (cell_new _ _ _) ((cell_kept W _ hc4)) _ (by kernel_rfl) _ rfl
  exact AllReadyH.nil
set_option maxHeartbeats 1000000 in
theorem aff_0_34 {Q : Exit → Act → World → Prop} {w0 : World} {p1 p2 p3 p4 : Option Addr} {m1 m2 m3 m4 k1 k2 k3 k4 : Nat} {T1 T2 T3 T4 T5 : Nat} (F1 : SumIs w0 (.slice p1 m1 k1) T1) (F2 : SumIs w0 (.slice p2 m2 k2) T2) (F3 : SumIs w0 (.slice p3 m3 k3) T3) (F4 : SumIs w0 (.slice p4 m4 k4) T4) (X1 : bits .xor .u32 (T1 : Int) (T2 : Int) = (T5 : Int)) (X2 : bits .xor .u32 (T5 : Int) (T3 : Int) = (T4 : Int)) (hQp : ∀ c a d v w, Q (.panic c) (Act.put a d v) w → Q (.panic c) a w) (hfin : ∀ a W, a.tmps.size = 65 → a.defers = [] → a.tmps.getD 6 undef = .bool true → Below w0.heap.size w0 W → Q .normal a W) (a : Act) (W : World) (hs : a.tmps.size = 65) (hd : Hid (a.defers = [])) (hb : Below w0.heap.size w0 W) (b3 : Nat) (b4 : Nat) (g46 : a.tmps.getD 46 undef = .slice p1 m1 k1) (g51 : a.tmps.getD 51 undef = .slice p2 m2 k2) (g58 : a.tmps.getD 58 undef = .slice (some ⟨b3, 0, none⟩) 1 1) (g62 : a.tmps.getD 62 undef = .slice (some ⟨b4, 0, none⟩) 1 1) (hc3 : W.cell? ⟨b3, 0, none⟩ = some (.slice p3 m3 k3)) (hc4 : W.cell? ⟨b4, 0, none⟩ = some (.slice p4 m4 k4)) (listed : Array Bool) (hl : listed = #[true, true, true, false, false, true, true, true, false, false, false, true, true, true, true, false, false, true, true, false, false, false]) (fuel : Nat) (hf : fuel = 10) :
    wpAnyH Try.prog .any affOps Q (fun _ => True) fuel listed a W := by
  subst hl hf
  have ht : True := trivial
  refine wpAnyH_ready (rs := [3, 8]) (by kernel_rfl) (by simp) ?_
  refine AllReadyH.cons (o := { dst := some 47, op := Go.Op.buildSlice 37 1 #[(0, Go.Operand.tmp 46)], type := 37, pos :=  "law.go:148", after := #[{ on := 2, ground := Go.Ground.data }], guard := none }) rfl (fun K hK => ?_) ?_
  · have e46 : a.tmps[46]'(by omega) = .slice p1 m1 k1 := by have h := g46; simp [Array.getD, hs] at h; exact h
    go_simp
    refine hK.out _ _ trivial (fun _ => ?_)
    exact aff_0_134 F1 F2 F3 F4 X1 X2 hQp hfin _ _ ((put_size a 47 _).trans hs) (Lib.hid ((put_defers a 47 _).trans hd.out)) (hb.alloc hb.size _) W.heap.size b3 b4 ((put_other a 47 51 _ (by omega)).trans g51) (put_same a 47 _ hs (by omega)) ((put_other a 47 58 _ (by omega)).trans g58) ((put_other a 47 62 _ (by omega)).trans g62) (cell_new _ _ _) ((cell_kept W _ hc3)) ((cell_kept W _ hc4)) _ (by kernel_rfl) _ rfl
  refine AllReadyH.cons (o := { dst := some 52, op := Go.Op.buildSlice 37 1 #[(0, Go.Operand.tmp 51)], type := 37, pos :=  "law.go:148", after := #[{ on := 7, ground := Go.Ground.data }], guard := none }) rfl (fun K hK => ?_) ?_
  · have e51 : a.tmps[51]'(by omega) = .slice p2 m2 k2 := by have h := g51; simp [Array.getD, hs] at h; exact h
    go_simp
    refine hK.out _ _ trivial (fun _ => ?_)
    exact aff_0_234 F1 F2 F3 F4 X1 X2 hQp hfin _ _ ((put_size a 52 _).trans hs) (Lib.hid ((put_defers a 52 _).trans hd.out)) (hb.alloc hb.size _) W.heap.size b3 b4 ((put_other a 52 46 _ (by omega)).trans g46) (put_same a 52 _ hs (by omega)) ((put_other a 52 58 _ (by omega)).trans g58) ((put_other a 52 62 _ (by omega)).trans g62) (cell_new _ _ _) ((cell_kept W _ hc3)) ((cell_kept W _ hc4)) _ (by kernel_rfl) _ rfl
  exact AllReadyH.nil
set_option maxHeartbeats 1000000 in
theorem aff_0_1 {Q : Exit → Act → World → Prop} {w0 : World} {p1 p2 p3 p4 : Option Addr} {m1 m2 m3 m4 k1 k2 k3 k4 : Nat} {T1 T2 T3 T4 T5 : Nat} (F1 : SumIs w0 (.slice p1 m1 k1) T1) (F2 : SumIs w0 (.slice p2 m2 k2) T2) (F3 : SumIs w0 (.slice p3 m3 k3) T3) (F4 : SumIs w0 (.slice p4 m4 k4) T4) (X1 : bits .xor .u32 (T1 : Int) (T2 : Int) = (T5 : Int)) (X2 : bits .xor .u32 (T5 : Int) (T3 : Int) = (T4 : Int)) (hQp : ∀ c a d v w, Q (.panic c) (Act.put a d v) w → Q (.panic c) a w) (hfin : ∀ a W, a.tmps.size = 65 → a.defers = [] → a.tmps.getD 6 undef = .bool true → Below w0.heap.size w0 W → Q .normal a W) (a : Act) (W : World) (hs : a.tmps.size = 65) (hd : Hid (a.defers = [])) (hb : Below w0.heap.size w0 W) (b1 : Nat) (g51 : a.tmps.getD 51 undef = .slice p2 m2 k2) (g57 : a.tmps.getD 57 undef = .slice p3 m3 k3) (g61 : a.tmps.getD 61 undef = .slice p4 m4 k4) (g47 : a.tmps.getD 47 undef = .slice (some ⟨b1, 0, none⟩) 1 1) (hc1 : W.cell? ⟨b1, 0, none⟩ = some (.slice p1 m1 k1)) (listed : Array Bool) (hl : listed = #[true, true, true, true, false, true, true, true, false, false, false, true, true, true, false, false, false, true, false, false, false, false]) (fuel : Nat) (hf : fuel = 11) :
    wpAnyH Try.prog .any affOps Q (fun _ => True) fuel listed a W := by
  subst hl hf
  have ht : True := trivial
  refine wpAnyH_ready (rs := [4, 8, 14, 18]) (by kernel_rfl) (by simp) ?_
  refine AllReadyH.cons (o := { dst := some 48, op := Go.Op.call { callee := Go.Callee.value (Go.Operand.func 13), args := #[Go.Operand.tmp 47], argTypes := #[37] }, type := 24, pos :=  "law.go:148", after := #[{ on := 3, ground := Go.Ground.data }], guard := none }) rfl (fun K hK => ?_) ?_
  · go_simp
    refine (F1 W b1 hb hc1).mono ?_
    rintro e w' ⟨rfl, rfl⟩
    go_wp2_with fail
    refine hK.out _ _ trivial (fun _ => ?_)
    have g48 : (a.put (some 48) (.int .u32 (T1 : Int))).tmps.getD 48 undef = .int .u32 (T1 : Int) := put_same a 48 _ hs (by omega)
    have hs1 : (a.put (some 48) (.int .u32 (T1 : Int))).tmps.size = 65 := (put_size a 48 _).trans hs
    have hd1 : Hid ((a.put (some 48) (.int .u32 (T1 : Int))).defers = []) := Lib.hid hd.out
    replace g51 := (put_other a 48 51 (.int .u32 (T1 : Int)) (by omega)).trans g51
    replace g57 := (put_other a 48 57 (.int .u32 (T1 : Int)) (by omega)).trans g57
    replace g61 := (put_other a 48 61 (.int .u32 (T1 : Int)) (by omega)).trans g61
    change wpAnyH Try.prog .any affOps Q (fun _ => True) _ _ (a.put (some 48) (.int .u32 (T1 : Int))) _
    generalize (a.put (some 48) (.int .u32 (T1 : Int))) = a1 at *
    exact aff_1_1 F1 F2 F3 F4 X1 X2 hQp hfin _ _ hs1 hd1 hb g51 g57 g61 g48 _ (by kernel_rfl) _ rfl
  refine AllReadyH.cons (o := { dst := some 52, op := Go.Op.buildSlice 37 1 #[(0, Go.Operand.tmp 51)], type := 37, pos :=  "law.go:148", after := #[{ on := 7, ground := Go.Ground.data }], guard := none }) rfl (fun K hK => ?_) ?_
  · have e51 : a.tmps[51]'(by omega) = .slice p2 m2 k2 := by have h := g51; simp [Array.getD, hs] at h; exact h
    go_simp
    refine hK.out _ _ trivial (fun _ => ?_)
    exact aff_0_12 F1 F2 F3 F4 X1 X2 hQp hfin _ _ ((put_size a 52 _).trans hs) (Lib.hid ((put_defers a 52 _).trans hd.out)) (hb.alloc hb.size _) b1 W.heap.size ((put_other a 52 57 _ (by omega)).trans g57) ((put_other a 52 61 _ (by omega)).trans g61) ((put_other a 52 47 _ (by omega)).trans g47) (put_same a 52 _ hs (by omega)) ((cell_kept W _ hc1)) (cell_new _ _ _) _ (by kernel_rfl) _ rfl
  refine AllReadyH.cons (o := { dst := some 58, op := Go.Op.buildSlice 37 1 #[(0, Go.Operand.tmp 57)], type := 37, pos :=  "law.go:148", after := #[{ on := 13, ground := Go.Ground.data }], guard := none }) rfl (fun K hK => ?_) ?_
  · have e57 : a.tmps[57]'(by omega) = .slice p3 m3 k3 := by have h := g57; simp [Array.getD, hs] at h; exact h
    go_simp
    refine hK.out _ _ trivial (fun _ => ?_)
    exact aff_0_13 F1 F2 F3 F4 X1 X2 hQp hfin _ _ ((put_size a 58 _).trans hs) (Lib.hid ((put_defers a 58 _).trans hd.out)) (hb.alloc hb.size _) b1 W.heap.size ((put_other a 58 51 _ (by omega)).trans g51) ((put_other a 58 61 _ (by omega)).trans g61) ((put_other a 58 47 _ (by omega)).trans g47) (put_same a 58 _ hs (by omega)) ((cell_kept W _ hc1)) (cell_new _ _ _) _ (by kernel_rfl) _ rfl
  refine AllReadyH.cons (o := { dst := some 62, op := Go.Op.buildSlice 37 1 #[(0, Go.Operand.tmp 61)], type := 37, pos :=  "law.go:148", after := #[{ on := 17, ground := Go.Ground.data }], guard := none }) rfl (fun K hK => ?_) ?_
  · have e61 : a.tmps[61]'(by omega) = .slice p4 m4 k4 := by have h := g61; simp [Array.getD, hs] at h; exact h
    go_simp
    refine hK.out _ _ trivial (fun _ => ?_)
    exact aff_0_14 F1 F2 F3 F4 X1 X2 hQp hfin _ _ ((put_size a 62 _).trans hs) (Lib.hid ((put_defers a 62 _).trans hd.out)) (hb.alloc hb.size _) b1 W.heap.size ((put_other a 62 51 _ (by omega)).trans g51) ((put_other a 62 57 _ (by omega)).trans g57) ((put_other a 62 47 _ (by omega)).trans g47) (put_same a 62 _ hs (by omega)) ((cell_kept W _ hc1)) (cell_new _ _ _) _ (by kernel_rfl) _ rfl
  exact AllReadyH.nil
set_option maxHeartbeats 1000000 in
theorem aff_0_2 {Q : Exit → Act → World → Prop} {w0 : World} {p1 p2 p3 p4 : Option Addr} {m1 m2 m3 m4 k1 k2 k3 k4 : Nat} {T1 T2 T3 T4 T5 : Nat} (F1 : SumIs w0 (.slice p1 m1 k1) T1) (F2 : SumIs w0 (.slice p2 m2 k2) T2) (F3 : SumIs w0 (.slice p3 m3 k3) T3) (F4 : SumIs w0 (.slice p4 m4 k4) T4) (X1 : bits .xor .u32 (T1 : Int) (T2 : Int) = (T5 : Int)) (X2 : bits .xor .u32 (T5 : Int) (T3 : Int) = (T4 : Int)) (hQp : ∀ c a d v w, Q (.panic c) (Act.put a d v) w → Q (.panic c) a w) (hfin : ∀ a W, a.tmps.size = 65 → a.defers = [] → a.tmps.getD 6 undef = .bool true → Below w0.heap.size w0 W → Q .normal a W) (a : Act) (W : World) (hs : a.tmps.size = 65) (hd : Hid (a.defers = [])) (hb : Below w0.heap.size w0 W) (b2 : Nat) (g46 : a.tmps.getD 46 undef = .slice p1 m1 k1) (g57 : a.tmps.getD 57 undef = .slice p3 m3 k3) (g61 : a.tmps.getD 61 undef = .slice p4 m4 k4) (g52 : a.tmps.getD 52 undef = .slice (some ⟨b2, 0, none⟩) 1 1) (hc2 : W.cell? ⟨b2, 0, none⟩ = some (.slice p2 m2 k2)) (listed : Array Bool) (hl : listed = #[true, true, true, false, false, true, true, true, true, false, false, true, true, true, false, false, false, true, false, false, false, false]) (fuel : Nat) (hf : fuel = 11) :
    wpAnyH Try.prog .any affOps Q (fun _ => True) fuel listed a W := by
  subst hl hf
  have ht : True := trivial
  refine wpAnyH_ready (rs := [3, 14, 18]) (by kernel_rfl) (by simp) ?_
  refine AllReadyH.cons (o := { dst := some 47, op := Go.Op.buildSlice 37 1 #[(0, Go.Operand.tmp 46)], type := 37, pos :=  "law.go:148", after := #[{ on := 2, ground := Go.Ground.data }], guard := none }) rfl (fun K hK => ?_) ?_
  · have e46 : a.tmps[46]'(by omega) = .slice p1 m1 k1 := by have h := g46; simp [Array.getD, hs] at h; exact h
    go_simp
    refine hK.out _ _ trivial (fun _ => ?_)
    exact aff_0_12 F1 F2 F3 F4 X1 X2 hQp hfin _ _ ((put_size a 47 _).trans hs) (Lib.hid ((put_defers a 47 _).trans hd.out)) (hb.alloc hb.size _) W.heap.size b2 ((put_other a 47 57 _ (by omega)).trans g57) ((put_other a 47 61 _ (by omega)).trans g61) (put_same a 47 _ hs (by omega)) ((put_other a 47 52 _ (by omega)).trans g52) (cell_new _ _ _) ((cell_kept W _ hc2)) _ (by kernel_rfl) _ rfl
  refine AllReadyH.cons (o := { dst := some 58, op := Go.Op.buildSlice 37 1 #[(0, Go.Operand.tmp 57)], type := 37, pos :=  "law.go:148", after := #[{ on := 13, ground := Go.Ground.data }], guard := none }) rfl (fun K hK => ?_) ?_
  · have e57 : a.tmps[57]'(by omega) = .slice p3 m3 k3 := by have h := g57; simp [Array.getD, hs] at h; exact h
    go_simp
    refine hK.out _ _ trivial (fun _ => ?_)
    exact aff_0_23 F1 F2 F3 F4 X1 X2 hQp hfin _ _ ((put_size a 58 _).trans hs) (Lib.hid ((put_defers a 58 _).trans hd.out)) (hb.alloc hb.size _) b2 W.heap.size ((put_other a 58 46 _ (by omega)).trans g46) ((put_other a 58 61 _ (by omega)).trans g61) ((put_other a 58 52 _ (by omega)).trans g52) (put_same a 58 _ hs (by omega)) ((cell_kept W _ hc2)) (cell_new _ _ _) _ (by kernel_rfl) _ rfl
  refine AllReadyH.cons (o := { dst := some 62, op := Go.Op.buildSlice 37 1 #[(0, Go.Operand.tmp 61)], type := 37, pos :=  "law.go:148", after := #[{ on := 17, ground := Go.Ground.data }], guard := none }) rfl (fun K hK => ?_) ?_
  · have e61 : a.tmps[61]'(by omega) = .slice p4 m4 k4 := by have h := g61; simp [Array.getD, hs] at h; exact h
    go_simp
    refine hK.out _ _ trivial (fun _ => ?_)
    exact aff_0_24 F1 F2 F3 F4 X1 X2 hQp hfin _ _ ((put_size a 62 _).trans hs) (Lib.hid ((put_defers a 62 _).trans hd.out)) (hb.alloc hb.size _) b2 W.heap.size ((put_other a 62 46 _ (by omega)).trans g46) ((put_other a 62 57 _ (by omega)).trans g57) ((put_other a 62 52 _ (by omega)).trans g52) (put_same a 62 _ hs (by omega)) ((cell_kept W _ hc2)) (cell_new _ _ _) _ (by kernel_rfl) _ rfl
  exact AllReadyH.nil
set_option maxHeartbeats 1000000 in
theorem aff_0_3 {Q : Exit → Act → World → Prop} {w0 : World} {p1 p2 p3 p4 : Option Addr} {m1 m2 m3 m4 k1 k2 k3 k4 : Nat} {T1 T2 T3 T4 T5 : Nat} (F1 : SumIs w0 (.slice p1 m1 k1) T1) (F2 : SumIs w0 (.slice p2 m2 k2) T2) (F3 : SumIs w0 (.slice p3 m3 k3) T3) (F4 : SumIs w0 (.slice p4 m4 k4) T4) (X1 : bits .xor .u32 (T1 : Int) (T2 : Int) = (T5 : Int)) (X2 : bits .xor .u32 (T5 : Int) (T3 : Int) = (T4 : Int)) (hQp : ∀ c a d v w, Q (.panic c) (Act.put a d v) w → Q (.panic c) a w) (hfin : ∀ a W, a.tmps.size = 65 → a.defers = [] → a.tmps.getD 6 undef = .bool true → Below w0.heap.size w0 W → Q .normal a W) (a : Act) (W : World) (hs : a.tmps.size = 65) (hd : Hid (a.defers = [])) (hb : Below w0.heap.size w0 W) (b3 : Nat) (g46 : a.tmps.getD 46 undef = .slice p1 m1 k1) (g51 : a.tmps.getD 51 undef = .slice p2 m2 k2) (g61 : a.tmps.getD 61 undef = .slice p4 m4 k4) (g58 : a.tmps.getD 58 undef = .slice (some ⟨b3, 0, none⟩) 1 1) (hc3 : W.cell? ⟨b3, 0, none⟩ = some (.slice p3 m3 k3)) (listed : Array Bool) (hl : listed = #[true, true, true, false, false, true, true, true, false, false, false, true, true, true, true, false, false, true, false, false, false, false]) (fuel : Nat) (hf : fuel = 11) :
    wpAnyH Try.prog .any affOps Q (fun _ => True) fuel listed a W := by
  subst hl hf
  have ht : True := trivial
  refine wpAnyH_ready (rs := [3, 8, 18]) (by kernel_rfl) (by simp) ?_
  refine AllReadyH.cons (o := { dst := some 47, op := Go.Op.buildSlice 37 1 #[(0, Go.Operand.tmp 46)], type := 37, pos :=  "law.go:148", after := #[{ on := 2, ground := Go.Ground.data }], guard := none }) rfl (fun K hK => ?_) ?_
  · have e46 : a.tmps[46]'(by omega) = .slice p1 m1 k1 := by have h := g46; simp [Array.getD, hs] at h; exact h
    go_simp
    refine hK.out _ _ trivial (fun _ => ?_)
    exact aff_0_13 F1 F2 F3 F4 X1 X2 hQp hfin _ _ ((put_size a 47 _).trans hs) (Lib.hid ((put_defers a 47 _).trans hd.out)) (hb.alloc hb.size _) W.heap.size b3 ((put_other a 47 51 _ (by omega)).trans g51) ((put_other a 47 61 _ (by omega)).trans g61) (put_same a 47 _ hs (by omega)) ((put_other a 47 58 _ (by omega)).trans g58) (cell_new _ _ _) ((cell_kept W _ hc3)) _ (by kernel_rfl) _ rfl
  refine AllReadyH.cons (o := { dst := some 52, op := Go.Op.buildSlice 37 1 #[(0, Go.Operand.tmp 51)], type := 37, pos :=  "law.go:148", after := #[{ on := 7, ground := Go.Ground.data }], guard := none }) rfl (fun K hK => ?_) ?_
  · have e51 : a.tmps[51]'(by omega) = .slice p2 m2 k2 := by have h := g51; simp [Array.getD, hs] at h; exact h
    go_simp
    refine hK.out _ _ trivial (fun _ => ?_)
    exact aff_0_23 F1 F2 F3 F4 X1 X2 hQp hfin _ _ ((put_size a 52 _).trans hs) (Lib.hid ((put_defers a 52 _).trans hd.out)) (hb.alloc hb.size _) W.heap.size b3 ((put_other a 52 46 _ (by omega)).trans g46) ((put_other a 52 61 _ (by omega)).trans g61) (put_same a 52 _ hs (by omega)) ((put_other a 52 58 _ (by omega)).trans g58) (cell_new _ _ _) ((cell_kept W _ hc3)) _ (by kernel_rfl) _ rfl
  refine AllReadyH.cons (o := { dst := some 62, op := Go.Op.buildSlice 37 1 #[(0, Go.Operand.tmp 61)], type := 37, pos :=  "law.go:148", after := #[{ on := 17, ground := Go.Ground.data }], guard := none }) rfl (fun K hK => ?_) ?_
  · have e61 : a.tmps[61]'(by omega) = .slice p4 m4 k4 := by have h := g61; simp [Array.getD, hs] at h; exact h
    go_simp
    refine hK.out _ _ trivial (fun _ => ?_)
    exact aff_0_34 F1 F2 F3 F4 X1 X2 hQp hfin _ _ ((put_size a 62 _).trans hs) (Lib.hid ((put_defers a 62 _).trans hd.out)) (hb.alloc hb.size _) b3 W.heap.size ((put_other a 62 46 _ (by omega)).trans g46) ((put_other a 62 51 _ (by omega)).trans g51) ((put_other a 62 58 _ (by omega)).trans g58) (put_same a 62 _ hs (by omega)) ((cell_kept W _ hc3)) (cell_new _ _ _) _ (by kernel_rfl) _ rfl
  exact AllReadyH.nil
set_option maxHeartbeats 1000000 in
theorem aff_0_4 {Q : Exit → Act → World → Prop} {w0 : World} {p1 p2 p3 p4 : Option Addr} {m1 m2 m3 m4 k1 k2 k3 k4 : Nat} {T1 T2 T3 T4 T5 : Nat} (F1 : SumIs w0 (.slice p1 m1 k1) T1) (F2 : SumIs w0 (.slice p2 m2 k2) T2) (F3 : SumIs w0 (.slice p3 m3 k3) T3) (F4 : SumIs w0 (.slice p4 m4 k4) T4) (X1 : bits .xor .u32 (T1 : Int) (T2 : Int) = (T5 : Int)) (X2 : bits .xor .u32 (T5 : Int) (T3 : Int) = (T4 : Int)) (hQp : ∀ c a d v w, Q (.panic c) (Act.put a d v) w → Q (.panic c) a w) (hfin : ∀ a W, a.tmps.size = 65 → a.defers = [] → a.tmps.getD 6 undef = .bool true → Below w0.heap.size w0 W → Q .normal a W) (a : Act) (W : World) (hs : a.tmps.size = 65) (hd : Hid (a.defers = [])) (hb : Below w0.heap.size w0 W) (b4 : Nat) (g46 : a.tmps.getD 46 undef = .slice p1 m1 k1) (g51 : a.tmps.getD 51 undef = .slice p2 m2 k2) (g57 : a.tmps.getD 57 undef = .slice p3 m3 k3) (g62 : a.tmps.getD 62 undef = .slice (some ⟨b4, 0, none⟩) 1 1) (hc4 : W.cell? ⟨b4, 0, none⟩ = some (.slice p4 m4 k4)) (listed : Array Bool) (hl : listed = #[true, true, true, false, false, true, true, true, false, false, false, true, true, true, false, false, false, true, true, false, false, false]) (fuel : Nat) (hf : fuel = 11) :
    wpAnyH Try.prog .any affOps Q (fun _ => True) fuel listed a W := by
  subst hl hf
  have ht : True := trivial
  refine wpAnyH_ready (rs := [3, 8, 14]) (by kernel_rfl) (by simp) ?_
  refine AllReadyH.cons (o := { dst := some 47, op := Go.Op.buildSlice 37 1 #[(0, Go.Operand.tmp 46)], type := 37, pos :=  "law.go:148", after := #[{ on := 2, ground := Go.Ground.data }], guard := none }) rfl (fun K hK => ?_) ?_
  · have e46 : a.tmps[46]'(by omega) = .slice p1 m1 k1 := by have h := g46; simp [Array.getD, hs] at h; exact h
    go_simp
    refine hK.out _ _ trivial (fun _ => ?_)
    exact aff_0_14 F1 F2 F3 F4 X1 X2 hQp hfin _ _ ((put_size a 47 _).trans hs) (Lib.hid ((put_defers a 47 _).trans hd.out)) (hb.alloc hb.size _) W.heap.size b4 ((put_other a 47 51 _ (by omega)).trans g51) ((put_other a 47 57 _ (by omega)).trans g57) (put_same a 47 _ hs (by omega)) ((put_other a 47 62 _ (by omega)).trans g62) (cell_new _ _ _) ((cell_kept W _ hc4)) _ (by kernel_rfl) _ rfl
  refine AllReadyH.cons (o := { dst := some 52, op := Go.Op.buildSlice 37 1 #[(0, Go.Operand.tmp 51)], type := 37, pos :=  "law.go:148", after := #[{ on := 7, ground := Go.Ground.data }], guard := none }) rfl (fun K hK => ?_) ?_
  · have e51 : a.tmps[51]'(by omega) = .slice p2 m2 k2 := by have h := g51; simp [Array.getD, hs] at h; exact h
    go_simp
    refine hK.out _ _ trivial (fun _ => ?_)
    exact aff_0_24 F1 F2 F3 F4 X1 X2 hQp hfin _ _ ((put_size a 52 _).trans hs) (Lib.hid ((put_defers a 52 _).trans hd.out)) (hb.alloc hb.size _) W.heap.size b4 ((put_other a 52 46 _ (by omega)).trans g46) ((put_other a 52 57 _ (by omega)).trans g57) (put_same a 52 _ hs (by omega)) ((put_other a 52 62 _ (by omega)).trans g62) (cell_new _ _ _) ((cell_kept W _ hc4)) _ (by kernel_rfl) _ rfl
  refine AllReadyH.cons (o := { dst := some 58, op := Go.Op.buildSlice 37 1 #[(0, Go.Operand.tmp 57)], type := 37, pos :=  "law.go:148", after := #[{ on := 13, ground := Go.Ground.data }], guard := none }) rfl (fun K hK => ?_) ?_
  · have e57 : a.tmps[57]'(by omega) = .slice p3 m3 k3 := by have h := g57; simp [Array.getD, hs] at h; exact h
    go_simp
    refine hK.out _ _ trivial (fun _ => ?_)
    exact aff_0_34 F1 F2 F3 F4 X1 X2 hQp hfin _ _ ((put_size a 58 _).trans hs) (Lib.hid ((put_defers a 58 _).trans hd.out)) (hb.alloc hb.size _) W.heap.size b4 ((put_other a 58 46 _ (by omega)).trans g46) ((put_other a 58 51 _ (by omega)).trans g51) (put_same a 58 _ hs (by omega)) ((put_other a 58 62 _ (by omega)).trans g62) (cell_new _ _ _) ((cell_kept W _ hc4)) _ (by kernel_rfl) _ rfl
  exact AllReadyH.nil
set_option maxHeartbeats 1000000 in
theorem aff_0_n {Q : Exit → Act → World → Prop} {w0 : World} {p1 p2 p3 p4 : Option Addr} {m1 m2 m3 m4 k1 k2 k3 k4 : Nat} {T1 T2 T3 T4 T5 : Nat} (F1 : SumIs w0 (.slice p1 m1 k1) T1) (F2 : SumIs w0 (.slice p2 m2 k2) T2) (F3 : SumIs w0 (.slice p3 m3 k3) T3) (F4 : SumIs w0 (.slice p4 m4 k4) T4) (X1 : bits .xor .u32 (T1 : Int) (T2 : Int) = (T5 : Int)) (X2 : bits .xor .u32 (T5 : Int) (T3 : Int) = (T4 : Int)) (hQp : ∀ c a d v w, Q (.panic c) (Act.put a d v) w → Q (.panic c) a w) (hfin : ∀ a W, a.tmps.size = 65 → a.defers = [] → a.tmps.getD 6 undef = .bool true → Below w0.heap.size w0 W → Q .normal a W) (a : Act) (W : World) (hs : a.tmps.size = 65) (hd : Hid (a.defers = [])) (hb : Below w0.heap.size w0 W)  (g46 : a.tmps.getD 46 undef = .slice p1 m1 k1) (g51 : a.tmps.getD 51 undef = .slice p2 m2 k2) (g57 : a.tmps.getD 57 undef = .slice p3 m3 k3) (g61 : a.tmps.getD 61 undef = .slice p4 m4 k4)  (listed : Array Bool) (hl : listed = #[true, true, true, false, false, true, true, true, false, false, false, true, true, true, false, false, false, true, false, false, false, false]) (fuel : Nat) (hf : fuel = 12) :
    wpAnyH Try.prog .any affOps Q (fun _ => True) fuel listed a W := by
  subst hl hf
  have ht : True := trivial
  refine wpAnyH_ready (rs := [3, 8, 14, 18]) (by kernel_rfl) (by simp) ?_
  refine AllReadyH.cons (o := { dst := some 47, op := Go.Op.buildSlice 37 1 #[(0, Go.Operand.tmp 46)], type := 37, pos :=  "law.go:148", after := #[{ on := 2, ground := Go.Ground.data }], guard := none }) rfl (fun K hK => ?_) ?_
  · have e46 : a.tmps[46]'(by omega) = .slice p1 m1 k1 := by have h := g46; simp [Array.getD, hs] at h; exact h
    go_simp
    refine hK.out _ _ trivial (fun _ => ?_)
    exact aff_0_1 F1 F2 F3 F4 X1 X2 hQp hfin _ _ ((put_size a 47 _).trans hs) (Lib.hid ((put_defers a 47 _).trans hd.out)) (hb.alloc hb.size _) W.heap.size ((put_other a 47 51 _ (by omega)).trans g51) ((put_other a 47 57 _ (by omega)).trans g57) ((put_other a 47 61 _ (by omega)).trans g61) (put_same a 47 _ hs (by omega)) (cell_new _ _ _) _ (by kernel_rfl) _ rfl
  refine AllReadyH.cons (o := { dst := some 52, op := Go.Op.buildSlice 37 1 #[(0, Go.Operand.tmp 51)], type := 37, pos :=  "law.go:148", after := #[{ on := 7, ground := Go.Ground.data }], guard := none }) rfl (fun K hK => ?_) ?_
  · have e51 : a.tmps[51]'(by omega) = .slice p2 m2 k2 := by have h := g51; simp [Array.getD, hs] at h; exact h
    go_simp
    refine hK.out _ _ trivial (fun _ => ?_)
    exact aff_0_2 F1 F2 F3 F4 X1 X2 hQp hfin _ _ ((put_size a 52 _).trans hs) (Lib.hid ((put_defers a 52 _).trans hd.out)) (hb.alloc hb.size _) W.heap.size ((put_other a 52 46 _ (by omega)).trans g46) ((put_other a 52 57 _ (by omega)).trans g57) ((put_other a 52 61 _ (by omega)).trans g61) (put_same a 52 _ hs (by omega)) (cell_new _ _ _) _ (by kernel_rfl) _ rfl
  refine AllReadyH.cons (o := { dst := some 58, op := Go.Op.buildSlice 37 1 #[(0, Go.Operand.tmp 57)], type := 37, pos :=  "law.go:148", after := #[{ on := 13, ground := Go.Ground.data }], guard := none }) rfl (fun K hK => ?_) ?_
  · have e57 : a.tmps[57]'(by omega) = .slice p3 m3 k3 := by have h := g57; simp [Array.getD, hs] at h; exact h
    go_simp
    refine hK.out _ _ trivial (fun _ => ?_)
    exact aff_0_3 F1 F2 F3 F4 X1 X2 hQp hfin _ _ ((put_size a 58 _).trans hs) (Lib.hid ((put_defers a 58 _).trans hd.out)) (hb.alloc hb.size _) W.heap.size ((put_other a 58 46 _ (by omega)).trans g46) ((put_other a 58 51 _ (by omega)).trans g51) ((put_other a 58 61 _ (by omega)).trans g61) (put_same a 58 _ hs (by omega)) (cell_new _ _ _) _ (by kernel_rfl) _ rfl
  refine AllReadyH.cons (o := { dst := some 62, op := Go.Op.buildSlice 37 1 #[(0, Go.Operand.tmp 61)], type := 37, pos :=  "law.go:148", after := #[{ on := 17, ground := Go.Ground.data }], guard := none }) rfl (fun K hK => ?_) ?_
  · have e61 : a.tmps[61]'(by omega) = .slice p4 m4 k4 := by have h := g61; simp [Array.getD, hs] at h; exact h
    go_simp
    refine hK.out _ _ trivial (fun _ => ?_)
    exact aff_0_4 F1 F2 F3 F4 X1 X2 hQp hfin _ _ ((put_size a 62 _).trans hs) (Lib.hid ((put_defers a 62 _).trans hd.out)) (hb.alloc hb.size _) W.heap.size ((put_other a 62 46 _ (by omega)).trans g46) ((put_other a 62 51 _ (by omega)).trans g51) ((put_other a 62 57 _ (by omega)).trans g57) (put_same a 62 _ hs (by omega)) (cell_new _ _ _) _ (by kernel_rfl) _ rfl
  exact AllReadyH.nil
end Go.Proofs.Ytojkegnflbfloaa
