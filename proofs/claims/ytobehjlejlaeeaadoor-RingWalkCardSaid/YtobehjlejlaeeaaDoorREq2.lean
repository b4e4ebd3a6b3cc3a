/- A table compared with itself, at the operation. -/
import Derived.Test.YtobehjlejlaeeaaDoorREq
namespace Go.Proofs.YtobehjlejlaeeaaDoor
open Go.RowKit

section
variable {P : Program} {ops : Array Oper} {rest : List Oper} {o : Oper} {a : Act} {w : World} {Q : Exit → Act → World → Prop}
theorem wp_eql_self {K : Act → World → Prop} (t : TypeId) (x y : Operand) (t' : TypeId) (ho : o.op = .binOp .eql t x y t') (C : Array Value) (hx : a.eval x = .agg C) (hy : a.eval y = .agg C) (hg : P.eqGuardType P.depth t = false)
    (he : (Op.equalIn 10000 t (.agg C) (.agg C)).run P w = .ok true w) (h : K (a.put o.dst (.bool true)) w) : o.wp P a w K Q := by
  unfold Oper.wp
  simp [execOp, ho, hx, hy, run_eqGuard_agg, hg, run_eql_struct, he, Result.andThen]
  exact h
theorem wp_neq_self {K : Act → World → Prop} (t : TypeId) (x y : Operand) (t' : TypeId) (ho : o.op = .binOp .neq t x y t') (C : Array Value) (hx : a.eval x = .agg C) (hy : a.eval y = .agg C) (hg : P.eqGuardType P.depth t = false)
    (he : (Op.equalIn 10000 t (.agg C) (.agg C)).run P w = .ok true w) (h : K (a.put o.dst (.bool false)) w) : o.wp P a w K Q := by
  unfold Oper.wp
  simp [execOp, ho, hx, hy, run_eqGuard_agg, hg, run_neq_struct, he, Result.andThen]
  exact h
theorem wpList_eql_self (hw : Region.wanted o (yielded ops a.tmps) = true) (t : TypeId) (x y : Operand) (t' : TypeId) (ho : o.op = .binOp .eql t x y t') (C : Array Value) (hx : a.eval x = .agg C) (hy : a.eval y = .agg C) (hg : P.eqGuardType P.depth t = false)
    (he : (Op.equalIn 10000 t (.agg C) (.agg C)).run P w = .ok true w) (h : wpList P ops Q rest (a.put o.dst (.bool true)) w) : wpList P ops Q (o :: rest) a w :=
  Go.BigFrame.wpList_want hw fun _ hK => wp_eql_self t x y t' ho C hx hy hg he (hK _ _ h)
theorem wpList_neq_self (hw : Region.wanted o (yielded ops a.tmps) = true) (t : TypeId) (x y : Operand) (t' : TypeId) (ho : o.op = .binOp .neq t x y t') (C : Array Value) (hx : a.eval x = .agg C) (hy : a.eval y = .agg C) (hg : P.eqGuardType P.depth t = false)
    (he : (Op.equalIn 10000 t (.agg C) (.agg C)).run P w = .ok true w) (h : wpList P ops Q rest (a.put o.dst (.bool false)) w) : wpList P ops Q (o :: rest) a w :=
  Go.BigFrame.wpList_want hw fun _ hK => wp_neq_self t x y t' ho C hx hy hg he (hK _ _ h)
theorem exec_eql_self (ρ : Operand → Value) (t : TypeId) (x y : Operand) (t' : TypeId) (ho : o.op = .binOp .eql t x y t') (C : Array Value) (hx : ρ x = .agg C) (hy : ρ y = .agg C) (hg : P.eqGuardType P.depth t = false)
    (he : (Op.equalIn 10000 t (.agg C) (.agg C)).run P w = .ok true w) : (execOp ρ o).run P w = .ok (.value (.bool true)) w := by
  simp [execOp, ho, hx, hy, run_eqGuard_agg, hg, run_eql_struct, he, Result.andThen]
end
theorem guardT : Tryd.prog.eqGuardType Tryd.prog.depth 32 = false := by kernel_rfl
theorem guardR : Tryd.prog.eqGuardType Tryd.prog.depth 36 = false := by kernel_rfl
theorem guardA : Tryd.prog.eqGuardType Tryd.prog.depth 30 = false := by kernel_rfl
theorem eq_arr2 (o : List Int) (h : o.length = 16) (hin : ∀ y ∈ o, In64 y) (w : World) : (Op.equalIn 10000 30 (.agg (acs o)) (.agg (acs o))).run Tryd.prog w = .ok true w := by
  obtain ⟨l, hl⟩ := lits_arr o h hin
  obtain ⟨r, hr, hi⟩ := run_equalIn_deep (P := Tryd.prog) 9998 2 30 (by kernel_rfl) w 2 2 (.agg (acs o)) (.agg (acs o)) l l
    (by simp [Value.formed, Tryd.underlying30, acs_size, h]; kernel_rfl) (by simp [Value.formed, Tryd.underlying30, acs_size, h]; kernel_rfl) (by simpa [Value.cells, acs] using hl) (by simpa [Value.cells, acs] using hl)
  have ht : r = true := hi.2 rfl
  subst ht
  rw [show (10000 : Nat) = 9998 + 2 from rfl]
  exact hr
theorem zeros_in : ∀ y ∈ noOwn, In64 y := by
  intro y hy
  have : y = 0 := List.eq_of_mem_replicate hy
  subst this
  unfold In64
  omega
theorem in64_0 : In64 0 := by unfold In64; omega
end Go.Proofs.YtobehjlejlaeeaaDoor
