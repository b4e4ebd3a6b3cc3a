/- A table is what it is. -/
import Derived.Test.YtobehjlejlaeeaaDoorROpen
import Derived.Laws.StructEq
namespace Go.Proofs.YtobehjlejlaeeaaDoor
open Go.RowKit

theorem lits_arr (o : List Int) (h : o.length = 16) (hin : ∀ y ∈ o, In64 y) : ∃ l, Tryd.prog.keyLits 2 30 (o.map (Value.int .i64)) = some l := by
  have hc : Tryd.prog.cellsOf 30 = 16 := by kernel_rfl
  have k1 : Tryd.prog.cellsOf 3 = 1 := by kernel_rfl
  have hm : ∀ is : List Nat, (∀ i ∈ is, i < 16) → ∃ l, (is.mapM fun i => Tryd.prog.keyLits 1 3 (((o.map (Value.int .i64)).drop (i * Tryd.prog.cellsOf 3)).take (Tryd.prog.cellsOf 3))) = some l := by
    intro is
    induction is with
    | nil => exact fun _ => ⟨[], rfl⟩
    | cons i is ih =>
      intro hi
      obtain ⟨l, hl⟩ := ih (fun j hj => hi j (by simp [hj]))
      have hio : i < o.length := by rw [h]; exact hi i (by simp)
      have h1 : ((o.map (Value.int .i64)).drop (i * Tryd.prog.cellsOf 3)).take (Tryd.prog.cellsOf 3) = [.int .i64 o[i]] := by
        rw [k1, Nat.mul_one]
        apply List.ext_getElem?
        intro j
        rw [List.getElem?_take, List.getElem?_drop]
        cases j with
        | zero => simp [hio]
        | succ j => simp
      have h2 : Tryd.prog.keyLits 1 3 [.int .i64 o[i]] = some [.int .i64 o[i]] := by
        simp [Program.keyLits, Tryd.underlying3, in64_wf (hin o[i] (List.getElem_mem hio))]
      refine ⟨[.int .i64 o[i]] :: l, ?_⟩
      rw [List.mapM_cons, h1, h2, hl]
      rfl
  obtain ⟨l, hl⟩ := hm (List.range 16) (fun i hi => List.mem_range.1 hi)
  refine ⟨l.flatten, ?_⟩
  unfold Program.keyLits
  rw [Tryd.underlying30]
  simp only
  rw [if_pos (by rw [List.length_map, h, hc])]
  rw [hl]
  rfl
theorem eq_arr (o : List Int) (h : o.length = 16) (hin : ∀ y ∈ o, In64 y) (w : World) : (binOp .eql 30 (.agg (acs o)) (.agg (acs o))).run Tryd.prog w = .ok (.bool true) w := by
  obtain ⟨l, hl⟩ := lits_arr o h hin
  obtain ⟨r, hr, hi⟩ := run_equalIn_deep (P := Tryd.prog) 9998 2 30 (by kernel_rfl) w 2 2 (.agg (acs o)) (.agg (acs o)) l l
    (by simp [Value.formed, Tryd.underlying30, acs_size, h]; kernel_rfl) (by simp [Value.formed, Tryd.underlying30, acs_size, h]; kernel_rfl) (by simpa [Value.cells, acs] using hl) (by simpa [Value.cells, acs] using hl)
  have ht : r = true := hi.2 rfl
  subst ht
  rw [run_eql_struct, show (10000 : Nat) = 9998 + 2 from rfl, hr]
  rfl
theorem lits_tab (e : Int) (o : List Int) (h : o.length = 16) (he : In64 e) (hin : ∀ y ∈ o, In64 y) : ∃ l, Tryd.prog.keyLits 3 32 (tcs e o).toList = some l := by
  obtain ⟨l, hl⟩ := lits_arr o h hin
  have k1 : Tryd.prog.cellsOf 2 = 1 := by kernel_rfl
  have k16 : Tryd.prog.cellsOf 30 = 16 := by kernel_rfl
  have k17 : Tryd.prog.cellsOf 32 = 17 := by kernel_rfl
  have h0 : Tryd.prog.keyLits 2 2 [.int .i64 e] = some [.int .i64 e] := by simp [Program.keyLits, Tryd.underlying2, in64_wf he]
  have h1 : ((tcs e o).toList.drop 0).take 1 = [.int .i64 e] := by simp [tcs]
  have h2 : ((tcs e o).toList.drop 1).take 16 = o.map (Value.int .i64) := by
    simp [tcs]
    rw [List.take_of_length_le (by simp [h])]
  refine ⟨[.int .i64 e] ++ l, ?_⟩
  unfold Program.keyLits
  rw [Tryd.underlying32]
  simp only
  rw [if_pos (by rw [k17]; simp [tcs, h])]
  simp only [List.mapM_cons, List.mapM_nil, k1, k16, h1, h2, h0, hl]
  simp
theorem eq_tab (e : Int) (o : List Int) (h : o.length = 16) (he : In64 e) (hin : ∀ y ∈ o, In64 y) (w : World) : (Op.equalIn 10000 32 (.agg (tcs e o)) (.agg (tcs e o))).run Tryd.prog w = .ok true w := by
  obtain ⟨l, hl⟩ := lits_tab e o h he hin
  obtain ⟨r, hr, hi⟩ := run_equalIn_deep (P := Tryd.prog) 9997 3 32 (by kernel_rfl) w 3 3 (.agg (tcs e o)) (.agg (tcs e o)) l l
    (by simp [Value.formed, Tryd.underlying32, tcs_size e o h]; kernel_rfl) (by simp [Value.formed, Tryd.underlying32, tcs_size e o h]; kernel_rfl) (by simpa [Value.cells] using hl) (by simpa [Value.cells] using hl)
  have ht : r = true := hi.2 rfl
  subst ht
  rw [show (10000 : Nat) = 9997 + 3 from rfl]
  exact hr
theorem lits_tabR (e : Int) (o : List Int) (h : o.length = 16) (he : In64 e) (hin : ∀ y ∈ o, In64 y) : ∃ l, Tryd.prog.keyLits 3 36 (tcs e o).toList = some l := by
  obtain ⟨l, hl⟩ := lits_arr o h hin
  have k1 : Tryd.prog.cellsOf 2 = 1 := by kernel_rfl
  have k16 : Tryd.prog.cellsOf 30 = 16 := by kernel_rfl
  have k17 : Tryd.prog.cellsOf 36 = 17 := by kernel_rfl
  have h0 : Tryd.prog.keyLits 2 2 [.int .i64 e] = some [.int .i64 e] := by simp [Program.keyLits, Tryd.underlying2, in64_wf he]
  have h1 : ((tcs e o).toList.drop 0).take 1 = [.int .i64 e] := by simp [tcs]
  have h2 : ((tcs e o).toList.drop 1).take 16 = o.map (Value.int .i64) := by
    simp [tcs]
    rw [List.take_of_length_le (by simp [h])]
  refine ⟨[.int .i64 e] ++ l, ?_⟩
  unfold Program.keyLits
  rw [Tryd.underlying36]
  simp only
  rw [if_pos (by rw [k17]; simp [tcs, h])]
  simp only [List.mapM_cons, List.mapM_nil, k1, k16, h1, h2, h0, hl]
  simp
theorem eq_tabR (e : Int) (o : List Int) (h : o.length = 16) (he : In64 e) (hin : ∀ y ∈ o, In64 y) (w : World) : (Op.equalIn 10000 36 (.agg (tcs e o)) (.agg (tcs e o))).run Tryd.prog w = .ok true w := by
  obtain ⟨l, hl⟩ := lits_tabR e o h he hin
  obtain ⟨r, hr, hi⟩ := run_equalIn_deep (P := Tryd.prog) 9997 3 36 (by kernel_rfl) w 3 3 (.agg (tcs e o)) (.agg (tcs e o)) l l
    (by simp [Value.formed, Tryd.underlying36, tcs_size e o h]; kernel_rfl) (by simp [Value.formed, Tryd.underlying36, tcs_size e o h]; kernel_rfl) (by simpa [Value.cells] using hl) (by simpa [Value.cells] using hl)
  have ht : r = true := hi.2 rfl
  subst ht
  rw [show (10000 : Nat) = 9997 + 3 from rfl]
  exact hr
end Go.Proofs.YtobehjlejlaeeaaDoor
