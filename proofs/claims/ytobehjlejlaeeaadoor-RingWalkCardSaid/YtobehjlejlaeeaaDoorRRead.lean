/- Tables asked: Diff and Slots. -/
import Derived.Test.YtobehjlejlaeeaaDoorRMoveG
import Derived.Deep.MidRow
namespace Go.Proofs.YtobehjlejlaeeaaDoor
open Go.RowKit

theorem Tryd.infoI : (Tryd.prog.info? 3).map (fun i => (i.zero, i.size, i.bytes)) = some (some (.int .i64 0), 1, 8) := by kernel_rfl
/-- The owners' cells. -/
def acs (o : List Int) : Array Value := (o.map (Value.int .i64)).toArray
theorem acs_at (o : List Int) (s : Nat) (hs : s < o.length) : (acs o)[s]? = some (.int .i64 (o.getD s 0)) := by simp [acs, hs]
theorem acs_size (o : List Int) : (acs o).size = o.length := by simp [acs]
theorem range_owners {w : World} {g : Nat} {T : Array Value} {e : Int} {o : List Int} (h : Whole w g 32 T) (hT : TabC T e o) : w.rangeAt g 1 (acs o).toList := by
  intro j v hv
  have hj : j < o.length := by
    have := (List.getElem?_eq_some_iff.1 hv).1
    simpa [acs] using this
  rw [Array.getElem?_toList, acs_at o j hj] at hv
  injection hv with hv
  subst hv
  rw [h.cell]
  exact hT.cs j (by rw [← hT.len]; exact hj)
theorem index_run (cs : Array Value) (i : Nat) (x : Int) (hi : i < 16) (h : cs[i]? = some (.int .i64 x)) (w : World) : (Instr.index 30 (.agg cs) (.int .i64 (i : Int))).run Tryd.prog w = .ok (.int .i64 x) w := by
  have h1 : (sizeOf 3).run Tryd.prog w = .ok 1 w := by kernel_rfl
  have h2 : (part 3 cs i).run Tryd.prog w = .ok (.int .i64 x) w := by
    have ha : (isAgg 3).run Tryd.prog w = .ok false w := by kernel_rfl
    unfold part
    simp [Sem.run_bind, ha, h]
  simp [Instr.index, asIntOf, run_underlying Tryd.underlying30, h1, h2]
  intro h3
  omega
theorem owns_base {w : World} {B B' n k : Nat} {e : TypeId} {v : Value} {l : List Value} (h : w.ownsRow B e k v n l) (hb : B' ≤ B) : w.ownsRow B' e k v n l := by
  refine ⟨h.1, ?_⟩
  rcases h.2 with h2 | ⟨g, cap, cur, rfl, h3, h4, r⟩
  · exact .inl h2
  · exact .inr ⟨g, cap, cur, rfl, by omega, h4, r⟩
/-- A number put behind a row. -/
theorem row_one {w w0 : World} {base n : Nat} {v : Value} {xs : List Value} (hv : w.ownsRow base 3 1 v n xs) (hb : Below base w0 w) (x : Int) (hn : n ≤ 1048576) {ops : Array Oper} {rest : List Oper} {o : Oper} {a : Act} {Q : Exit → Act → World → Prop} (hgd : o.guard = none) (s y : Operand)
    (ho : o.op = .call { callee := .builtin .append, args := #[s, y], argTypes := #[44, 44] }) (hs : a.eval s = v) (hy : a.eval y = .slice (some ⟨w.heap.size, 0, none⟩) 1 1) (hB : base ≤ w.heap.size)
    (h : ∀ v' w', w'.ownsRow base 3 1 v' (n + 1) (xs ++ [.int .i64 x]) → Below base w0 w' → wpList Tryd.prog ops Q rest (a.put o.dst v') w') : wpList Tryd.prog ops Q (o :: rest) a (w.alloc (.cells #[.int .i64 x] 3)) := by
  obtain ⟨i0, hi0, hz0, hz1, hz2⟩ := info_of Tryd.infoI
  refine wpList_append_own_any _ hgd s y 44 ho base 3 i0 (.int .i64 0) 1 8 Tryd.underlying44 hi0 hz0 hz1 hz2 rfl (by decide) v n xs hs (owns_alloc2 hv _) (some ⟨w.heap.size, 0, none⟩) 1 1 [.int .i64 x] hy rfl (by intro e; cases e) (by intro ad e j u hu; cases e; rw [add_plain, Nat.zero_add, new_cell]; simpa using hu) (by simp [Value.oneCell']) (by unfold maxLen; omega) (by omega) (by simp; omega) ?_
  intro v' w' h1 h2
  exact h v' w' h1 ((hb.alloc hB _).grown h2 (by simp; omega) (fun q hq => (hv.lt q hq).1))
theorem Tryd.infoA : (Tryd.prog.info? 30).map (·.size) = some 16 := by kernel_rfl

set_option maxRecDepth 100000 in
set_option maxHeartbeats 8000000 in
theorem diff_any {T U : Array Value} {e f : Int} {a b : List Int} (w : World) (hT : TabC T e a) (hU : TabC U f b) :
    Calls Tryd.prog 20 #[.agg T, .agg U] w fun x w' => (∃ v, x = .returned v ∧ w'.ownsRow w.heap.size 3 1 v (Mt.ups (Mt.other a b) 16).length ((Mt.ups (Mt.other a b) 16).map (fun s : Nat => Value.int .i64 (s : Int)))) ∧ Below w.heap.size w w' := by
  obtain ⟨hA, hZ, hz, hB⟩ := two_made w T U
  obtain ⟨W1, hW1⟩ : ∃ W1, W1 = (w.alloc (.cells T 32)).alloc (.cells U 32) := ⟨_, rfl⟩
  have HR := Lib.hid (range_owners hA hT)
  rw [← hW1] at hA hZ hz hB
  have HW1 := Lib.hid hW1
  have HA := Lib.hid hA; have HZ := Lib.hid hZ; have HB := Lib.hid hB; have HT := Lib.hid hT; have HU := Lib.hid hU
  have HI := Lib.hid (show (Tryd.prog.info? 30).map (·.size) = some (acs a).toList.length by rw [Array.length_toList, acs_size, hT.len]; exact Tryd.infoA)
  clear hA hZ hB hT hU hW1
  go_enter Tryd.func20, Tryd.ntmps20
  have HO := Lib.hid (World.ownsRow_nil W1 W1.heap.size 3 1)
  have HZS := Lib.hid hz
  clear hz
  go_wp2_with (refine wpList_load_mid rfl 30 (.tmp 8) rfl w.heap.size 1 rfl (acs a).toList _ HR.out Tryd.underlying30 rfl HI.out ?_; rw [← HW1.out])
  go_loopw [5, 10] (fun v iv wr => (∃ i : Nat, i ≤ 16 ∧ iv = .int .i64 i ∧ wr.ownsRow W1.heap.size 3 1 v (Mt.ups (Mt.other a b) i).length ((Mt.ups (Mt.other a b) i).map (fun s : Nat => Value.int .i64 (s : Int)))) ∧ Below W1.heap.size W1 wr) (fun _ iv _ => 16 - (intOf iv).toNat)
  case atStart => exact ⟨⟨0, by omega, rfl, HO.out⟩, Below.refl _ _⟩
  case round =>
    obtain ⟨⟨i, hi, rfl, hv⟩, hb⟩ := hrel
    by_cases hlt : i < 16
    · have c1 : wr.cell? ⟨w.heap.size + 1, 1 + i, none⟩ = some (.int .i64 (b.getD i 0)) := by rw [(HZ.out.kept (hb.block _ HZ.out.lt)).cell]; exact HU.out.cs i hlt
      have c2 := acs_at a i (by rw [HT.out.len]; exact hlt)
      have hle := Mt.ups_len (Mt.other a b) i
      have HV := Lib.hid hv; have HBB := Lib.hid hb
      have hsz := hb.size
      clear hv hb
      by_cases hne : a.getD i 0 = b.getD i 0
      · have HN := Lib.hid (Mt.ups_no (f := Mt.other a b) (n := i) (by unfold Mt.other; simpa using hne))
        rw [hne] at c2
        have c3 := index_run _ i _ hlt c2
        generalize b.getD i 0 = x at *
        clear hne c2
        go_wp2
        go_roundw
        case rel => exact ⟨⟨i + 1, by omega, by go_num, by rw [HN.out]; exact HV.out⟩, HBB.out⟩
        case measure => simp [intOf]; omega
      · have HN := Lib.hid (Mt.ups_yes (f := Mt.other a b) (n := i) (by unfold Mt.other; simpa using hne))
        have c3 := index_run _ i _ hlt c2
        generalize b.getD i 0 = x at *
        generalize a.getD i 0 = y at *
        clear c2
        go_wp2_with (at_builtin; (refine row_one HV.out HBB.out (i : Int) (by omega) rfl (.tmp 20) (.tmp 22) rfl rfl rfl hsz ?_); intro v2 w2 ho2 hb2
                     have HO2 := Lib.hid ho2; have HB2 := Lib.hid hb2; clear ho2 hb2)
        go_roundw
        case rel => exact ⟨⟨i + 1, by omega, by go_num, by rw [HN.out]; simpa using HO2.out⟩, HB2.out⟩
        case measure => simp [intOf]; omega
    · obtain rfl : i = 16 := by omega
      have HV := Lib.hid hv; have HBB := Lib.hid hb
      clear hv hb
      go_wp2
      go_ret
      exact ⟨⟨_, rfl, owns_base HV.out HB.out.size⟩, HB.out.trans (HBB.out.mono HB.out.size)⟩

set_option maxRecDepth 100000 in
set_option maxHeartbeats 8000000 in
theorem slots_any {T : Array Value} {e : Int} {a : List Int} (x : Int) (w : World) (hT : TabC T e a) :
    Calls Tryd.prog 21 #[.agg T, .int .i64 x] w fun r w' => (∃ v, r = .returned v ∧ w'.ownsRow w.heap.size 3 1 v (Mt.ups (Mt.is a x) 16).length ((Mt.ups (Mt.is a x) 16).map (fun s : Nat => Value.int .i64 (s : Int)))) ∧ Below w.heap.size w w' := by
  obtain ⟨W1, hW1⟩ : ∃ W1, W1 = w.alloc (.cells T 32) := ⟨_, rfl⟩
  have hA : Whole W1 w.heap.size 32 T := by rw [hW1]; exact heap_alloc_new _ _
  have HR := Lib.hid (range_owners hA hT)
  have HB := Lib.hid (show Below w.heap.size w W1 by rw [hW1]; exact below_alloc _ _)
  rw [hW1] at HR
  have HW1 := Lib.hid hW1
  have HT := Lib.hid hT
  have HI := Lib.hid (show (Tryd.prog.info? 30).map (·.size) = some (acs a).toList.length by rw [Array.length_toList, acs_size, hT.len]; exact Tryd.infoA)
  have HO := Lib.hid (World.ownsRow_nil W1 W1.heap.size 3 1)
  clear hA hT hW1
  go_enter Tryd.func21, Tryd.ntmps21
  go_wp2_with (refine wpList_load_mid rfl 30 (.tmp 8) rfl w.heap.size 1 rfl (acs a).toList _ HR.out Tryd.underlying30 rfl HI.out ?_; rw [← HW1.out])
  go_loopw [5, 10] (fun v iv wr => (∃ i : Nat, i ≤ 16 ∧ iv = .int .i64 i ∧ wr.ownsRow W1.heap.size 3 1 v (Mt.ups (Mt.is a x) i).length ((Mt.ups (Mt.is a x) i).map (fun s : Nat => Value.int .i64 (s : Int)))) ∧ Below W1.heap.size W1 wr) (fun _ iv _ => 16 - (intOf iv).toNat)
  case atStart => exact ⟨⟨0, by omega, rfl, HO.out⟩, Below.refl _ _⟩
  case round =>
    obtain ⟨⟨i, hi, rfl, hv⟩, hb⟩ := hrel
    by_cases hlt : i < 16
    · have c2 := acs_at a i (by rw [HT.out.len]; exact hlt)
      have c3 := index_run _ i _ hlt c2
      have hle := Mt.ups_len (Mt.is a x) i
      have HV := Lib.hid hv; have HBB := Lib.hid hb
      have hsz := hb.size
      clear hv hb c2
      by_cases hne : a.getD i 0 = x
      · have HN := Lib.hid (Mt.ups_yes (f := Mt.is a x) (n := i) (by unfold Mt.is; simpa using hne))
        rw [hne] at c3
        clear hne
        go_wp2_with (at_builtin; (refine row_one HV.out HBB.out (i : Int) (by omega) rfl (.tmp 17) (.tmp 19) rfl rfl rfl hsz ?_); intro v2 w2 ho2 hb2
                     have HO2 := Lib.hid ho2; have HB2 := Lib.hid hb2; clear ho2 hb2)
        go_roundw
        case rel => exact ⟨⟨i + 1, by omega, by go_num, by rw [HN.out]; simpa using HO2.out⟩, HB2.out⟩
        case measure => simp [intOf]; omega
      · have HN := Lib.hid (Mt.ups_no (f := Mt.is a x) (n := i) (by unfold Mt.is; simpa using hne))
        generalize a.getD i 0 = y at *
        go_wp2
        go_roundw
        case rel => exact ⟨⟨i + 1, by omega, by go_num, by rw [HN.out]; exact HV.out⟩, HBB.out⟩
        case measure => simp [intOf]; omega
    · obtain rfl : i = 16 := by omega
      have HV := Lib.hid hv; have HBB := Lib.hid hb
      clear hv hb
      go_wp2
      go_ret
      exact ⟨⟨_, rfl, owns_base HV.out HB.out.size⟩, HB.out.trans (HBB.out.mono HB.out.size)⟩
end Go.Proofs.YtobehjlejlaeeaaDoor
