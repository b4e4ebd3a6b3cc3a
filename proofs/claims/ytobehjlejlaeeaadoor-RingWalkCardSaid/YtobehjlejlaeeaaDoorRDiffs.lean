/- RingDiffs: the slots that have other owners in two tables; a move and the move back. -/
import Derived.Test.YtobehjlejlaeeaaDoorREq2
import Derived.Deep.DeepCutAuto
import Derived.Deep.CutBlock
import Derived.OrdersHeld
namespace Go.Proofs.YtobehjlejlaeeaaDoor
open Go.RowKit

theorem Mt.ups_at {f : Nat → Bool} {n s : Nat} (hs : s < n) (h : f s = true) : (Mt.ups f n)[(Mt.ups f s).length]? = some s := by
  induction n with
  | zero => omega
  | succ n ih =>
    by_cases hn : s = n
    · subst hn
      rw [Mt.ups_yes h]
      simp
    · have := ih (by omega)
      by_cases hf : f n = true
      · rw [Mt.ups_yes hf, List.getElem?_append_left (List.getElem?_eq_some_iff.1 this).1]
        exact this
      · rw [Mt.ups_no (by simpa using hf)]
        exact this
theorem exec_row {P : Program} (ρ : Operand → Value) (o : Oper) (w : World) (ty : TypeId) (x : Operand) (ho : o.op = .load ty x) (g : Nat) (hx : ρ x = .pointer (some ⟨g, 0, none⟩)) (t : TypeId) (cs : Array Value) (d : TypeDesc) (hg : Whole w g t cs)
    (hu : P.underlying ty = some d) (hd : (match d with | .struct _ | .array _ _ => true | _ => false) = true) (hi : (P.info? ty).map (·.size) = some cs.size) : (execOp ρ o).run P w = .ok (.value (.agg cs)) w := by
  unfold execOp
  simp only [ho, hx, Instr.loadAt, Instr.sureAddr, Sem.run_bind, Sem.run_pure, Result.andThen_ok, run_loadVar_row w g t ty cs (0, 0) d hg hu hd hi]

theorem Mt.move_cases (e : Int) (o : List Int) (t : Nat) (y : Int) :
    (Mt.move e o t y = (e + 1, o.set t y, 0) ∧ o.getD t 0 ≠ y ∧ 0 ≤ y ∧ y ≤ 7 ∧ 0 ≤ e ∧ e ≤ 1125899906842623) ∨ Mt.move e o t y = (0, noOwn, 1) ∨ (Mt.move e o t y = (0, noOwn, 5) ∧ o.getD t 0 = y) := by
  by_cases h : (t : Int) < 0 ∨ 15 < (t : Int) ∨ y < 0 ∨ 7 < y ∨ e < 0 ∨ 1125899906842623 < e
  · exact .inr (.inl (by unfold Mt.move; rw [if_pos h]; rfl))
  · by_cases h6 : o.getD t 0 = y
    · exact .inr (.inr ⟨by unfold Mt.move; rw [if_neg h, if_pos (by simpa using h6)]; rfl, h6⟩)
    · exact .inl ⟨by unfold Mt.move; rw [if_neg h, if_neg (by simpa using h6)]; simp, h6, by omega, by omega, by omega, by omega⟩
theorem set_back (a : List Int) (t : Nat) (y : Int) (ht : t < a.length) : (a.set t y).set t (a.getD t 0) = a := by
  rw [List.set_set]
  apply List.ext_getElem
  · simp
  · intro j h1 h2
    rw [List.getElem_set]
    split
    · next h =>
      subst h
      simp [List.getD, ht]
    · rfl
theorem set_at (a : List Int) (t : Nat) (y : Int) (ht : t < a.length) : (a.set t y).getD t 0 = y := by
  simp [List.getD, ht]
set_option maxRecDepth 100000 in
set_option maxHeartbeats 16000000 in
theorem diffs_walk (e f : Int) (a b : List Int) (slot : Int) (w : World) (hla : a.length = 16) (hlb : b.length = 16) (hia : ∀ y ∈ a, In64 y) :
    Calls Tryd.prog 6 #[.agg (tcs e a), .agg (tcs f b), .int .i64 slot] w fun r w' => r = .returned (.bool true) ∧ Below w.heap.size w w' := by
  obtain ⟨hA, hZ, hz, hB⟩ := two_made w (tcs e a) (tcs f b)
  obtain ⟨W1, hW1⟩ : ∃ W1, W1 = (w.alloc (.cells (tcs e a) 32)).alloc (.cells (tcs f b) 32) := ⟨_, rfl⟩
  rw [← hW1] at hA hZ hz hB
  have HW1 := Lib.hid hW1
  have HA := Lib.hid hA; have HZ := Lib.hid hZ; have HB := Lib.hid hB
  have HTA := Lib.hid (TabC.mk' e a hla)
  have HTB := Lib.hid (TabC.mk' f b hlb)
  clear hA hZ hz hB hW1
  go_enter Tryd.func6, Tryd.ntmps6
  go_wp2_with (first
    | (go_at_call 8; rw [← HW1.out]; refine (awake_any _).mono ?_; rintro r w2 ⟨rfl, hb2⟩; have HA2 := Lib.hid (HA.out.kept (hb2.block _ HA.out.lt)); have HZ2 := Lib.hid (HZ.out.kept (hb2.block _ HZ.out.lt)); have HB2 := Lib.hid (HB.out.trans (hb2.mono HB.out.size)); clear hb2)
    | (refine wpList_load_row rfl 32 (.tmp 3) rfl w.heap.size rfl 32 (tcs e a) (0, 0) _ HA2.out Tryd.underlying32 rfl HTA.out.info ?_)
    | (refine wpList_load_row rfl 32 (.tmp 4) rfl (w.heap.size + 1) rfl 32 (tcs f b) (0, 0) _ HZ2.out Tryd.underlying32 rfl HTB.out.info ?_)
    | (go_at_call 20; refine (diff_any _ HTA.out HTB.out).mono ?_; rintro r w3 ⟨⟨v, rfl, hv⟩, hb3⟩; obtain ⟨a3, c3, rfl, hl3⟩ := Lies.owned hv
       have HL3 := Lib.hid hl3
       have HA3 := Lib.hid (HA2.out.kept (hb3.block _ HA2.out.lt)); have HZ3 := Lib.hid (HZ2.out.kept (hb3.block _ HZ2.out.lt))
       have HB3 := Lib.hid (HB2.out.trans (hb3.mono HB2.out.size)); clear hb3 hv hl3))
  have HUA := Lib.hid (fun s (hs : s < 16) (h : Mt.other a b s = true) => Mt.ups_at (f := Mt.other a b) hs h)
  have hN := Mt.ups_len (Mt.other a b) 16
  generalize hl : Mt.ups (Mt.other a b) 16 = l at *
  have HLN := Lib.hid hl
  generalize hNN : l.length = N at *
  have HNN := Lib.hid hNN
  clear hl hNN
  go_loopw [7, 9] (fun nv sv wr => (∃ s : Nat, s ≤ 16 ∧ sv = .int .i64 s ∧ nv = .int .i64 ((Mt.ups (Mt.other a b) s).length : Nat)) ∧ Below w3.heap.size w3 wr) (fun _ sv _ => 16 - (intOf sv).toNat)
  case atStart => exact ⟨⟨0, by omega, rfl, rfl⟩, Below.refl _ _⟩
  case round =>
    obtain ⟨⟨s, hs, rfl, rfl⟩, hb⟩ := hrel
    have HB4 := Lib.hid hb
    by_cases hlt : s < 16
    · have c1 : wr.cell? ⟨w.heap.size, 1 + s, none⟩ = some (.int .i64 (a.getD s 0)) := by rw [(HA3.out.kept (hb.block _ HA3.out.lt)).cell]; exact HTA.out.cs s hlt
      have c2 : wr.cell? ⟨w.heap.size + 1, 1 + s, none⟩ = some (.int .i64 (b.getD s 0)) := by rw [(HZ3.out.kept (hb.block _ HZ3.out.lt)).cell]; exact HTB.out.cs s hlt
      have hk := Mt.ups_len (Mt.other a b) s
      by_cases hne : a.getD s 0 = b.getD s 0
      · have HN := Lib.hid (Mt.ups_no (f := Mt.other a b) (n := s) (by unfold Mt.other; simpa using hne))
        rw [hne] at c1
        generalize b.getD s 0 = y at *
        clear hne hb
        go_wp2
        go_region
        all_goals
          go_wp2
          go_roundw
          case rel => exact ⟨⟨s + 1, by omega, by go_num, by rw [HN.out]⟩, HB4.out.trans ((below_drewN wr 1).mono HB4.out.size)⟩
          case measure => simp [intOf]; omega
      · have hy : Mt.other a b s = true := by unfold Mt.other; simpa using hne
        have HN := Lib.hid (Mt.ups_yes (f := Mt.other a b) (n := s) hy)
        have hat := HUA.out s hlt hy
        have hkN := (List.getElem?_eq_some_iff.1 hat).1
        obtain ⟨b3, o3, rfl, hb3l, c3'⟩ := nums_at HL3.out hat
        have c4 := (hb.cell (p := ⟨b3, o3 + (Mt.ups (Mt.other a b) s).length, none⟩) hb3l).trans c3'
        rw [HNN.out] at hkN
        generalize hk' : (Mt.ups (Mt.other a b) s).length = k at *
        have HK := Lib.hid hk'
        clear hk'
        generalize b.getD s 0 = y at *
        generalize a.getD s 0 = x at *
        clear hat hb c3' hy
        go_wp2
        go_region
        all_goals
          go_wp2
          go_roundw
          case rel => exact ⟨⟨s + 1, by omega, by go_num, by rw [HN.out, List.length_append, HK.out]; go_num⟩, HB4.out.trans ((below_drewN wr 1).mono HB4.out.size)⟩
          case measure => simp [intOf]; omega
    · obtain rfl : s = 16 := by omega
      rw [HLN.out, HNN.out]
      have HA4 := Lib.hid (HA3.out.kept (hb.block _ HA3.out.lt)); have HZ4 := Lib.hid (HZ3.out.kept (hb.block _ HZ3.out.lt))
      have HB5 := Lib.hid (HB3.out.trans (hb.mono HB3.out.size))
      clear hb
      by_cases hs : slot < 0 ∨ 15 < slot
      · have hs2 : slot < 0 ∨ 0 ≤ slot ∧ 15 < slot := by omega
        clear hs
        rcases hs2 with h1 | ⟨h1, h2⟩
        all_goals
          go_wp2
          go_ret
          exact ⟨rfl, HB5.out⟩
      · obtain ⟨t, rfl⟩ : ∃ t : Nat, slot = t := ⟨slot.toNat, by omega⟩
        have ht : t < 16 := by omega
        have hti : (t : Int) < 16 := by omega
        clear hs
        go_upto_region 14 with fail
        have HX := Lib.hid (show wr.cell? ⟨w.heap.size + 1, 1 + t, none⟩ = some (.int .i64 (b.getD t 0)) by rw [HZ4.out.cell]; exact HTB.out.cs t ht)
        have HMC := Lib.hid (TabC.mk' (Mt.move e a t (b.getD t 0)).1 (Mt.move e a t (b.getD t 0)).2.1 (move_len _ _ hla))
        generalize b.getD t 0 = y at *
        go_cut [10, 11] (fun tv cv wx => (∃ g, tv = .pointer (some ⟨g, 0, none⟩) ∧ Whole wx g 32 (tcs (Mt.move e a t y).1 (Mt.move e a t y).2.1)) ∧ cv = .int .i64 (Mt.move e a t y).2.2 ∧ Below wr.heap.size wr wx)
        case first J KK hJR hMK =>
          refine wp_region_held_drew (S := fun V => Below wr.heap.size wr V) (by kernel_rfl) (below_drewN wr 1) (fun hHeld => ?_)
          generalize wr.drew = wd at *
          refine wpAnyH_take (i := 0) (oi := { dst := Option.some 63, op := Go.Op.load 32 (Go.Operand.tmp 3), type := 32, pos := "law.go:101", after := #[], guard := Option.none }) (v := .agg (tcs e a)) rfl (by kernel_rfl) (by kernel_rfl) (by kernel_rfl) (fun _ _ _ h => h) (Or.inl ⟨by rfl, fun V hV => exec_row _ _ V 32 (.tmp 3) rfl w.heap.size rfl 32 (tcs e a) _ (HA4.out.kept (hV.block _ HA4.out.lt)) Tryd.underlying32 rfl HTA.out.info⟩) (by assumption) ?_
          try simp only [Act.put, List.setIfInBounds_toArray, List.set_cons_zero, List.set_cons_succ]
          refine wpAnyH_take (i := 1) (oi := { dst := Option.some 64, op := Go.Op.move (Go.Operand.tmp 2), type := 3, pos := "law.go:101", after := #[], guard := Option.none }) (v := ?_) rfl (by kernel_rfl) (by kernel_rfl) (by kernel_rfl) (fun _ _ _ h => h) (Or.inl ⟨by rfl, ?_⟩) (by assumption) ?_
          rotate_left
          · intro V hV; (try dsimp only at hV); go_simp; all_goals (with_reducible rfl)
          try simp only [Act.put, List.setIfInBounds_toArray, List.set_cons_zero, List.set_cons_succ]
          refine wpAnyH_take (i := 2) (oi := { dst := Option.some 65, op := Go.Op.move (Go.Operand.tmp 2), type := 3, pos := "law.go:101", after := #[], guard := Option.none }) (v := ?_) rfl (by kernel_rfl) (by kernel_rfl) (by kernel_rfl) (fun _ _ _ h => h) (Or.inl ⟨by rfl, ?_⟩) (by assumption) ?_
          rotate_left
          · intro V hV; (try dsimp only at hV); go_simp; all_goals (with_reducible rfl)
          try simp only [Act.put, List.setIfInBounds_toArray, List.set_cons_zero, List.set_cons_succ]
          refine wpAnyH_take (i := 3) (oi := { dst := Option.some 66, op := Go.Op.fieldAddr 32 (Go.Operand.tmp 4) 1, type := 0, pos := "law.go:101", after := #[], guard := Option.none }) (v := ?_) rfl (by kernel_rfl) (by kernel_rfl) (by kernel_rfl) (fun _ _ _ h => h) (Or.inl ⟨by rfl, ?_⟩) (by assumption) ?_
          rotate_left
          · intro V hV; (try dsimp only at hV); go_simp; all_goals (with_reducible rfl)
          try simp only [Act.put, List.setIfInBounds_toArray, List.set_cons_zero, List.set_cons_succ]
          refine wpAnyH_take (i := 4) (oi := { dst := Option.some 67, op := Go.Op.indexAddr 30 (Go.Operand.tmp 66) (Go.Operand.tmp 65), type := 0, pos := "law.go:101", after := #[{ on := 3, ground := Go.Ground.data }, { on := 2, ground := Go.Ground.data }], guard := Option.none }) (v := ?_) rfl (by kernel_rfl) (by kernel_rfl) (by kernel_rfl) (fun _ _ _ h => h) (Or.inl ⟨by rfl, ?_⟩) (by assumption) ?_
          rotate_left
          · intro V hV; (try dsimp only at hV); go_simp; all_goals (with_reducible rfl)
          try simp only [Act.put, List.setIfInBounds_toArray, List.set_cons_zero, List.set_cons_succ]
          refine wpAnyH_take (i := 5) (oi := { dst := Option.some 68, op := Go.Op.load 3 (Go.Operand.tmp 67), type := 3, pos := "law.go:101", after := #[{ on := 4, ground := Go.Ground.data }], guard := Option.none }) (v := ?_) rfl (by kernel_rfl) (by kernel_rfl) (by kernel_rfl) (fun _ _ _ h => h) (Or.inl ⟨by rfl, ?_⟩) (by assumption) ?_
          rotate_left
          · intro V hV; (try dsimp only at hV); have cV := (hV.cell (p := ⟨w.heap.size + 1, 1 + t, none⟩) HZ4.out.lt).trans HX.out; go_simp; all_goals (with_reducible rfl)
          try simp only [Act.put, List.setIfInBounds_toArray, List.set_cons_zero, List.set_cons_succ]
          refine wpAnyH_ready (rs := [6, 10]) (by kernel_rfl) (by simp) ?_
          refine AllReadyH.cons (o := { dst := Option.some 69, op := Go.Op.call { callee := Go.Callee.value (Go.Operand.func 14), args := #[Go.Operand.tmp 63, Go.Operand.tmp 64, Go.Operand.tmp 68], argTypes := #[32, 3, 3] }, type := 34, pos := "law.go:101", after := #[{ on := 0, ground := Go.Ground.data }, { on := 1, ground := Go.Ground.data }, { on := 5, ground := Go.Ground.data }], guard := Option.none }) rfl (fun K hK => ?_) (AllReadyH.cons (o := { dst := Option.some 10, op := Go.Op.alloc 32, type := 0, pos := "law.go:101", after := #[], guard := Option.none }) rfl (fun K hK => ?_) (AllReadyH.nil))
          · skip
            go_simp
            refine (move_any (t : Int) y _ HTA.out).mono ?_
            rintro r w11 ⟨rfl, hb1⟩
            have hHeld1 := hHeld.trans (hb1.mono hHeld.size)
            clear hHeld hb1
            go_wp2_with fail
            refine hK.out _ _ hHeld1 (fun hHeld => ?_)
            clear hK K hHeld1
            try simp only [Act.put, List.setIfInBounds_toArray, List.set_cons_zero, List.set_cons_succ]
            refine wpAnyH_take (i := 7) (oi := { dst := Option.some 62, op := Go.Op.move (Go.Operand.tmp 69), type := 34, pos := "law.go:101", after := #[{ on := 6, ground := Go.Ground.data }], guard := Option.none }) (v := ?_) rfl (by kernel_rfl) (by kernel_rfl) (by kernel_rfl) (fun _ _ _ h => h) (Or.inl ⟨by rfl, ?_⟩) (by assumption) ?_
            rotate_left
            · intro V hV; (try dsimp only at hV); go_simp; all_goals (with_reducible rfl)
            try simp only [Act.put, List.setIfInBounds_toArray, List.set_cons_zero, List.set_cons_succ]
            refine wpAnyH_take (i := 8) (oi := { dst := Option.some 70, op := Go.Op.extract (Go.Operand.tmp 62) 0, type := 32, pos := "law.go:101", after := #[{ on := 7, ground := Go.Ground.data }], guard := Option.none }) (v := ?_) rfl (by kernel_rfl) (by kernel_rfl) (by kernel_rfl) (fun _ _ _ h => h) (Or.inl ⟨by rfl, ?_⟩) (by assumption) ?_
            rotate_left
            · intro V hV; (try dsimp only at hV); go_simp; all_goals (with_reducible rfl)
            try simp only [Act.put, List.setIfInBounds_toArray, List.set_cons_zero, List.set_cons_succ]
            refine wpAnyH_take (i := 9) (oi := { dst := Option.some 71, op := Go.Op.extract (Go.Operand.tmp 62) 1, type := 33, pos := "law.go:101", after := #[{ on := 7, ground := Go.Ground.data }, { on := 11, ground := Go.Ground.gcOnly Go.Departure.lateStores }], guard := Option.none }) (v := ?_) rfl (by kernel_rfl) (by kernel_rfl) (by kernel_rfl) (fun _ _ _ h => h) (Or.inl ⟨by rfl, ?_⟩) (by assumption) ?_
            rotate_left
            · intro V hV; (try dsimp only at hV); go_simp; all_goals (with_reducible rfl)
            try simp only [Act.put, List.setIfInBounds_toArray, List.set_cons_zero, List.set_cons_succ]
            refine wpAnyH_ready (rs := [10]) (by kernel_rfl) (by simp) ?_
            refine AllReadyH.cons (o := { dst := Option.some 10, op := Go.Op.alloc 32, type := 0, pos := "law.go:101", after := #[], guard := Option.none }) rfl (fun K hK => ?_) (AllReadyH.nil)
            have HH2 := Lib.hid hHeld
            go_simp
            rw [← zero_tab]
            have hz2 : Whole (World.alloc w11 (.cells (tcs 0 noOwn) 32)) w11.heap.size 32 (tcs 0 noOwn) := heap_alloc_new _ _
            have hHeld2 : Below wr.heap.size wr (World.alloc w11 (.cells (tcs 0 noOwn) 32)) := HH2.out.alloc HH2.out.size _
            have HG2 := Lib.hid (show wr.heap.size ≤ w11.heap.size from HH2.out.size)
            have HZ2 := Lib.hid hz2
            clear hz2 hHeld
            generalize World.alloc w11 (.cells (tcs 0 noOwn) 32) = w12 at *
            refine hK.out _ _ hHeld2 (fun hHeld => ?_)
            clear hK K hHeld2
            try simp only [Act.put, List.setIfInBounds_toArray, List.set_cons_zero, List.set_cons_succ]
            refine wpAnyH_ready (rs := [11]) (by kernel_rfl) (by simp) ?_
            refine AllReadyH.cons (o := { dst := Option.none, op := Go.Op.store 32 (Go.Operand.tmp 10) (Go.Operand.tmp 70), type := 0, pos := "law.go:101", after := #[{ on := 10, ground := Go.Ground.data }, { on := 8, ground := Go.Ground.data }, { on := 6, ground := Go.Ground.chain }, { on := 0, ground := Go.Ground.phase }, { on := 1, ground := Go.Ground.phase }, { on := 2, ground := Go.Ground.phase }, { on := 3, ground := Go.Ground.phase }, { on := 4, ground := Go.Ground.phase }, { on := 5, ground := Go.Ground.phase }, { on := 6, ground := Go.Ground.phase }, { on := 7, ground := Go.Ground.phase }, { on := 8, ground := Go.Ground.phase }, { on := 9, ground := Go.Ground.textOnly Go.Departure.lateStores }, { on := 10, ground := Go.Ground.phase }], guard := Option.none }) rfl (fun K hK => ?_) (AllReadyH.nil)
            have HS3 := Lib.hid (show Whole (World.setRow w12 (w11.heap.size) (tcs (Mt.move e a t y).1 (Mt.move e a t y).2.1)) (w11.heap.size) 32 (tcs (Mt.move e a t y).1 (Mt.move e a t y).2.1) from setRow_heap _ _ _ _ _ _ HZ2.out)
            refine wp_store_row 32 (.tmp 10) (.tmp 70) rfl (w11.heap.size) (tcs (Mt.move e a t y).1 (Mt.move e a t y).2.1) rfl rfl 32 _ HZ2.out HMC.out.info (by rw [HMC.out.size]; rfl) HMC.out.one ?_
            refine hK.out _ _ (below_setRow hHeld HG2.out _) (fun hHeld => ?_)
            clear hK K
            try simp only [Act.put]
            refine wpAnyH_take (i := 12) (oi := { dst := Option.some 11, op := Go.Op.assign (Go.Operand.tmp 71), type := 33, pos := "law.go:101", after := #[{ on := 9, ground := Go.Ground.data }, { on := 11, ground := Go.Ground.chain }, { on := 0, ground := Go.Ground.phase }, { on := 1, ground := Go.Ground.phase }, { on := 2, ground := Go.Ground.phase }, { on := 3, ground := Go.Ground.phase }, { on := 4, ground := Go.Ground.phase }, { on := 5, ground := Go.Ground.phase }, { on := 6, ground := Go.Ground.phase }, { on := 7, ground := Go.Ground.phase }, { on := 8, ground := Go.Ground.phase }, { on := 9, ground := Go.Ground.phase }, { on := 10, ground := Go.Ground.phase }, { on := 11, ground := Go.Ground.phase }], guard := Option.none }) (v := ?_) rfl (by kernel_rfl) (by kernel_rfl) (by kernel_rfl) (fun _ _ _ h => h) (Or.inl ⟨by rfl, ?_⟩) (by assumption) ?_
            rotate_left
            · intro V hV; (try dsimp only at hV); go_simp; all_goals (with_reducible rfl)
            try simp only [Act.put, List.setIfInBounds_toArray, List.set_cons_zero, List.set_cons_succ]
            refine wpAnyH_done (by kernel_rfl) ?_ _
            refine hMK _ _ (Met.intro (hJR _ _ ?_))
            repeat apply Exists.intro
            exact ⟨⟨⟨_, rfl, HS3.out⟩, rfl, hHeld⟩, rfl⟩
          · skip
            have HH4 := Lib.hid hHeld
            go_simp
            rw [← zero_tab]
            have hz4 : Whole (World.alloc wd (.cells (tcs 0 noOwn) 32)) wd.heap.size 32 (tcs 0 noOwn) := heap_alloc_new _ _
            have hHeld4 : Below wr.heap.size wr (World.alloc wd (.cells (tcs 0 noOwn) 32)) := HH4.out.alloc HH4.out.size _
            have HG4 := Lib.hid (show wr.heap.size ≤ wd.heap.size from HH4.out.size)
            have HZ4 := Lib.hid hz4
            clear hz4 hHeld
            generalize World.alloc wd (.cells (tcs 0 noOwn) 32) = w14 at *
            refine hK.out _ _ hHeld4 (fun hHeld => ?_)
            clear hK K hHeld4
            try simp only [Act.put, List.setIfInBounds_toArray, List.set_cons_zero, List.set_cons_succ]
            refine wpAnyH_ready (rs := [6]) (by kernel_rfl) (by simp) ?_
            refine AllReadyH.cons (o := { dst := Option.some 69, op := Go.Op.call { callee := Go.Callee.value (Go.Operand.func 14), args := #[Go.Operand.tmp 63, Go.Operand.tmp 64, Go.Operand.tmp 68], argTypes := #[32, 3, 3] }, type := 34, pos := "law.go:101", after := #[{ on := 0, ground := Go.Ground.data }, { on := 1, ground := Go.Ground.data }, { on := 5, ground := Go.Ground.data }], guard := Option.none }) rfl (fun K hK => ?_) (AllReadyH.nil)
            go_simp
            refine (move_any (t : Int) y _ HTA.out).mono ?_
            rintro r w15 ⟨rfl, hb5⟩
            have HZ5 := Lib.hid (HZ4.out.kept (hb5.block _ HZ4.out.lt))
            have hHeld5 := hHeld.trans (hb5.mono hHeld.size)
            clear hHeld hb5
            go_wp2_with fail
            refine hK.out _ _ hHeld5 (fun hHeld => ?_)
            clear hK K hHeld5
            try simp only [Act.put, List.setIfInBounds_toArray, List.set_cons_zero, List.set_cons_succ]
            refine wpAnyH_take (i := 7) (oi := { dst := Option.some 62, op := Go.Op.move (Go.Operand.tmp 69), type := 34, pos := "law.go:101", after := #[{ on := 6, ground := Go.Ground.data }], guard := Option.none }) (v := ?_) rfl (by kernel_rfl) (by kernel_rfl) (by kernel_rfl) (fun _ _ _ h => h) (Or.inl ⟨by rfl, ?_⟩) (by assumption) ?_
            rotate_left
            · intro V hV; (try dsimp only at hV); go_simp; all_goals (with_reducible rfl)
            try simp only [Act.put, List.setIfInBounds_toArray, List.set_cons_zero, List.set_cons_succ]
            refine wpAnyH_take (i := 8) (oi := { dst := Option.some 70, op := Go.Op.extract (Go.Operand.tmp 62) 0, type := 32, pos := "law.go:101", after := #[{ on := 7, ground := Go.Ground.data }], guard := Option.none }) (v := ?_) rfl (by kernel_rfl) (by kernel_rfl) (by kernel_rfl) (fun _ _ _ h => h) (Or.inl ⟨by rfl, ?_⟩) (by assumption) ?_
            rotate_left
            · intro V hV; (try dsimp only at hV); go_simp; all_goals (with_reducible rfl)
            try simp only [Act.put, List.setIfInBounds_toArray, List.set_cons_zero, List.set_cons_succ]
            refine wpAnyH_take (i := 9) (oi := { dst := Option.some 71, op := Go.Op.extract (Go.Operand.tmp 62) 1, type := 33, pos := "law.go:101", after := #[{ on := 7, ground := Go.Ground.data }, { on := 11, ground := Go.Ground.gcOnly Go.Departure.lateStores }], guard := Option.none }) (v := ?_) rfl (by kernel_rfl) (by kernel_rfl) (by kernel_rfl) (fun _ _ _ h => h) (Or.inl ⟨by rfl, ?_⟩) (by assumption) ?_
            rotate_left
            · intro V hV; (try dsimp only at hV); go_simp; all_goals (with_reducible rfl)
            try simp only [Act.put, List.setIfInBounds_toArray, List.set_cons_zero, List.set_cons_succ]
            refine wpAnyH_ready (rs := [11]) (by kernel_rfl) (by simp) ?_
            refine AllReadyH.cons (o := { dst := Option.none, op := Go.Op.store 32 (Go.Operand.tmp 10) (Go.Operand.tmp 70), type := 0, pos := "law.go:101", after := #[{ on := 10, ground := Go.Ground.data }, { on := 8, ground := Go.Ground.data }, { on := 6, ground := Go.Ground.chain }, { on := 0, ground := Go.Ground.phase }, { on := 1, ground := Go.Ground.phase }, { on := 2, ground := Go.Ground.phase }, { on := 3, ground := Go.Ground.phase }, { on := 4, ground := Go.Ground.phase }, { on := 5, ground := Go.Ground.phase }, { on := 6, ground := Go.Ground.phase }, { on := 7, ground := Go.Ground.phase }, { on := 8, ground := Go.Ground.phase }, { on := 9, ground := Go.Ground.textOnly Go.Departure.lateStores }, { on := 10, ground := Go.Ground.phase }], guard := Option.none }) rfl (fun K hK => ?_) (AllReadyH.nil)
            have HS6 := Lib.hid (show Whole (World.setRow w15 (wd.heap.size) (tcs (Mt.move e a t y).1 (Mt.move e a t y).2.1)) (wd.heap.size) 32 (tcs (Mt.move e a t y).1 (Mt.move e a t y).2.1) from setRow_heap _ _ _ _ _ _ HZ5.out)
            refine wp_store_row 32 (.tmp 10) (.tmp 70) rfl (wd.heap.size) (tcs (Mt.move e a t y).1 (Mt.move e a t y).2.1) rfl rfl 32 _ HZ5.out HMC.out.info (by rw [HMC.out.size]; rfl) HMC.out.one ?_
            refine hK.out _ _ (below_setRow hHeld HG4.out _) (fun hHeld => ?_)
            clear hK K
            try simp only [Act.put]
            refine wpAnyH_take (i := 12) (oi := { dst := Option.some 11, op := Go.Op.assign (Go.Operand.tmp 71), type := 33, pos := "law.go:101", after := #[{ on := 9, ground := Go.Ground.data }, { on := 11, ground := Go.Ground.chain }, { on := 0, ground := Go.Ground.phase }, { on := 1, ground := Go.Ground.phase }, { on := 2, ground := Go.Ground.phase }, { on := 3, ground := Go.Ground.phase }, { on := 4, ground := Go.Ground.phase }, { on := 5, ground := Go.Ground.phase }, { on := 6, ground := Go.Ground.phase }, { on := 7, ground := Go.Ground.phase }, { on := 8, ground := Go.Ground.phase }, { on := 9, ground := Go.Ground.phase }, { on := 10, ground := Go.Ground.phase }, { on := 11, ground := Go.Ground.phase }], guard := Option.none }) (v := ?_) rfl (by kernel_rfl) (by kernel_rfl) (by kernel_rfl) (fun _ _ _ h => h) (Or.inl ⟨by rfl, ?_⟩) (by assumption) ?_
            rotate_left
            · intro V hV; (try dsimp only at hV); go_simp; all_goals (with_reducible rfl)
            try simp only [Act.put, List.setIfInBounds_toArray, List.set_cons_zero, List.set_cons_succ]
            refine wpAnyH_done (by kernel_rfl) ?_ _
            refine hMK _ _ (Met.intro (hJR _ _ ?_))
            repeat apply Exists.intro
            exact ⟨⟨⟨_, rfl, HS6.out⟩, rfl, hHeld⟩, rfl⟩
        case rest =>
          obtain ⟨⟨g1, rfl, hc1⟩, rfl, hb1⟩ := hcut
          generalize wc = w5 at *
          have HA5 := Lib.hid (HA4.out.kept (hb1.block _ HA4.out.lt))
          have HB6 := Lib.hid (HB5.out.trans (hb1.mono HB5.out.size))
          have HC1 := Lib.hid hc1
          clear hc1 hb1
          rcases Mt.move_cases e a t y with ⟨hm, hne, hy0, hy7, he0, he7⟩ | hm | ⟨hm, _⟩
          · rw [hm] at HC1 HMC
            try rw [hm]
            simp only at HC1 HMC
            have HX2 := Lib.hid (show w5.cell? ⟨w.heap.size, 1 + t, none⟩ = some (.int .i64 (a.getD t 0)) by rw [HA5.out.cell]; exact HTA.out.cs t ht)
            have HSB := Lib.hid (set_back a t y (by rw [hla]; exact ht))
            have HSA := Lib.hid (set_at a t y (by rw [hla]; exact ht))
            have HMD := Lib.hid (TabC.mk' (Mt.move (e + 1) (a.set t y) t (a.getD t 0)).1 (Mt.move (e + 1) (a.set t y) t (a.getD t 0)).2.1 (move_len _ _ HMC.out.len))
            generalize a.getD t 0 = x at *
            go_upto_region 17 with fail
            go_cut [12, 13] (fun tv cv wx => (∃ g, tv = .pointer (some ⟨g, 0, none⟩) ∧ Whole wx g 32 (tcs (Mt.move (e + 1) (a.set t y) t x).1 (Mt.move (e + 1) (a.set t y) t x).2.1)) ∧ cv = .int .i64 (Mt.move (e + 1) (a.set t y) t x).2.2 ∧ Below w5.heap.size w5 wx)
            case first J KK hJR hMK =>
              refine wp_region_held_drew (S := fun V => Below w5.heap.size w5 V) (by kernel_rfl) (below_drewN w5 1) (fun hHeld => ?_)
              generalize w5.drew = wd at *
              refine wpAnyH_take (i := 0) (oi := { dst := Option.some 78, op := Go.Op.load 32 (Go.Operand.tmp 10), type := 32, pos := "law.go:105", after := #[], guard := Option.none }) (v := .agg (tcs (e + 1) (a.set t y))) rfl (by kernel_rfl) (by kernel_rfl) (by kernel_rfl) (fun _ _ _ h => h) (Or.inl ⟨by rfl, fun V hV => exec_row _ _ V 32 (.tmp 10) rfl g1 rfl 32 (tcs (e + 1) (a.set t y)) _ (HC1.out.kept (hV.block _ HC1.out.lt)) Tryd.underlying32 rfl HMC.out.info⟩) (by assumption) ?_
              try simp only [Act.put, List.setIfInBounds_toArray, List.set_cons_zero, List.set_cons_succ]
              refine wpAnyH_take (i := 1) (oi := { dst := Option.some 79, op := Go.Op.move (Go.Operand.tmp 2), type := 3, pos := "law.go:105", after := #[], guard := Option.none }) (v := ?_) rfl (by kernel_rfl) (by kernel_rfl) (by kernel_rfl) (fun _ _ _ h => h) (Or.inl ⟨by rfl, ?_⟩) (by assumption) ?_
              rotate_left
              · intro V hV; (try dsimp only at hV); go_simp; all_goals (with_reducible rfl)
              try simp only [Act.put, List.setIfInBounds_toArray, List.set_cons_zero, List.set_cons_succ]
              refine wpAnyH_take (i := 2) (oi := { dst := Option.some 80, op := Go.Op.move (Go.Operand.tmp 2), type := 3, pos := "law.go:105", after := #[], guard := Option.none }) (v := ?_) rfl (by kernel_rfl) (by kernel_rfl) (by kernel_rfl) (fun _ _ _ h => h) (Or.inl ⟨by rfl, ?_⟩) (by assumption) ?_
              rotate_left
              · intro V hV; (try dsimp only at hV); go_simp; all_goals (with_reducible rfl)
              try simp only [Act.put, List.setIfInBounds_toArray, List.set_cons_zero, List.set_cons_succ]
              refine wpAnyH_take (i := 3) (oi := { dst := Option.some 81, op := Go.Op.fieldAddr 32 (Go.Operand.tmp 3) 1, type := 0, pos := "law.go:105", after := #[], guard := Option.none }) (v := ?_) rfl (by kernel_rfl) (by kernel_rfl) (by kernel_rfl) (fun _ _ _ h => h) (Or.inl ⟨by rfl, ?_⟩) (by assumption) ?_
              rotate_left
              · intro V hV; (try dsimp only at hV); go_simp; all_goals (with_reducible rfl)
              try simp only [Act.put, List.setIfInBounds_toArray, List.set_cons_zero, List.set_cons_succ]
              refine wpAnyH_take (i := 4) (oi := { dst := Option.some 82, op := Go.Op.indexAddr 30 (Go.Operand.tmp 81) (Go.Operand.tmp 80), type := 0, pos := "law.go:105", after := #[{ on := 3, ground := Go.Ground.data }, { on := 2, ground := Go.Ground.data }], guard := Option.none }) (v := ?_) rfl (by kernel_rfl) (by kernel_rfl) (by kernel_rfl) (fun _ _ _ h => h) (Or.inl ⟨by rfl, ?_⟩) (by assumption) ?_
              rotate_left
              · intro V hV; (try dsimp only at hV); go_simp; all_goals (with_reducible rfl)
              try simp only [Act.put, List.setIfInBounds_toArray, List.set_cons_zero, List.set_cons_succ]
              refine wpAnyH_take (i := 5) (oi := { dst := Option.some 83, op := Go.Op.load 3 (Go.Operand.tmp 82), type := 3, pos := "law.go:105", after := #[{ on := 4, ground := Go.Ground.data }], guard := Option.none }) (v := ?_) rfl (by kernel_rfl) (by kernel_rfl) (by kernel_rfl) (fun _ _ _ h => h) (Or.inl ⟨by rfl, ?_⟩) (by assumption) ?_
              rotate_left
              · intro V hV; (try dsimp only at hV); have cV := (hV.cell (p := ⟨w.heap.size, 1 + t, none⟩) HA5.out.lt).trans HX2.out; go_simp; all_goals (with_reducible rfl)
              try simp only [Act.put, List.setIfInBounds_toArray, List.set_cons_zero, List.set_cons_succ]
              refine wpAnyH_ready (rs := [6, 10]) (by kernel_rfl) (by simp) ?_
              refine AllReadyH.cons (o := { dst := Option.some 84, op := Go.Op.call { callee := Go.Callee.value (Go.Operand.func 14), args := #[Go.Operand.tmp 78, Go.Operand.tmp 79, Go.Operand.tmp 83], argTypes := #[32, 3, 3] }, type := 34, pos := "law.go:105", after := #[{ on := 0, ground := Go.Ground.data }, { on := 1, ground := Go.Ground.data }, { on := 5, ground := Go.Ground.data }], guard := Option.none }) rfl (fun K hK => ?_) (AllReadyH.cons (o := { dst := Option.some 12, op := Go.Op.alloc 32, type := 0, pos := "law.go:105", after := #[], guard := Option.none }) rfl (fun K hK => ?_) (AllReadyH.nil))
              · skip
                go_simp
                refine (move_any (t : Int) x _ HMC.out).mono ?_
                rintro r w11 ⟨rfl, hb1⟩
                have hHeld1 := hHeld.trans (hb1.mono hHeld.size)
                clear hHeld hb1
                go_wp2_with fail
                refine hK.out _ _ hHeld1 (fun hHeld => ?_)
                clear hK K hHeld1
                try simp only [Act.put, List.setIfInBounds_toArray, List.set_cons_zero, List.set_cons_succ]
                refine wpAnyH_take (i := 7) (oi := { dst := Option.some 77, op := Go.Op.move (Go.Operand.tmp 84), type := 34, pos := "law.go:105", after := #[{ on := 6, ground := Go.Ground.data }], guard := Option.none }) (v := ?_) rfl (by kernel_rfl) (by kernel_rfl) (by kernel_rfl) (fun _ _ _ h => h) (Or.inl ⟨by rfl, ?_⟩) (by assumption) ?_
                rotate_left
                · intro V hV; (try dsimp only at hV); go_simp; all_goals (with_reducible rfl)
                try simp only [Act.put, List.setIfInBounds_toArray, List.set_cons_zero, List.set_cons_succ]
                refine wpAnyH_take (i := 8) (oi := { dst := Option.some 85, op := Go.Op.extract (Go.Operand.tmp 77) 0, type := 32, pos := "law.go:105", after := #[{ on := 7, ground := Go.Ground.data }], guard := Option.none }) (v := ?_) rfl (by kernel_rfl) (by kernel_rfl) (by kernel_rfl) (fun _ _ _ h => h) (Or.inl ⟨by rfl, ?_⟩) (by assumption) ?_
                rotate_left
                · intro V hV; (try dsimp only at hV); go_simp; all_goals (with_reducible rfl)
                try simp only [Act.put, List.setIfInBounds_toArray, List.set_cons_zero, List.set_cons_succ]
                refine wpAnyH_take (i := 9) (oi := { dst := Option.some 86, op := Go.Op.extract (Go.Operand.tmp 77) 1, type := 33, pos := "law.go:105", after := #[{ on := 7, ground := Go.Ground.data }, { on := 11, ground := Go.Ground.gcOnly Go.Departure.lateStores }], guard := Option.none }) (v := ?_) rfl (by kernel_rfl) (by kernel_rfl) (by kernel_rfl) (fun _ _ _ h => h) (Or.inl ⟨by rfl, ?_⟩) (by assumption) ?_
                rotate_left
                · intro V hV; (try dsimp only at hV); go_simp; all_goals (with_reducible rfl)
                try simp only [Act.put, List.setIfInBounds_toArray, List.set_cons_zero, List.set_cons_succ]
                refine wpAnyH_ready (rs := [10]) (by kernel_rfl) (by simp) ?_
                refine AllReadyH.cons (o := { dst := Option.some 12, op := Go.Op.alloc 32, type := 0, pos := "law.go:105", after := #[], guard := Option.none }) rfl (fun K hK => ?_) (AllReadyH.nil)
                have HH2 := Lib.hid hHeld
                go_simp
                rw [← zero_tab]
                have hz2 : Whole (World.alloc w11 (.cells (tcs 0 noOwn) 32)) w11.heap.size 32 (tcs 0 noOwn) := heap_alloc_new _ _
                have hHeld2 : Below w5.heap.size w5 (World.alloc w11 (.cells (tcs 0 noOwn) 32)) := HH2.out.alloc HH2.out.size _
                have HG2 := Lib.hid (show w5.heap.size ≤ w11.heap.size from HH2.out.size)
                have HZ2 := Lib.hid hz2
                clear hz2 hHeld
                generalize World.alloc w11 (.cells (tcs 0 noOwn) 32) = w12 at *
                refine hK.out _ _ hHeld2 (fun hHeld => ?_)
                clear hK K hHeld2
                try simp only [Act.put, List.setIfInBounds_toArray, List.set_cons_zero, List.set_cons_succ]
                refine wpAnyH_ready (rs := [11]) (by kernel_rfl) (by simp) ?_
                refine AllReadyH.cons (o := { dst := Option.none, op := Go.Op.store 32 (Go.Operand.tmp 12) (Go.Operand.tmp 85), type := 0, pos := "law.go:105", after := #[{ on := 10, ground := Go.Ground.data }, { on := 8, ground := Go.Ground.data }, { on := 6, ground := Go.Ground.chain }, { on := 0, ground := Go.Ground.phase }, { on := 1, ground := Go.Ground.phase }, { on := 2, ground := Go.Ground.phase }, { on := 3, ground := Go.Ground.phase }, { on := 4, ground := Go.Ground.phase }, { on := 5, ground := Go.Ground.phase }, { on := 6, ground := Go.Ground.phase }, { on := 7, ground := Go.Ground.phase }, { on := 8, ground := Go.Ground.phase }, { on := 9, ground := Go.Ground.textOnly Go.Departure.lateStores }, { on := 10, ground := Go.Ground.phase }], guard := Option.none }) rfl (fun K hK => ?_) (AllReadyH.nil)
                have HS3 := Lib.hid (show Whole (World.setRow w12 (w11.heap.size) (tcs (Mt.move (e + 1) (a.set t y) t x).1 (Mt.move (e + 1) (a.set t y) t x).2.1)) (w11.heap.size) 32 (tcs (Mt.move (e + 1) (a.set t y) t x).1 (Mt.move (e + 1) (a.set t y) t x).2.1) from setRow_heap _ _ _ _ _ _ HZ2.out)
                refine wp_store_row 32 (.tmp 12) (.tmp 85) rfl (w11.heap.size) (tcs (Mt.move (e + 1) (a.set t y) t x).1 (Mt.move (e + 1) (a.set t y) t x).2.1) rfl rfl 32 _ HZ2.out HMD.out.info (by rw [HMD.out.size]; rfl) HMD.out.one ?_
                refine hK.out _ _ (below_setRow hHeld HG2.out _) (fun hHeld => ?_)
                clear hK K
                try simp only [Act.put]
                refine wpAnyH_take (i := 12) (oi := { dst := Option.some 13, op := Go.Op.assign (Go.Operand.tmp 86), type := 33, pos := "law.go:105", after := #[{ on := 9, ground := Go.Ground.data }, { on := 11, ground := Go.Ground.chain }, { on := 0, ground := Go.Ground.phase }, { on := 1, ground := Go.Ground.phase }, { on := 2, ground := Go.Ground.phase }, { on := 3, ground := Go.Ground.phase }, { on := 4, ground := Go.Ground.phase }, { on := 5, ground := Go.Ground.phase }, { on := 6, ground := Go.Ground.phase }, { on := 7, ground := Go.Ground.phase }, { on := 8, ground := Go.Ground.phase }, { on := 9, ground := Go.Ground.phase }, { on := 10, ground := Go.Ground.phase }, { on := 11, ground := Go.Ground.phase }], guard := Option.none }) (v := ?_) rfl (by kernel_rfl) (by kernel_rfl) (by kernel_rfl) (fun _ _ _ h => h) (Or.inl ⟨by rfl, ?_⟩) (by assumption) ?_
                rotate_left
                · intro V hV; (try dsimp only at hV); go_simp; all_goals (with_reducible rfl)
                try simp only [Act.put, List.setIfInBounds_toArray, List.set_cons_zero, List.set_cons_succ]
                refine wpAnyH_done (by kernel_rfl) ?_ _
                refine hMK _ _ (Met.intro (hJR _ _ ?_))
                repeat apply Exists.intro
                exact ⟨⟨⟨_, rfl, HS3.out⟩, rfl, hHeld⟩, rfl⟩
              · skip
                have HH4 := Lib.hid hHeld
                go_simp
                rw [← zero_tab]
                have hz4 : Whole (World.alloc wd (.cells (tcs 0 noOwn) 32)) wd.heap.size 32 (tcs 0 noOwn) := heap_alloc_new _ _
                have hHeld4 : Below w5.heap.size w5 (World.alloc wd (.cells (tcs 0 noOwn) 32)) := HH4.out.alloc HH4.out.size _
                have HG4 := Lib.hid (show w5.heap.size ≤ wd.heap.size from HH4.out.size)
                have HZ4 := Lib.hid hz4
                clear hz4 hHeld
                generalize World.alloc wd (.cells (tcs 0 noOwn) 32) = w14 at *
                refine hK.out _ _ hHeld4 (fun hHeld => ?_)
                clear hK K hHeld4
                try simp only [Act.put, List.setIfInBounds_toArray, List.set_cons_zero, List.set_cons_succ]
                refine wpAnyH_ready (rs := [6]) (by kernel_rfl) (by simp) ?_
                refine AllReadyH.cons (o := { dst := Option.some 84, op := Go.Op.call { callee := Go.Callee.value (Go.Operand.func 14), args := #[Go.Operand.tmp 78, Go.Operand.tmp 79, Go.Operand.tmp 83], argTypes := #[32, 3, 3] }, type := 34, pos := "law.go:105", after := #[{ on := 0, ground := Go.Ground.data }, { on := 1, ground := Go.Ground.data }, { on := 5, ground := Go.Ground.data }], guard := Option.none }) rfl (fun K hK => ?_) (AllReadyH.nil)
                go_simp
                refine (move_any (t : Int) x _ HMC.out).mono ?_
                rintro r w15 ⟨rfl, hb5⟩
                have HZ5 := Lib.hid (HZ4.out.kept (hb5.block _ HZ4.out.lt))
                have hHeld5 := hHeld.trans (hb5.mono hHeld.size)
                clear hHeld hb5
                go_wp2_with fail
                refine hK.out _ _ hHeld5 (fun hHeld => ?_)
                clear hK K hHeld5
                try simp only [Act.put, List.setIfInBounds_toArray, List.set_cons_zero, List.set_cons_succ]
                refine wpAnyH_take (i := 7) (oi := { dst := Option.some 77, op := Go.Op.move (Go.Operand.tmp 84), type := 34, pos := "law.go:105", after := #[{ on := 6, ground := Go.Ground.data }], guard := Option.none }) (v := ?_) rfl (by kernel_rfl) (by kernel_rfl) (by kernel_rfl) (fun _ _ _ h => h) (Or.inl ⟨by rfl, ?_⟩) (by assumption) ?_
                rotate_left
                · intro V hV; (try dsimp only at hV); go_simp; all_goals (with_reducible rfl)
                try simp only [Act.put, List.setIfInBounds_toArray, List.set_cons_zero, List.set_cons_succ]
                refine wpAnyH_take (i := 8) (oi := { dst := Option.some 85, op := Go.Op.extract (Go.Operand.tmp 77) 0, type := 32, pos := "law.go:105", after := #[{ on := 7, ground := Go.Ground.data }], guard := Option.none }) (v := ?_) rfl (by kernel_rfl) (by kernel_rfl) (by kernel_rfl) (fun _ _ _ h => h) (Or.inl ⟨by rfl, ?_⟩) (by assumption) ?_
                rotate_left
                · intro V hV; (try dsimp only at hV); go_simp; all_goals (with_reducible rfl)
                try simp only [Act.put, List.setIfInBounds_toArray, List.set_cons_zero, List.set_cons_succ]
                refine wpAnyH_take (i := 9) (oi := { dst := Option.some 86, op := Go.Op.extract (Go.Operand.tmp 77) 1, type := 33, pos := "law.go:105", after := #[{ on := 7, ground := Go.Ground.data }, { on := 11, ground := Go.Ground.gcOnly Go.Departure.lateStores }], guard := Option.none }) (v := ?_) rfl (by kernel_rfl) (by kernel_rfl) (by kernel_rfl) (fun _ _ _ h => h) (Or.inl ⟨by rfl, ?_⟩) (by assumption) ?_
                rotate_left
                · intro V hV; (try dsimp only at hV); go_simp; all_goals (with_reducible rfl)
                try simp only [Act.put, List.setIfInBounds_toArray, List.set_cons_zero, List.set_cons_succ]
                refine wpAnyH_ready (rs := [11]) (by kernel_rfl) (by simp) ?_
                refine AllReadyH.cons (o := { dst := Option.none, op := Go.Op.store 32 (Go.Operand.tmp 12) (Go.Operand.tmp 85), type := 0, pos := "law.go:105", after := #[{ on := 10, ground := Go.Ground.data }, { on := 8, ground := Go.Ground.data }, { on := 6, ground := Go.Ground.chain }, { on := 0, ground := Go.Ground.phase }, { on := 1, ground := Go.Ground.phase }, { on := 2, ground := Go.Ground.phase }, { on := 3, ground := Go.Ground.phase }, { on := 4, ground := Go.Ground.phase }, { on := 5, ground := Go.Ground.phase }, { on := 6, ground := Go.Ground.phase }, { on := 7, ground := Go.Ground.phase }, { on := 8, ground := Go.Ground.phase }, { on := 9, ground := Go.Ground.textOnly Go.Departure.lateStores }, { on := 10, ground := Go.Ground.phase }], guard := Option.none }) rfl (fun K hK => ?_) (AllReadyH.nil)
                have HS6 := Lib.hid (show Whole (World.setRow w15 (wd.heap.size) (tcs (Mt.move (e + 1) (a.set t y) t x).1 (Mt.move (e + 1) (a.set t y) t x).2.1)) (wd.heap.size) 32 (tcs (Mt.move (e + 1) (a.set t y) t x).1 (Mt.move (e + 1) (a.set t y) t x).2.1) from setRow_heap _ _ _ _ _ _ HZ5.out)
                refine wp_store_row 32 (.tmp 12) (.tmp 85) rfl (wd.heap.size) (tcs (Mt.move (e + 1) (a.set t y) t x).1 (Mt.move (e + 1) (a.set t y) t x).2.1) rfl rfl 32 _ HZ5.out HMD.out.info (by rw [HMD.out.size]; rfl) HMD.out.one ?_
                refine hK.out _ _ (below_setRow hHeld HG4.out _) (fun hHeld => ?_)
                clear hK K
                try simp only [Act.put]
                refine wpAnyH_take (i := 12) (oi := { dst := Option.some 13, op := Go.Op.assign (Go.Operand.tmp 86), type := 33, pos := "law.go:105", after := #[{ on := 9, ground := Go.Ground.data }, { on := 11, ground := Go.Ground.chain }, { on := 0, ground := Go.Ground.phase }, { on := 1, ground := Go.Ground.phase }, { on := 2, ground := Go.Ground.phase }, { on := 3, ground := Go.Ground.phase }, { on := 4, ground := Go.Ground.phase }, { on := 5, ground := Go.Ground.phase }, { on := 6, ground := Go.Ground.phase }, { on := 7, ground := Go.Ground.phase }, { on := 8, ground := Go.Ground.phase }, { on := 9, ground := Go.Ground.phase }, { on := 10, ground := Go.Ground.phase }, { on := 11, ground := Go.Ground.phase }], guard := Option.none }) (v := ?_) rfl (by kernel_rfl) (by kernel_rfl) (by kernel_rfl) (fun _ _ _ h => h) (Or.inl ⟨by rfl, ?_⟩) (by assumption) ?_
                rotate_left
                · intro V hV; (try dsimp only at hV); go_simp; all_goals (with_reducible rfl)
                try simp only [Act.put, List.setIfInBounds_toArray, List.set_cons_zero, List.set_cons_succ]
                refine wpAnyH_done (by kernel_rfl) ?_ _
                refine hMK _ _ (Met.intro (hJR _ _ ?_))
                repeat apply Exists.intro
                exact ⟨⟨⟨_, rfl, HS6.out⟩, rfl, hHeld⟩, rfl⟩
            case rest =>
              obtain ⟨⟨g2, rfl, hc2⟩, rfl, hb2⟩ := hcut
              generalize wc = w6 at *
              have HA6 := Lib.hid (HA5.out.kept (hb2.block _ HA5.out.lt))
              have HB7 := Lib.hid (HB6.out.trans (hb2.mono HB6.out.size))
              clear hb2
              rcases Mt.move_cases (e + 1) (a.set t y) t x with ⟨hm2, _, _, _, _, _⟩ | hm2 | ⟨hm2, h5⟩
              · rw [hm2] at hc2
                try rw [hm2]
                simp only at hc2
                rw [HSB.out, show e + 1 + 1 = e + 2 by omega] at hc2
                have HTC := Lib.hid (TabC.mk' (e + 2) a hla)
                have d0 : w6.cell? ⟨g2, 0, none⟩ = some (.int .i64 (e + 2)) := by rw [hc2.cell]; exact HTC.out.c0
                have d1 : w6.cell? ⟨w.heap.size, 0, none⟩ = some (.int .i64 e) := by rw [HA6.out.cell]; exact HTA.out.c0
                have HR2 := Lib.hid (range_owners hc2 HTC.out)
                have HR1 := Lib.hid (range_owners HA6.out HTA.out)
                have HI := Lib.hid (show (Tryd.prog.info? 30).map (·.size) = some (acs a).toList.length by rw [Array.length_toList, acs_size, hla]; exact Tryd.infoA)
                have HEQ := Lib.hid (eq_arr2 a hla hia w6)
                clear hc2 hm2
                go_wp2_with (first
                  | (refine wpList_load_mid rfl 30 (.tmp 91) rfl g2 1 rfl (acs a).toList _ HR2.out Tryd.underlying30 rfl HI.out ?_)
                  | (refine wpList_load_mid rfl 30 (.tmp 93) rfl w.heap.size 1 rfl (acs a).toList _ HR1.out Tryd.underlying30 rfl HI.out ?_)
                  | (refine wpList_eql_self (by kernel_rfl) 30 (.tmp 92) (.tmp 94) 30 rfl (acs a) rfl rfl guardA HEQ.out ?_))
                go_ret
                exact ⟨rfl, HB7.out⟩
              · rw [hm2] at hc2
                try rw [hm2]
                clear hc2 hm2
                go_wp2
                go_ret
                exact ⟨rfl, HB7.out⟩
              · rw [HSA.out] at h5
                exact absurd h5.symm hne
          · rw [hm] at HC1
            try rw [hm]
            clear hm
            go_wp2_with (first
              | (refine wpList_load_row rfl 32 (.tmp 10) rfl g1 rfl 32 (tcs 0 noOwn) (0, 0) _ HC1.out Tryd.underlying32 rfl (by kernel_rfl) ?_)
              | (refine wpList_eql_self (by kernel_rfl) 32 (.tmp 74) (.tmp 75) 32 rfl (tcs 0 noOwn) rfl rfl guardT (eq_tab 0 noOwn rfl in64_0 zeros_in _) ?_))
            go_ret
            exact ⟨rfl, HB6.out⟩
          · rw [hm] at HC1
            try rw [hm]
            clear hm
            go_wp2_with (first
              | (refine wpList_load_row rfl 32 (.tmp 10) rfl g1 rfl 32 (tcs 0 noOwn) (0, 0) _ HC1.out Tryd.underlying32 rfl (by kernel_rfl) ?_)
              | (refine wpList_eql_self (by kernel_rfl) 32 (.tmp 74) (.tmp 75) 32 rfl (tcs 0 noOwn) rfl rfl guardT (eq_tab 0 noOwn rfl in64_0 zeros_in _) ?_))
            go_ret
            exact ⟨rfl, HB6.out⟩
end Go.Proofs.YtobehjlejlaeeaaDoor
