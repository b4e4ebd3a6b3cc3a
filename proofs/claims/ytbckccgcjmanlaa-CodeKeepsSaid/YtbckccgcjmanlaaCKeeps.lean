/- CodeKeeps: what is handed in is left as it was and not kept; answers are new memory. -/
import Derived.Test.YtbckccgcjmanlaaCKeep1
namespace Go.Proofs.Ytbckccgcjmanlaa
open Go.RowKit


theorem box_keep {w w' : World} {b : Nat} {v0 v1 v2 v3 v4 v5 v6 v7 v8 v9 v10 v11 : Value} (h : Box w b v0 v1 v2 v3 v4 v5 v6 v7 v8 v9 v10 v11) (hb : Below w.heap.size w w') (hlt : b < w.heap.size) : Box w' b v0 v1 v2 v3 v4 v5 v6 v7 v8 v9 v10 v11 := by
  obtain ⟨h0, h1, h2, h3, h4, h5, h6, h7, h8, h9, h10, h11⟩ := h
  exact ⟨(hb.cell (p := ⟨b, 0, none⟩) hlt).trans h0, (hb.cell (p := ⟨b, 1, none⟩) hlt).trans h1, (hb.cell (p := ⟨b, 2, none⟩) hlt).trans h2, (hb.cell (p := ⟨b, 3, none⟩) hlt).trans h3, (hb.cell (p := ⟨b, 4, none⟩) hlt).trans h4, (hb.cell (p := ⟨b, 5, none⟩) hlt).trans h5, (hb.cell (p := ⟨b, 6, none⟩) hlt).trans h6, (hb.cell (p := ⟨b, 7, none⟩) hlt).trans h7, (hb.cell (p := ⟨b, 8, none⟩) hlt).trans h8, (hb.cell (p := ⟨b, 9, none⟩) hlt).trans h9, (hb.cell (p := ⟨b, 10, none⟩) hlt).trans h10, (hb.cell (p := ⟨b, 11, none⟩) hlt).trans h11⟩
/-- What is held in the last region, hidden from the walk. -/
def KeptK (w V : World) (b0 b6 b8 b9 q : Nat) (c0 c6 c8 c9 : Array Value) (m d : MsgD) : Prop :=
  Below w.heap.size w V ∧ (b0 < V.heap.size ∧ b6 < V.heap.size ∧ b8 < V.heap.size ∧ b9 < V.heap.size ∧ q < V.heap.size) ∧ MsgIn V (.agg c0) m ∧ MsgIn V (.agg c6) m ∧ MsgIn V (.agg c8) d ∧ MsgIn V (.agg c9) d
theorem keptK_keep {w V V' : World} {b0 b6 b8 b9 q : Nat} {c0 c6 c8 c9 : Array Value} {m d : MsgD} (h : KeptK w V b0 b6 b8 b9 q c0 c6 c8 c9 m d) (hb : Below V.heap.size V V') : KeptK w V' b0 b6 b8 b9 q c0 c6 c8 c9 m d := by
  obtain ⟨h1, ⟨h2, h3, h4, h5, h6⟩, h7, h8, h9, h10⟩ := h
  have := hb.size
  exact ⟨h1.trans (hb.mono h1.size), ⟨by omega, by omega, by omega, by omega, by omega⟩, h7.below hb, h8.below hb, h9.below hb, h10.below hb⟩
theorem kk0 {w V : World} {b0 b6 b8 b9 q : Nat} {c0 c6 c8 c9 : Array Value} {m d : MsgD} (h : KeptK w V b0 b6 b8 b9 q c0 c6 c8 c9 m d) : MsgIn V (.agg c0) m := h.2.2.1
theorem kk6 {w V : World} {b0 b6 b8 b9 q : Nat} {c0 c6 c8 c9 : Array Value} {m d : MsgD} (h : KeptK w V b0 b6 b8 b9 q c0 c6 c8 c9 m d) : MsgIn V (.agg c6) m := h.2.2.2.1
theorem kk8 {w V : World} {b0 b6 b8 b9 q : Nat} {c0 c6 c8 c9 : Array Value} {m d : MsgD} (h : KeptK w V b0 b6 b8 b9 q c0 c6 c8 c9 m d) : MsgIn V (.agg c8) d := h.2.2.2.2.1
theorem kk9 {w V : World} {b0 b6 b8 b9 q : Nat} {c0 c6 c8 c9 : Array Value} {m d : MsgD} (h : KeptK w V b0 b6 b8 b9 q c0 c6 c8 c9 m d) : MsgIn V (.agg c9) d := h.2.2.2.2.2
abbrev HeldK (w V : World) (b0 b6 b8 b9 q n : Nat) (v0 v1 v2 v3 v4 v5 v6 v7 v8 v9 v10 v11 u0 u1 u2 u3 u4 u5 u6 u7 u8 u9 u10 u11 s0 s1 s2 s3 s4 s5 s6 s7 s8 s9 s10 s11 t0 t1 t2 t3 t4 t5 t6 t7 t8 t9 t10 t11 : Value) (m d : MsgD) : Prop := Box V b0 v0 v1 v2 v3 v4 v5 v6 v7 v8 v9 v10 v11 ∧ Box V b6 u0 u1 u2 u3 u4 u5 u6 u7 u8 u9 u10 u11 ∧ Box V b8 s0 s1 s2 s3 s4 s5 s6 s7 s8 s9 s10 s11 ∧ Box V b9 t0 t1 t2 t3 t4 t5 t6 t7 t8 t9 t10 t11 ∧ V.cell? ⟨q, n, none⟩ = some (.int .i64 77) ∧ KeptK w V b0 b6 b8 b9 q #[v0, v1, v2, v3, v4, v5, v6, v7, v8, v9, v10, v11] #[u0, u1, u2, u3, u4, u5, u6, u7, u8, u9, u10, u11] #[s0, s1, s2, s3, s4, s5, s6, s7, s8, s9, s10, s11] #[t0, t1, t2, t3, t4, t5, t6, t7, t8, t9, t10, t11] m d
theorem heldK_keep {w V : World} {b0 b6 b8 b9 q n : Nat} {v0 v1 v2 v3 v4 v5 v6 v7 v8 v9 v10 v11 u0 u1 u2 u3 u4 u5 u6 u7 u8 u9 u10 u11 s0 s1 s2 s3 s4 s5 s6 s7 s8 s9 s10 s11 t0 t1 t2 t3 t4 t5 t6 t7 t8 t9 t10 t11 : Value} {m d : MsgD} {V' : World} (h : HeldK w V b0 b6 b8 b9 q n v0 v1 v2 v3 v4 v5 v6 v7 v8 v9 v10 v11 u0 u1 u2 u3 u4 u5 u6 u7 u8 u9 u10 u11 s0 s1 s2 s3 s4 s5 s6 s7 s8 s9 s10 s11 t0 t1 t2 t3 t4 t5 t6 t7 t8 t9 t10 t11 m d) (hb : Below V.heap.size V V') : HeldK w V' b0 b6 b8 b9 q n v0 v1 v2 v3 v4 v5 v6 v7 v8 v9 v10 v11 u0 u1 u2 u3 u4 u5 u6 u7 u8 u9 u10 u11 s0 s1 s2 s3 s4 s5 s6 s7 s8 s9 s10 s11 t0 t1 t2 t3 t4 t5 t6 t7 t8 t9 t10 t11 m d :=
  have k := h.2.2.2.2.2.2.1
  ⟨box_keep h.1 hb k.1, box_keep h.2.1 hb k.2.1, box_keep h.2.2.1 hb k.2.2.1, box_keep h.2.2.2.1 hb k.2.2.2.1, (hb.cell (p := ⟨q, n, none⟩) k.2.2.2.2).trans h.2.2.2.2.1, keptK_keep h.2.2.2.2.2 hb⟩
theorem cell_one {W : World} {q : Nat} {v : Value} (h : W.cell? ⟨q, 0, none⟩ = some v) : ∀ j u, [v][j]? = some u → W.cell? ((⟨q, 0, none⟩ : Addr).add j) = some u := by
  intro j u hj
  have hj0 : j = 0 := by
    have := (List.getElem?_eq_some_iff.1 hj).1
    simpa using this
  subst hj0
  obtain rfl : v = u := by simpa using hj
  rwa [add_plain, Nat.zero_add]
set_option maxRecDepth 100000 in
set_option maxHeartbeats 8000000 in
theorem keeps_walk (V : Value) (m : MsgD) (a : Option Addr) (n c : Nat) (ys : List Int) (w : World) (hm : MsgIn w V m) (hcap : ∃ cs : Array Value, V = .agg cs ∧ ∀ a n c, cs[8]? = some (.slice a n c) → n * 8 ≤ 140737488351232 ∧ (a = none → n = 0 ∧ c = 0)) (hy : IsB w a n ys) (hnil : a = none → n = 0 ∧ c = 0) (hnc : n ≤ c) (hc : c ≤ maxLen) (hn : n ≤ 140737488351232) :
    Calls Try.prog 7 #[V, .slice a n c] w fun e w' => e = .returned (.bool true) ∧ Below w.heap.size w w' := by
  obtain ⟨i0, hi, hz0, hz1, hz2⟩ := info_parts Try.infoB
  obtain ⟨i1, hi1, hy0, hy1, hy2⟩ := info_parts Try.infoI
  obtain ⟨na, ma, pa, ra, nn, nc, mn, mc, pn, pc, rn, rc, hm⟩ := hm
  have hv := hm.val
  subst hv
  obtain ⟨hnn, hnnil⟩ : nn * 8 ≤ 140737488351232 ∧ (na = none → nn = 0 ∧ nc = 0) := by
    obtain ⟨cs, e, h⟩ := hcap
    injection e with e
    subst e
    exact h na nn nc rfl
  have HM := Lib.hid hm
  have HY := Lib.hid hy
  have HNIL := Lib.hid hnnil
  have HBN := Lib.hid hnil
  have HC := Lib.hid hc
  have HNL := Lib.hid hm.nodes.1
  have HNW := Lib.hid (fun (W : World) (hb : Below w.heap.size w W) => (hm.nodes.below hb).news)
  clear hm hy hcap hnnil hnil hc
  go_enter Try.func7, Try.ntmps7
  go_wp2_with fail
  refine (awake_any _).mono ?_
  rintro e w1 ⟨rfl, hb1⟩
  have hw0 : Whole (w.alloc (.cells #[.int .i64 m.kind, .int .i64 m.from_, .int .i64 m.«to», .int .i64 m.id, .int .i64 m.rev, .int .i64 m.epoch, .int .i64 m.slot, .bool m.flag, .slice na nn nc, .slice ma mn mc, .slice pa pn pc, .slice ra rn rc] 37)) w.heap.size 37 #[.int .i64 m.kind, .int .i64 m.from_, .int .i64 m.«to», .int .i64 m.id, .int .i64 m.rev, .int .i64 m.epoch, .int .i64 m.slot, .bool m.flag, .slice na nn nc, .slice ma mn mc, .slice pa pn pc, .slice ra rn rc] := heap_alloc_new w _
  have hwa := hw0.kept (hb1.block _ hw0.lt)
  have HB1 := Lib.hid ((below_alloc w _).trans (hb1.mono (by simp)))
  have HWA := Lib.hid hwa
  have HK8 := Lib.hid (show ∀ W, Below w1.heap.size w1 W → W.cell? ⟨w.heap.size, 8, none⟩ = some (.slice na nn nc) from fun W hb => (hwa.kept (hb.block _ hwa.lt)).cell 8)
  have HBW := Lib.hid (show ∀ W, Below w1.heap.size w1 W → Below w.heap.size w W from fun W hb => HB1.out.trans (hb.mono HB1.out.size))
  clear hb1 hwa hw0
  go_wp2_with fail
  go_cut [5] (fun s5 wx => NR w1 wx w.heap.size m.nodes nn s5)
  case first J KK hJR hMK =>
    have hhs := fun (a' : Option Addr) (n' c' : Nat) (h : nn ≤ c') w => slice_headI a' n' c' nn h w
    have HHS := Lib.hid hhs
    clear hhs
    have hb0 : Below w1.heap.size w1 w1.drew := below_drewN w1 1
    refine wp_region_held_drew (S := fun W => W.cell? ⟨w.heap.size, 8, none⟩ = some (.slice na nn nc)) (by kernel_rfl) (HK8.out _ hb0) (fun hHeld => ?_)
    refine wpAnyH_take (i := 1) (oi := { dst := Option.some 16, op := Go.Op.fieldAddr 37 (Go.Operand.tmp 2) 8, type := 0, pos := "law.go:89", after := #[], guard := Option.none }) (v := ?_) rfl (by kernel_rfl) (by kernel_rfl) (by kernel_rfl) (fun _ _ _ h => h) (Or.inl ⟨by rfl, ?_⟩) (by assumption) ?_
    rotate_left
    · intro w hSw; (try dsimp only at hSw); go_simp; all_goals (with_reducible rfl)
    try simp only [Act.put, List.setIfInBounds_toArray, List.set_cons_zero, List.set_cons_succ]
    refine wpAnyH_take (i := 2) (oi := { dst := Option.some 17, op := Go.Op.load 32 (Go.Operand.tmp 16), type := 32, pos := "law.go:89", after := #[{ on := 1, ground := Go.Ground.data }], guard := Option.none }) (v := ?_) rfl (by kernel_rfl) (by kernel_rfl) (by kernel_rfl) (fun _ _ _ h => h) (Or.inl ⟨by rfl, ?_⟩) (by assumption) ?_
    rotate_left
    · intro w hSw; (try dsimp only at hSw); go_simp; all_goals (with_reducible rfl)
    try simp only [Act.put, List.setIfInBounds_toArray, List.set_cons_zero, List.set_cons_succ]
    refine wpAnyH_take (i := 6) (oi := { dst := Option.some 21, op := Go.Op.fieldAddr 37 (Go.Operand.tmp 2) 8, type := 0, pos := "law.go:89", after := #[], guard := Option.none }) (v := ?_) rfl (by kernel_rfl) (by kernel_rfl) (by kernel_rfl) (fun _ _ _ h => h) (Or.inl ⟨by rfl, ?_⟩) (by assumption) ?_
    rotate_left
    · intro w hSw; (try dsimp only at hSw); go_simp; all_goals (with_reducible rfl)
    try simp only [Act.put, List.setIfInBounds_toArray, List.set_cons_zero, List.set_cons_succ]
    refine wpAnyH_take (i := 7) (oi := { dst := Option.some 22, op := Go.Op.load 32 (Go.Operand.tmp 21), type := 32, pos := "law.go:89", after := #[{ on := 6, ground := Go.Ground.data }], guard := Option.none }) (v := ?_) rfl (by kernel_rfl) (by kernel_rfl) (by kernel_rfl) (fun _ _ _ h => h) (Or.inl ⟨by rfl, ?_⟩) (by assumption) ?_
    rotate_left
    · intro w hSw; (try dsimp only at hSw); go_simp; all_goals (with_reducible rfl)
    try simp only [Act.put, List.setIfInBounds_toArray, List.set_cons_zero, List.set_cons_succ]
    refine wpAnyH_take (i := 8) (oi := { dst := Option.some 23, op := Go.Op.call { callee := Go.Callee.builtin Go.Builtin.len, args := #[Go.Operand.tmp 22], argTypes := #[32] }, type := 3, pos := "law.go:89", after := #[{ on := 7, ground := Go.Ground.data }], guard := Option.none }) (v := ?_) rfl (by kernel_rfl) (by kernel_rfl) (by kernel_rfl) (fun _ _ _ h => h) (Or.inl ⟨by rfl, ?_⟩) (by assumption) ?_
    rotate_left
    · intro w hSw; (try dsimp only at hSw); go_simp; all_goals (with_reducible rfl)
    try simp only [Act.put, List.setIfInBounds_toArray, List.set_cons_zero, List.set_cons_succ]
    refine wpAnyH_ready (rs := [0, 4]) (by kernel_rfl) (by simp) ?_
    refine AllReadyH.cons (o := { dst := Option.some 15, op := Go.Op.buildSlice 32 0 #[], type := 32, pos := "law.go:89", after := #[], guard := Option.none }) rfl (fun K hK => ?_) (AllReadyH.cons (o := { dst := Option.some 19, op := Go.Op.buildSlice 32 1 #[(0, Go.Operand.const (Go.Value.int Go.IntKind.i64 77))], type := 32, pos := "law.go:89", after := #[], guard := Option.none }) rfl (fun K hK => ?_) AllReadyH.nil)
    · go_simp
      have hbc := hb0.trans ((below_alloc w1.drew (.cells #[] 3)).mono hb0.size)
      have hmade := World.ownsRow_made (base := w1.heap.size) (e := 3) (size := 1) w1.drew #[] 0 (Nat.le_refl _) (by simp [maxLen]) rfl
      refine hK.out _ _ (HK8.out _ hbc) (fun hHeld => ?_)
      clear hK K
      try simp only [Act.put, List.setIfInBounds_toArray, List.set_cons_zero, List.set_cons_succ]
      refine wpAnyH_ready (rs := [3, 4]) (by kernel_rfl) (by simp) ?_
      refine AllReadyH.cons (o := { dst := Option.some 18, op := Go.Op.call { callee := Go.Callee.builtin Go.Builtin.append, args := #[Go.Operand.tmp 15, Go.Operand.tmp 17], argTypes := #[32, 32] }, type := 32, pos := "law.go:89", after := #[{ on := 0, ground := Go.Ground.data }, { on := 2, ground := Go.Ground.data }], guard := Option.none }) rfl (fun K hK => ?_) (AllReadyH.cons (o := { dst := Option.some 19, op := Go.Op.buildSlice 32 1 #[(0, Go.Operand.const (Go.Value.int Go.IntKind.i64 77))], type := 32, pos := "law.go:89", after := #[], guard := Option.none }) rfl (fun K hK => ?_) AllReadyH.nil)
      · refine step_append_any (w1.drew.alloc (.cells #[] 3)) rfl (.tmp 15) (.tmp 17) 32 rfl w1.heap.size 3 i1 (.int .i64 0) 1 8 Try.underlying32 hi1 hy0 hy1 hy2 rfl (by decide) (.slice (some ⟨w1.heap.size, 0, none⟩) 0 0) 0 [] rfl hmade na nn nc (m.nodes.map (Value.int .i64)) rfl (by rw [List.length_map, HNL.out, Nat.mul_one]) HNIL.out (HNW.out _ (HBW.out _ hbc)) (oneCell_ints _) (by unfold maxLen; omega) (by omega) hbc.size ?_
        intro v3 w3 hown3 hgrow3
        have hb3 : Below w1.heap.size w1 w3 := hbc.grown hgrow3 hbc.size (fun j hj => (hmade.lt j hj).1)
        refine hK.out _ _ (HK8.out _ hb3) (fun hHeld => ?_)
        clear hK K
        try simp only [Act.put, List.setIfInBounds_toArray, List.set_cons_zero, List.set_cons_succ]
        refine wpAnyH_ready (rs := [4]) (by kernel_rfl) (by simp) ?_
        refine AllReadyH.cons (o := { dst := Option.some 19, op := Go.Op.buildSlice 32 1 #[(0, Go.Operand.const (Go.Value.int Go.IntKind.i64 77))], type := 32, pos := "law.go:89", after := #[], guard := Option.none }) rfl (fun K hK => ?_) AllReadyH.nil
        go_simp
        have hbd := hb3.trans ((below_alloc w3 (.cells #[.int .i64 77] 3)).mono hb3.size)
        refine hK.out _ _ (HK8.out _ hbd) (fun hHeld => ?_)
        clear hK K
        try simp only [Act.put, List.setIfInBounds_toArray, List.set_cons_zero, List.set_cons_succ]
        refine wpAnyH_ready (rs := [5]) (by kernel_rfl) (by simp) ?_
        refine AllReadyH.cons (o := { dst := Option.some 20, op := Go.Op.call { callee := Go.Callee.builtin Go.Builtin.append, args := #[Go.Operand.tmp 18, Go.Operand.tmp 19], argTypes := #[32, 32] }, type := 32, pos := "law.go:89", after := #[{ on := 3, ground := Go.Ground.data }, { on := 4, ground := Go.Ground.data }, { on := 3, ground := Go.Ground.chain }], guard := Option.none }) rfl (fun K hK => ?_) AllReadyH.nil
        refine step_append_any (w3.alloc (.cells #[.int .i64 77] 3)) rfl (.tmp 18) (.tmp 19) 32 rfl w1.heap.size 3 i1 (.int .i64 0) 1 8 Try.underlying32 hi1 hy0 hy1 hy2 rfl (by decide) v3 (0 + nn) _ rfl (hown3.alloc (.cells #[.int .i64 77] 3)) (some ⟨w3.heap.size, 0, none⟩) 1 1 [.int .i64 77] rfl rfl (by intro h; cases h) (by rintro ad he; injection he with he; subst he; exact cells_new w3 [.int .i64 77] _) (by intro u hu; simp at hu; subst hu; rfl) (by unfold maxLen; omega) (by omega) hbd.size ?_
        intro v5 w5 hown5 hgrow5
        have hb5 : Below w1.heap.size w1 w5 := hbd.grown hgrow5 hbd.size (fun j hj => ((hown3.alloc (.cells #[.int .i64 77] 3)).lt j hj).1)
        have hx77 : [] ++ m.nodes.map (Value.int .i64) ++ [Value.int .i64 77] = (m.nodes ++ [77]).map (Value.int .i64) := by simp
        rw [hx77, Nat.zero_add] at hown5
        obtain ⟨q5, cap5, rfl, hc5, hm5⟩ := owns_shape hown5 (by omega)
        have hq5 := (hown5.lt q5 rfl).1
        have HOW5 := Lib.hid (owns_lower hown5 (show w.heap.size ≤ w1.heap.size from HB1.out.size))
        have HB5 := Lib.hid hb5
        have hst := fun w => HHS.out (some ⟨q5, 0, none⟩) (nn + 1) cap5 (by omega) w
        refine hK.out _ _ (HK8.out _ hb5) (fun hHeld => ?_)
        clear hK K
        try simp only [Act.put, List.setIfInBounds_toArray, List.set_cons_zero, List.set_cons_succ]
        clear hown5 hgrow5 hb5 hx77
        refine wpAnyH_take (i := 9) (oi := { dst := Option.some 24, op := Go.Op.slice 32 (Go.Operand.tmp 20) Option.none (Option.some (Go.Operand.tmp 23)) Option.none, type := 32, pos := "law.go:89", after := #[{ on := 5, ground := Go.Ground.data }, { on := 8, ground := Go.Ground.data }], guard := Option.none }) (v := ?_) rfl (by kernel_rfl) (by kernel_rfl) (by kernel_rfl) (fun _ _ _ h => h) (Or.inl ⟨by rfl, ?_⟩) (by assumption) ?_
        rotate_left
        · intro w hSw; (try dsimp only at hSw); go_simp; all_goals (with_reducible rfl)
        try simp only [Act.put, List.setIfInBounds_toArray, List.set_cons_zero, List.set_cons_succ]
        refine wpAnyH_take (i := 10) (oi := { dst := Option.some 5, op := Go.Op.assign (Go.Operand.tmp 24), type := 32, pos := "law.go:89", after := #[{ on := 9, ground := Go.Ground.data }, { on := 5, ground := Go.Ground.chain }, { on := 0, ground := Go.Ground.phase }, { on := 1, ground := Go.Ground.phase }, { on := 2, ground := Go.Ground.phase }, { on := 3, ground := Go.Ground.phase }, { on := 4, ground := Go.Ground.phase }, { on := 5, ground := Go.Ground.phase }, { on := 6, ground := Go.Ground.phase }, { on := 7, ground := Go.Ground.phase }, { on := 8, ground := Go.Ground.phase }, { on := 9, ground := Go.Ground.phase }], guard := Option.none }) (v := ?_) rfl (by kernel_rfl) (by kernel_rfl) (by kernel_rfl) (fun _ _ _ h => h) (Or.inl ⟨by rfl, ?_⟩) (by assumption) ?_
        rotate_left
        · intro w hSw; (try dsimp only at hSw); go_simp; all_goals (with_reducible rfl)
        try simp only [Act.put, List.setIfInBounds_toArray, List.set_cons_zero, List.set_cons_succ]
        refine wpAnyH_done (by kernel_rfl) ?_ _
        refine hMK _ _ (Met.intro (hJR _ _ ?_))
        repeat apply Exists.intro
        exact ⟨⟨q5, cap5, rfl, hc5, hm5, HOW5.out, HB5.out, hq5⟩, rfl⟩
      · go_simp
        have hbc := hbc.trans ((below_alloc (w1.drew.alloc (.cells #[] 3)) (.cells #[.int .i64 77] 3)).mono hbc.size)
        refine hK.out _ _ (HK8.out _ hbc) (fun hHeld => ?_)
        clear hK K
        try simp only [Act.put, List.setIfInBounds_toArray, List.set_cons_zero, List.set_cons_succ]
        refine wpAnyH_ready (rs := [3]) (by kernel_rfl) (by simp) ?_
        refine AllReadyH.cons (o := { dst := Option.some 18, op := Go.Op.call { callee := Go.Callee.builtin Go.Builtin.append, args := #[Go.Operand.tmp 15, Go.Operand.tmp 17], argTypes := #[32, 32] }, type := 32, pos := "law.go:89", after := #[{ on := 0, ground := Go.Ground.data }, { on := 2, ground := Go.Ground.data }], guard := Option.none }) rfl (fun K hK => ?_) AllReadyH.nil
        refine step_append_any ((w1.drew.alloc (.cells #[] 3)).alloc (.cells #[.int .i64 77] 3)) rfl (.tmp 15) (.tmp 17) 32 rfl w1.heap.size 3 i1 (.int .i64 0) 1 8 Try.underlying32 hi1 hy0 hy1 hy2 rfl (by decide) (.slice (some ⟨w1.heap.size, 0, none⟩) 0 0) 0 [] rfl (hmade.alloc (.cells #[.int .i64 77] 3)) na nn nc (m.nodes.map (Value.int .i64)) rfl (by rw [List.length_map, HNL.out, Nat.mul_one]) HNIL.out (HNW.out _ (HBW.out _ hbc)) (oneCell_ints _) (by unfold maxLen; omega) (by omega) hbc.size ?_
        intro v3 w3 hown3 hgrow3
        have hb3 : Below w1.heap.size w1 w3 := hbc.grown hgrow3 hbc.size (fun j hj => ((hmade.alloc (.cells #[.int .i64 77] 3)).lt j hj).1)
        have hbd := hb3
        have hq7 : w3.cell? ⟨w1.heap.size + 1, 0, none⟩ = some (.int .i64 77) := by
          have h1 := World.cell?_of_block (hgrow3.block (w1.heap.size + 1) (by simp) (by simp [Value.ownBlock])) (a := ⟨w1.heap.size + 1, 0, none⟩)
          rw [h1]
          have h2 := new_cell (w1.drew.alloc (.cells #[] 3)) #[.int .i64 77] 3 (0, 0) 0
          rw [show (w1.drew.alloc (.cells #[] 3)).heap.size = w1.heap.size + 1 by simp] at h2
          exact h2
        refine hK.out _ _ (HK8.out _ hb3) (fun hHeld => ?_)
        clear hK K
        try simp only [Act.put, List.setIfInBounds_toArray, List.set_cons_zero, List.set_cons_succ]
        refine wpAnyH_ready (rs := [5]) (by kernel_rfl) (by simp) ?_
        refine AllReadyH.cons (o := { dst := Option.some 20, op := Go.Op.call { callee := Go.Callee.builtin Go.Builtin.append, args := #[Go.Operand.tmp 18, Go.Operand.tmp 19], argTypes := #[32, 32] }, type := 32, pos := "law.go:89", after := #[{ on := 3, ground := Go.Ground.data }, { on := 4, ground := Go.Ground.data }, { on := 3, ground := Go.Ground.chain }], guard := Option.none }) rfl (fun K hK => ?_) AllReadyH.nil
        refine step_append_any (w3) rfl (.tmp 18) (.tmp 19) 32 rfl w1.heap.size 3 i1 (.int .i64 0) 1 8 Try.underlying32 hi1 hy0 hy1 hy2 rfl (by decide) v3 (0 + nn) _ rfl hown3 (some ⟨w1.heap.size + 1, 0, none⟩) 1 1 [.int .i64 77] rfl rfl (by intro h; cases h) (by rintro ad he; injection he with he; subst he; exact cell_one hq7) (by intro u hu; simp at hu; subst hu; rfl) (by unfold maxLen; omega) (by omega) hbd.size ?_
        intro v5 w5 hown5 hgrow5
        have hb5 : Below w1.heap.size w1 w5 := hbd.grown hgrow5 hbd.size (fun j hj => (hown3.lt j hj).1)
        have hx77 : [] ++ m.nodes.map (Value.int .i64) ++ [Value.int .i64 77] = (m.nodes ++ [77]).map (Value.int .i64) := by simp
        rw [hx77, Nat.zero_add] at hown5
        obtain ⟨q5, cap5, rfl, hc5, hm5⟩ := owns_shape hown5 (by omega)
        have hq5 := (hown5.lt q5 rfl).1
        have HOW5 := Lib.hid (owns_lower hown5 (show w.heap.size ≤ w1.heap.size from HB1.out.size))
        have HB5 := Lib.hid hb5
        have hst := fun w => HHS.out (some ⟨q5, 0, none⟩) (nn + 1) cap5 (by omega) w
        refine hK.out _ _ (HK8.out _ hb5) (fun hHeld => ?_)
        clear hK K
        try simp only [Act.put, List.setIfInBounds_toArray, List.set_cons_zero, List.set_cons_succ]
        clear hown5 hgrow5 hb5 hx77
        refine wpAnyH_take (i := 9) (oi := { dst := Option.some 24, op := Go.Op.slice 32 (Go.Operand.tmp 20) Option.none (Option.some (Go.Operand.tmp 23)) Option.none, type := 32, pos := "law.go:89", after := #[{ on := 5, ground := Go.Ground.data }, { on := 8, ground := Go.Ground.data }], guard := Option.none }) (v := ?_) rfl (by kernel_rfl) (by kernel_rfl) (by kernel_rfl) (fun _ _ _ h => h) (Or.inl ⟨by rfl, ?_⟩) (by assumption) ?_
        rotate_left
        · intro w hSw; (try dsimp only at hSw); go_simp; all_goals (with_reducible rfl)
        try simp only [Act.put, List.setIfInBounds_toArray, List.set_cons_zero, List.set_cons_succ]
        refine wpAnyH_take (i := 10) (oi := { dst := Option.some 5, op := Go.Op.assign (Go.Operand.tmp 24), type := 32, pos := "law.go:89", after := #[{ on := 9, ground := Go.Ground.data }, { on := 5, ground := Go.Ground.chain }, { on := 0, ground := Go.Ground.phase }, { on := 1, ground := Go.Ground.phase }, { on := 2, ground := Go.Ground.phase }, { on := 3, ground := Go.Ground.phase }, { on := 4, ground := Go.Ground.phase }, { on := 5, ground := Go.Ground.phase }, { on := 6, ground := Go.Ground.phase }, { on := 7, ground := Go.Ground.phase }, { on := 8, ground := Go.Ground.phase }, { on := 9, ground := Go.Ground.phase }], guard := Option.none }) (v := ?_) rfl (by kernel_rfl) (by kernel_rfl) (by kernel_rfl) (fun _ _ _ h => h) (Or.inl ⟨by rfl, ?_⟩) (by assumption) ?_
        rotate_left
        · intro w hSw; (try dsimp only at hSw); go_simp; all_goals (with_reducible rfl)
        try simp only [Act.put, List.setIfInBounds_toArray, List.set_cons_zero, List.set_cons_succ]
        refine wpAnyH_done (by kernel_rfl) ?_ _
        refine hMK _ _ (Met.intro (hJR _ _ ?_))
        repeat apply Exists.intro
        exact ⟨⟨q5, cap5, rfl, hc5, hm5, HOW5.out, HB5.out, hq5⟩, rfl⟩
    · go_simp
      have hbc := hb0.trans ((below_alloc w1.drew (.cells #[.int .i64 77] 3)).mono hb0.size)
      refine hK.out _ _ (HK8.out _ hbc) (fun hHeld => ?_)
      clear hK K
      try simp only [Act.put, List.setIfInBounds_toArray, List.set_cons_zero, List.set_cons_succ]
      refine wpAnyH_ready (rs := [0]) (by kernel_rfl) (by simp) ?_
      refine AllReadyH.cons (o := { dst := Option.some 15, op := Go.Op.buildSlice 32 0 #[], type := 32, pos := "law.go:89", after := #[], guard := Option.none }) rfl (fun K hK => ?_) AllReadyH.nil
      go_simp
      have hbc := hbc.trans ((below_alloc (w1.drew.alloc (.cells #[.int .i64 77] 3)) (.cells #[] 3)).mono hbc.size)
      have hmade := World.ownsRow_made (base := w1.heap.size) (e := 3) (size := 1) (w1.drew.alloc (.cells #[.int .i64 77] 3)) #[] 0 (by simp) (by simp [maxLen]) rfl
      rw [show (w1.drew.alloc (.cells #[.int .i64 77] 3)).heap.size = w1.heap.size + 1 by simp] at hmade
      refine hK.out _ _ (HK8.out _ hbc) (fun hHeld => ?_)
      clear hK K
      try simp only [Act.put, List.setIfInBounds_toArray, List.set_cons_zero, List.set_cons_succ]
      refine wpAnyH_ready (rs := [3]) (by kernel_rfl) (by simp) ?_
      refine AllReadyH.cons (o := { dst := Option.some 18, op := Go.Op.call { callee := Go.Callee.builtin Go.Builtin.append, args := #[Go.Operand.tmp 15, Go.Operand.tmp 17], argTypes := #[32, 32] }, type := 32, pos := "law.go:89", after := #[{ on := 0, ground := Go.Ground.data }, { on := 2, ground := Go.Ground.data }], guard := Option.none }) rfl (fun K hK => ?_) AllReadyH.nil
      refine step_append_any ((w1.drew.alloc (.cells #[.int .i64 77] 3)).alloc (.cells #[] 3)) rfl (.tmp 15) (.tmp 17) 32 rfl w1.heap.size 3 i1 (.int .i64 0) 1 8 Try.underlying32 hi1 hy0 hy1 hy2 rfl (by decide) (.slice (some ⟨w1.heap.size + 1, 0, none⟩) 0 0) 0 [] rfl hmade na nn nc (m.nodes.map (Value.int .i64)) rfl (by rw [List.length_map, HNL.out, Nat.mul_one]) HNIL.out (HNW.out _ (HBW.out _ hbc)) (oneCell_ints _) (by unfold maxLen; omega) (by omega) hbc.size ?_
      intro v3 w3 hown3 hgrow3
      have hb3 : Below w1.heap.size w1 w3 := hbc.grown hgrow3 hbc.size (fun j hj => (hmade.lt j hj).1)
      have hbd := hb3
      have hq7 : w3.cell? ⟨w1.heap.size, 0, none⟩ = some (.int .i64 77) := by
        have h1 := World.cell?_of_block (hgrow3.block w1.heap.size (by simp; omega) (by simp [Value.ownBlock])) (a := ⟨w1.heap.size, 0, none⟩)
        rw [h1]
        have h2 := (below_alloc (w1.drew.alloc (.cells #[.int .i64 77] 3)) (.cells #[] 3)).cell (p := ⟨w1.heap.size, 0, none⟩) (by simp)
        rw [h2]
        exact new_cell w1.drew #[.int .i64 77] 3 (0, 0) 0
      refine hK.out _ _ (HK8.out _ hb3) (fun hHeld => ?_)
      clear hK K
      try simp only [Act.put, List.setIfInBounds_toArray, List.set_cons_zero, List.set_cons_succ]
      refine wpAnyH_ready (rs := [5]) (by kernel_rfl) (by simp) ?_
      refine AllReadyH.cons (o := { dst := Option.some 20, op := Go.Op.call { callee := Go.Callee.builtin Go.Builtin.append, args := #[Go.Operand.tmp 18, Go.Operand.tmp 19], argTypes := #[32, 32] }, type := 32, pos := "law.go:89", after := #[{ on := 3, ground := Go.Ground.data }, { on := 4, ground := Go.Ground.data }, { on := 3, ground := Go.Ground.chain }], guard := Option.none }) rfl (fun K hK => ?_) AllReadyH.nil
      refine step_append_any (w3) rfl (.tmp 18) (.tmp 19) 32 rfl w1.heap.size 3 i1 (.int .i64 0) 1 8 Try.underlying32 hi1 hy0 hy1 hy2 rfl (by decide) v3 (0 + nn) _ rfl hown3 (some ⟨w1.heap.size, 0, none⟩) 1 1 [.int .i64 77] rfl rfl (by intro h; cases h) (by rintro ad he; injection he with he; subst he; exact cell_one hq7) (by intro u hu; simp at hu; subst hu; rfl) (by unfold maxLen; omega) (by omega) hbd.size ?_
      intro v5 w5 hown5 hgrow5
      have hb5 : Below w1.heap.size w1 w5 := hbd.grown hgrow5 hbd.size (fun j hj => (hown3.lt j hj).1)
      have hx77 : [] ++ m.nodes.map (Value.int .i64) ++ [Value.int .i64 77] = (m.nodes ++ [77]).map (Value.int .i64) := by simp
      rw [hx77, Nat.zero_add] at hown5
      obtain ⟨q5, cap5, rfl, hc5, hm5⟩ := owns_shape hown5 (by omega)
      have hq5 := (hown5.lt q5 rfl).1
      have HOW5 := Lib.hid (owns_lower hown5 (show w.heap.size ≤ w1.heap.size from HB1.out.size))
      have HB5 := Lib.hid hb5
      have hst := fun w => HHS.out (some ⟨q5, 0, none⟩) (nn + 1) cap5 (by omega) w
      refine hK.out _ _ (HK8.out _ hb5) (fun hHeld => ?_)
      clear hK K
      try simp only [Act.put, List.setIfInBounds_toArray, List.set_cons_zero, List.set_cons_succ]
      clear hown5 hgrow5 hb5 hx77
      refine wpAnyH_take (i := 9) (oi := { dst := Option.some 24, op := Go.Op.slice 32 (Go.Operand.tmp 20) Option.none (Option.some (Go.Operand.tmp 23)) Option.none, type := 32, pos := "law.go:89", after := #[{ on := 5, ground := Go.Ground.data }, { on := 8, ground := Go.Ground.data }], guard := Option.none }) (v := ?_) rfl (by kernel_rfl) (by kernel_rfl) (by kernel_rfl) (fun _ _ _ h => h) (Or.inl ⟨by rfl, ?_⟩) (by assumption) ?_
      rotate_left
      · intro w hSw; (try dsimp only at hSw); go_simp; all_goals (with_reducible rfl)
      try simp only [Act.put, List.setIfInBounds_toArray, List.set_cons_zero, List.set_cons_succ]
      refine wpAnyH_take (i := 10) (oi := { dst := Option.some 5, op := Go.Op.assign (Go.Operand.tmp 24), type := 32, pos := "law.go:89", after := #[{ on := 9, ground := Go.Ground.data }, { on := 5, ground := Go.Ground.chain }, { on := 0, ground := Go.Ground.phase }, { on := 1, ground := Go.Ground.phase }, { on := 2, ground := Go.Ground.phase }, { on := 3, ground := Go.Ground.phase }, { on := 4, ground := Go.Ground.phase }, { on := 5, ground := Go.Ground.phase }, { on := 6, ground := Go.Ground.phase }, { on := 7, ground := Go.Ground.phase }, { on := 8, ground := Go.Ground.phase }, { on := 9, ground := Go.Ground.phase }], guard := Option.none }) (v := ?_) rfl (by kernel_rfl) (by kernel_rfl) (by kernel_rfl) (fun _ _ _ h => h) (Or.inl ⟨by rfl, ?_⟩) (by assumption) ?_
      rotate_left
      · intro w hSw; (try dsimp only at hSw); go_simp; all_goals (with_reducible rfl)
      try simp only [Act.put, List.setIfInBounds_toArray, List.set_cons_zero, List.set_cons_succ]
      refine wpAnyH_done (by kernel_rfl) ?_ _
      refine hMK _ _ (Met.intro (hJR _ _ ?_))
      repeat apply Exists.intro
      exact ⟨⟨q5, cap5, rfl, hc5, hm5, HOW5.out, HB5.out, hq5⟩, rfl⟩
  case rest =>
    obtain ⟨q5, cap5, rfl, hc5, hm5, hown5, hb5, hq5⟩ := hcut
    have HWC := Lib.hid (HWA.out.kept (hb5.block _ HWA.out.lt))
    have HBC := Lib.hid (HBW.out _ hb5)
    have hcells := fun (j : Nat) (u : Value) (hj : ((m.nodes ++ [77]).map (Value.int .i64))[j]? = some u) => (by have := hown5.cells (g := q5) rfl j u hj; rwa [add_plain, Nat.zero_add] at this : wc.cell? ⟨q5, j, none⟩ = some u)
    have hq77 : wc.cell? ⟨q5, nn, none⟩ = some (.int .i64 77) := hcells nn _ (by rw [List.getElem?_map, List.getElem?_append_right (by rw [HNL.out]; exact Nat.le_refl _), HNL.out, Nat.sub_self]; rfl)
    have hqn : ∀ i z, m.nodes[i]? = some z → wc.cell? ⟨q5, i, none⟩ = some (.int .i64 z) := fun i z hz => hcells i _ (by rw [List.getElem?_map, List.getElem?_append_left (List.getElem?_eq_some_iff.1 hz).1, hz]; rfl)
    have hq5l : q5 < wc.heap.size := (hown5.lt q5 rfl).2
    obtain ⟨b0, hb0⟩ : ∃ b0, b0 = w.heap.size := ⟨_, rfl⟩
    rw [← hb0] at HWC ⊢
    have HB0 := Lib.hid hb0
    have H77 := Lib.hid hq77
    have HQN := Lib.hid hqn
    have HQL := Lib.hid hq5l
    unfold maxLen at hm5
    have k0 := HWC.out.cell 0
    have k1 := HWC.out.cell 1
    have k2 := HWC.out.cell 2
    have k3 := HWC.out.cell 3
    have k4 := HWC.out.cell 4
    have k5 := HWC.out.cell 5
    have k6 := HWC.out.cell 6
    have k7 := HWC.out.cell 7
    have k8 := HWC.out.cell 8
    have k9 := HWC.out.cell 9
    have k10 := HWC.out.cell 10
    have k11 := HWC.out.cell 11
    clear hown5 hb5 hcells hq77 hqn hq5l hq5 hb0
    go_upto_region 6 with fail
    obtain ⟨X6, hX6, hw6, hbx6⟩ : ∃ X6, X6 = wc.alloc (.cells #[.int .i64 m.kind, .int .i64 m.from_, .int .i64 m.«to», .int .i64 m.id, .int .i64 m.rev, .int .i64 m.epoch, .int .i64 m.slot, .bool m.flag, .slice (some ⟨q5, 0, none⟩) nn cap5, .slice ma mn mc, .slice pa pn pc, .slice ra rn rc] 37) ∧ Whole X6 wc.heap.size 37 #[.int .i64 m.kind, .int .i64 m.from_, .int .i64 m.«to», .int .i64 m.id, .int .i64 m.rev, .int .i64 m.epoch, .int .i64 m.slot, .bool m.flag, .slice (some ⟨q5, 0, none⟩) nn cap5, .slice ma mn mc, .slice pa pn pc, .slice ra rn rc] ∧ Below wc.heap.size wc X6 := ⟨_, rfl, heap_alloc_new wc _, below_alloc wc _⟩
    rw [← hX6]
    obtain ⟨b6, hb6⟩ : ∃ b6, b6 = wc.heap.size := ⟨_, rfl⟩
    rw [← hb6] at hw6 ⊢
    have hbX := HBC.out.trans (hbx6.mono HBC.out.size)
    have HIN6 := Lib.hid (show MsgIn X6 _ m from ⟨_, _, _, _, _, _, _, _, _, _, _, _, msg_swap (cap := cap5) HM.out hbX hbX.size (Nat.lt_of_lt_of_le HQL.out hbx6.size) (fun i z hz => (hbx6.cell (p := ⟨q5, i, none⟩) HQL.out).trans (HQN.out i z hz))⟩)
    have HW0 := Lib.hid (HWC.out.kept (hbx6.block _ HWC.out.lt))
    have HW6 := Lib.hid hw6
    have H776 := Lib.hid ((hbx6.cell (p := ⟨q5, nn, none⟩) HQL.out).trans H77.out)
    have HQL6 := Lib.hid (Nat.lt_of_lt_of_le HQL.out hbx6.size)
    have HQN6 := Lib.hid (show ∀ i z, m.nodes[i]? = some z → X6.cell? ⟨q5, i, none⟩ = some (.int .i64 z) from fun i z hz => (hbx6.cell (p := ⟨q5, i, none⟩) HQL.out).trans (HQN.out i z hz))
    have HBX6 := Lib.hid hbX
    have HEN := Lib.hid (encode_some HIN6.out)
    clear hX6 hbx6 hbX hb6 k0 k1 k2 k3 k4 k5 k6 k7 k8 k9 k10 k11
    have k0 := hw6.cell 0
    have k1 := hw6.cell 1
    have k2 := hw6.cell 2
    have k3 := hw6.cell 3
    have k4 := hw6.cell 4
    have k5 := hw6.cell 5
    have k6 := hw6.cell 6
    have k7 := hw6.cell 7
    have k8 := hw6.cell 8
    have k9 := hw6.cell 9
    have k10 := hw6.cell 10
    have k11 := hw6.cell 11
    clear hw6
    go_wp2_with fail
    refine HEN.out.mono ?_
    rintro e w6 ⟨ve, ce, rfl, hb6⟩
    have HB6 := Lib.hid hb6
    have hs6 : w.heap.size ≤ w6.heap.size := Nat.le_trans HBX6.out.size hb6.size
    have hy6 := (HY.out.below (HBX6.out.trans (hb6.mono HBX6.out.size))).alloc (.cells #[] 5)
    have hmade := World.ownsRow_made (base := w6.heap.size) (e := 5) (size := 1) w6 #[] 0 (Nat.le_refl _) (by simp [maxLen]) rfl
    have HNY := Lib.hid hy6.news
    have HMD := Lib.hid hmade
    have HLN := Lib.hid (show (ys.map (Value.int .u8)).length = n * 1 by simpa using HY.out.1)
    clear hb6 hy6 hmade k0 k1 k2 k3 k4 k5 k6 k7 k8 k9 k10 k11
    go_wp2_with (at_builtin; refine wpList_append_at_any _ rfl _ _ 22 rfl w6.heap.size 5 i0 (.int .u8 0) 1 1 Try.underlying22 hi hz0 hz1 hz2 rfl (by decide) _ 0 [] rfl HMD.out a n c (ys.map (Value.int .u8)) rfl HLN.out HBN.out HNY.out (oneCell_map ys) (by unfold maxLen; omega) (by omega) (by simp) ?_; intro v7 w7 hown7 hgrow7 hat7)
    have hb7 : Below w6.heap.size w6 w7 := ((below_alloc w6 (.cells #[] 5)).grown hgrow7 (by simp) (fun j hj => (HMD.out.lt j hj).1))
    rw [List.nil_append, Nat.zero_add] at hown7
    have HDK := Lib.hid (decode_keep hown7 HY.out.2.1)
    have HO7 := Lib.hid hown7
    have HB7 := Lib.hid (HB6.out.trans (hb7.mono HB6.out.size))
    have HS71 := Lib.hid (show w6.heap.size < w7.heap.size from Nat.lt_of_lt_of_le (by simp) hgrow7.size)
    obtain ⟨a7, c7, rfl, hc71, hc72⟩ := owned_any hown7
    clear hown7 hgrow7 hat7 hb7
    go_wp2_with fail
    refine HDK.out.mono ?_
    rintro e w8 ⟨V8, d8, c8, rfl, hin8, hb8, hr8, hkeep8⟩
    obtain ⟨na8, ma8, pa8, ra8, nn8, nc8, mn8, mc8, pn8, pc8, rn8, rc8, hin8⟩ := hin8
    have hv8 := hin8.val
    subst hv8
    obtain ⟨X8, hX8, hw8, hbx8⟩ : ∃ X8, X8 = w8.alloc (.cells #[.int .i64 d8.kind, .int .i64 d8.from_, .int .i64 d8.«to», .int .i64 d8.id, .int .i64 d8.rev, .int .i64 d8.epoch, .int .i64 d8.slot, .bool d8.flag, .slice na8 nn8 nc8, .slice ma8 mn8 mc8, .slice pa8 pn8 pc8, .slice ra8 rn8 rc8] 37) ∧ Whole X8 w8.heap.size 37 #[.int .i64 d8.kind, .int .i64 d8.from_, .int .i64 d8.«to», .int .i64 d8.id, .int .i64 d8.rev, .int .i64 d8.epoch, .int .i64 d8.slot, .bool d8.flag, .slice na8 nn8 nc8, .slice ma8 mn8 mc8, .slice pa8 pn8 pc8, .slice ra8 rn8 rc8] ∧ Below w8.heap.size w8 X8 := ⟨_, rfl, heap_alloc_new w8 _, below_alloc w8 _⟩
    go_upto_region 9 with fail
    rw [← hX8]
    obtain ⟨b8, hb8e⟩ : ∃ b8, b8 = w8.heap.size := ⟨_, rfl⟩
    rw [← hb8e] at hw8 ⊢
    have hbX8 := HB7.out.trans ((hb8.trans (hbx8.mono hb8.size)).mono HB7.out.size)
    have HB8X := Lib.hid hbX8
    have HO8 := Lib.hid (owns_below (owns_below HO7.out hb8) hbx8)
    have HW8 := Lib.hid hw8
    have HKP := Lib.hid (show ∀ W : World, (∀ k, w7.heap.size ≤ k → k < X8.heap.size → W.heap[k]? = X8.heap[k]?) → MsgIn W _ d8 from fun W hW => hkeep8 W fun k h1 h2 => (hW k h1 (Nat.lt_of_lt_of_le h2 hbx8.size)).trans (hbx8.block k h2))
    have HR8 := Lib.hid hr8
    have hb8g : w7.heap.size ≤ b8 := by rw [hb8e]; exact hb8.size
    have HB8G := Lib.hid hb8g
    clear hX8 hw8 hbx8 hbX8 hin8 hb8 hkeep8 hr8 hb8e hb8g
    have hloop : ∃ gm, w6.heap.size ≤ gm ∧ gm < w7.heap.size ∧ (n = 0 ∨ a7 = some ⟨gm, 0, none⟩ ∧ Bytes8 X8 gm n) := by
      rcases Nat.eq_zero_or_pos n with h0 | h0
      · exact ⟨w6.heap.size, Nat.le_refl _, HS71.out, .inl h0⟩
      · obtain ⟨gm, c', e, _, _⟩ := owns_shape HO7.out h0
        injection e with e1 e2 e3
        subst e1 e3
        have hl := HO7.out.lt gm rfl
        exact ⟨gm, hl.1, hl.2, .inr ⟨rfl, bytes8_of HO8.out HY.out.2.1⟩⟩
    obtain ⟨gm, hgm1, hgm2, hgm3⟩ := hloop
    have HG1 := Lib.hid hgm1
    have HG2 := Lib.hid hgm2
    have HG3 := Lib.hid hgm3
    have HS6 := Lib.hid hs6
    clear hgm1 hgm2 hgm3 hs6
    go_wp2_with fail
    go_loopw [40] (fun iv wr => ∃ j : Nat, j ≤ n ∧ iv = .int .i64 j ∧ Only X8 wr gm ∧ (n = 0 ∨ Bytes8 wr gm n)) (fun iv _ => n - (intOf iv).toNat)
    case atStart => exact ⟨0, by omega, rfl, Only.refl _ _, HG3.out.imp_right fun h => h.2⟩
    case round =>
      obtain ⟨j, hj, rfl, hon, hby⟩ := hrel
      have HON := Lib.hid hon
      have HBY := Lib.hid hby
      clear hon hby
      by_cases hjn : j < n
      · obtain ⟨rfl, _⟩ := HG3.out.resolve_left (by omega)
        obtain ⟨cur, hcur, hcx⟩ := HBY.out.resolve_left (by omega)
        obtain ⟨x, hx, hx0, hx1⟩ := hcx j hjn
        have e0 : wr.cell? ⟨gm, j, none⟩ = some (.int .u8 x) := by rw [hcur.cell]; exact hx
        have z0 : wr.frozen? ⟨gm, j, none⟩ = false := hcur.free j
        have hjj : (0:Int) ≤ (j:Int) ∧ (j:Int) < (n:Int) := by omega
        have HST := Lib.hid (fun y hy => Bytes8.store (j := j) (y := y) (⟨cur, hcur, hcx⟩ : Bytes8 wr gm n) hy)
        clear hcur hcx hx
        go_wp2_with fail
        exact ⟨⟨j + 1, by omega, by go_num, HON.out.store j _, .inr (HST.out _ (by first | exact u8_wrap _ | omega))⟩, by simp [intOf]; omega⟩
      · obtain rfl : j = n := by omega
        have hwx8 : Below w.heap.size w X8 := HBX6.out.trans (HB8X.out.mono HBX6.out.size)
        have hwr := hwx8.trans (HON.out.below (Nat.le_trans HS6.out HG1.out))
        have HWR := Lib.hid hwr
        have HDI := Lib.hid (decode_isb (HY.out.below hwr) hnc HC.out)
        clear hwx8 hwr
        go_wp2_with fail
        refine HDI.out.mono ?_
        rintro e w14 ⟨V11, d11, c11, rfl, hin11, hb11, hr11⟩
        obtain ⟨rfl, rfl⟩ : d11 = d8 ∧ c11 = c8 := by
          rcases hr11 with ⟨m1, h1, h2, h3⟩ | ⟨h1, h2⟩
          · rcases HR8.out with ⟨m2, h4, h5, h6⟩ | ⟨h4, _⟩
            · rw [h1] at h4
              injection h4 with h4
              subst h4
              exact ⟨h2.trans h5.symm, h3.trans h6.symm⟩
            · rw [h1] at h4; cases h4
          · rcases HR8.out with ⟨m2, h4, _⟩ | ⟨h4, h5⟩
            · rw [h1] at h4; cases h4
            · rw [h1] at h4
              injection h4 with h4
              exact ⟨h2.trans h5.symm, h4⟩
        obtain ⟨na11, ma11, pa11, ra11, nn11, nc11, mn11, mc11, pn11, pc11, rn11, rc11, hin11⟩ := hin11
        have hv11 := hin11.val
        subst hv11
        obtain ⟨X11, hX11, hw11, hbx11⟩ : ∃ X11, X11 = w14.alloc (.cells #[.int .i64 d11.kind, .int .i64 d11.from_, .int .i64 d11.«to», .int .i64 d11.id, .int .i64 d11.rev, .int .i64 d11.epoch, .int .i64 d11.slot, .bool d11.flag, .slice na11 nn11 nc11, .slice ma11 mn11 mc11, .slice pa11 pn11 pc11, .slice ra11 rn11 rc11] 37) ∧ Whole X11 w14.heap.size 37 #[.int .i64 d11.kind, .int .i64 d11.from_, .int .i64 d11.«to», .int .i64 d11.id, .int .i64 d11.rev, .int .i64 d11.epoch, .int .i64 d11.slot, .bool d11.flag, .slice na11 nn11 nc11, .slice ma11 mn11 mc11, .slice pa11 pn11 pc11, .slice ra11 rn11 rc11] ∧ Below w14.heap.size w14 X11 := ⟨_, rfl, heap_alloc_new w14 _, below_alloc w14 _⟩
        go_upto_region 15 with fail
        rw [← hX11]
        have hrx : Below wr.heap.size wr X11 := hb11.trans (hbx11.mono hb11.size)
        have hsz : wr.heap.size = X8.heap.size := HON.out.size
        have h68 : X6.heap.size ≤ w6.heap.size := HB6.out.size
        have h88 : X6.heap.size ≤ X8.heap.size := HB8X.out.size
        have hg1 := HG1.out
        have hg2 := HG2.out
        have h78 : b8 < X8.heap.size := HW8.out.lt
        have hT : ∀ k, k < X6.heap.size → X11.heap[k]? = X6.heap[k]? := fun k hk => (hrx.block k (by omega)).trans ((HON.out.block k (by omega)).trans (HB8X.out.block k hk))
        have hTc : ∀ k i, k < X6.heap.size → X11.cell? ⟨k, i, none⟩ = X6.cell? ⟨k, i, none⟩ := fun k i hk => World.cell?_of_block (a := ⟨k, i, none⟩) (hT k hk)
        have hT8 : ∀ k, w7.heap.size ≤ k → k < X8.heap.size → X11.heap[k]? = X8.heap[k]? := fun k h1 h2 => (hrx.block k (by omega)).trans (HON.out.block k (by omega))
        have hwX : Below w.heap.size w X11 := HWR.out.trans (hrx.mono HWR.out.size)
        have hbb8 := HB8G.out
        have hB0 := box_mk (HW0.out.kept (hT b0 HW0.out.lt))
        have hB6 := box_mk (HW6.out.kept (hT b6 HW6.out.lt))
        have hB8 := box_mk (HW8.out.kept (hT8 b8 hbb8 h78))
        have hB11 := box_mk hw11
        obtain ⟨b11, hb11e⟩ : ∃ b11, b11 = w14.heap.size := ⟨_, rfl⟩
        rw [← hb11e] at hB11 ⊢
        have hsx : X6.heap.size ≤ X11.heap.size := by have := hrx.size; omega
        have h77x : X11.cell? ⟨q5, nn, none⟩ = some (.int .i64 77) := (hTc q5 nn HQL6.out).trans H776.out
        have HS0 := Lib.hid (show HeldK X11 X11 b0 b6 b8 b11 q5 nn (.int .i64 m.kind) (.int .i64 m.from_) (.int .i64 m.«to») (.int .i64 m.id) (.int .i64 m.rev) (.int .i64 m.epoch) (.int .i64 m.slot) (.bool m.flag) (.slice na nn nc) (.slice ma mn mc) (.slice pa pn pc) (.slice ra rn rc) (.int .i64 m.kind) (.int .i64 m.from_) (.int .i64 m.«to») (.int .i64 m.id) (.int .i64 m.rev) (.int .i64 m.epoch) (.int .i64 m.slot) (.bool m.flag) (.slice (some ⟨q5, 0, none⟩) nn cap5) (.slice ma mn mc) (.slice pa pn pc) (.slice ra rn rc) (.int .i64 d11.kind) (.int .i64 d11.from_) (.int .i64 d11.«to») (.int .i64 d11.id) (.int .i64 d11.rev) (.int .i64 d11.epoch) (.int .i64 d11.slot) (.bool d11.flag) (.slice na8 nn8 nc8) (.slice ma8 mn8 mc8) (.slice pa8 pn8 pc8) (.slice ra8 rn8 rc8) (.int .i64 d11.kind) (.int .i64 d11.from_) (.int .i64 d11.«to») (.int .i64 d11.id) (.int .i64 d11.rev) (.int .i64 d11.epoch) (.int .i64 d11.slot) (.bool d11.flag) (.slice na11 nn11 nc11) (.slice ma11 mn11 mc11) (.slice pa11 pn11 pc11) (.slice ra11 rn11 rc11) m d11 from ⟨hB0, hB6, hB8, hB11, h77x, Below.refl _ _, ⟨Nat.lt_of_lt_of_le HW0.out.lt hsx, Nat.lt_of_lt_of_le HW6.out.lt hsx, by have := hrx.size; omega, by rw [hb11e]; exact hw11.lt, Nat.lt_of_lt_of_le HQL6.out hsx⟩,
          ⟨_, _, _, _, _, _, _, _, _, _, _, _, HM.out.up hwX hwX.size⟩, ⟨_, _, _, _, _, _, _, _, _, _, _, _, msg_swap (cap := cap5) HM.out hwX hwX.size (Nat.lt_of_lt_of_le HQL6.out hsx) (fun i z hz => (hTc q5 i HQL6.out).trans (HQN6.out i z hz))⟩, HKP.out X11 hT8, ⟨_, _, _, _, _, _, _, _, _, _, _, _, hin11.up hbx11 hbx11.size⟩⟩)
        have HWX := Lib.hid hwX
        have hst : ∀ w, (Instr.slice 32 (.slice (some ⟨q5, 0, none⟩) nn cap5) none (some (.int .i64 ((nn : Int) + 1))) none).run Try.prog w = .ok (.slice (some ⟨q5, 0, none⟩) (nn + 1) cap5) w := by
          intro w
          have := slice_headI (some ⟨q5, 0, none⟩) nn cap5 (nn + 1) (by omega) w
          rwa [show ((nn + 1 : Nat) : Int) = (nn : Int) + 1 by omega] at this
        have hw1 : IntKind.i64.wrap ((nn : Int) + 1) = (nn : Int) + 1 := IntWalk.i64_in _ (by omega)
        have hbn0 : (0 : Int) ≤ (nn : Int) := by omega
        have hbn1 : (nn : Int) < (nn : Int) + 1 := by omega
        have hbn2 : (nn : Int) < ((nn + 1 : Nat) : Int) := by omega
        have e1 : (c11 == c11) = true := by simp
        clear hX11 hw11 hbx11 hb11 hr11 hin11 hrx hsz h68 h88 hg1 hg2 h78 hT hTc hT8 hwX hbb8 hB0 hB6 hB8 hB11 hb11e hsx h77x
        go_region_held3 (fun V => HeldK X11 V b0 b6 b8 b11 q5 nn (.int .i64 m.kind) (.int .i64 m.from_) (.int .i64 m.«to») (.int .i64 m.id) (.int .i64 m.rev) (.int .i64 m.epoch) (.int .i64 m.slot) (.bool m.flag) (.slice na nn nc) (.slice ma mn mc) (.slice pa pn pc) (.slice ra rn rc) (.int .i64 m.kind) (.int .i64 m.from_) (.int .i64 m.«to») (.int .i64 m.id) (.int .i64 m.rev) (.int .i64 m.epoch) (.int .i64 m.slot) (.bool m.flag) (.slice (some ⟨q5, 0, none⟩) nn cap5) (.slice ma mn mc) (.slice pa pn pc) (.slice ra rn rc) (.int .i64 d11.kind) (.int .i64 d11.from_) (.int .i64 d11.«to») (.int .i64 d11.id) (.int .i64 d11.rev) (.int .i64 d11.epoch) (.int .i64 d11.slot) (.bool d11.flag) (.slice na8 nn8 nc8) (.slice ma8 mn8 mc8) (.slice pa8 pn8 pc8) (.slice ra8 rn8 rc8) (.int .i64 d11.kind) (.int .i64 d11.from_) (.int .i64 d11.«to») (.int .i64 d11.id) (.int .i64 d11.rev) (.int .i64 d11.epoch) (.int .i64 d11.slot) (.bool d11.flag) (.slice na11 nn11 nc11) (.slice ma11 mn11 mc11) (.slice pa11 pn11 pc11) (.slice ra11 rn11 rc11) m d11) (first
            | exact heldK_keep HS0.out (below_drewN _ 1)
            | assumption
            | exact heldK_keep (by assumption) (by assumption)) (first
          | (go_at_call 19; (first
            | (with_reducible refine (same_bool _ _ m m _ (kk0 (And.right (And.right (And.right (And.right (And.right (by assumption))))))) (kk6 (And.right (And.right (And.right (And.right (And.right (by assumption))))))) true (by simp)).mono ?_)
            | (with_reducible refine (same_bool _ _ d11 d11 _ (kk8 (And.right (And.right (And.right (And.right (And.right (by assumption))))))) (kk9 (And.right (And.right (And.right (And.right (And.right (by assumption))))))) true (by simp)).mono ?_)); rintro e w' ⟨rfl, hbn⟩))
        have HF := Lib.hid (HWX.out.trans (Below.mono (show HeldK X11 w' b0 b6 b8 b11 q5 nn (.int .i64 m.kind) (.int .i64 m.from_) (.int .i64 m.«to») (.int .i64 m.id) (.int .i64 m.rev) (.int .i64 m.epoch) (.int .i64 m.slot) (.bool m.flag) (.slice na nn nc) (.slice ma mn mc) (.slice pa pn pc) (.slice ra rn rc) (.int .i64 m.kind) (.int .i64 m.from_) (.int .i64 m.«to») (.int .i64 m.id) (.int .i64 m.rev) (.int .i64 m.epoch) (.int .i64 m.slot) (.bool m.flag) (.slice (some ⟨q5, 0, none⟩) nn cap5) (.slice ma mn mc) (.slice pa pn pc) (.slice ra rn rc) (.int .i64 d11.kind) (.int .i64 d11.from_) (.int .i64 d11.«to») (.int .i64 d11.id) (.int .i64 d11.rev) (.int .i64 d11.epoch) (.int .i64 d11.slot) (.bool d11.flag) (.slice na8 nn8 nc8) (.slice ma8 mn8 mc8) (.slice pa8 pn8 pc8) (.slice ra8 rn8 rc8) (.int .i64 d11.kind) (.int .i64 d11.from_) (.int .i64 d11.«to») (.int .i64 d11.id) (.int .i64 d11.rev) (.int .i64 d11.epoch) (.int .i64 d11.slot) (.bool d11.flag) (.slice na11 nn11 nc11) (.slice ma11 mn11 mc11) (.slice pa11 pn11 pc11) (.slice ra11 rn11 rc11) m d11 by assumption).2.2.2.2.2.1 HWX.out.size))
        go_wp2
        go_ret
        exact ⟨rfl, HF.out⟩
end Go.Proofs.Ytbckccgcjmanlaa
