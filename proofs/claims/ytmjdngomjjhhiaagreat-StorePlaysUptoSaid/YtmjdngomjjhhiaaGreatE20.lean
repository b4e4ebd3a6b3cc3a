/- index.add: an entry is found too. -/
import Derived.Test.YtmjdngomjjhhiaaGreatE19
import Derived.StillTailTactics
import Derived.Deep.RegionLaw
import Derived.Deep.Cut
namespace Go.Proofs.YtmjdngomjjhhiaaGreat
open Go.RowKit
open Go.Maps (Keyed)

theorem whole_ne {w : World} {g k : Nat} {t u : TypeId} {cs ds : Array Value} (h : Whole w g t cs) (h2 : Whole w k u ds) (hn : t ≠ u) : g ≠ k := by
  rintro rfl
  unfold Whole at h h2
  rw [h] at h2
  injection h2 with h2
  injection h2 with _ h2
  exact hn h2
theorem owned_block {w : World} {base n s k : Nat} {v : Value} {e : TypeId} {l : List Value} (h : w.ownsRow base e s v n l) (hk : v.ownBlock = some k) : base ≤ k ∧ ∃ cur, Whole w k e cur := by
  rcases h.2 with ⟨rfl, _⟩ | ⟨g, cap, cur, rfl, hb, hh, _⟩
  · cases hk
  · have : g = k := by simpa [Value.ownBlock] using hk
    subst this
    exact ⟨hb, cur, hh⟩
theorem owned_anyE {w : World} {base n s : Nat} {v : Value} {e : TypeId} {l : List Value} (h : w.ownsRow base e s v n l) : ∃ a c, v = .slice a n c ∧ n ≤ c ∧ c ≤ maxLen := by
  rcases h.2 with ⟨rfl, rfl⟩ | ⟨g, cap, cur, rfl, hb, hh, h1, h2, _⟩
  · exact ⟨none, 0, rfl, Nat.le_refl _, by simp [maxLen]⟩
  · exact ⟨_, _, rfl, h1, h2⟩
theorem bell_up {w W W' : World} (hb : Below w.heap.size w W) (h : Below W.heap.size W W') : Below w.heap.size w W' := hb.trans (h.mono hb.size)
theorem bell_alloc {w W : World} (h : Below w.heap.size w W) (o : Obj) : Below w.heap.size w (W.alloc o) := h.alloc h.size o
theorem below_drew1 (W : World) : Below W.heap.size W W.drew := ⟨rfl, rfl, rfl, Nat.le_refl _, fun _ _ => rfl⟩
theorem step_append_any {P : Program} (w : World) {ops : Array Oper} {o : Oper} {a : Act} {K : Act → World → Prop} {Q : Exit → Act → World → Prop} {E : Prop} (hgd : o.guard = none) (s x : Operand) (t : TypeId)
    (ho : o.op = .call { callee := .builtin .append, args := #[s, x], argTypes := #[t, t] })
    (base : Nat) (e : TypeId) (i : TypeInfo) (z : Value) (size bytes : Nat) (ht : P.underlying t = some (.slice e)) (hi : P.info? e = some i) (hz : i.zero = some z)
    (hsize : i.size = size) (hby : i.bytes = bytes) (hzs : z.cells.size = size) (hsz : 0 < size)
    (v : Value) (n : Nat) (xs : List Value) (hs : a.eval s = v) (hown : w.ownsRow base e size v n xs)
    (ad : Addr) (m c : Nat) (news : List Value) (hx : a.eval x = .slice (some ad) m c) (hl : news.length = m * size)
    (hnews : ∀ j u, news[j]? = some u → w.cell? (ad.add j) = some u) (h1 : ∀ u ∈ news, u.oneCell' = true)
    (h63 : n + m ≤ maxLen) (hbytes : (n + m) * bytes ≤ 140737488355328) (hbase : base ≤ w.heap.size)
    (h : ∀ v' w', w'.ownsRow base e size v' (n + m) (xs ++ news) → w.grownBy w' v.ownBlock → (v'.ownBlock = v.ownBlock ∨ v'.ownBlock = some w.heap.size) → K (a.put o.dst v') w') :
    if Region.wanted o (yielded ops a.tmps) = true then Oper.wp P o a w K Q else E := by
  have hw : Region.wanted o (yielded ops a.tmps) = true := by simp [Region.wanted, hgd]
  rw [if_pos hw]
  obtain ⟨v', w', hr, h2, h3, _, h4⟩ := run_append_own_at (P := P) w base t o.type e i z size bytes ht hi hz hsize hby hzs hsz v n xs hown ad m c news hl hnews h1 h63 hbytes hbase
  unfold Oper.wp execOp
  simp only [ho, resolve, invoke, builtin, Sem.run_bind, Sem.run_pure, Result.andThen_ok, List.map_toArray, List.map_cons, List.map_nil, hs, hx, hr]
  exact h v' w' h2 h3 h4
/-- This operation alone. -/
theorem step_only {P : Program} {w : World} {ops : Array Oper} {o : Oper} {a : Act} {K : Act → World → Prop} {Q : Exit → Act → World → Prop} {E : Prop} (n : Nat) (_ : o.dst = some n) (h : if Region.wanted o (yielded ops a.tmps) = true then Oper.wp P o a w K Q else E) : if Region.wanted o (yielded ops a.tmps) = true then Oper.wp P o a w K Q else E := h
/-- 'm[k] = v' in a region that draws its order. -/
theorem step_store_map {P : Program} (w : World) {ops : Array Oper} {o : Oper} {a : Act} {K : Act → World → Prop} {Q : Exit → Act → World → Prop} {E : Prop} (hg : o.guard = none) (mm x v : Operand) (t : TypeId) (hop : o.op = Op.mapUpdate t mm x v)
    (k e : TypeId) (KK : Keyed P k) (ht : P.underlying t = some (.map k e)) (z : Value) (hz : (zeroValue e).run P w = .ok z w) (b N : Nat) (m : Lit → Option Value)
    (hm : a.eval mm = .map (some b)) (hown : MapAt w P k b m N) (hn : N < maxLen) (key val : Value) (kl : Lit) (hx : a.eval x = key) (hv : a.eval v = val) (hkey : keyOf P k key = some kl)
    (hK : ∀ w', MapAt w' P k b (mset m kl (some val)) (if (m kl).isSome then N else N + 1) → w.grownBy w' (some b) → w'.heap.size = w.heap.size → K (a.put o.dst undef) w') :
    if Region.wanted o (yielded ops a.tmps) = true then Oper.wp P o a w K Q else E := by
  have hw : Region.wanted o (yielded ops a.tmps) = true := by simp [Region.wanted, hg]
  rw [if_pos hw]
  obtain ⟨w', hrun, r1, r2, r3⟩ := hown.store KK ht hz hn hkey
  unfold Oper.wp
  simp [execOp, hop, hm, hx, hv, Result.andThen]
  rw [hrun]
  exact hK _ r1 r2 r3
/-- 'delete(m, k)' in a region that draws its order. -/
theorem step_drop_map {P : Program} (w : World) {ops : Array Oper} {o : Oper} {a : Act} {K : Act → World → Prop} {Q : Exit → Act → World → Prop} {E : Prop} (hg : o.guard = none) (mm x : Operand) (t k : TypeId) (hop : o.op = Op.call { callee := Callee.builtin Builtin.delete, args := #[mm, x], argTypes := #[t, k] })
    (e : TypeId) (KK : Keyed P k) (ht : P.underlying t = some (.map k e)) (z : Value) (hz : (zeroValue e).run P w = .ok z w) (b N : Nat) (m : Lit → Option Value)
    (hm : a.eval mm = .map (some b)) (hown : MapAt w P k b m N) (key : Value) (kl : Lit) (hx : a.eval x = key) (hkey : keyOf P k key = some kl)
    (hK : ∀ w', MapAt w' P k b (mset m kl none) (if (m kl).isSome then N - 1 else N) → w.grownBy w' (some b) → w'.heap.size = w.heap.size → K (a.put o.dst (.tuple #[])) w') :
    if Region.wanted o (yielded ops a.tmps) = true then Oper.wp P o a w K Q else E := by
  have hw : Region.wanted o (yielded ops a.tmps) = true := by simp [Region.wanted, hg]
  rw [if_pos hw]
  obtain ⟨w', hrun, r1, r2, r3⟩ := hown.drop KK ht hz hkey o.type
  unfold Oper.wp
  simp [execOp, resolve, invoke, builtin, hop, hm, hx, hrun, Result.andThen]
  exact hK _ r1 r2 r3
theorem infoE : (Tryz.prog.info? 81).map (fun i => (i.zero, i.size, i.bytes)) = some (some (.pointer none), 1, 8) := by kernel_rfl
theorem info_parts {P : Program} {t : TypeId} {z : Value} {n m : Nat} (h : (P.info? t).map (fun i => (i.zero, i.size, i.bytes)) = some (some z, n, m)) : ∃ i, P.info? t = some i ∧ i.zero = some z ∧ i.size = n ∧ i.bytes = m := by
  cases hi : P.info? t with
  | none => rw [hi] at h; cases h
  | some i =>
    rw [hi] at h
    simp at h
    exact ⟨i, rfl, h.1, h.2.1, h.2.2⟩
set_option maxRecDepth 100000 in
set_option maxHeartbeats 4000000 in
theorem add0_any {w : World} {b N g : Nat} {m : Lit → Option Value} {t : Tp} {sv : Value} {p0 p1 p2 : Int} (hf : t.fits)
    (hm : MapAt w Tryz.prog 9 b m N) (hN : N < maxLen)
    (he : Whole w g 87 #[.string t.o, .string t.r, .string t.u, sv, .int .i64 p0, .int .i64 p1, .int .i64 p2])
    {n : Nat} {xs : List Value} (hr : w.ownsRow 0 81 1 ((m (kS t.o)).getD nilS) n xs) (hn : n ≤ 1099511627776) :
    Calls Tryz.prog 59 #[.agg #[.int .i64 0, fnV 17, .map (some b)], ptr g] w fun e w' => e = .returned (.tuple #[]) ∧ ∃ v', w'.ownsRow 0 81 1 v' (n + 1) (xs ++ [ptr g]) ∧ MapAt w' Tryz.prog 9 b (mset m (kS t.o) (some v')) (if (m (kS t.o)).isSome then N else N + 1) ∧
      Whole w' g 87 #[.string t.o, .string t.r, .string t.u, sv, .int .i64 (n : Int), .int .i64 p1, .int .i64 p2] ∧ Chg w w' (fun k => k = g ∨ k = b ∨ ((m (kS t.o)).getD nilS).ownBlock = some k) ∧ (v'.ownBlock = ((m (kS t.o)).getD nilS).ownBlock ∨ ∃ q, v'.ownBlock = some q ∧ w.heap.size ≤ q) := by
  have hn1 : n + 1 ≤ maxLen := by unfold maxLen; omega
  obtain ⟨i0, hi0, hz0, hz1, hz2⟩ := info_parts infoE
  have hkey := (keyS_of hf.1)
  generalize hv0 : (m (kS t.o)).getD nilS = v0 at *
  have HV0 := Lib.hid hv0
  obtain ⟨ra, rc, rfl, _, _⟩ := owned_anyE hr
  obtain ⟨w0, hw0⟩ : ∃ w0, w0 = w.alloc (.cells #[.int .i64 0, fnV 17, .map (some b)] 60) := ⟨_, rfl⟩
  have hb0 : Below w.heap.size w w0 := by rw [hw0]; exact below_alloc _ _
  have hx0 : Whole w0 w.heap.size 60 #[.int .i64 0, fnV 17, .map (some b)] := by rw [hw0]; exact heap_alloc_new _ _
  have HE0 := Lib.hid (he.kept (hb0.block _ he.lt))
  have HM0 := Lib.hid (hm.below hb0)
  have HR0 := Lib.hid (owns_keptN hr (fun k hk => hb0.block k (hr.lt k hk).2))
  have HX0 := Lib.hid hx0
  have HB0 := Lib.hid hb0
  have HBG := Lib.hid (hm.ne he)
  have HRG := Lib.hid (show (.slice ra n rc : Value).ownBlock ≠ some g from fun e => by
    obtain ⟨_, cur, hW⟩ := owned_block hr e
    exact whole_ne hW he (by decide) rfl)
  have HRB := Lib.hid (show (.slice ra n rc : Value).ownBlock ≠ some b from fun e => by
    obtain ⟨_, cur, hW⟩ := owned_block hr e
    exact hm.ne hW rfl)
  have HKF := Lib.hid (fun W => key1_any t W)
  have HWL := Lib.hid (show g < w.heap.size from he.lt)
  have HBL := Lib.hid (show b < w.heap.size from hm.lt)
  have HLK := Lib.hid (fun W (hW : Below w0.heap.size w0 W) => (show (Instr.lookup 58 (.map (some b)) (.string t.o) false).run Tryz.prog W = .ok (.slice ra n rc) W from by
    have := (HM0.out.below hW).look keyS Tryz.underlying58 (zeroL _) false hkey
    rw [HV0.out] at this
    simpa using this))
  have HC0 := Lib.hid (fun W (hW : Below w0.heap.size w0 W) => (show (W.cell? ⟨w.heap.size, 0, none⟩ = some (.int .i64 0) ∧ W.cell? ⟨w.heap.size, 1, none⟩ = some (fnV 17) ∧ W.cell? ⟨w.heap.size, 2, none⟩ = some (.map (some b))) ∧ W.cell? ⟨g, 0, none⟩ = some (.string t.o) ∧ W.cell? ⟨g, 1, none⟩ = some (.string t.r) ∧ W.cell? ⟨g, 2, none⟩ = some (.string t.u) from by
    have hx := HX0.out.kept (hW.block _ HX0.out.lt)
    have hg := HE0.out.kept (hW.block _ HE0.out.lt)
    exact ⟨⟨by rw [hx.cell]; rfl, by rw [hx.cell]; rfl, by rw [hx.cell]; rfl⟩, by rw [hg.cell]; rfl, by rw [hg.cell]; rfl, by rw [hg.cell]; rfl⟩))
  clear hm he hr hb0 hx0 hv0
  go_enter Tryz.func59, Tryz.ntmps59
  go_upto_region 1 with fail
  rw [← hw0]
  clear hw0
  go_region_held3 (fun W : World => (W.cell? ⟨w.heap.size, 0, none⟩ = some (.int .i64 0) ∧ W.cell? ⟨w.heap.size, 1, none⟩ = some (fnV 17) ∧ W.cell? ⟨w.heap.size, 2, none⟩ = some (.map (some b))) ∧ W.cell? ⟨g, 0, none⟩ = some (.string t.o) ∧ W.cell? ⟨g, 1, none⟩ = some (.string t.r) ∧ W.cell? ⟨g, 2, none⟩ = some (.string t.u)) (first | assumption | with_reducible exact HC0.out _ (below_drewN _ 1)) (first
    | (go_at_call 17; refine (HKF.out _).mono ?_; rintro e w1 ⟨rfl, hb1⟩
       have hb2 := bell_up (below_drewN w0 1) hb1
       have hc1 := HC0.out w1 hb2
       have HB2 := Lib.hid hb2
       clear hb1 hb2))
  go_upto_region 2 with fail
  clear hc1
  obtain ⟨w2, hw2⟩ : ∃ w2, w2 = (w1.setCell ⟨g, 4, none⟩ (.int .i64 (n : Int))).drew := ⟨_, rfl⟩
  have hbd := bell_up HB2.out (below_drewN w1 1)
  have hlk := HLK.out w1.drew hbd
  obtain ⟨⟨d0, d1, d2⟩, _, _, _⟩ := HC0.out w1.drew hbd
  have hE1 := HE0.out.kept (HB2.out.block _ HE0.out.lt)
  have hfr : w1.drew.frozen? ⟨g, 4, none⟩ = false := hE1.free 4
  have hcc : w1.drew.cell? ⟨g, 4, none⟩ = some (.int .i64 p0) := by
    show w1.cell? _ = _
    rw [hE1.cell]; rfl
  have hbl2 : ∀ k, k < w0.heap.size → k ≠ g → w2.heap[k]? = w0.heap[k]? := fun k hk hne => by
    rw [hw2]
    exact (Below.heap_setCell w1 ⟨g, 4, none⟩ _ k hne).trans (HB2.out.block k hk)
  have hs20 : w1.heap.size = w2.heap.size := by rw [hw2]; show _ = (w1.setCell _ _).heap.size; simp [World.setCell]
  have hs2 : w0.heap.size ≤ w2.heap.size := by rw [← hs20]; exact HB2.out.size
  have hE2 : Whole w2 g 87 #[.string t.o, .string t.r, .string t.u, sv, .int .i64 (n : Int), .int .i64 p1, .int .i64 p2] := by
    rw [hw2]
    exact (show Whole (w1.setCell ⟨g, 4, none⟩ (.int .i64 (n : Int))) g 87 _ from hE1.store 4 (.int .i64 (n : Int)))
  have hX2 := HX0.out.kept (hbl2 _ HX0.out.lt (whole_ne HX0.out HE0.out (by decide)))
  have hM2 := HM0.out.kept (hbl2 _ HM0.out.lt (fun e => HBG.out e.symm))
  have hR2 := owns_keptN HR0.out (fun k hk => hbl2 k (HR0.out.lt k hk).2 (fun e => HRG.out (by rw [hk, e])))
  have hC2 : Chg w w2 (fun k => k = g ∨ k = b ∨ (.slice ra n rc : Value).ownBlock = some k) := by
    rw [hw2]
    exact ((Chg.ofBelow _ (bell_up HB0.out (HB2.out))).set (.inl rfl) _ _).drew
  have HE2 := Lib.hid hE2
  have HX2 := Lib.hid hX2
  have HM2 := Lib.hid hM2
  have HR2 := Lib.hid hR2
  have HC2 := Lib.hid hC2
  have HS2 := Lib.hid (show w.heap.size + 1 ≤ w2.heap.size by have := HX0.out.lt; omega)
  clear hE1 hE2 hX2 hM2 hR2 hC2 hbl2 hbd hs20 hs2
  go_region
  rw [← hw2]
  clear hw2 hlk d0 d1 d2 hfr hcc 
  go_upto_region 3 with fail
  have HHD := Lib.hid (fun (W : World) (hk : ∀ k, k < w2.heap.size → (.slice ra n rc : Value).ownBlock ≠ some k → k ≠ b → W.heap[k]? = w2.heap[k]?) => (show (W.cell? ⟨w.heap.size, 2, none⟩ = some (.map (some b))) from by
    have hx := HX2.out.kept (hk _ HX2.out.lt (fun e => by
      obtain ⟨_, cur, hW⟩ := owned_block HR2.out e
      exact whole_ne HX2.out hW (by decide) rfl) (HM2.out.ne HX2.out))
    exact (by rw [hx.cell]; rfl)))
  have hl1 : (Instr.lookup 58 (.map (some b)) (.string t.o) false).run Tryz.prog w2.drew = .ok (.slice ra n rc) w2.drew := by
    have := (HM2.out.below (below_drew1 w2)).look keyS Tryz.underlying58 (zeroL _) false hkey
    rw [HV0.out] at this
    simp only [Bool.false_eq_true, if_false] at this
    exact this
  have hl2 : (Instr.lookup 58 (.map (some b)) (.string t.o) false).run Tryz.prog (w2.alloc (.cells #[ptr g] 81)).drew = .ok (.slice ra n rc) (w2.alloc (.cells #[ptr g] 81)).drew := by
    have := (HM2.out.below ((below_alloc w2 (.cells #[ptr g] 81)).trans ((below_drew1 (w2.alloc (.cells #[ptr g] 81))).mono (by simp)))).look keyS Tryz.underlying58 (zeroL _) false hkey
    rw [HV0.out] at this
    simp only [Bool.false_eq_true, if_false] at this
    exact this
  have HR3 := Lib.hid (show w2.drew.ownsRow 0 81 1 (.slice ra n rc) n xs from owns_keptN HR2.out (fun _ _ => rfl))
  go_region_held3 (fun W : World => W.cell? ⟨w.heap.size, 2, none⟩ = some (.map (some b))) (first | assumption | with_reducible exact HHD.out w2.drew (fun _ _ _ _ => rfl) | exact HHD.out _ (fun k hk _ _ => (below_alloc w2.drew _).block k hk)) (first
    | (refine step_only 32 rfl ?_; refine step_append_any _ rfl (.tmp 29) (.tmp 31) 80 rfl 0 81 i0 (.pointer none) 1 8 Tryz.underlying80 hi0 hz0 hz1 hz2 rfl (by decide) (.slice ra n rc) n xs rfl (HR3.out.alloc _) ⟨w2.heap.size, 0, none⟩ 1 1 [ptr g] rfl rfl (cell_one_new w2.drew (ptr g) 81) (by simp [Value.oneCell']) hn1 (by omega) (Nat.zero_le _) ?_; intro v' w3 hown3 hgr3 hat3
       have hbl3 : ∀ k, k < w2.heap.size → (.slice ra n rc : Value).ownBlock ≠ some k → w3.heap[k]? = w2.heap[k]? := fun k hk hne => (hgr3.block k (by simp; omega) (fun e => hne e.symm)).trans ((below_alloc w2.drew _).block k hk)
       have hk3 := HHD.out w3 (fun k hk hne _ => hbl3 k hk hne)
       have HM3 := Lib.hid (HM2.out.kept (hbl3 _ HM2.out.lt HRB.out))
       have HE3 := Lib.hid (HE2.out.kept (hbl3 _ HE2.out.lt HRG.out))
       have HC3 := Lib.hid (HC2.out.trans ((Chg.ofBelow (fun k => (.slice ra n rc : Value).ownBlock = some k) (show Below w2.heap.size w2 (w2.drew.alloc (.cells #[ptr g] 81)) from bell_alloc (below_drew1 w2) _)).trans (Chg.ofGrown hgr3 (fun k _ e => e)) (fun _ _ e => e)) (fun _ _ e => .inr (.inr e)))
       have HA3 := Lib.hid (show v'.ownBlock = (.slice ra n rc : Value).ownBlock ∨ ∃ q, v'.ownBlock = some q ∧ w.heap.size ≤ q from hat3.imp_right (fun e => ⟨_, e, by have := HS2.out; simp; omega⟩))
       have HO3 := Lib.hid hown3
       obtain ⟨w4, hrun4, hm4, hgr4, hs4⟩ := HM3.out.store (val := v') keyS Tryz.underlying58 (zeroL _) hN hkey
       have HF := Lib.hid (show w4.ownsRow 0 81 1 v' (n + 1) (xs ++ [ptr g]) ∧ MapAt w4 Tryz.prog 9 b (mset m (kS t.o) (some v')) (if (m (kS t.o)).isSome then N else N + 1) ∧
         Whole w4 g 87 #[.string t.o, .string t.r, .string t.u, sv, .int .i64 (n : Int), .int .i64 p1, .int .i64 p2] ∧ Chg w w4 (fun k => k = g ∨ k = b ∨ (.slice ra n rc : Value).ownBlock = some k) ∧ (v'.ownBlock = (.slice ra n rc : Value).ownBlock ∨ ∃ q, v'.ownBlock = some q ∧ w.heap.size ≤ q) from
         ⟨owns_keptN HO3.out (fun k hk => hgr4.block k (HO3.out.lt k hk).2 (fun e => by
            obtain ⟨_, cur, hW⟩ := owned_block HO3.out hk
            injection e with e
            exact HM3.out.ne hW e)), hm4, HE3.out.kept (hgr4.block g HE3.out.lt (fun e => by injection e with e; exact HBG.out e)), HC3.out.trans (Chg.ofGrown (P := fun k => k = b) hgr4 (fun k _ e => by injection e with e; exact e.symm)) (fun k _ e => .inr (.inl e)), HA3.out⟩)
       have hk4 := HHD.out w4 (fun k hk hne hnb => (hgr4.block k (Nat.lt_of_lt_of_le hk (by have := hgr3.size; simp at this; omega)) (fun e => by injection e with e; exact hnb e)).trans (hbl3 k hk hne))
       clear hm4 hgr4 hs4 hbl3 hown3 hgr3 hat3))
  all_goals exact ⟨rfl, .tuple #[], (by simp [results, Tryz.results59, go_sem]), rfl, _, HF.out⟩
set_option maxRecDepth 100000 in
set_option maxHeartbeats 4000000 in
theorem add2_any {w : World} {b N g : Nat} {m : Lit → Option Value} {t : Tp} {sv : Value} {p0 p1 p2 : Int} (hf : t.fits)
    (hm : MapAt w Tryz.prog 9 b m N) (hN : N < maxLen)
    (he : Whole w g 87 #[.string t.o, .string t.r, .string t.u, sv, .int .i64 p0, .int .i64 p1, .int .i64 p2])
    {n : Nat} {xs : List Value} (hr : w.ownsRow 0 81 1 ((m (kS t.u)).getD nilS) n xs) (hn : n ≤ 1099511627776) :
    Calls Tryz.prog 59 #[.agg #[.int .i64 2, fnV 20, .map (some b)], ptr g] w fun e w' => e = .returned (.tuple #[]) ∧ ∃ v', w'.ownsRow 0 81 1 v' (n + 1) (xs ++ [ptr g]) ∧ MapAt w' Tryz.prog 9 b (mset m (kS t.u) (some v')) (if (m (kS t.u)).isSome then N else N + 1) ∧
      Whole w' g 87 #[.string t.o, .string t.r, .string t.u, sv, .int .i64 p0, .int .i64 p1, .int .i64 (n : Int)] ∧ Chg w w' (fun k => k = g ∨ k = b ∨ ((m (kS t.u)).getD nilS).ownBlock = some k) ∧ (v'.ownBlock = ((m (kS t.u)).getD nilS).ownBlock ∨ ∃ q, v'.ownBlock = some q ∧ w.heap.size ≤ q) := by
  have hn1 : n + 1 ≤ maxLen := by unfold maxLen; omega
  obtain ⟨i0, hi0, hz0, hz1, hz2⟩ := info_parts infoE
  have hkey := (keyS_of hf.2.2)
  generalize hv0 : (m (kS t.u)).getD nilS = v0 at *
  have HV0 := Lib.hid hv0
  obtain ⟨ra, rc, rfl, _, _⟩ := owned_anyE hr
  obtain ⟨w0, hw0⟩ : ∃ w0, w0 = w.alloc (.cells #[.int .i64 2, fnV 20, .map (some b)] 60) := ⟨_, rfl⟩
  have hb0 : Below w.heap.size w w0 := by rw [hw0]; exact below_alloc _ _
  have hx0 : Whole w0 w.heap.size 60 #[.int .i64 2, fnV 20, .map (some b)] := by rw [hw0]; exact heap_alloc_new _ _
  have HE0 := Lib.hid (he.kept (hb0.block _ he.lt))
  have HM0 := Lib.hid (hm.below hb0)
  have HR0 := Lib.hid (owns_keptN hr (fun k hk => hb0.block k (hr.lt k hk).2))
  have HX0 := Lib.hid hx0
  have HB0 := Lib.hid hb0
  have HBG := Lib.hid (hm.ne he)
  have HRG := Lib.hid (show (.slice ra n rc : Value).ownBlock ≠ some g from fun e => by
    obtain ⟨_, cur, hW⟩ := owned_block hr e
    exact whole_ne hW he (by decide) rfl)
  have HRB := Lib.hid (show (.slice ra n rc : Value).ownBlock ≠ some b from fun e => by
    obtain ⟨_, cur, hW⟩ := owned_block hr e
    exact hm.ne hW rfl)
  have HKF := Lib.hid (fun W => key3_any t W)
  have HWL := Lib.hid (show g < w.heap.size from he.lt)
  have HBL := Lib.hid (show b < w.heap.size from hm.lt)
  have HLK := Lib.hid (fun W (hW : Below w0.heap.size w0 W) => (show (Instr.lookup 58 (.map (some b)) (.string t.u) false).run Tryz.prog W = .ok (.slice ra n rc) W from by
    have := (HM0.out.below hW).look keyS Tryz.underlying58 (zeroL _) false hkey
    rw [HV0.out] at this
    simpa using this))
  have HC0 := Lib.hid (fun W (hW : Below w0.heap.size w0 W) => (show (W.cell? ⟨w.heap.size, 0, none⟩ = some (.int .i64 2) ∧ W.cell? ⟨w.heap.size, 1, none⟩ = some (fnV 20) ∧ W.cell? ⟨w.heap.size, 2, none⟩ = some (.map (some b))) ∧ W.cell? ⟨g, 0, none⟩ = some (.string t.o) ∧ W.cell? ⟨g, 1, none⟩ = some (.string t.r) ∧ W.cell? ⟨g, 2, none⟩ = some (.string t.u) from by
    have hx := HX0.out.kept (hW.block _ HX0.out.lt)
    have hg := HE0.out.kept (hW.block _ HE0.out.lt)
    exact ⟨⟨by rw [hx.cell]; rfl, by rw [hx.cell]; rfl, by rw [hx.cell]; rfl⟩, by rw [hg.cell]; rfl, by rw [hg.cell]; rfl, by rw [hg.cell]; rfl⟩))
  clear hm he hr hb0 hx0 hv0
  go_enter Tryz.func59, Tryz.ntmps59
  go_upto_region 1 with fail
  rw [← hw0]
  clear hw0
  go_region_held3 (fun W : World => (W.cell? ⟨w.heap.size, 0, none⟩ = some (.int .i64 2) ∧ W.cell? ⟨w.heap.size, 1, none⟩ = some (fnV 20) ∧ W.cell? ⟨w.heap.size, 2, none⟩ = some (.map (some b))) ∧ W.cell? ⟨g, 0, none⟩ = some (.string t.o) ∧ W.cell? ⟨g, 1, none⟩ = some (.string t.r) ∧ W.cell? ⟨g, 2, none⟩ = some (.string t.u)) (first | assumption | with_reducible exact HC0.out _ (below_drewN _ 1)) (first
    | (go_at_call 20; refine (HKF.out _).mono ?_; rintro e w1 ⟨rfl, hb1⟩
       have hb2 := bell_up (below_drewN w0 1) hb1
       have hc1 := HC0.out w1 hb2
       have HB2 := Lib.hid hb2
       clear hb1 hb2))
  go_upto_region 2 with fail
  clear hc1
  obtain ⟨w2, hw2⟩ : ∃ w2, w2 = (w1.setCell ⟨g, 6, none⟩ (.int .i64 (n : Int))).drew := ⟨_, rfl⟩
  have hbd := bell_up HB2.out (below_drewN w1 1)
  have hlk := HLK.out w1.drew hbd
  obtain ⟨⟨d0, d1, d2⟩, _, _, _⟩ := HC0.out w1.drew hbd
  have hE1 := HE0.out.kept (HB2.out.block _ HE0.out.lt)
  have hfr : w1.drew.frozen? ⟨g, 6, none⟩ = false := hE1.free 6
  have hcc : w1.drew.cell? ⟨g, 6, none⟩ = some (.int .i64 p2) := by
    show w1.cell? _ = _
    rw [hE1.cell]; rfl
  have hbl2 : ∀ k, k < w0.heap.size → k ≠ g → w2.heap[k]? = w0.heap[k]? := fun k hk hne => by
    rw [hw2]
    exact (Below.heap_setCell w1 ⟨g, 6, none⟩ _ k hne).trans (HB2.out.block k hk)
  have hs20 : w1.heap.size = w2.heap.size := by rw [hw2]; show _ = (w1.setCell _ _).heap.size; simp [World.setCell]
  have hs2 : w0.heap.size ≤ w2.heap.size := by rw [← hs20]; exact HB2.out.size
  have hE2 : Whole w2 g 87 #[.string t.o, .string t.r, .string t.u, sv, .int .i64 p0, .int .i64 p1, .int .i64 (n : Int)] := by
    rw [hw2]
    exact (show Whole (w1.setCell ⟨g, 6, none⟩ (.int .i64 (n : Int))) g 87 _ from hE1.store 6 (.int .i64 (n : Int)))
  have hX2 := HX0.out.kept (hbl2 _ HX0.out.lt (whole_ne HX0.out HE0.out (by decide)))
  have hM2 := HM0.out.kept (hbl2 _ HM0.out.lt (fun e => HBG.out e.symm))
  have hR2 := owns_keptN HR0.out (fun k hk => hbl2 k (HR0.out.lt k hk).2 (fun e => HRG.out (by rw [hk, e])))
  have hC2 : Chg w w2 (fun k => k = g ∨ k = b ∨ (.slice ra n rc : Value).ownBlock = some k) := by
    rw [hw2]
    exact ((Chg.ofBelow _ (bell_up HB0.out (HB2.out))).set (.inl rfl) _ _).drew
  have HE2 := Lib.hid hE2
  have HX2 := Lib.hid hX2
  have HM2 := Lib.hid hM2
  have HR2 := Lib.hid hR2
  have HC2 := Lib.hid hC2
  have HS2 := Lib.hid (show w.heap.size + 1 ≤ w2.heap.size by have := HX0.out.lt; omega)
  clear hE1 hE2 hX2 hM2 hR2 hC2 hbl2 hbd hs20 hs2
  go_region
  rw [← hw2]
  clear hw2 hlk d0 d1 d2 hfr hcc 
  go_upto_region 3 with fail
  have HHD := Lib.hid (fun (W : World) (hk : ∀ k, k < w2.heap.size → (.slice ra n rc : Value).ownBlock ≠ some k → k ≠ b → W.heap[k]? = w2.heap[k]?) => (show (W.cell? ⟨w.heap.size, 2, none⟩ = some (.map (some b))) from by
    have hx := HX2.out.kept (hk _ HX2.out.lt (fun e => by
      obtain ⟨_, cur, hW⟩ := owned_block HR2.out e
      exact whole_ne HX2.out hW (by decide) rfl) (HM2.out.ne HX2.out))
    exact (by rw [hx.cell]; rfl)))
  have hl1 : (Instr.lookup 58 (.map (some b)) (.string t.u) false).run Tryz.prog w2.drew = .ok (.slice ra n rc) w2.drew := by
    have := (HM2.out.below (below_drew1 w2)).look keyS Tryz.underlying58 (zeroL _) false hkey
    rw [HV0.out] at this
    simp only [Bool.false_eq_true, if_false] at this
    exact this
  have hl2 : (Instr.lookup 58 (.map (some b)) (.string t.u) false).run Tryz.prog (w2.alloc (.cells #[ptr g] 81)).drew = .ok (.slice ra n rc) (w2.alloc (.cells #[ptr g] 81)).drew := by
    have := (HM2.out.below ((below_alloc w2 (.cells #[ptr g] 81)).trans ((below_drew1 (w2.alloc (.cells #[ptr g] 81))).mono (by simp)))).look keyS Tryz.underlying58 (zeroL _) false hkey
    rw [HV0.out] at this
    simp only [Bool.false_eq_true, if_false] at this
    exact this
  have HR3 := Lib.hid (show w2.drew.ownsRow 0 81 1 (.slice ra n rc) n xs from owns_keptN HR2.out (fun _ _ => rfl))
  go_region_held3 (fun W : World => W.cell? ⟨w.heap.size, 2, none⟩ = some (.map (some b))) (first | assumption | with_reducible exact HHD.out w2.drew (fun _ _ _ _ => rfl) | exact HHD.out _ (fun k hk _ _ => (below_alloc w2.drew _).block k hk)) (first
    | (refine step_only 32 rfl ?_; refine step_append_any _ rfl (.tmp 29) (.tmp 31) 80 rfl 0 81 i0 (.pointer none) 1 8 Tryz.underlying80 hi0 hz0 hz1 hz2 rfl (by decide) (.slice ra n rc) n xs rfl (HR3.out.alloc _) ⟨w2.heap.size, 0, none⟩ 1 1 [ptr g] rfl rfl (cell_one_new w2.drew (ptr g) 81) (by simp [Value.oneCell']) hn1 (by omega) (Nat.zero_le _) ?_; intro v' w3 hown3 hgr3 hat3
       have hbl3 : ∀ k, k < w2.heap.size → (.slice ra n rc : Value).ownBlock ≠ some k → w3.heap[k]? = w2.heap[k]? := fun k hk hne => (hgr3.block k (by simp; omega) (fun e => hne e.symm)).trans ((below_alloc w2.drew _).block k hk)
       have hk3 := HHD.out w3 (fun k hk hne _ => hbl3 k hk hne)
       have HM3 := Lib.hid (HM2.out.kept (hbl3 _ HM2.out.lt HRB.out))
       have HE3 := Lib.hid (HE2.out.kept (hbl3 _ HE2.out.lt HRG.out))
       have HC3 := Lib.hid (HC2.out.trans ((Chg.ofBelow (fun k => (.slice ra n rc : Value).ownBlock = some k) (show Below w2.heap.size w2 (w2.drew.alloc (.cells #[ptr g] 81)) from bell_alloc (below_drew1 w2) _)).trans (Chg.ofGrown hgr3 (fun k _ e => e)) (fun _ _ e => e)) (fun _ _ e => .inr (.inr e)))
       have HA3 := Lib.hid (show v'.ownBlock = (.slice ra n rc : Value).ownBlock ∨ ∃ q, v'.ownBlock = some q ∧ w.heap.size ≤ q from hat3.imp_right (fun e => ⟨_, e, by have := HS2.out; simp; omega⟩))
       have HO3 := Lib.hid hown3
       obtain ⟨w4, hrun4, hm4, hgr4, hs4⟩ := HM3.out.store (val := v') keyS Tryz.underlying58 (zeroL _) hN hkey
       have HF := Lib.hid (show w4.ownsRow 0 81 1 v' (n + 1) (xs ++ [ptr g]) ∧ MapAt w4 Tryz.prog 9 b (mset m (kS t.u) (some v')) (if (m (kS t.u)).isSome then N else N + 1) ∧
         Whole w4 g 87 #[.string t.o, .string t.r, .string t.u, sv, .int .i64 p0, .int .i64 p1, .int .i64 (n : Int)] ∧ Chg w w4 (fun k => k = g ∨ k = b ∨ (.slice ra n rc : Value).ownBlock = some k) ∧ (v'.ownBlock = (.slice ra n rc : Value).ownBlock ∨ ∃ q, v'.ownBlock = some q ∧ w.heap.size ≤ q) from
         ⟨owns_keptN HO3.out (fun k hk => hgr4.block k (HO3.out.lt k hk).2 (fun e => by
            obtain ⟨_, cur, hW⟩ := owned_block HO3.out hk
            injection e with e
            exact HM3.out.ne hW e)), hm4, HE3.out.kept (hgr4.block g HE3.out.lt (fun e => by injection e with e; exact HBG.out e)), HC3.out.trans (Chg.ofGrown (P := fun k => k = b) hgr4 (fun k _ e => by injection e with e; exact e.symm)) (fun k _ e => .inr (.inl e)), HA3.out⟩)
       have hk4 := HHD.out w4 (fun k hk hne hnb => (hgr4.block k (Nat.lt_of_lt_of_le hk (by have := hgr3.size; simp at this; omega)) (fun e => by injection e with e; exact hnb e)).trans (hbl3 k hk hne))
       clear hm4 hgr4 hs4 hbl3 hown3 hgr3 hat3))
  all_goals exact ⟨rfl, .tuple #[], (by simp [results, Tryz.results59, go_sem]), rfl, _, HF.out⟩
set_option maxRecDepth 100000 in
set_option maxHeartbeats 4000000 in
theorem add1_any {w : World} {b N g : Nat} {m : Lit → Option Value} {t : Tp} {sv : Value} {p0 p1 p2 : Int} (hf : t.fits)
    (hm : MapAt w Tryz.prog 68 b m N) (hN : N < maxLen)
    (he : Whole w g 87 #[.string t.o, .string t.r, .string t.u, sv, .int .i64 p0, .int .i64 p1, .int .i64 p2])
    {n : Nat} {xs : List Value} (hr : w.ownsRow 0 81 1 ((m (kP t.o t.r)).getD nilS) n xs) (hn : n ≤ 1099511627776) :
    Calls Tryz.prog 60 #[.agg #[.int .i64 1, fnV 19, .map (some b)], ptr g] w fun e w' => e = .returned (.tuple #[]) ∧ ∃ v', w'.ownsRow 0 81 1 v' (n + 1) (xs ++ [ptr g]) ∧ MapAt w' Tryz.prog 68 b (mset m (kP t.o t.r) (some v')) (if (m (kP t.o t.r)).isSome then N else N + 1) ∧
      Whole w' g 87 #[.string t.o, .string t.r, .string t.u, sv, .int .i64 p0, .int .i64 (n : Int), .int .i64 p2] ∧ Chg w w' (fun k => k = g ∨ k = b ∨ ((m (kP t.o t.r)).getD nilS).ownBlock = some k) ∧ (v'.ownBlock = ((m (kP t.o t.r)).getD nilS).ownBlock ∨ ∃ q, v'.ownBlock = some q ∧ w.heap.size ≤ q) := by
  have hn1 : n + 1 ≤ maxLen := by unfold maxLen; omega
  obtain ⟨i0, hi0, hz0, hz1, hz2⟩ := info_parts infoE
  have hkey := (keyP_of hf.1 hf.2.1)
  generalize hv0 : (m (kP t.o t.r)).getD nilS = v0 at *
  have HV0 := Lib.hid hv0
  obtain ⟨ra, rc, rfl, _, _⟩ := owned_anyE hr
  obtain ⟨w0, hw0⟩ : ∃ w0, w0 = w.alloc (.cells #[.int .i64 1, fnV 19, .map (some b)] 65) := ⟨_, rfl⟩
  have hb0 : Below w.heap.size w w0 := by rw [hw0]; exact below_alloc _ _
  have hx0 : Whole w0 w.heap.size 65 #[.int .i64 1, fnV 19, .map (some b)] := by rw [hw0]; exact heap_alloc_new _ _
  have HE0 := Lib.hid (he.kept (hb0.block _ he.lt))
  have HM0 := Lib.hid (hm.below hb0)
  have HR0 := Lib.hid (owns_keptN hr (fun k hk => hb0.block k (hr.lt k hk).2))
  have HX0 := Lib.hid hx0
  have HB0 := Lib.hid hb0
  have HBG := Lib.hid (hm.ne he)
  have HRG := Lib.hid (show (.slice ra n rc : Value).ownBlock ≠ some g from fun e => by
    obtain ⟨_, cur, hW⟩ := owned_block hr e
    exact whole_ne hW he (by decide) rfl)
  have HRB := Lib.hid (show (.slice ra n rc : Value).ownBlock ≠ some b from fun e => by
    obtain ⟨_, cur, hW⟩ := owned_block hr e
    exact hm.ne hW rfl)
  have HKF := Lib.hid (fun W => key2_any t W)
  have HWL := Lib.hid (show g < w.heap.size from he.lt)
  have HBL := Lib.hid (show b < w.heap.size from hm.lt)
  have HLK := Lib.hid (fun W (hW : Below w0.heap.size w0 W) => (show (Instr.lookup 63 (.map (some b)) (.agg #[.string t.o, .string t.r]) false).run Tryz.prog W = .ok (.slice ra n rc) W from by
    have := (HM0.out.below hW).look keyP Tryz.underlying63 (zeroL _) false hkey
    rw [HV0.out] at this
    simpa using this))
  have HC0 := Lib.hid (fun W (hW : Below w0.heap.size w0 W) => (show (W.cell? ⟨w.heap.size, 0, none⟩ = some (.int .i64 1) ∧ W.cell? ⟨w.heap.size, 1, none⟩ = some (fnV 19) ∧ W.cell? ⟨w.heap.size, 2, none⟩ = some (.map (some b))) ∧ W.cell? ⟨g, 0, none⟩ = some (.string t.o) ∧ W.cell? ⟨g, 1, none⟩ = some (.string t.r) ∧ W.cell? ⟨g, 2, none⟩ = some (.string t.u) from by
    have hx := HX0.out.kept (hW.block _ HX0.out.lt)
    have hg := HE0.out.kept (hW.block _ HE0.out.lt)
    exact ⟨⟨by rw [hx.cell]; rfl, by rw [hx.cell]; rfl, by rw [hx.cell]; rfl⟩, by rw [hg.cell]; rfl, by rw [hg.cell]; rfl, by rw [hg.cell]; rfl⟩))
  clear hm he hr hb0 hx0 hv0
  go_enter Tryz.func60, Tryz.ntmps60
  go_upto_region 1 with fail
  rw [← hw0]
  clear hw0
  go_region_held3 (fun W : World => (W.cell? ⟨w.heap.size, 0, none⟩ = some (.int .i64 1) ∧ W.cell? ⟨w.heap.size, 1, none⟩ = some (fnV 19) ∧ W.cell? ⟨w.heap.size, 2, none⟩ = some (.map (some b))) ∧ W.cell? ⟨g, 0, none⟩ = some (.string t.o) ∧ W.cell? ⟨g, 1, none⟩ = some (.string t.r) ∧ W.cell? ⟨g, 2, none⟩ = some (.string t.u)) (first | assumption | with_reducible exact HC0.out _ (below_drewN _ 1) | exact HC0.out _ (bell_alloc HB2.out _) | exact HC0.out _ (below_alloc w0 _) | exact HC0.out _ ((below_alloc w0 _).trans ((below_drew1 _).mono (by simp))) | exact HC0.out _ ((HB2.out.setCell (by simp) _).setCell (by simp) _) | exact HC0.out _ (((bell_alloc HB2.out _).setCell HB2.out.size _).setCell HB2.out.size _)) (first
    | (go_at_call 19; refine (HKF.out _).mono ?_; rintro e w1 ⟨rfl, hb1⟩
       have hb1 : Below (w0.alloc (.cells #[.string ⟨#[]⟩, .string ⟨#[]⟩] 68)).heap.size (w0.alloc (.cells #[.string ⟨#[]⟩, .string ⟨#[]⟩] 68)) w1 := bell_up (below_drew1 _) hb1
       have hx1 : Whole w1 w0.heap.size 68 #[.string ⟨#[]⟩, .string ⟨#[]⟩] := (show Whole (w0.alloc (.cells #[.string ⟨#[]⟩, .string ⟨#[]⟩] 68)) w0.heap.size 68 _ from heap_alloc_new _ _).kept (hb1.block _ (by simp))
       have hb2 := bell_up (below_alloc w0 _) hb1
       have hc1 := HC0.out w1 hb2
       obtain ⟨⟨x0, x1⟩, xf0, xf1⟩ := two_of hx1
       have HB2 := Lib.hid hb2
       have HX1 := Lib.hid hx1
       clear hb1 hb2 hx1)
    | (go_at_call 19; refine (HKF.out _).mono ?_; rintro e w1 ⟨rfl, hb1⟩
       have hb2 := bell_up (below_drewN w0 1) hb1
       have hc1 := HC0.out w1 hb2
       have HB2 := Lib.hid hb2
       clear hb1 hb2))
  all_goals (first
    | (obtain ⟨w5, hw5⟩ : ∃ w5, w5 = w1.alloc (.cells #[.string t.o, .string t.r] 68) := ⟨_, rfl⟩
       rw [← hw5]
       have HP5 : Whole w5 w1.heap.size 68 #[.string t.o, .string t.r] := by rw [hw5]; exact heap_alloc_new _ _
       have HB5 := Lib.hid (show Below w0.heap.size w0 w5 by rw [hw5]; exact bell_alloc HB2.out _)
       obtain ⟨xp, hxp⟩ : ∃ xp, xp = w1.heap.size := ⟨_, rfl⟩
       rw [← hxp] at HP5 ⊢
       have HP5 := Lib.hid HP5
       clear hxp HB2 hw5)
    | (obtain ⟨w5, hw5⟩ : ∃ w5, w5 = (w1.setCell ⟨w0.heap.size, 0, none⟩ (.string t.o)).setCell ⟨w0.heap.size, 1, none⟩ (.string t.r) := ⟨_, rfl⟩
       rw [← hw5]
       have HP5 : Whole w5 w0.heap.size 68 #[.string t.o, .string t.r] := by rw [hw5]; exact (HX1.out.store 0 (.string t.o)).store 1 (.string t.r)
       have HB5 := Lib.hid (show Below w0.heap.size w0 w5 by rw [hw5]; exact ((HB2.out.setCell (p := ⟨w0.heap.size, 0, none⟩) (Nat.le_refl _) _).setCell (p := ⟨w0.heap.size, 1, none⟩) (Nat.le_refl _) _))
       have HP5 := Lib.hid HP5
       obtain ⟨xp, hxp⟩ : ∃ xp, xp = w0.heap.size := ⟨_, rfl⟩
       rw [← hxp] at HP5 ⊢
       clear hxp HB2 HX1 hw5 x0 x1 xf0 xf1))
  all_goals have HB2 := HB5
  all_goals
    go_upto_region 2 with fail
    clear hc1
    obtain ⟨w2, hw2⟩ : ∃ w2, w2 = (w5.setCell ⟨g, 5, none⟩ (.int .i64 (n : Int))).drew := ⟨_, rfl⟩
    have hbd := bell_up HB2.out (below_drewN w5 1)
    have hlk := HLK.out w5.drew hbd
    obtain ⟨⟨d0, d1, d2⟩, _, _, _⟩ := HC0.out w5.drew hbd
    have hE1 := HE0.out.kept (HB2.out.block _ HE0.out.lt)
    have hfr : w5.drew.frozen? ⟨g, 5, none⟩ = false := hE1.free 5
    have hcc : w5.drew.cell? ⟨g, 5, none⟩ = some (.int .i64 p1) := by
      show w5.cell? _ = _
      rw [hE1.cell]; rfl
    have hP1 := HP5.out
    have q0 : w5.drew.cell? ⟨xp, 0, none⟩ = some (.string t.o) := by
      show w5.cell? _ = _
      rw [hP1.cell]; rfl
    have q1 : w5.drew.cell? ⟨xp, 1, none⟩ = some (.string t.r) := by
      show w5.cell? _ = _
      rw [hP1.cell]; rfl
    have hbl2 : ∀ k, k < w0.heap.size → k ≠ g → w2.heap[k]? = w0.heap[k]? := fun k hk hne => by
      rw [hw2]
      exact (Below.heap_setCell w5 ⟨g, 5, none⟩ _ k hne).trans (HB2.out.block k hk)
    have hs20 : w5.heap.size = w2.heap.size := by rw [hw2]; show _ = (w5.setCell _ _).heap.size; simp [World.setCell]
    have hs2 : w0.heap.size ≤ w2.heap.size := by rw [← hs20]; exact HB2.out.size
    have hE2 : Whole w2 g 87 #[.string t.o, .string t.r, .string t.u, sv, .int .i64 p0, .int .i64 (n : Int), .int .i64 p2] := by
      rw [hw2]
      exact (show Whole (w5.setCell ⟨g, 5, none⟩ (.int .i64 (n : Int))) g 87 _ from hE1.store 5 (.int .i64 (n : Int)))
    have hX2 := HX0.out.kept (hbl2 _ HX0.out.lt (whole_ne HX0.out HE0.out (by decide)))
    have hM2 := HM0.out.kept (hbl2 _ HM0.out.lt (fun e => HBG.out e.symm))
    have hR2 := owns_keptN HR0.out (fun k hk => hbl2 k (HR0.out.lt k hk).2 (fun e => HRG.out (by rw [hk, e])))
    have hC2 : Chg w w2 (fun k => k = g ∨ k = b ∨ (.slice ra n rc : Value).ownBlock = some k) := by
      rw [hw2]
      exact ((Chg.ofBelow _ (bell_up HB0.out (HB2.out))).set (.inl rfl) _ _).drew
    have HE2 := Lib.hid hE2
    have HX2 := Lib.hid hX2
    have HM2 := Lib.hid hM2
    have HR2 := Lib.hid hR2
    have HC2 := Lib.hid hC2
    have HP2 := Lib.hid (show Whole w2 xp 68 #[.string t.o, .string t.r] from hP1.kept (by rw [hw2]; exact Below.heap_setCell w5 ⟨g, 5, none⟩ _ xp (whole_ne hP1 hE1 (by decide))))
    have HS2 := Lib.hid (show w.heap.size + 1 ≤ w2.heap.size by have := HX0.out.lt; omega)
    clear hE1 hE2 hX2 hM2 hR2 hC2 hbl2 hbd hs20 hs2
    go_region
    rw [← hw2]
    clear hw2 hlk d0 d1 d2 hfr hcc q0 q1 hP1
    go_upto_region 3 with fail
    have HHD := Lib.hid (fun (W : World) (hk : ∀ k, k < w2.heap.size → (.slice ra n rc : Value).ownBlock ≠ some k → k ≠ b → W.heap[k]? = w2.heap[k]?) => (show (W.cell? ⟨xp, 0, none⟩ = some (.string t.o) ∧ W.cell? ⟨xp, 1, none⟩ = some (.string t.r)) ∧ (W.cell? ⟨w.heap.size, 2, none⟩ = some (.map (some b))) from by
      have hx := HX2.out.kept (hk _ HX2.out.lt (fun e => by
        obtain ⟨_, cur, hW⟩ := owned_block HR2.out e
        exact whole_ne HX2.out hW (by decide) rfl) (HM2.out.ne HX2.out))
      have hp := HP2.out.kept (hk _ HP2.out.lt (fun e => by
        obtain ⟨_, cur, hW⟩ := owned_block HR2.out e
        exact whole_ne HP2.out hW (by decide) rfl) (HM2.out.ne HP2.out))
      exact ⟨⟨by rw [hp.cell]; rfl, by rw [hp.cell]; rfl⟩, (by rw [hx.cell]; rfl)⟩))
    have hl1 : (Instr.lookup 63 (.map (some b)) (.agg #[.string t.o, .string t.r]) false).run Tryz.prog w2.drew = .ok (.slice ra n rc) w2.drew := by
      have := (HM2.out.below (below_drew1 w2)).look keyP Tryz.underlying63 (zeroL _) false hkey
      rw [HV0.out] at this
      simp only [Bool.false_eq_true, if_false] at this
      exact this
    have hl2 : (Instr.lookup 63 (.map (some b)) (.agg #[.string t.o, .string t.r]) false).run Tryz.prog (w2.alloc (.cells #[ptr g] 81)).drew = .ok (.slice ra n rc) (w2.alloc (.cells #[ptr g] 81)).drew := by
      have := (HM2.out.below ((below_alloc w2 (.cells #[ptr g] 81)).trans ((below_drew1 (w2.alloc (.cells #[ptr g] 81))).mono (by simp)))).look keyP Tryz.underlying63 (zeroL _) false hkey
      rw [HV0.out] at this
      simp only [Bool.false_eq_true, if_false] at this
      exact this
    have HR3 := Lib.hid (show w2.drew.ownsRow 0 81 1 (.slice ra n rc) n xs from owns_keptN HR2.out (fun _ _ => rfl))
    go_region_held3 (fun W : World => (W.cell? ⟨xp, 0, none⟩ = some (.string t.o) ∧ W.cell? ⟨xp, 1, none⟩ = some (.string t.r)) ∧ W.cell? ⟨w.heap.size, 2, none⟩ = some (.map (some b))) (first | assumption | with_reducible exact HHD.out w2.drew (fun _ _ _ _ => rfl) | exact HHD.out _ (fun k hk _ _ => (below_alloc w2.drew _).block k hk)) (first
      | (refine step_only 32 rfl ?_; refine step_append_any _ rfl (.tmp 29) (.tmp 31) 80 rfl 0 81 i0 (.pointer none) 1 8 Tryz.underlying80 hi0 hz0 hz1 hz2 rfl (by decide) (.slice ra n rc) n xs rfl (HR3.out.alloc _) ⟨w2.heap.size, 0, none⟩ 1 1 [ptr g] rfl rfl (cell_one_new w2.drew (ptr g) 81) (by simp [Value.oneCell']) hn1 (by omega) (Nat.zero_le _) ?_; intro v' w3 hown3 hgr3 hat3
         have hbl3 : ∀ k, k < w2.heap.size → (.slice ra n rc : Value).ownBlock ≠ some k → w3.heap[k]? = w2.heap[k]? := fun k hk hne => (hgr3.block k (by simp; omega) (fun e => hne e.symm)).trans ((below_alloc w2.drew _).block k hk)
         have hk3 := HHD.out w3 (fun k hk hne _ => hbl3 k hk hne)
         have HM3 := Lib.hid (HM2.out.kept (hbl3 _ HM2.out.lt HRB.out))
         have HE3 := Lib.hid (HE2.out.kept (hbl3 _ HE2.out.lt HRG.out))
         have HC3 := Lib.hid (HC2.out.trans ((Chg.ofBelow (fun k => (.slice ra n rc : Value).ownBlock = some k) (show Below w2.heap.size w2 (w2.drew.alloc (.cells #[ptr g] 81)) from bell_alloc (below_drew1 w2) _)).trans (Chg.ofGrown hgr3 (fun k _ e => e)) (fun _ _ e => e)) (fun _ _ e => .inr (.inr e)))
         have HA3 := Lib.hid (show v'.ownBlock = (.slice ra n rc : Value).ownBlock ∨ ∃ q, v'.ownBlock = some q ∧ w.heap.size ≤ q from hat3.imp_right (fun e => ⟨_, e, by have := HS2.out; simp; omega⟩))
         have HO3 := Lib.hid hown3
         obtain ⟨w4, hrun4, hm4, hgr4, hs4⟩ := HM3.out.store (val := v') keyP Tryz.underlying63 (zeroL _) hN hkey
         have HF := Lib.hid (show w4.ownsRow 0 81 1 v' (n + 1) (xs ++ [ptr g]) ∧ MapAt w4 Tryz.prog 68 b (mset m (kP t.o t.r) (some v')) (if (m (kP t.o t.r)).isSome then N else N + 1) ∧
           Whole w4 g 87 #[.string t.o, .string t.r, .string t.u, sv, .int .i64 p0, .int .i64 (n : Int), .int .i64 p2] ∧ Chg w w4 (fun k => k = g ∨ k = b ∨ (.slice ra n rc : Value).ownBlock = some k) ∧ (v'.ownBlock = (.slice ra n rc : Value).ownBlock ∨ ∃ q, v'.ownBlock = some q ∧ w.heap.size ≤ q) from
           ⟨owns_keptN HO3.out (fun k hk => hgr4.block k (HO3.out.lt k hk).2 (fun e => by
              obtain ⟨_, cur, hW⟩ := owned_block HO3.out hk
              injection e with e
              exact HM3.out.ne hW e)), hm4, HE3.out.kept (hgr4.block g HE3.out.lt (fun e => by injection e with e; exact HBG.out e)), HC3.out.trans (Chg.ofGrown (P := fun k => k = b) hgr4 (fun k _ e => by injection e with e; exact e.symm)) (fun k _ e => .inr (.inl e)), HA3.out⟩)
         have hk4 := HHD.out w4 (fun k hk hne hnb => (hgr4.block k (Nat.lt_of_lt_of_le hk (by have := hgr3.size; simp at this; omega)) (fun e => by injection e with e; exact hnb e)).trans (hbl3 k hk hne))
         clear hm4 hgr4 hs4 hbl3 hown3 hgr3 hat3))
    all_goals exact ⟨rfl, .tuple #[], (by simp [results, Tryz.results60, go_sem]), rfl, _, HF.out⟩
end Go.Proofs.YtmjdngomjjhhiaaGreat
