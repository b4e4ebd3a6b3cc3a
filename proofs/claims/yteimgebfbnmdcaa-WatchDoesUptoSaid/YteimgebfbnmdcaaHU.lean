/- watch.Back: slices.Backward, and what is made of it. -/
import Derived.Test.YteimgebfbnmdcaaHT
namespace Go.Proofs.Yteimgebfbnmdcaa
open Go.RowKit Go.Shelf
open Go.Maps (Keyed)
attribute [local go_sem] Oper.semAt_some

/-- What a round keeps: what lay before, and the slice's box. -/
def KB (n0 Bn : Nat) (W W' : World) : Prop := Below n0 W W' ∧ W'.heap[Bn]? = W.heap[Bn]?
theorem KB.trans {n0 Bn : Nat} {A B C : World} (h : KB n0 Bn A B) (k : KB n0 Bn B C) : KB n0 Bn A C := ⟨h.1.trans k.1, k.2.trans h.2⟩
theorem KB.put {n0 Bn : Nat} {w : World} (hn : n0 ≤ w.heap.size) (hB : Bn < w.heap.size) (W : World) (l : Nat) (o o' : Obj) (hl : w.heap.size ≤ l) (h : W.heap[l]? = some o) (hc : o.isCells = false) (hw : o.isWalk = false) : KB n0 Bn W (W.putObj l o') :=
  ⟨belowK_b hn W l o o' hl h hc hw, World.putObj_heap_other (by omega)⟩
def Zr (l : List Ch) (k : Nat) : List (Ch × Nat) := (l.zipIdx.drop k).reverse
theorem Zr_step {l : List Ch} {k : Nat} {x : Ch} (h : l[k]? = some x) : Zr l k = Zr l (k + 1) ++ [(x, k)] := by
  unfold Zr
  have hz : l.zipIdx[k]? = some (x, k) := by rw [List.getElem?_zipIdx, h]; simp
  rw [drop_get hz, List.reverse_cons]
set_option maxRecDepth 100000 in
set_option maxHeartbeats 4000000 in
theorem back1_in (F : Fence) (n : Nat) (h1 : F.fn 55) (hro : F.round = none) (hn : 1 ≤ n) (l0 Bn n0 : Nat) (a : Option Addr) (m c : Nat) (l : List Ch) (J Jx : List (Ch × Nat) → World → Prop)
    (hY : ∀ pre x W, J pre W → pre.length < l.length → YieldAt F (n - 1) Try.prog l0 #[.int .i64 (x.2 : Int), .agg (chc x.1).toArray] W fun e W' =>
      (e = .returned (.bool true) ∧ J (pre ++ [x]) W' ∧ KB n0 Bn W W') ∨ (e = .returned (.bool false) ∧ Jx (pre ++ [x]) W'))
    (W : World) (hBn : W.cell? ⟨Bn, 0, none⟩ = some (.slice a m c)) (hL : Lies W 53 5 0 a m c (l.flatMap chc)) (hlb : 0 < m → ∀ ad, a = some ad → ad.block < n0) (hlm : l.length = m) (hm : m ≤ 1099511627776) (h0 : J [] W) :
    CallsIn F n Try.prog 55 #[.func (.yield l0) #[] #[], .pointer (some ⟨Bn, 0, none⟩)] W fun e W' => (∃ v, e = .returned v) ∧
      ((∃ xs, xs = Zr l 0 ∧ J xs W') ∨ (∃ pre : List (Ch × Nat), True ∧ Jx pre W')) := by
  have HLB : Hid _ := hlb
  clear hlb
  refine callsIn_of_wp Try.func55 rfl h1 ?_ hro
  simp only [Try.ntmps55, List.size_toArray, List.length_cons, List.length_nil, Nat.reduceAdd, Nat.reduceSub, Array.replicate_succ, Array.replicate_zero, List.push_toArray, List.append_toArray, List.nil_append, List.cons_append]
  gi_wp2
  gi_loopw [3] (fun iv wr => ∃ k : Nat, k ≤ m ∧ iv = .int .i64 ((k : Int) - 1) ∧ wr.cell? ⟨Bn, 0, none⟩ = some (.slice a m c) ∧ Hid (Lies wr 53 5 0 a m c (l.flatMap chc)) ∧ J (Zr l k) wr) (fun iv _ => (intOf iv + 1).toNat)
  case atStart =>
    refine ⟨m, Nat.le_refl _, rfl, hBn, hL, ?_⟩
    have : Zr l m = [] := by unfold Zr; rw [List.drop_eq_nil_of_le (by simp; omega)]; rfl
    rw [this]; exact h0
  case round =>
    clear hBn hL h0
    obtain ⟨k, hkm, rfl, hBn, HL, hJs⟩ := hrel
    by_cases hk : k = 0
    · subst hk
      gi_wp2
      go_end0
      exact ⟨⟨_, rfl⟩, .inl ⟨_, rfl, hJs⟩⟩
    · obtain ⟨k, rfl⟩ : ∃ k', k = k' + 1 := ⟨k - 1, by omega⟩
      obtain ⟨x, hx⟩ : ∃ x, l[k]? = some x := ⟨_, List.getElem?_eq_getElem (by omega)⟩
      obtain ⟨bb, off, rfl, hbb, hcc⟩ := lies_cells chc_len (by decide) HL.out hx
      have c0 : wr.cell? ⟨bb, off + k * 5, none⟩ = some (.int .i64 x.rev) := hcc 0 _ rfl
      have c1 : wr.cell? ⟨bb, off + k * 5 + 1, none⟩ = some (.bool x.del) := hcc 1 _ rfl
      have c2 : wr.cell? ⟨bb, off + k * 5 + 2, none⟩ = some (.string x.t.o) := hcc 2 _ rfl
      have c3 : wr.cell? ⟨bb, off + k * 5 + 3, none⟩ = some (.string x.t.r) := hcc 3 _ rfl
      have c4 : wr.cell? ⟨bb, off + k * 5 + 4, none⟩ = some (.string x.t.u) := hcc 4 _ rfl
      have hz := Zr_step hx
      have hlt : (Zr l (k + 1)).length < l.length := by unfold Zr; simp; omega
      obtain ⟨fn, tmps, assign, body, hy, hR⟩ := hY (Zr l (k + 1)) (x, k) wr hJs hlt
      dsimp only at hy
      rw [← hz] at hR
      have HZ : Hid _ := hz
      unfold chc at hy
      clear hz hlt hcc
      gi_wp2
      refine hR.mono ?_
      rintro e W3 (⟨rfl, hJ4, hk3⟩ | ⟨rfl, hJx3⟩)
      · have hB3 : W3.cell? ⟨Bn, 0, none⟩ = some (.slice (some ⟨bb, off, none⟩) m c) := by
          have := hBn
          simp only [World.cell?, hk3.2] at this ⊢
          exact this
        have HL3 : Hid (Lies W3 53 5 0 (some ⟨bb, off, none⟩) m c (l.flatMap chc)) := HL.out.keep hk3.1.size (fun hp ad ha => hk3.1.block _ (HLB.out hp ad ha))
        gi_wp2
        go_roundw
        case rel => exact ⟨k, by omega, by go_num, hB3, HL3, hJ4⟩
        case measure => simp [intOf]
      · gi_wp2
        refine bodyPost_ret (results_none rfl _ _ _) rfl ?_
        exact ⟨⟨_, rfl⟩, .inr ⟨_, trivial, hJx3⟩⟩
def flipC (c : Ch) : Ch := ⟨c.rev, !c.del, c.t⟩
/-- The changes that undo others. -/
def backL (l : List Ch) : List Ch := (l.map flipC).reverse
theorem Zr_back (l : List Ch) : (Zr l 0).map (fun x => flipC x.1) = backL l := by
  unfold Zr backL
  rw [List.drop_zero, List.map_reverse]
  congr 1
  have : l.zipIdx.map (fun x => flipC x.1) = (l.zipIdx.map (·.1)).map flipC := by rw [List.map_map]; rfl
  rw [this, List.zipIdx_map_fst]
theorem backward_any (a : Option Addr) (m c : Nat) (w : World) : Calls Try.prog 45 #[.slice a m c] w fun e w' => e = .returned (.func (.func 55) #[] #[.pointer (some ⟨w.heap.size, 0, none⟩)]) ∧ w' = w.alloc (.cells #[.slice a m c] 25) := by
  go_enter Try.func45, Try.ntmps45
  go_wp2
  go_ret
  exact ⟨rfl, rfl⟩
theorem back_stops (F : Fence) (n : Nat) (h1 : F.fn 55) (hro : F.round = none) (hn : 1 ≤ n) (Bn n0 : Nat) (a : Option Addr) (m c : Nat) (l : List Ch) (w : World) (hBw : Bn < w.heap.size)
    (hBn : w.cell? ⟨Bn, 0, none⟩ = some (.slice a m c)) (hL : Lies w 53 5 0 a m c (l.flatMap chc)) (hlb : 0 < m → ∀ ad, a = some ad → ad.block < n0) (hlm : l.length = m) (hm : m ≤ 1099511627776) :
    SeqStopsK F n Try.prog 55 #[.pointer (some ⟨Bn, 0, none⟩)] (fun x : Ch × Nat => #[.int .i64 (x.2 : Int), .agg (chc x.1).toArray]) (KB n0 Bn) (fun xs => xs = Zr l 0) (fun _ => True) l.length w := fun l0 J Jx W hW _ _ hY h0 =>
  back1_in F n h1 hro hn l0 Bn n0 a m c l J Jx hY W ((hW.cell (p := ⟨Bn, 0, none⟩) hBw).trans hBn) (hL.below hW) hlb hlm hm h0
set_option maxRecDepth 100000 in
set_option maxHeartbeats 16000000 in
theorem back_in (F : Fence) (n : Nat) (h1 : F.fn 55) (h2 : F.fn 45) (h3 : F.fn 24) (hw : F = Fence.wide) (hn : 3 ≤ n) {w : World} {a : Option Addr} {m c : Nat} {l : List Ch} (hL : Lies w 53 5 0 a m c (l.flatMap chc)) (hlm : l.length = m) (hm : m ≤ 1099511627776) :
    CallsIn F n Try.prog 24 #[.slice a m c] w fun e W' => ∃ v, e = .returned v ∧ OutE 53 5 chc w W' v (backL l) := by
  subst hw
  have hro : Fence.wide.round = none := rfl
  have h11 : 1 ≤ n := by omega
  obtain ⟨i0, hi, hz0, hz1, hz2⟩ := info_parts infoCh
  obtain ⟨cs, hmk, hcs⟩ := made_row (P := Try.prog) w 25 53 i0 _ 5 64 Try.underlying25 hi hz0 hz1 hz2 0 m (Nat.zero_le _) (by omega) (by unfold maxLen; omega)
  obtain ⟨w0, hw0⟩ : ∃ w0, w0 = w.alloc (.cells cs 53) := ⟨_, rfl⟩
  rw [← hw0] at hmk
  have hb0 : Below w.heap.size w w0 := by rw [hw0]; exact below_alloc _ _
  have hr0 : w0.ownsRow w.heap.size 53 5 (.slice (some ⟨w.heap.size, 0, none⟩) 0 m) 0 [] := by rw [hw0]; exact World.ownsRow_made (base := w.heap.size) (e := 53) (size := 5) w cs m (Nat.le_refl _) (by unfold maxLen; omega) hcs
  have hs0 : w0.heap.size = w.heap.size + 1 := by rw [hw0]; simp
  have hz : ((0 : Nat) : Int) = 0 := rfl
  rw [hz] at hmk
  refine callsIn_of_wp_marks Try.func24 rfl h3 ?_ hro
  simp only [Try.ntmps24, List.size_toArray, List.length_cons, List.length_nil, Nat.reduceAdd, Nat.reduceSub, Array.replicate_succ, Array.replicate_zero, List.push_toArray, List.append_toArray, List.nil_append, List.cons_append]
  gi_wp2_with (first | (gi_at_call 45; refine (callsIn_wide.2 (backward_any a m c _)).mono ?_; rintro e w' ⟨rfl, rfl⟩))
  rw [← hw0]
  obtain ⟨wa, hwa⟩ : ∃ wa, wa = w0.alloc (.cells #[.slice (some ⟨w.heap.size, 0, none⟩) 0 m] 25) := ⟨_, rfl⟩
  obtain ⟨W0, hW0⟩ : ∃ W0, W0 = wa.alloc (.cells #[.slice a m c] 25) := ⟨_, rfl⟩
  rw [← hwa, ← hW0]
  have hsa : wa.heap.size = w.heap.size + 1 + 1 := by rw [hwa, World.size_alloc, hs0]
  have hs3 : W0.heap.size = w.heap.size + 1 + 1 + 1 := by rw [hW0, World.size_alloc, hsa]
  have hba : Below w.heap.size w wa := by rw [hwa]; exact bell_alloc hb0 _
  have hB0 : Below w.heap.size w W0 := by rw [hW0]; exact bell_alloc hba _
  have bL : Boxed W0 (w.heap.size + 1) 25 (.slice (some ⟨w.heap.size, 0, none⟩) 0 m) := by
    have := Boxed.new w0 25 (.slice (some ⟨w.heap.size, 0, none⟩) 0 m)
    rw [← hwa, hs0] at this
    rw [hW0]
    exact this.alloc _
  have bN : Whole W0 (w.heap.size + 1 + 1) 25 #[.slice a m c] := by
    have := heap_alloc_new wa (.cells #[.slice a m c] 25)
    rw [← hW0, hsa] at this
    exact this
  have hr3 : W0.ownsRow w.heap.size 53 5 (.slice (some ⟨w.heap.size, 0, none⟩) 0 m) 0 [] := by
    rw [hW0, hwa]
    exact (hr0.alloc _).alloc _
  have hlb : 0 < m → ∀ ad, a = some ad → ad.block < w.heap.size := fun hp ad ha => (hL.at_ hp ad ha).2.1
  clear hmk hw0 hwa hW0 hr0 hs0 hsa hba hb0
  refine wpIn_rangeFunc_ownH hro h11 (gf := 55) (lb := #[.pointer (some ⟨w.heap.size + 1 + 1, 0, none⟩)]) rfl h1 (enters_of Try.func55 (by kernel_rfl) rfl)
    (back_stops Fence.wide (n - 1) h1 hro (by omega) (w.heap.size + 1 + 1) w.heap.size a m c l W0 (by omega) (bN.cell 0) (hL.below hB0) hlb hlm hm) KB.trans (KB.put (by omega) (by omega)) (Below.refl _ _) (fun _ => rfl)
    (fun pre W => ((∃ v, Boxed W (w.heap.size + 1) 25 v ∧ W.ownsRow w.heap.size 53 5 v pre.length ((pre.map fun x : Ch × Nat => flipC x.1).flatMap chc) ∧ True) ∧ Whole W (w.heap.size + 1 + 1) 25 #[.slice a m c]) ∧ Below w.heap.size w W)
    (fun _ _ _ => False)
    (OwnFrom.and (OwnFrom.and (Own.from (holdsRow_own w.heap.size (w.heap.size + 1) 25 53 5 (fun pre : List (Ch × Nat) => pre.length) (fun pre : List (Ch × Nat) => (pre.map fun x : Ch × Nat => flipC x.1).flatMap chc) (fun _ _ => True)) _) (Own.from (fun _ _ _ _ h hg hr => whole_abides h hg hr) _)) (ownFrom_below (Nat.le_refl _) (by omega)))
    (fun _ _ _ _ _ hs _ _ => hs)
    ⟨⟨⟨_, bL, hr3, trivial⟩, bN⟩, hB0⟩
    (fun x a' W => ∃ Bx v0, Boxed W (w.heap.size + 1) 25 v0 ∧ v0.ownBlock ≠ some Bx ∧ w.heap.size + 1 + 1 < Bx ∧ Whole W Bx 53 (chc x.1).toArray ∧ a' = { tmps := #[.slice a m c, undef, .slice none 0 0, .pointer (some ⟨w.heap.size + 1, 0, none⟩), undef, .pointer (some ⟨Bx, 0, none⟩), .slice a m c, .int .i64 (m : Int), .slice (some ⟨w.heap.size, 0, none⟩) 0 m, .slice a m c, .func (.func 55) #[] #[.pointer (some ⟨w.heap.size + 1 + 1, 0, none⟩)], .int .i64 (x.2 : Int), .agg (chc x.1).toArray, undef, undef, undef, undef, undef, undef, undef, undef, undef, undef, undef], defers := [] })
    (fun x a' _ A B row ⟨Bx, v0, q1, q2, q3, q4, q5⟩ hg hr => ⟨Bx, v0, whole_abides q1 hg (fun r e => (hr r e).2), q2, q3, whole_abides q4 hg (fun r e => (hr r e).2), q5⟩) ?assign ?body ?done ?stop
  case assign =>
    rintro l pre x W K ⟨⟨⟨v, hv, hrow, _⟩, hN⟩, hB⟩ hK
    have hv2 : Boxed (W.alloc (.cells (chc x.1).toArray 53)) (w.heap.size + 1) 25 v := hv.alloc _
    have hlt := hN.lt
    have hno : v.ownBlock ≠ some W.heap.size := fun e => by have := (hrow.lt _ e).2; omega
    have hKK := hK { tmps := #[.slice a m c, undef, .slice none 0 0, .pointer (some ⟨w.heap.size + 1, 0, none⟩), undef, .pointer (some ⟨W.heap.size, 0, none⟩), .slice a m c, .int .i64 (m : Int), .slice (some ⟨w.heap.size, 0, none⟩) 0 m, .slice a m c, .func (.func 55) #[] #[.pointer (some ⟨w.heap.size + 1 + 1, 0, none⟩)], .int .i64 (x.2 : Int), .agg (chc x.1).toArray, undef, undef, undef, undef, undef, undef, undef, undef, undef, undef, undef], defers := [] } (W.alloc (.cells (chc x.1).toArray 53)) ((KeepsOthers.alloc _ _).from _) ⟨(Below.refl _ W).alloc hB.size _, Below.heap_alloc _ _ _ hlt⟩ ⟨⟨⟨v, hv2, hrow.alloc _, trivial⟩, hN.kept (Below.heap_alloc _ _ _ hlt)⟩, hB.alloc hB.size _⟩ ⟨W.heap.size, v, hv2, hno, by omega, heap_alloc_new _ _, rfl⟩
    clear hK
    unfold chc at hKK ⊢
    gi_wp2
    exact hKK
  case body =>
    rintro l1 pre x a' W hl ⟨r, hr⟩ ⟨⟨⟨v, hv, hrow, _⟩, hN⟩, hB⟩ ⟨Bx, v0, hv0, hno, hBx, bX, rfl⟩ hlt
    obtain rfl : v = v0 := by
      have h1 : W.heap[w.heap.size + 1]? = some (.cells #[v] 25 (0, 0)) := hv
      have h2 : W.heap[w.heap.size + 1]? = some (.cells #[v0] 25 (0, 0)) := hv0
      rw [h1] at h2
      simpa using h2
    clear hv0
    cases hd : x.1.del with
    | true =>
      have d1 : W.cell? ⟨Bx, 1, none⟩ = some (.bool true) := by rw [bX.cell]; show some (Value.bool x.1.del) = _; rw [hd]
      have d1f : W.frozen? ⟨Bx, 1, none⟩ = false := bX.free 1
      obtain ⟨W1, hW1⟩ : ∃ W1, W1 = W.setCell ⟨Bx, 1, none⟩ (.bool false) := ⟨_, rfl⟩
      have hK1 : KeepsOthers W W1 := by rw [hW1]; exact KeepsOthers.setCell _ _ _
      have hne : ∀ k, k ≠ Bx → W1.heap[k]? = W.heap[k]? := fun k hk => by rw [hW1]; exact Below.heap_setCell _ _ _ k hk
      have hv1 : Boxed W1 (w.heap.size + 1) 25 v := (hne _ (by omega)).trans hv
      have hrow1 := owns_keptN hrow (w' := W1) (fun k hk => hne k (fun e => hno (by rw [hk, e])))
      have hN1 : Whole W1 (w.heap.size + 1 + 1) 25 #[.slice a m c] := hN.kept (hne _ (by omega))
      have hB1 : Below w.heap.size w W1 := by rw [hW1]; exact hB.setCell (p := ⟨Bx, 1, none⟩) (by show w.heap.size ≤ Bx; omega) _
      have hBW : Below w.heap.size W W1 := by rw [hW1]; exact (Below.refl w.heap.size W).setCell (p := ⟨Bx, 1, none⟩) (by show w.heap.size ≤ Bx; omega) _
      have hX1 : Whole W1 Bx 53 #[.int .i64 x.1.rev, .bool false, .string x.1.t.o, .string x.1.t.r, .string x.1.t.u] := by
        rw [hW1]
        exact bX.store 1 _
      have q0 : W1.cell? ⟨Bx, 0, none⟩ = some (.int .i64 x.1.rev) := hX1.cell 0
      have q1 : W1.cell? ⟨Bx, 1, none⟩ = some (.bool false) := hX1.cell 1
      have q2 : W1.cell? ⟨Bx, 2, none⟩ = some (.string x.1.t.o) := hX1.cell 2
      have q3 : W1.cell? ⟨Bx, 3, none⟩ = some (.string x.1.t.r) := hX1.cell 3
      have q4 : W1.cell? ⟨Bx, 4, none⟩ = some (.string x.1.t.u) := hX1.cell 4
      have hc1 := hv1.cell
      have hsz1 : W1.heap.size = W.heap.size := by rw [hW1]; simp [World.setCell]
      have hnr : some (w.heap.size + 1 + 1) ≠ v.ownBlock := Boxed.not_row (t := 25) hN1 (by decide) hrow1
      rw [hW1] at hc1 q0 q1 q2 q3 q4
      gi_wp2_with (gi_at_builtin; rw [← hW1]; refine wpListIn_append_own _ rfl _ _ 25 rfl w.heap.size 53 i0 (.agg #[.int .i64 0, .bool false, .string ⟨#[]⟩, .string ⟨#[]⟩, .string ⟨#[]⟩]) 5 64 Try.underlying25 hi hz0 hz1 hz2 rfl (by decide) _ _ _ rfl (hrow1.alloc _) ⟨W.heap.size, 0, none⟩ 1 1 [.int .i64 x.1.rev, .bool false, .string x.1.t.o, .string x.1.t.r, .string x.1.t.u] rfl rfl (by rw [← hsz1]; exact fiveE_new W1 _ _ _ _ _ 53) (by simp [Value.oneCell']) (by unfold maxLen; omega) (by omega) (by have := hB1.size; simp; omega) ?_; intro v' w1 hown' hgrow _; obtain ⟨g', cap', rfl⟩ := ownsRow_succ hown'; obtain ⟨hv2, hv3, hr2, hk2, hb2⟩ := hv1.appended (by decide) hrow1 hB1.size (by omega) hown' hgrow; have hcc1 := hv2.cell; have hff1 := hv2.frozen)
      have hN3 : Whole (w1.setCell ⟨w.heap.size + 1, 0, none⟩ (.slice (some ⟨g', 0, none⟩) (pre.length + 1) cap')) (w.heap.size + 1 + 1) 25 #[.slice a m c] :=
        hN1.kept ((Below.heap_setCell _ _ _ _ (by show w.heap.size + 1 + 1 ≠ w.heap.size + 1; omega)).trans ((hgrow.block _ (by have := hN1.lt; simp; omega) hnr).trans (Below.heap_alloc _ _ _ hN1.lt)))
      refine ⟨(hK1.trans hk2).from _, ⟨hBW.trans hb2, (show _ = _ from ?_)⟩, ⟨⟨_, hv3, ?_, trivial⟩, hN3⟩, hB1.trans hb2⟩
      · unfold Whole at hN3 hN
        rw [hN3, hN]
      · have e : (pre ++ [x]).map (fun x : Ch × Nat => flipC x.1) = pre.map (fun x : Ch × Nat => flipC x.1) ++ [⟨x.1.rev, false, x.1.t⟩] := by rw [List.map_append]; simp [flipC, hd]
        rw [e, List.flatMap_append, List.length_append]
        simpa [chc] using hr2
    | false =>
      have d1 : W.cell? ⟨Bx, 1, none⟩ = some (.bool false) := by rw [bX.cell]; show some (Value.bool x.1.del) = _; rw [hd]
      have d1f : W.frozen? ⟨Bx, 1, none⟩ = false := bX.free 1
      obtain ⟨W1, hW1⟩ : ∃ W1, W1 = W.setCell ⟨Bx, 1, none⟩ (.bool true) := ⟨_, rfl⟩
      have hK1 : KeepsOthers W W1 := by rw [hW1]; exact KeepsOthers.setCell _ _ _
      have hne : ∀ k, k ≠ Bx → W1.heap[k]? = W.heap[k]? := fun k hk => by rw [hW1]; exact Below.heap_setCell _ _ _ k hk
      have hv1 : Boxed W1 (w.heap.size + 1) 25 v := (hne _ (by omega)).trans hv
      have hrow1 := owns_keptN hrow (w' := W1) (fun k hk => hne k (fun e => hno (by rw [hk, e])))
      have hN1 : Whole W1 (w.heap.size + 1 + 1) 25 #[.slice a m c] := hN.kept (hne _ (by omega))
      have hB1 : Below w.heap.size w W1 := by rw [hW1]; exact hB.setCell (p := ⟨Bx, 1, none⟩) (by show w.heap.size ≤ Bx; omega) _
      have hBW : Below w.heap.size W W1 := by rw [hW1]; exact (Below.refl w.heap.size W).setCell (p := ⟨Bx, 1, none⟩) (by show w.heap.size ≤ Bx; omega) _
      have hX1 : Whole W1 Bx 53 #[.int .i64 x.1.rev, .bool true, .string x.1.t.o, .string x.1.t.r, .string x.1.t.u] := by
        rw [hW1]
        exact bX.store 1 _
      have q0 : W1.cell? ⟨Bx, 0, none⟩ = some (.int .i64 x.1.rev) := hX1.cell 0
      have q1 : W1.cell? ⟨Bx, 1, none⟩ = some (.bool true) := hX1.cell 1
      have q2 : W1.cell? ⟨Bx, 2, none⟩ = some (.string x.1.t.o) := hX1.cell 2
      have q3 : W1.cell? ⟨Bx, 3, none⟩ = some (.string x.1.t.r) := hX1.cell 3
      have q4 : W1.cell? ⟨Bx, 4, none⟩ = some (.string x.1.t.u) := hX1.cell 4
      have hc1 := hv1.cell
      have hsz1 : W1.heap.size = W.heap.size := by rw [hW1]; simp [World.setCell]
      have hnr : some (w.heap.size + 1 + 1) ≠ v.ownBlock := Boxed.not_row (t := 25) hN1 (by decide) hrow1
      rw [hW1] at hc1 q0 q1 q2 q3 q4
      gi_wp2_with (gi_at_builtin; rw [← hW1]; refine wpListIn_append_own _ rfl _ _ 25 rfl w.heap.size 53 i0 (.agg #[.int .i64 0, .bool false, .string ⟨#[]⟩, .string ⟨#[]⟩, .string ⟨#[]⟩]) 5 64 Try.underlying25 hi hz0 hz1 hz2 rfl (by decide) _ _ _ rfl (hrow1.alloc _) ⟨W.heap.size, 0, none⟩ 1 1 [.int .i64 x.1.rev, .bool true, .string x.1.t.o, .string x.1.t.r, .string x.1.t.u] rfl rfl (by rw [← hsz1]; exact fiveE_new W1 _ _ _ _ _ 53) (by simp [Value.oneCell']) (by unfold maxLen; omega) (by omega) (by have := hB1.size; simp; omega) ?_; intro v' w1 hown' hgrow _; obtain ⟨g', cap', rfl⟩ := ownsRow_succ hown'; obtain ⟨hv2, hv3, hr2, hk2, hb2⟩ := hv1.appended (by decide) hrow1 hB1.size (by omega) hown' hgrow; have hcc1 := hv2.cell; have hff1 := hv2.frozen)
      have hN3 : Whole (w1.setCell ⟨w.heap.size + 1, 0, none⟩ (.slice (some ⟨g', 0, none⟩) (pre.length + 1) cap')) (w.heap.size + 1 + 1) 25 #[.slice a m c] :=
        hN1.kept ((Below.heap_setCell _ _ _ _ (by show w.heap.size + 1 + 1 ≠ w.heap.size + 1; omega)).trans ((hgrow.block _ (by have := hN1.lt; simp; omega) hnr).trans (Below.heap_alloc _ _ _ hN1.lt)))
      refine ⟨(hK1.trans hk2).from _, ⟨hBW.trans hb2, (show _ = _ from ?_)⟩, ⟨⟨_, hv3, ?_, trivial⟩, hN3⟩, hB1.trans hb2⟩
      · unfold Whole at hN3 hN
        rw [hN3, hN]
      · have e : (pre ++ [x]).map (fun x : Ch × Nat => flipC x.1) = pre.map (fun x : Ch × Nat => flipC x.1) ++ [⟨x.1.rev, true, x.1.t⟩] := by rw [List.map_append]; simp [flipC, hd]
        rw [e, List.flatMap_append, List.length_append]
        simpa [chc] using hr2
  case done =>
    rintro D ys W hD rfl ⟨⟨⟨v, hv, hrow, _⟩, hN⟩, hB⟩ hK
    have hc := hv.cell
    rw [Zr_back] at hrow
    gi_wp2
    refine ⟨by simp, .inl ⟨_, _, rfl, run_takeDeferred hK, ?_⟩⟩
    have hlen : (Zr l 0).length = (backL l).length := by unfold Zr backL; simp
    rw [hlen] at hrow
    exact ⟨_, results_tmp rfl _ _ _, v, rfl, hB.trans (belowK_b (w := w) (Nat.le_refl _) W D _ _ (by omega) hK rfl rfl), ownsRow_putObj hrow _ hK rfl⟩
  case stop =>
    rintro D c pre W _ _ h _
    exact h.elim
theorem back_any {w : World} {a : Option Addr} {m c : Nat} {l : List Ch} (hL : Lies w 53 5 0 a m c (l.flatMap chc)) (hlm : l.length = m) (hm : m ≤ 1099511627776) :
    Calls Try.prog 24 #[.slice a m c] w fun e W' => ∃ v, e = .returned v ∧ OutE 53 5 chc w W' v (backL l) :=
  callsIn_wide.1 (back_in Fence.wide 6 trivial trivial trivial rfl (by omega) hL hlm hm)
end Go.Proofs.Yteimgebfbnmdcaa
