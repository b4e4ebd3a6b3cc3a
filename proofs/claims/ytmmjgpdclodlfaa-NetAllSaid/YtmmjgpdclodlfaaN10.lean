/- The network: Deliver. -/
import Derived.Test.YtmmjgpdclodlfaaN9
import Derived.Laws.ResultCell
import Derived.Laws.Tables
namespace Go.Proofs.Ytmmjgpdclodlfaa
open Go.RowKit

theorem res_two {P : Program} {fn : Func} {p u : Tmp} {ty : TypeId} (h : fn.results = #[.cell p ty, .tmp u]) (tmps : Array Value) (w : World) (g : Nat) (t : TypeId) (cs : Array Value) (d : TypeDesc) (v : Value)
    (hp : tmps.getD p undef = .pointer (some ⟨g, 0, none⟩)) (hq : tmps.getD u undef = v) (hg : Whole w g t cs)
    (hu : P.underlying ty = some d) (hd : (match d with | .struct _ | .array _ _ => true | _ => false) = true) (hi : (P.info? ty).map (·.size) = some cs.size) :
    (results fn tmps).run P w = .ok (.tuple #[.agg cs, v]) w := by
  rw [results_cell_tmp h, hp, hq]
  simp [asAddr, run_loadVar_row w g t ty cs (0, 0) d hg hu hd hi, Result.andThen]
section
variable {B g : Nat} {nodes : Int} {v : Value} {ps : List Pk}
theorem NAt.far {W : World} {k : Nat} {cs : Array Value} (h : NAt W B g nodes v ps) (hk : Whole W k 32 cs) (hv : v.ownBlock ≠ some k) (j : Nat) (u : Value) : NAt (W.setCell ⟨k, j, none⟩ u) B g nodes v ps := by
  refine ⟨h.net.kept (Below.heap_setCell _ _ _ _ (whole_ne h.net hk (by decide))), h.geg, h.row.keep fun q hq => Below.heap_setCell _ _ _ _ (by rintro rfl; exact hv hq), fun p hp => (h.pks p hp).keep fun q hq => ?_, h.apart⟩
  obtain ⟨_, cur, hW⟩ := (h.pks p hp).block hq
  exact Below.heap_setCell _ _ _ _ (whole_ne hW hk (by decide))
theorem PkAt.far {W : World} {k : Nat} {cs : Array Value} {p : Pk} (h : PkAt W B p) (hk : Whole W k 32 cs) (j : Nat) (u : Value) : PkAt (W.setCell ⟨k, j, none⟩ u) B p :=
  h.keep fun q hq => by
    obtain ⟨_, cur, hW⟩ := h.block hq
    exact Below.heap_setCell _ _ _ _ (whole_ne hW hk (by decide))
theorem chg_new {w W : World} {P : Nat → Prop} {k : Nat} (h : Chg w W P) (hk : w.heap.size ≤ k) (j : Nat) (u : Value) : Chg w (W.setCell ⟨k, j, none⟩ u) P :=
  ⟨h.os, h.tape, h.output, by simpa [World.setCell] using h.size, fun q hq hn => (Below.heap_setCell W ⟨k, j, none⟩ u q (by show q ≠ k; omega)).trans (h.block q hq hn)⟩
def zeroPk : Pk := ⟨0, 0, .slice none 0 0, []⟩
theorem NAt.rowAt {w : World} {i : Nat} {p : Pk} (h : NAt w B g nodes v ps) (hi : ps[i]? = some p) : ∃ q c, v = .slice (some ⟨q, 0, none⟩) ps.length c ∧ B ≤ q ∧ q ≠ g ∧ i < ps.length ∧ RowAt w q ps.length c ps := by
  have hlt : i < ps.length := by
    rcases Nat.lt_or_ge i ps.length with hl | hl
    · exact hl
    · rw [List.getElem?_eq_none hl] at hi; cases hi
  obtain ⟨a, c, rfl, _⟩ := h.row.lies
  obtain ⟨q, rfl, hq, hR⟩ := h.row.rowAt rfl (by omega)
  refine ⟨q, c, rfl, hq, ?_, hlt, hR⟩
  obtain ⟨cur, hW, _⟩ := hR.ex
  exact whole_ne hW h.net (by decide)
theorem pcs_take_set (L : List Pk) (i : Nat) (p : Pk) : (L.set i p).take i = L.take i := by rw [List.take_set_of_le (Nat.le_refl _)]
theorem pcs_drop_set (L : List Pk) (i : Nat) (p : Pk) : (L.set i p).drop (i + 1) = L.drop (i + 1) := by rw [List.drop_set_of_lt (by omega)]
set_option maxRecDepth 100000 in
set_option maxHeartbeats 2000000 in
theorem deliver_none (x : Int) (w : World) (h : NAt w B g nodes v ps) (hi : x < 0 ∨ (ps.length : Int) ≤ x) :
    Calls Try.prog 10 #[.pointer (some ⟨g, 0, none⟩), .int .i64 x] w fun e w' => e = .returned (.tuple #[.agg #[.int .i64 0, .int .i64 0, .slice none 0 0], .int .i64 4]) ∧ Below w.heap.size w w' := by
  obtain ⟨w0, hw0⟩ : ∃ w0, w0 = w.alloc (.cells #[.int .i64 0, .int .i64 0, .slice none 0 0] 32) := ⟨_, rfl⟩
  have hb0 : Below w.heap.size w w0 := by rw [hw0]; exact below_alloc _ _
  have hx0 : Whole w0 w.heap.size 32 #[.int .i64 0, .int .i64 0, .slice none 0 0] := by rw [hw0]; exact heap_alloc_new _ _
  have HF := Lib.hid ((h.below hb0).noflies hi)
  have HX := Lib.hid hx0
  have HB := Lib.hid hb0
  obtain ⟨⟨a0, a1, a2⟩, b0, b1, b2⟩ := three_of hx0
  clear h hi hb0 hx0
  go_enter Try.func10, Try.ntmps10
  go_wp2_with fail
  rw [← hw0]
  clear hw0
  refine HF.out.mono ?_
  rintro e w' ⟨rfl, hq⟩
  obtain rfl : w0 = w' := hq.symm
  go_wp2
  have hW3 := ((HX.out.store 0 (.int .i64 0)).store 1 (.int .i64 0)).store 2 (.slice none 0 0)
  refine bodyPost_ret (v := .tuple #[.agg #[.int .i64 0, .int .i64 0, .slice none 0 0], .int .i64 4]) (res_two Try.results10 _ _ w.heap.size 32 _ _ _ rfl rfl hW3 Try.underlying32 rfl Try.infoPs) rfl ⟨rfl, ?_⟩
  exact ((HB.out.setCell (p := ⟨w.heap.size, 0, none⟩) (Nat.le_refl _) _).setCell (p := ⟨w.heap.size, 1, none⟩) (Nat.le_refl _) _).setCell (p := ⟨w.heap.size, 2, none⟩) (Nat.le_refl _) _
/-- What a Deliver that finds its packet leaves. -/
def DeliverOk (w : World) (B g : Nat) (nodes : Int) (v : Value) (ps : List Pk) (i : Nat) (p : Pk) (e : Ending) (w' : World) : Prop :=
  e = .returned (.tuple #[.agg #[.int .i64 p.fr, .int .i64 p.dst, p.v], .int .i64 0]) ∧ ∃ v', NAt w' B g nodes v' (ps.eraseIdx i) ∧ PkAt w' B p ∧ Chg w w' (NB g v) ∧ (∀ q, v'.ownBlock = some q → v.ownBlock = some q ∨ w.heap.size ≤ q)
set_option maxRecDepth 100000 in
set_option maxHeartbeats 8000000 in
theorem deliver_ok {i : Nat} {p : Pk} (w : World) (h : NAt w B g nodes v ps) (hi : ps[i]? = some p) (hn : ps.length ≤ 4096) (hB : B ≤ w.heap.size) :
    Calls Try.prog 10 #[.pointer (some ⟨g, 0, none⟩), .int .i64 (i : Int)] w fun e w' => DeliverOk w B g nodes v ps i p e w' := by
  obtain ⟨i0, hi0, hz0, hz1, hz2⟩ := info_of Try.infoP
  obtain ⟨q, c, rfl, hBq, hqg, hin, hR⟩ := h.rowAt hi
  have hPk := h.pks p (List.mem_of_getElem? hi)
  obtain ⟨fr, dst, pv, xs⟩ := p
  obtain ⟨pa, pk, hpv, _⟩ := hPk.in_
  simp only at hpv
  subst hpv
  obtain ⟨w0, hw0⟩ : ∃ w0, w0 = w.alloc (.cells #[.int .i64 0, .int .i64 0, .slice none 0 0] 32) := ⟨_, rfl⟩
  have hb0 : Below w.heap.size w w0 := by rw [hw0]; exact below_alloc _ _
  have hs0 : w0.heap.size = w.heap.size + 1 := by rw [hw0]; simp
  have hx0 : Whole w0 w.heap.size 32 #[.int .i64 0, .int .i64 0, .slice none 0 0] := by rw [hw0]; exact heap_alloc_new _ _
  have hql := hR.lt
  have hgl := h.net.lt
  have hroom := hR.room
  have hR0 := hR.keep (hb0.block _ hR.lt)
  obtain ⟨w1, hw1⟩ : ∃ w1, w1 = ((w0.setCell ⟨q, i * 3, none⟩ (.int .i64 0)).setCell ⟨q, i * 3 + 1, none⟩ (.int .i64 0)).setCell ⟨q, i * 3 + 2, none⟩ (.slice none 0 0) := ⟨_, rfl⟩
  have hR1 : RowAt w1 q ps.length c (ps.set i zeroPk) := by rw [hw1]; exact hR0.store hin zeroPk
  have hs1 : w1.heap.size = w.heap.size + 1 := by rw [hw1]; simp [World.setCell, hs0]
  have ho1 : ∀ k, k ≠ q → w1.heap[k]? = w0.heap[k]? := fun k hk => by
    rw [hw1, Below.heap_setCell _ _ _ _ (by simpa using hk), Below.heap_setCell _ _ _ _ (by simpa using hk), Below.heap_setCell _ _ _ _ (by simpa using hk)]
  have hc1 : Chg w w1 (fun k => k = q) := by
    rw [hw1]
    exact (((Chg.ofBelow (fun k => k = q) hb0).set (b := q) rfl _ _).set (b := q) rfl _ _).set (b := q) rfl _ _
  obtain ⟨w2, hw2⟩ : ∃ w2, w2 = w1.alloc (.cells #[.int .i64 fr, .int .i64 dst, .slice pa xs.length pk] 32) := ⟨_, rfl⟩
  have hb2 : Below w1.heap.size w1 w2 := by rw [hw2]; exact below_alloc _ _
  have hR2 := hR1.keep (hb2.block _ hR1.lt)
  have hs2 : w2.heap.size = w.heap.size + 2 := by rw [hw2]; simp [hs1]
  have hoth : ∀ k, k ≠ q → k < w0.heap.size → w2.heap[k]? = w0.heap[k]? := fun k hk hl => (hb2.block k (by omega)).trans (ho1 k hk)
  have hg2 : Whole w2 g 58 #[.int .i64 nodes, .slice (some ⟨q, 0, none⟩) ps.length c] := (h.net.kept (hb0.block _ hgl)).kept (hoth g (fun e => hqg e.symm) (by omega))
  have hc2 : Chg w w2 (fun k => k = q) := hc1.trans (Chg.ofBelow _ hb2)
  have hx02 := hx0.kept (hoth _ (by omega) (by omega))
  have hx12 : Whole w2 (w.heap.size + 1) 32 #[.int .i64 fr, .int .i64 dst, .slice pa xs.length pk] := by rw [hw2, ← hs1]; exact heap_alloc_new _ _
  obtain ⟨⟨d0, d1, d2⟩, e0, e1, e2⟩ := hR0.cells hi
  simp only at d0 d1 d2
  obtain ⟨_, c1, _, f1⟩ := (h.below hb0).cells
  have k1 : w2.cell? ⟨g, 1, none⟩ = some (.slice (some ⟨q, 0, none⟩) ps.length c) := by rw [hg2.cell]; rfl
  have l1 := hg2.free 1
  have hhm : ∀ w : World, (Instr.slice 45 (.slice (some ⟨q, 0, none⟩) ps.length c) none (some (.int .i64 (i : Int))) (some (.int .i64 (i : Int)))).run Try.prog w = .ok (.slice (some ⟨q, 0, none⟩) i i) w := fun w => by
    rw [run_slice_hm w _ _ _ _ Try.underlying45 .i64 .i64 (i : Int) (i : Int) (by omega) (by omega) (by omega), show Try.prog.elem 45 = 32 by kernel_rfl, show (sizeOf 32).run Try.prog w = .ok 3 w by kernel_rfl]
    simp [Result.andThen, sliced, add_plain]
  have hst : ∀ w : World, (Instr.slice 45 (.slice (some ⟨q, 0, none⟩) ps.length c) (some (.int .i64 ((i : Int) + 1))) none none).run Try.prog w = .ok (.slice (tailK 3 (some ⟨q, 0, none⟩) c (i + 1)) (ps.length - (i + 1)) (c - (i + 1))) w := fun w => by
    have := slice_tailK (k := 3) Try.underlying45 rfl (some ⟨q, 0, none⟩) ps.length c (i + 1) (by omega) w (by kernel_rfl)
    exact this
  obtain ⟨ad, had⟩ : ∃ ad, tailK 3 (some ⟨q, 0, none⟩) c (i + 1) = some ad := by
    unfold tailK
    split
    · exact ⟨_, rfl⟩
    · exact ⟨_, rfl⟩
  rw [had] at hst
  obtain ⟨a3, c3, hv3, hL3⟩ := (hR2.frow (B := B) hBq (Nat.le_refl _)).lies
  injection hv3 with q1 q2 q3
  subst q1 q3
  have hLt := hL3.tail (m := i + 1) (by omega)
  rw [had, List.take_of_length_le (by rw [hR2.len]; exact Nat.le_refl _), pcs_drop, pcs_drop_set] at hLt
  have hFh : FRow w2 B (.slice (some ⟨q, 0, none⟩) i i) i (pcs (ps.take i)) := by
    obtain ⟨cur, hW, hs, ht⟩ := hR2.ex
    refine ⟨by rw [pcs_len, List.length_take, Nat.min_eq_left (by omega)], .inr ⟨q, i, cur, rfl, hBq, hW, Nat.le_refl _, by have := hR.big; omega, by omega, ?_⟩⟩
    rw [← pcs_take_set ps i zeroPk, ← pcs_take, ← ht, List.take_take, Nat.min_eq_left (Nat.mul_le_mul_right 3 (by omega))]
  have hone : ∀ u ∈ pcs (ps.drop (i + 1)), u.oneCell' = true := by
    intro u hu
    obtain ⟨p, hp, hpu⟩ := List.mem_flatMap.1 hu
    exact (h.pks p (List.mem_of_mem_drop hp)).one u hpu
  have happ : pcs (ps.take i) ++ pcs (ps.drop (i + 1)) = pcs (ps.eraseIdx i) := by rw [← pcs_append, ← List.eraseIdx_eq_take_drop_succ]
  have hlen : (ps.eraseIdx i).length = ps.length - 1 := by rw [List.length_eraseIdx, if_pos hin]
  have HF := Lib.hid ((h.below hb0).flies hin)
  have HH := Lib.hid h
  have HI := Lib.hid hi
  have HLt := Lib.hid hLt
  have HFh := Lib.hid hFh
  have HONE := Lib.hid hone
  have HAPP := Lib.hid happ
  have HLEN := Lib.hid hlen
  have HX0 := Lib.hid hx02
  have HX1 := Lib.hid hx12
  have HG2 := Lib.hid hg2
  have HC2 := Lib.hid hc2
  have HS2 := Lib.hid hs2
  have HW1 := Lib.hid hw1
  have HW2 := Lib.hid hw2
  have hql0 : q < w0.heap.size := by omega
  have hgl0 : g < w0.heap.size := by omega
  clear h hPk hLt hFh hone happ hlen hx02 hx12 hg2 hc2 hw1 hw2 hx0 hR hR0 hR1 hR2 hb0 hb2 ho1 hc1 hoth hL3 hi
  go_enter Try.func10, Try.ntmps10
  go_wp2_with fail
  rw [← hw0]
  clear hw0
  refine HF.out.mono ?_
  rintro e w' ⟨rfl, hq⟩
  obtain rfl : w0 = w' := hq.symm
  go_wp2_with fail
  have hw1 := HW1.out
  have hw2 := HW2.out
  rw [← hw1, ← hw2]
  clear hw1 hw2 HW1 HW2 d0 d1 d2 e0 e1 e2 c1 f1 hs1
  have hwr : IntKind.i64.wrap ((i : Int) + 1) = (i : Int) + 1 := IntWalk.i64_in _ (by omega)
  go_region_law (first
    | (refine step_append_row _ rfl (.tmp 33) (.tmp 40) 45 rfl B i0 (.agg #[.int .i64 0, .int .i64 0, .slice none 0 0]) Try.underlying45 hi0 hz0 hz1 hz2 rfl (.slice (some ⟨q, 0, none⟩) i i) i (pcs (ps.take i)) rfl (HFh.out.below (by first | exact Below.refl _ _ | exact ⟨rfl, rfl, rfl, Nat.le_refl _, fun _ _ => rfl⟩)) ad (ps.length - (i + 1)) (c - (i + 1)) (pcs (ps.drop (i + 1))) rfl (HLt.out.len) ((HLt.out.below (by first | exact Below.refl _ _ | exact ⟨rfl, rfl, rfl, Nat.le_refl _, fun _ _ => rfl⟩)).news ad rfl) HONE.out (by unfold maxLen; omega) (by omega) (by first | (simp; omega) | omega) ?_
       intro v5 w5 hown5 hgrow5 hv5
       rw [HAPP.out, show i + (ps.length - (i + 1)) = (ps.eraseIdx i).length by rw [HLEN.out]; omega] at hown5
       have hc5 : Chg w w5 (fun k => (Value.slice (some ⟨q, 0, none⟩) ps.length c).ownBlock = some k) := (HC2.out.mono (fun k _ hk => by rw [hk]; rfl)).trans (Chg.ofGrown (w := w2) ⟨hgrow5.os, hgrow5.tape, hgrow5.output, hgrow5.size, hgrow5.block⟩ (fun k hk => hk))
       have hv5' : ∀ k, v5.ownBlock = some k → (Value.slice (some ⟨q, 0, none⟩) ps.length c).ownBlock = some k ∨ w.heap.size + 2 ≤ k := fun k hk => (hv5 k hk).imp id (fun h => by first | (simp at h; omega) | (have h : w2.heap.size ≤ k := h; omega))
       have HN5 := Lib.hid (HH.out.reset hc5 hown5 (fun k hk => (hv5' k hk).imp_right (fun h => by omega)) (List.eraseIdx_sublist ..))
       have HV5 := Lib.hid hv5'
       have ho5 : ∀ k, k ≠ q → k < w2.heap.size → w5.heap[k]? = w2.heap[k]? := fun k hk hl => hgrow5.block k hl (by intro e; injection e with e; exact hk e)
       have HC5 := Lib.hid hc5
       obtain ⟨a5, c5, rfl, _⟩ := hown5.lies
       have hg5 := HG2.out.kept (ho5 g (fun e => hqg e.symm) (by omega))
       have m1 : w5.cell? ⟨g, 1, none⟩ = some (.slice (some ⟨q, 0, none⟩) ps.length c) := (by rw [hg5.cell]; rfl)
       have n1 := hg5.free 1
       have hy0 := HX0.out.kept (ho5 w.heap.size (by omega) (by omega))
       have hy1 := HX1.out.kept (ho5 (w.heap.size + 1) (by omega) (by omega))
       obtain ⟨⟨r0, r1, r2⟩, t0, t1, t2⟩ := three_of hy0
       obtain ⟨⟨u0, u1, u2⟩, x0, x1, x2⟩ := three_of hy1
       have HY0 := Lib.hid hy0
       clear hown5 hgrow5 hv5 hc5 hv5' ho5 hg5 hy0 hy1))
  all_goals
    go_wp2
    obtain ⟨hN, hC⟩ := HN5.out
    have hk0 : g ≠ w.heap.size := by omega
    have hz0 : Whole (w5.setCell ⟨g, 1, none⟩ (.slice a5 (ps.eraseIdx i).length c5)) w.heap.size 32 _ := HY0.out.kept (Below.heap_setCell _ _ _ _ (by simpa using hk0.symm))
    have hne5 : (Value.slice a5 (ps.eraseIdx i).length c5).ownBlock ≠ some w.heap.size := by
      intro e
      rcases HV5.out _ e with h1 | h1
      · have h2 : q = w.heap.size := by simpa [Value.ownBlock] using h1
        omega
      · omega
    have hz1 := hz0.store 0 (.int .i64 fr)
    have hz2 := hz1.store 1 (.int .i64 dst)
    have hz3 := hz2.store 2 (.slice pa xs.length pk)
    have hp := HH.out.pksChg hC _ (List.mem_of_getElem? HI.out)
    refine bodyPost_ret (v := .tuple #[.agg #[.int .i64 fr, .int .i64 dst, .slice pa xs.length pk], .int .i64 0]) (res_two Try.results10 _ _ w.heap.size 32 _ _ _ rfl rfl hz3 Try.underlying32 rfl Try.infoPs) rfl ⟨rfl, _, ((hN.far hz0 hne5 _ _).far hz1 hne5 _ _).far hz2 hne5 _ _, ((hp.far hz0 _ _).far hz1 _ _).far hz2 _ _, chg_new (chg_new (chg_new hC (Nat.le_refl _) _ _) (Nat.le_refl _) _ _) (Nat.le_refl _) _ _, fun k hk => (HV5.out k hk).imp_right (fun h => by omega)⟩
end
end Go.Proofs.Ytmmjgpdclodlfaa
