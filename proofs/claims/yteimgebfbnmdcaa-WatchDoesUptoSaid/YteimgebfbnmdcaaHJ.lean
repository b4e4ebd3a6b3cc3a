/- The tuples of a set in order: slices.AppendSeq, Collect, SortedFunc; the set's sorted. -/
import Derived.Test.YteimgebfbnmdcaaHI
namespace Go.Proofs.Yteimgebfbnmdcaa
open Go.RowKit Go.Shelf
open Go.Maps (Keyed)
attribute [local go_sem] Oper.semAt_some

theorem keys_stopsT (F : Fence) (n : Nat) (h1 : F.fn 61) (hro : F.round = none) (hn : 1 ≤ n) (Bm b : Nat) (S : List Tp) (w : World) (hBm : Bm < w.heap.size) (hm : w.cell? ⟨Bm, 0, none⟩ = some (.map (some b))) (hS : SetAt w b S) :
    SeqStopsK F n Try.prog 61 #[.pointer (some ⟨Bm, 0, none⟩)] (fun x : Tp => #[tpV x]) KeepsWalks (fun ss => ss.Perm S) (fun _ => True) S.length w := fun l J Jx W hW hJ _ hY h0 =>
  (keys1_in F n h1 hro hn l Bm b S J Jx hY W hJ ((hW.cell (p := ⟨Bm, 0, none⟩) hBm).trans hm) (hS.below hW) h0).mono fun _ _ ⟨h1, h2⟩ => ⟨h1, h2.imp_right fun ⟨pre, h⟩ => ⟨pre, trivial, h⟩⟩
theorem whole_abides {W W' : World} {row : Option Nat} {g : Nat} {t : TypeId} {cs : Array Value} (h : Whole W g t cs) (hg : W.grownBy W' row) (hr : ∀ r, row = some r → ∃ o : Obj, W.heap[r]? = some o ∧ o.isCells = false) : Whole W' g t cs := by
  refine h.kept (hg.block g h.lt (fun e => ?_))
  obtain ⟨o, ho, hc⟩ := hr g e.symm
  unfold Whole at h
  rw [h] at ho
  cases ho
  cases hc
set_option maxRecDepth 100000 in
set_option maxHeartbeats 8000000 in
theorem appendSeq_in (F : Fence) (n : Nat) (h1 : F.fn 61) (h2 : F.fn 76) (hro : F.round = none) (hn : 3 ≤ n) (Bm b : Nat) (S : List Tp) (w : World) (hBm : Bm < w.heap.size) (hm : w.cell? ⟨Bm, 0, none⟩ = some (.map (some b))) (hS : SetAt w b S) (hlen : S.length ≤ 1099511627776) :
    CallsIn F n Try.prog 76 #[.slice none 0 0, .func (.func 61) #[] #[.pointer (some ⟨Bm, 0, none⟩)]] w fun e W' => ∃ v, ∃ ss : List Tp, e = .returned v ∧ ss.Perm S ∧ W'.ownsRow w.heap.size 47 3 v ss.length (ss.flatMap tc) ∧ Below w.heap.size w W' := by
  have h11 : 1 ≤ n := by omega
  obtain ⟨i0, hi, hz0, hz1, hz2⟩ := info_parts infoTp
  refine callsIn_of_wp_marks Try.func76 rfl h2 ?_ hro
  simp only [Try.ntmps76, List.size_toArray, List.length_cons, List.length_nil, Nat.reduceAdd, Nat.reduceSub, Array.replicate_succ, Array.replicate_zero, List.push_toArray, List.append_toArray, List.nil_append, List.cons_append]
  gi_wp2
  have bO := Boxed.new w 30 (.slice none 0 0)
  have hB0 : Below w.heap.size w (w.alloc (.cells #[.slice none 0 0] 30)) := (Below.refl _ w).alloc (Nat.le_refl _) _
  refine wpIn_rangeFunc_ownH hro h11 (gf := 61) (lb := #[.pointer (some ⟨Bm, 0, none⟩)]) rfl h1 (enters_of Try.func61 (by kernel_rfl) rfl)
    (keys_stopsT F (n - 1) h1 hro (by omega) Bm b S w hBm hm hS) walksK_t walksK_b hB0 (fun _ => rfl)
    (fun pre W => (∃ v, Boxed W w.heap.size 30 v ∧ W.ownsRow w.heap.size 47 3 v pre.length (pre.flatMap tc) ∧ True) ∧ Below w.heap.size w W)
    (fun _ _ _ => False)
    (OwnFrom.and (Own.from (holdsRow_own w.heap.size w.heap.size 30 47 3 (fun pre : List Tp => pre.length) (fun pre : List Tp => pre.flatMap tc) (fun _ _ => True)) _) (ownFrom_below (Nat.le_refl _) (by simp)))
    (fun _ _ _ _ _ hs _ _ => hs)
    ⟨⟨_, bO, World.ownsRow_nil _ _ _ _, trivial⟩, hB0⟩
    (fun x a' W => ∃ Bx, w.heap.size < Bx ∧ Whole W Bx 47 #[.string x.o, .string x.r, .string x.u] ∧ a' = { tmps := #[.slice none 0 0, .func (.func 61) #[] #[.pointer (some ⟨Bm, 0, none⟩)], .pointer (some ⟨w.heap.size, 0, none⟩), undef, .slice none 0 0, .pointer (some ⟨Bx, 0, none⟩), .func (.func 61) #[] #[.pointer (some ⟨Bm, 0, none⟩)], tpV x, undef, undef, undef, undef, undef], defers := [] })
    (fun x a' _ A B row ⟨Bx, q1, q2, q3⟩ hg hr => ⟨Bx, q1, whole_abides q2 hg (fun r e => (hr r e).2), q3⟩) ?assign ?body ?done ?stop
  case assign =>
    rintro l pre x W K ⟨⟨v, hv, hrow, _⟩, hB⟩ hK
    gi_wp2
    exact hK _ _ ((KeepsOthers.alloc _ _).from _) (KeepsWalks.alloc _ _) ⟨⟨v, hv.alloc _, hrow.alloc _, trivial⟩, hB.alloc hB.size _⟩ ⟨W.heap.size, by have := hv.lt; omega, heap_alloc_new _ _, rfl⟩
  case body =>
    rintro l pre x a' W hl ⟨r, hr⟩ ⟨⟨v, hv, hrow, _⟩, hB⟩ ⟨Bx, hBx, bX, rfl⟩ hlt
    have hc := hv.cell
    have d0 : W.cell? ⟨Bx, 0, none⟩ = some (.string x.o) := by rw [bX.cell]; rfl
    have d1 : W.cell? ⟨Bx, 1, none⟩ = some (.string x.r) := by rw [bX.cell]; rfl
    have d2 : W.cell? ⟨Bx, 2, none⟩ = some (.string x.u) := by rw [bX.cell]; rfl
    gi_wp2_with (gi_at_builtin; refine wpListIn_append_own _ rfl _ _ 30 rfl w.heap.size 47 i0 (.agg #[.string ⟨#[]⟩, .string ⟨#[]⟩, .string ⟨#[]⟩]) 3 48 Try.underlying30 hi hz0 hz1 hz2 rfl (by decide) _ _ _ rfl (hrow.alloc _) ⟨W.heap.size, 0, none⟩ 1 1 [.string x.o, .string x.r, .string x.u] rfl rfl (three_newT W _ _ _ 47) (by simp [Value.oneCell']) (by unfold maxLen; omega) (by omega) (by have := hB.size; simp; omega) ?_; intro v' w1 hown' hgrow _; obtain ⟨g', cap', rfl⟩ := ownsRow_succ hown'; obtain ⟨hv1, hv2, hr2, hk2, hb2⟩ := hv.appended (by decide) hrow hB.size (Nat.le_refl _) hown' hgrow; have hc1 := hv1.cell; have hf1 := hv1.frozen)
    exact ⟨hk2.from _, hk2.walks, ⟨_, hv2, by rw [List.flatMap_append]; simpa [tc] using hr2, trivial⟩, hB.trans hb2⟩
  case done =>
    rintro D ys W hD hp ⟨⟨v, hv, hrow, _⟩, hB⟩ hK
    have hc := hv.cell
    gi_wp2
    refine ⟨by simp, .inl ⟨_, _, rfl, run_takeDeferred hK, ?_⟩⟩
    exact ⟨_, results_tmp rfl _ _ _, v, ys, rfl, hp, ownsRow_putObj hrow _ hK rfl, hB.trans (belowK_b (w := w) (Nat.le_refl _) W D _ _ (by simp at hD; omega) hK rfl rfl)⟩
  case stop =>
    rintro D c pre W _ _ h _
    exact h.elim
end Go.Proofs.Yteimgebfbnmdcaa
