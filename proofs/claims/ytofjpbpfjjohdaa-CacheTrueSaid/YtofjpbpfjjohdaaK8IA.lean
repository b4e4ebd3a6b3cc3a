/- The cache of int,int: Keys. -/
import Derived.Test.YtofjpbpfjjohdaaK7IA
namespace Go.Proofs.Ytofjpbpfjjohdaa.KA
open Go.RowKit Go.Proofs.Ytofjpbpfjjohdaa
open Go.Maps (Keyed)

theorem Try.infoK : (Try.prog.info? 3).map (fun i => (i.zero, i.size, i.bytes)) = some (some (Value.int .i64 0), 1, 8) := by kernel_rfl
/-- What a row of the call's own holds, cell by cell. -/
theorem owned_cells {w : World} {base n : Nat} {v : Value} {e : TypeId} {l : List Value} (h : w.ownsRow base e 1 v n l) : ∃ a c, v = .slice a n c ∧ (a = none → n = 0 ∧ c = 0) ∧ n ≤ c ∧ ∀ b, a = some b → b.off = 0 ∧ b.spot = none ∧ b.block < w.heap.size ∧ base ≤ b.block ∧ ∀ (j : Nat) u, l[j]? = some u → w.cell? (b.add j) = some u := by
  have hlt := h.lt
  rcases h.2 with ⟨rfl, h0⟩ | ⟨g, cap, cur, rfl, hb, hh, hnc, hcm, hsz, ht⟩
  · exact ⟨none, 0, by rw [h0], fun _ => ⟨h0, rfl⟩, by omega, fun b hb => by cases hb⟩
  · refine ⟨_, _, rfl, (by intro e; cases e), hnc, ?_⟩
    rintro b hbb
    injection hbb with hbb
    subst hbb
    refine ⟨rfl, rfl, (hlt g rfl).2, hb, fun j u hj => ?_⟩
    rw [add_plain, Nat.zero_add]
    simp only [World.cell?, hh]
    rw [← ht, Nat.mul_one] at hj
    have h1 : (cur.toList.take n)[j]? = some u := hj
    rw [List.getElem?_take] at h1
    split at h1
    · simpa using h1
    · cases h1
/-- The i-th cell of a row of the call's own. -/
theorem owned_at {w : World} {base n c i : Nat} {a : Option Addr} {e : TypeId} {l : List Value} {u : Value} (h : w.ownsRow base e 1 (.slice a n c) n l) (hu : l[i]? = some u) : ∃ b, a = some ⟨b, 0, none⟩ ∧ b < w.heap.size ∧ base ≤ b ∧ w.cell? ⟨b, i, none⟩ = some u := by
  obtain ⟨a', c', hv, hn, _, hc⟩ := owned_cells h
  injection hv with h1 h2 h3
  subst h1 h3
  cases a with
  | none =>
    have h0 := (hn rfl).1
    have hl := h.1
    rw [h0] at hl
    simp at hl
    rw [hl] at hu
    simp at hu
  | some ad =>
    obtain ⟨b, off, sp⟩ := ad
    obtain ⟨q1, q2, q3, q4, q5⟩ := hc _ rfl
    simp at q1 q2 q3 q4
    subst q1 q2
    have := q5 i u hu
    rw [add_plain, Nat.zero_add] at this
    exact ⟨b, rfl, q3, q4, this⟩

set_option maxRecDepth 100000 in
set_option maxHeartbeats 4000000 in
theorem Keys_any {B g b size : Nat} {es : List En} {f m : Int} (w : World) (h : CAt w B g b size es f m) :
    Calls Try.prog 8 #[.pointer (some ⟨g, 0, none⟩)] w fun x w' => ∃ v, x = .returned v ∧ w'.ownsRow w.heap.size 3 1 v es.length (es.map fun t => Value.int .i64 t.2.1) ∧ Below w.heap.size w w' := by
  obtain ⟨i0, hi, hz0, hz1, hz2⟩ := info_of Try.infoK
  have hlen := h.len
  have hhi := h.hi
  have hmk : (Instr.makeSlice 22 (.int .i64 0) (.int .i64 (es.length : Int))).run Try.prog w = .ok (.slice (some ⟨w.heap.size, 0, none⟩) 0 es.length) (w.alloc (.cells (madeCells #[Value.int .i64 0] es.length) 3)) :=
    make_row w 22 3 i0 (Value.int .i64 0) 8 Try.underlying22 hi hz0 hz1 rfl hz2 es.length (by omega) (by omega)
  have hown : (w.alloc (.cells (madeCells #[Value.int .i64 0] es.length) 3)).ownsRow w.heap.size 3 1 (.slice (some ⟨w.heap.size, 0, none⟩) 0 es.length) 0 [] := by
    refine ⟨rfl, .inr ⟨w.heap.size, es.length, madeCells #[Value.int .i64 0] es.length, rfl, Nat.le_refl _, heap_alloc_new _ _, Nat.zero_le _, by unfold maxLen; omega, ?_, rfl⟩⟩
    rw [size_madeCells]; simp
  obtain ⟨N, hN, _⟩ := h.ring.ex
  obtain ⟨d4, _, _, _, _, _, _, _⟩ := hN.counts
  have hb1 := below_alloc w (.cells (madeCells #[Value.int .i64 0] es.length) 3)
  have HE := Lib.hid (entries_any _ (h.below hb1).ring (by omega))
  have HN := Lib.hid hN
  have HO := Lib.hid hown
  have HB1 := Lib.hid hb1
  clear hN hown hb1 h
  generalize w.alloc (.cells (madeCells #[Value.int .i64 0] es.length) 3) = wm at *
  go_enter Try.func8, Try.ntmps8
  go_wp2_with fail
  refine HE.out.mono ?_
  rintro x w1 ⟨ve, rfl, hoe, hb⟩
  obtain ⟨ae, ce, rfl, _, _⟩ := owned_any hoe
  have HO1 := Lib.hid (owns_kept HO.out (fun k hk => hb.block k (HO.out.lt k hk).2))
  have HOE := Lib.hid hoe
  have HB := Lib.hid (HB1.out.trans (hb.mono HB1.out.size))
  have hz1' := HB1.out.size
  clear hmk hoe hb d4
  go_wp2_with fail
  go_loopw [3, 17] (fun t3 iv wr => ∃ i : Nat, i ≤ es.length ∧ iv = .int .i64 i ∧ wr.ownsRow w.heap.size 3 1 t3 i ((es.take i).map fun t => Value.int .i64 t.2.1) ∧ Below w.heap.size w wr ∧ wr.ownsRow wm.heap.size 45 1 (.slice ae es.length ce) es.length (es.map fun t => at_ t.1)) (fun _ iv _ => es.length - (intOf iv).toNat)
  case atStart => exact ⟨0, by omega, rfl, HO1.out, HB.out, HOE.out⟩
  case round =>
    obtain ⟨i, hin, rfl, hown, hbw, hoe⟩ := hrel
    obtain ⟨ta, tc, rfl, _, _⟩ := owned_any hown
    by_cases hil : i < es.length
    · obtain ⟨⟨p, k, v⟩, ht⟩ : ∃ t, es[i]? = some t := ⟨_, List.getElem?_eq_getElem hil⟩
      obtain ⟨be, rfl, hbl, hbb, ce0⟩ := owned_at (i := i) (u := at_ p) hoe (by simp [ht])
      have hpe := HN.out.ent p k v (List.mem_of_getElem? ht)
      have c0 : wr.cell? ⟨p, 0, none⟩ = some (Value.int .i64 k) := by rw [(hpe.kept (hbw.block _ hpe.lt)).cell]; rfl
      unfold at_ at ce0
      have HT := Lib.hid ht
      have HOW := Lib.hid hown
      have HBW := Lib.hid hbw
      have HOE2 := Lib.hid hoe
      have hsz := hbw.size
      clear ht hown hbw hoe hpe
      go_wp2_with (
          at_builtin
          (refine wpList_append_at_any _ rfl _ _ 22 rfl w.heap.size 3 i0 (Value.int .i64 0) 1 8 Try.underlying22 hi hz0 hz1 hz2 rfl (by decide) _ i _ rfl (HOW.out.alloc _) (some ⟨wr.heap.size, 0, none⟩) 1 1 [Value.int .i64 k] rfl rfl (by intro h; cases h) (by rintro ad he; injection he with he; subst he; exact cell_one_new _ _ _) (by intro q hq; simp at hq; subst hq; rfl) (by unfold maxLen; omega) (by omega) (by simp; omega) ?_)
          intro v2 w2 hown2 hgrow2 hat2)
      have hB2 := (HBW.out.alloc hsz (.cells #[Value.int .i64 k] 3)).grown hgrow2 (by simp; omega) (fun q hq => ((HOW.out.alloc (.cells #[Value.int .i64 k] 3)).lt q hq).1)
      have hoe3 : w2.ownsRow wm.heap.size 45 1 (.slice (some ⟨be, 0, none⟩) es.length ce) es.length (es.map fun t => at_ t.1) := by
        refine owns_kept (HOE2.out.alloc (.cells #[Value.int .i64 k] 3)) (fun q hk => hgrow2.block q ((HOE2.out.alloc (.cells #[Value.int .i64 k] 3)).lt q hk).2 ?_)
        intro e
        have h1 := HOW.out.2
        have h2 := HOE2.out.2
        rcases h1 with ⟨h1, _⟩ | ⟨g1, cap1, cur1, h1, _, hh1, _⟩
        · rw [h1] at e; cases e
        · rcases h2 with ⟨h2, _⟩ | ⟨g2, cap2, cur2, h2, _, hh2, _⟩
          · cases h2
          · rw [h1] at e
            rw [h2] at hk
            injection e with e
            injection hk with hk
            subst e hk
            rw [hh1] at hh2
            injection hh2 with hh2
            injection hh2 with _ hh2
            exact absurd hh2 (by decide)
      have hown3 : w2.ownsRow w.heap.size 3 1 v2 (i + 1) ((es.take (i + 1)).map fun t => Value.int .i64 t.2.1) := by
        have h1 : es.take (i + 1) = es.take i ++ [(p, k, v)] := by
          obtain ⟨hi', he⟩ := List.getElem?_eq_some_iff.1 HT.out
          rw [← he]
          exact (List.take_append_getElem hi').symm
        rw [h1, List.map_append]
        exact hown2
      have HR1 := Lib.hid hown3
      have HR2 := Lib.hid hB2
      have HR3 := Lib.hid hoe3
      clear hown2 hgrow2 hat2 hB2 hoe3 hown3
      go_roundw
      case rel => exact ⟨i + 1, by omega, by go_num, HR1.out, HR2.out, HR3.out⟩
      case measure => simp [intOf]; omega
    · obtain rfl : i = es.length := by omega
      have HOW := Lib.hid hown
      have HBW := Lib.hid hbw
      clear hown hbw hoe
      go_wp2
      go_ret
      refine ⟨_, rfl, ?_, HBW.out⟩
      have := HOW.out
      rwa [List.take_length] at this
end Go.Proofs.Ytofjpbpfjjohdaa.KA
