/- The cache of int,int: Get, Counts. -/
import Derived.Test.YtofjpbpfjjohdaaK8IA
import Derived.Deep.DeepCutAuto
namespace Go.Proofs.Ytofjpbpfjjohdaa.KA
open Go.RowKit Go.Proofs.Ytofjpbpfjjohdaa
open Go.Maps (Keyed)

theorem Nodes.found {w : World} {g b : Nat} {z f m n : Int} {N : Nat → Value × Value} {es : List En} (h : Nodes w g ⟨z, b, f, m⟩ n N es) (f' : Int) : Nodes (w.setCell ⟨g, 8, none⟩ (.int .i64 f')) g ⟨z, b, f', m⟩ n N es := by
  obtain ⟨k0, v0, v1, hk⟩ := h.knot
  refine ⟨⟨k0, v0, v1, by simpa using hk.store 8 (.int .i64 f')⟩, fun p k v hp => (h.ent p k v hp).kept (Below.heap_setCell _ _ _ _ (h.ne hp).symm)⟩
theorem Nodes.missed {w : World} {g b : Nat} {z f m n : Int} {N : Nat → Value × Value} {es : List En} (h : Nodes w g ⟨z, b, f, m⟩ n N es) (m' : Int) : Nodes (w.setCell ⟨g, 9, none⟩ (.int .i64 m')) g ⟨z, b, f, m'⟩ n N es := by
  obtain ⟨k0, v0, v1, hk⟩ := h.knot
  refine ⟨⟨k0, v0, v1, by simpa using hk.store 9 (.int .i64 m')⟩, fun p k v hp => (h.ent p k v hp).kept (Below.heap_setCell _ _ _ _ (h.ne hp).symm)⟩
theorem Chg.set_new {w w' : World} {P : Nat → Prop} (h : Chg w w' P) {b : Nat} (hb : w.heap.size ≤ b) (i : Nat) (u : Value) : Chg w (w'.setCell ⟨b, i, none⟩ u) P :=
  ⟨h.os, h.tape, h.output, by simpa [World.setCell] using h.size, fun k hk hn => (Below.heap_setCell w' ⟨b, i, none⟩ u k (by rintro rfl; omega)).trans (h.block k hk hn)⟩
theorem CAt.keep {w w' : World} {B g b size : Nat} {es : List En} {f m : Int} (h : CAt w B g b size es f m) (hb : ∀ q, CB g b es q → w'.heap[q]? = w.heap[q]?) : CAt w' B g b size es f m := by
  obtain ⟨mm, hm, hf⟩ := h.map
  obtain ⟨N, ⟨⟨k0, v0, v1, hk⟩, he⟩, hl⟩ := h.ring.ex
  exact ⟨⟨⟨N, ⟨⟨k0, v0, v1, hk.kept (hb g (.inl rfl))⟩, fun p k v hp => (he p k v hp).kept (hb p (.inr (.inr (List.mem_map.2 ⟨_, hp, rfl⟩))))⟩, hl⟩, h.ring.nd⟩, ⟨mm, hm.kept (hb b (.inr (.inl rfl))), hf⟩, h.keys, h.kr, h.len, h.lo, h.hi, h.geg, h.geb, h.gep⟩
theorem CAt.keep_set {w : World} {B g b size q : Nat} {es : List En} {f m : Int} {T : TypeId} {cs : Array Value} (h : CAt w B g b size es f m) (hq : Whole w q T cs) (h1 : T ≠ 51) (h2 : T ≠ 47) (i : Nat) (u : Value) : CAt (w.setCell ⟨q, i, none⟩ u) B g b size es f m :=
  h.keep fun p hp => Below.heap_setCell _ ⟨q, i, none⟩ _ p (by rintro rfl; exact h.not_cb hq h1 h2 hp)
set_option maxRecDepth 100000 in
set_option maxHeartbeats 4000000 in
theorem Get_there {B g b size e : Nat} {k : Int} {v : Int × Int} {e1 e2 : List En} {f m : Int} (w : World) (h : CAt w B g b size (e1 ++ (e, k, v) :: e2) f m) (hf : 0 ≤ f ∧ f ≤ 4611686018427387904) :
    Calls Try.prog 6 #[.pointer (some ⟨g, 0, none⟩), Value.int .i64 k] w fun x w' => x = .returned (.tuple #[.agg #[.int .i64 v.1, .int .i64 v.2], .bool true]) ∧ CAt w' B g b size ((e, k, v) :: (e1 ++ e2)) (f + 1) m ∧ Chg w w' (CB g b (e1 ++ (e, k, v) :: e2)) := by
  obtain ⟨w0, hw0, hv0, hb0⟩ : ∃ w0, w0 = w.alloc (.cells #[.int .i64 0, .int .i64 0] 28) ∧ Whole w0 w.heap.size 28 #[.int .i64 0, .int .i64 0] ∧ Below w.heap.size w w0 := ⟨_, rfl, heap_alloc_new _ _, below_alloc _ _⟩
  have HB0 := Lib.hid hb0
  have HV0 := Lib.hid hv0
  replace h := h.below hb0
  have HNC := Lib.hid (h.not_cb hv0 (by decide) (by decide))
  clear hb0 hv0
  have hk := h.kr e k v (by simp)
  have HFI := Lib.hid (find_any k w0 h hk)
  have hfv : findV (e1 ++ (e, k, v) :: e2) k = .pointer (some ⟨e, 0, none⟩) := by
    unfold findV
    rw [find_some_of h.keys]
    rfl
  rw [hfv] at HFI
  obtain ⟨N, hN, hL⟩ := h.ring.ex
  obtain ⟨_, _, _, d7, _, _, z7, _⟩ := hN.counts
  simp only at d7
  have hwe := hN.ent e k v (by simp)
  have hlen : (e1 ++ (e, k, v) :: e2).length = (e1 ++ e2).length + 1 := by simp; omega
  have hadd : IntKind.i64.wrap (f + 1) = f + 1 := IntWalk.i64_in _ (by omega)
  have hr' : RingAt (w0.setCell ⟨g, 8, none⟩ (.int .i64 (f + 1))) g ⟨size, b, f + 1, m⟩ (((e1 ++ e2).length : Int) + 1) (e1 ++ (e, k, v) :: e2) := by
    refine ⟨⟨N, ?_, hL⟩, h.ring.nd⟩
    rw [hlen] at hN
    simpa using hN.found (f + 1)
  have HU := Lib.hid (use_any _ hr' (by have := h.len; have := h.hi; omega))
  have H := Lib.hid h
  have HWE := Lib.hid hwe
  clear hfv hN hL hwe hr' h hk hlen
  go_enter Try.func6, Try.ntmps6
  go_upto_region 1 with fail
  rw [← hw0]
  clear hw0
  go_wp2_with fail
  refine HFI.out.mono ?_
  rintro x w1 ⟨rfl, rfl⟩
  go_wp2_with fail
  refine HU.out.mono ?_
  rintro x w3 ⟨rfl, hr, hc⟩
  obtain ⟨mm, hm, _⟩ := H.out.map
  obtain ⟨N, hN, _⟩ := H.out.ring.ex
  obtain ⟨kk, vv, vv1, hkn⟩ := hN.knot
  have hgb : g ≠ b := hm.ne hkn
  have hbk : w3.heap[b]? = w0.heap[b]? := by
    have h1 : (w0.setCell ⟨g, 8, none⟩ (.int .i64 (f + 1))).heap[b]? = w0.heap[b]? := Below.heap_setCell _ _ _ _ hgb.symm
    rw [← h1]
    refine hc.block b (by simp [World.setCell]; exact hm.lt) ?_
    intro hb
    rcases List.mem_cons.1 hb with h3 | h3
    · exact hgb h3.symm
    · obtain ⟨⟨p, k', v'⟩, hp, rfl⟩ := List.mem_map.1 h3
      exact hm.ne (hN.ent p k' v' hp) rfl
  have hcat0 : CAt w0 B g b size (e1 ++ (e, k, v) :: e2) f m := H.out
  have hcat : CAt w3 B g b size ((e, k, v) :: (e1 ++ e2)) (f + 1) m := CAt.front2 hcat0 hr hbk
  obtain ⟨N3, hN3, _⟩ := hr.ex
  have hwe3 := hN3.ent e k v (by simp)
  have c1 : w3.cell? ⟨e, 1, none⟩ = some (.int .i64 v.1) := by rw [hwe3.cell]; rfl
  have c2 : w3.cell? ⟨e, 2, none⟩ = some (.int .i64 v.2) := by rw [hwe3.cell]; rfl
  have hC : Chg w0 w3 (CB g b (e1 ++ (e, k, v) :: e2)) := ((Chg.refl w0 (CB g b (e1 ++ (e, k, v) :: e2))).set (b := g) (.inl rfl) 8 (.int .i64 (f + 1))).trans (hc.mono (Q := CB g b (e1 ++ (e, k, v) :: e2)) (fun p _ hp => by
    rcases List.mem_cons.1 hp with h1 | h1
    · exact .inl h1
    · exact .inr (.inr h1)))
  have hz3 := HV0.out.kept (hC.block _ HV0.out.lt HNC.out)
  have y0 := hz3.cell 0
  have y1 := hz3.cell 1
  have f0 := hz3.free 0
  have f1 := hz3.free 1
  have hel := hwe3.lt
  have hebx : e ≠ w.heap.size := (whole_ne hz3 hwe3 (by decide)).symm
  have hz4 := (hz3.store 0 (.int .i64 v.1)).store 1 (.int .i64 v.2)
  have HZ4 := Lib.hid hz4
  have HCA := Lib.hid ((hcat.keep_set hz3 (by decide) (by decide) 0 (.int .i64 v.1)).keep_set (hz3.store 0 (.int .i64 v.1)) (by decide) (by decide) 1 (.int .i64 v.2))
  have HCC := Lib.hid ((((Chg.ofBelow _ HB0.out).trans hC).set_new (Nat.le_refl w.heap.size) 0 (.int .i64 v.1)).set_new (Nat.le_refl w.heap.size) 1 (.int .i64 v.2))
  clear hr hc hm hN hkn hbk hcat hcat0 hC hN3 hwe3 d7 hz3 hz4
  go_wp2
  have p0 := HZ4.out.cell 0
  have p1 := HZ4.out.cell 1
  exact bodyPost_ret (v := .tuple #[.agg #[.int .i64 v.1, .int .i64 v.2], .bool true]) (by simp [results, Try.results6, go_sem, p0, p1]) rfl ⟨rfl, HCA.out, HCC.out⟩
set_option maxRecDepth 100000 in
set_option maxHeartbeats 4000000 in
theorem Get_none {B g b size : Nat} {es : List En} {f m : Int} (k : Int) (w : World) (h : CAt w B g b size es f m) (hk : -9223372036854775808 ≤ k ∧ k ≤ 9223372036854775807) (hin : k ∉ es.map (·.2.1)) (hm : 0 ≤ m ∧ m ≤ 4611686018427387904) :
    Calls Try.prog 6 #[.pointer (some ⟨g, 0, none⟩), Value.int .i64 k] w fun x w' => x = .returned (.tuple #[.agg #[.int .i64 0, .int .i64 0], .bool false]) ∧ CAt w' B g b size es f (m + 1) ∧ Chg w w' (CB g b es) := by
  obtain ⟨w0, hw0, hv0, hb0⟩ : ∃ w0, w0 = w.alloc (.cells #[.int .i64 0, .int .i64 0] 28) ∧ Whole w0 w.heap.size 28 #[.int .i64 0, .int .i64 0] ∧ Below w.heap.size w w0 := ⟨_, rfl, heap_alloc_new _ _, below_alloc _ _⟩
  have HB0 := Lib.hid hb0
  have HV0 := Lib.hid hv0
  replace h := h.below hb0
  have HNC := Lib.hid (h.not_cb hv0 (by decide) (by decide))
  clear hb0 hv0
  have HFI := Lib.hid (find_any k w0 h hk)
  have hfv : findV es k = .pointer none := by
    unfold findV
    rw [find_none_of hin]
    rfl
  rw [hfv] at HFI
  obtain ⟨N, hN, hL⟩ := h.ring.ex
  obtain ⟨_, _, _, _, d8, _, _, z8⟩ := hN.counts
  simp only at d8
  have hadd : IntKind.i64.wrap (m + 1) = m + 1 := IntWalk.i64_in _ (by omega)
  obtain ⟨mm, hmp, hf⟩ := h.map
  obtain ⟨kk, vv, vv1, hkn⟩ := hN.knot
  have hcat : CAt (w0.setCell ⟨g, 9, none⟩ (.int .i64 (m + 1))) B g b size es f (m + 1) := by
    refine ⟨⟨⟨N, by simpa using hN.missed (m + 1), hL⟩, h.ring.nd⟩, ⟨mm, hmp.kept (Below.heap_setCell _ _ _ _ (hmp.ne hkn).symm), hf⟩, h.keys, h.kr, h.len, h.lo, h.hi, h.geg, h.geb, h.gep⟩
  have hC := (Chg.refl w0 (CB g b es)).set (b := g) (.inl rfl) 9 (.int .i64 (m + 1))
  have hz2 := HV0.out.kept (hC.block _ HV0.out.lt HNC.out)
  have hz4 := (hz2.store 0 (.int .i64 0)).store 1 (.int .i64 0)
  have hc4 := (hcat.keep_set hz2 (by decide) (by decide) 0 (.int .i64 0)).keep_set (hz2.store 0 (.int .i64 0)) (by decide) (by decide) 1 (.int .i64 0)
  have hC4 := (((Chg.ofBelow _ HB0.out).trans hC).set_new (Nat.le_refl w.heap.size) 0 (.int .i64 0)).set_new (Nat.le_refl w.heap.size) 1 (.int .i64 0)
  have HZ4 := Lib.hid (hz4.kept ((below_alloc _ (.cells #[.int .i64 0, .int .i64 0] 28)).block _ hz4.lt))
  have HCA := Lib.hid (hc4.below (below_alloc _ (.cells #[.int .i64 0, .int .i64 0] 28)))
  have HCC := Lib.hid (hC4.trans (Chg.ofBelow _ (below_alloc _ (.cells #[.int .i64 0, .int .i64 0] 28))))
  have hgbx : g ≠ w.heap.size := (whole_ne HV0.out hkn (by decide)).symm
  have hgl := hkn.lt
  have hbl := HV0.out.lt
  have v0c := HV0.out.cell 0
  have v1c := HV0.out.cell 1
  have v0f := HV0.out.free 0
  have v1f := HV0.out.free 1
  clear hfv hN hL h hk hin hmp hf hkn hcat hC hz2 hz4 hc4 hC4
  go_enter Try.func6, Try.ntmps6
  go_upto_region 1 with fail
  rw [← hw0]
  clear hw0
  go_wp2_with fail
  refine HFI.out.mono ?_
  rintro x w1 ⟨rfl, rfl⟩
  go_wp2
  have p0 := HZ4.out.cell 0
  have p1 := HZ4.out.cell 1
  exact bodyPost_ret (v := .tuple #[.agg #[.int .i64 0, .int .i64 0], .bool false]) (by simp [results, Try.results6, go_sem, p0, p1]) rfl ⟨rfl, HCA.out, HCC.out⟩
end Go.Proofs.Ytofjpbpfjjohdaa.KA
