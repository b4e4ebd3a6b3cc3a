/- The cache of string,int: Get, Counts. -/
import Derived.Test.YtofjpbpfjjohdaaK7SI
namespace Go.Proofs.Ytofjpbpfjjohdaa.KS
open Go.RowKit Go.Proofs.Ytofjpbpfjjohdaa
open Go.Maps (Keyed)

theorem Nodes.found {w : World} {g b : Nat} {z f m n : Int} {N : Nat → Value × Value} {es : List En} (h : Nodes w g ⟨z, b, f, m⟩ n N es) (f' : Int) : Nodes (w.setCell ⟨g, 7, none⟩ (.int .i64 f')) g ⟨z, b, f', m⟩ n N es := by
  obtain ⟨k0, v0, hk⟩ := h.knot
  refine ⟨⟨k0, v0, by simpa using hk.store 7 (.int .i64 f')⟩, fun p k v hp => (h.ent p k v hp).kept (Below.heap_setCell _ _ _ _ (h.ne hp).symm)⟩
theorem Nodes.missed {w : World} {g b : Nat} {z f m n : Int} {N : Nat → Value × Value} {es : List En} (h : Nodes w g ⟨z, b, f, m⟩ n N es) (m' : Int) : Nodes (w.setCell ⟨g, 8, none⟩ (.int .i64 m')) g ⟨z, b, f, m'⟩ n N es := by
  obtain ⟨k0, v0, hk⟩ := h.knot
  refine ⟨⟨k0, v0, by simpa using hk.store 8 (.int .i64 m')⟩, fun p k v hp => (h.ent p k v hp).kept (Below.heap_setCell _ _ _ _ (h.ne hp).symm)⟩
set_option maxHeartbeats 1000000 in
theorem Counts_any {B g b size : Nat} {es : List En} {f m : Int} (w : World) (h : CAt w B g b size es f m) :
    Calls Try.prog 13 #[.pointer (some ⟨g, 0, none⟩)] w fun x w' => x = .returned (.tuple #[.int .i64 f, .int .i64 m]) ∧ ∃ n, w' = w.drewN n := by
  obtain ⟨N, hN, _⟩ := h.ring.ex
  obtain ⟨_, _, _, d7, d8, _, _, _⟩ := hN.counts
  simp only at d7 d8
  clear h hN
  go_enter Try.func13, Try.ntmps13
  go_wp2
  go_quiet (fail)
  go_wp2
  go_ret2
  exact ⟨rfl, _, rfl⟩
set_option maxRecDepth 100000 in
set_option maxHeartbeats 4000000 in
theorem Get_there {B g b size e : Nat} {k : ByteArray} {v : Int} {e1 e2 : List En} {f m : Int} (w : World) (h : CAt w B g b size (e1 ++ (e, k, v) :: e2) f m) (hf : 0 ≤ f ∧ f ≤ 4611686018427387904) :
    Calls Try.prog 12 #[.pointer (some ⟨g, 0, none⟩), Value.string k] w fun x w' => x = .returned (.tuple #[Value.int .i64 v, .bool true]) ∧ CAt w' B g b size ((e, k, v) :: (e1 ++ e2)) (f + 1) m ∧ Chg w w' (CB g b (e1 ++ (e, k, v) :: e2)) := by
  have hk := h.kr e k v (by simp)
  have HFI := Lib.hid (find_any k w h hk)
  have hfv : findV (e1 ++ (e, k, v) :: e2) k = .pointer (some ⟨e, 0, none⟩) := by
    unfold findV
    rw [find_some_of h.keys]
    rfl
  rw [hfv] at HFI
  obtain ⟨N, hN, hL⟩ := h.ring.ex
  obtain ⟨_, _, _, d7, _, _, z7, _⟩ := hN.counts
  simp only at d7
  have hwe := hN.ent e k v (by simp)
  have hlen : (e1 ++ (e, k, v) :: e2).length = (e1 ++ e2).length + 1 := by simp; omega
  have hadd : IntKind.i64.wrap (f + 1) = f + 1 := IntWalk.i64_in _ (by omega)
  have hr' : RingAt (w.setCell ⟨g, 7, none⟩ (.int .i64 (f + 1))) g ⟨size, b, f + 1, m⟩ (((e1 ++ e2).length : Int) + 1) (e1 ++ (e, k, v) :: e2) := by
    refine ⟨⟨N, ?_, hL⟩, h.ring.nd⟩
    rw [hlen] at hN
    simpa using hN.found (f + 1)
  have HU := Lib.hid (use_any _ hr' (by have := h.len; have := h.hi; omega))
  have H := Lib.hid h
  have HWE := Lib.hid hwe
  clear hfv hN hL hwe hr' h hk hlen
  go_enter Try.func12, Try.ntmps12
  go_wp2_with fail
  refine HFI.out.mono ?_
  rintro x w1 ⟨rfl, rfl⟩
  go_wp2_with fail
  refine HU.out.mono ?_
  rintro x w3 ⟨rfl, hr, hc⟩
  obtain ⟨mm, hm, _⟩ := H.out.map
  obtain ⟨N, hN, _⟩ := H.out.ring.ex
  obtain ⟨kk, vv, hkn⟩ := hN.knot
  have hgb : g ≠ b := hm.ne hkn
  have hbk : w3.heap[b]? = w.heap[b]? := by
    have h1 : (w.setCell ⟨g, 7, none⟩ (.int .i64 (f + 1))).heap[b]? = w.heap[b]? := Below.heap_setCell _ _ _ _ hgb.symm
    rw [← h1]
    refine hc.block b (by simp [World.setCell]; exact hm.lt) ?_
    intro hb
    rcases List.mem_cons.1 hb with h3 | h3
    · exact hgb h3.symm
    · obtain ⟨⟨p, k', v'⟩, hp, rfl⟩ := List.mem_map.1 h3
      exact hm.ne (hN.ent p k' v' hp) rfl
  have hcat0 : CAt w B g b size (e1 ++ (e, k, v) :: e2) f m := H.out
  have hcat : CAt w3 B g b size ((e, k, v) :: (e1 ++ e2)) (f + 1) m := CAt.front2 hcat0 hr hbk
  obtain ⟨N3, hN3, _⟩ := hr.ex
  have hwe3 := hN3.ent e k v (by simp)
  have c1 : w3.cell? ⟨e, 1, none⟩ = some (Value.int .i64 v) := by rw [hwe3.cell]; rfl
  have hC : Chg w w3 (CB g b (e1 ++ (e, k, v) :: e2)) := ((Chg.refl w (CB g b (e1 ++ (e, k, v) :: e2))).set (b := g) (.inl rfl) 7 (.int .i64 (f + 1))).trans (hc.mono (Q := CB g b (e1 ++ (e, k, v) :: e2)) (fun p _ hp => by
    rcases List.mem_cons.1 hp with h1 | h1
    · exact .inl h1
    · exact .inr (.inr h1)))
  have HCA := Lib.hid hcat
  have HCC := Lib.hid hC
  clear hr hc hm hN hkn hbk hcat hcat0 hC hN3 hwe3 d7
  go_wp2
  go_ret2
  exact ⟨rfl, HCA.out, HCC.out⟩
set_option maxRecDepth 100000 in
set_option maxHeartbeats 4000000 in
theorem Get_none {B g b size : Nat} {es : List En} {f m : Int} (k : ByteArray) (w : World) (h : CAt w B g b size es f m) (hk : k.size ≤ 9223372036854775807) (hin : k ∉ es.map (·.2.1)) (hm : 0 ≤ m ∧ m ≤ 4611686018427387904) :
    Calls Try.prog 12 #[.pointer (some ⟨g, 0, none⟩), Value.string k] w fun x w' => x = .returned (.tuple #[Value.int .i64 0, .bool false]) ∧ CAt w' B g b size es f (m + 1) ∧ Chg w w' (CB g b es) := by
  have HFI := Lib.hid (find_any k w h hk)
  have hfv : findV es k = .pointer none := by
    unfold findV
    rw [find_none_of hin]
    rfl
  rw [hfv] at HFI
  obtain ⟨N, hN, hL⟩ := h.ring.ex
  obtain ⟨_, _, _, _, d8, _, _, z8⟩ := hN.counts
  simp only at d8
  have hadd : IntKind.i64.wrap (m + 1) = m + 1 := IntWalk.i64_in _ (by omega)
  obtain ⟨mm, hmp, hf⟩ := h.map
  obtain ⟨kk, vv, hkn⟩ := hN.knot
  have hcat : CAt (w.setCell ⟨g, 8, none⟩ (.int .i64 (m + 1))) B g b size es f (m + 1) := by
    refine ⟨⟨⟨N, by simpa using hN.missed (m + 1), hL⟩, h.ring.nd⟩, ⟨mm, hmp.kept (Below.heap_setCell _ _ _ _ (hmp.ne hkn).symm), hf⟩, h.keys, h.kr, h.len, h.lo, h.hi, h.geg, h.geb, h.gep⟩
  have HCA := Lib.hid hcat
  have HCC := Lib.hid ((Chg.refl w (CB g b es)).set (b := g) (.inl rfl) 8 (.int .i64 (m + 1)))
  clear hfv hN hL h hk hin hmp hf hkn hcat
  go_enter Try.func12, Try.ntmps12
  go_wp2_with fail
  refine HFI.out.mono ?_
  rintro x w1 ⟨rfl, rfl⟩
  go_wp2
  go_ret2
  exact ⟨rfl, HCA.out.below (below_alloc _ _), HCC.out.trans (Chg.ofBelow _ (below_alloc _ _))⟩
end Go.Proofs.Ytofjpbpfjjohdaa.KS
