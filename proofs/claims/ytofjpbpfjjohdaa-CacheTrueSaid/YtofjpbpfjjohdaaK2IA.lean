/- The cache of int,int: add, use, tie, New, oldest. -/
import Derived.Test.YtofjpbpfjjohdaaK1IA
namespace Go.Proofs.Ytofjpbpfjjohdaa.KA
open Go.RowKit Go.Proofs.Ytofjpbpfjjohdaa

theorem RingAt.below {w w' : World} {g : Nat} {r : Rest} {n : Int} {es : List En} (h : RingAt w g r n es) (hb : Below w.heap.size w w') : RingAt w' g r n es := by
  obtain ⟨N, ⟨⟨k0, v0, v1, hk⟩, he⟩, hl⟩ := h.ex
  exact ⟨⟨N, ⟨⟨k0, v0, v1, hk.kept (hb.block _ hk.lt)⟩, fun p k v hp => (he p k v hp).kept (hb.block _ (he p k v hp).lt)⟩, hl⟩, h.nd⟩
set_option maxRecDepth 100000 in
set_option maxHeartbeats 4000000 in
theorem add_any {g e : Nat} {r : Rest} {n : Nat} {k : Int} {v : Int × Int} {es : List En} {x0 y0 : Value} (w : World) (h : RingAt w g r (n : Int) es) (he : Whole w e 47 #[Value.int .i64 k, Value.int .i64 v.1, Value.int .i64 v.2, x0, y0]) (hne : e ∉ es.map (·.1)) (hn : n ≤ 4096) :
    Calls Try.prog 20 #[.pointer (some ⟨g, 0, none⟩), .pointer (some ⟨e, 0, none⟩)] w fun x w' => x = .returned (.tuple #[]) ∧ RingAt w' g r ((n : Int) + 1) ((e, k, v) :: es) ∧ Chg w w' (fun b => b ∈ g :: e :: es.map (·.1)) := by
  obtain ⟨N, hN, hL⟩ := h.ex
  have hnd := h.nd
  obtain ⟨kk0, vv0, vv1, hkn⟩ := hN.knot
  have hge : g ≠ e := whole_ne hkn he (by decide)
  have heg0 : e ≠ g := hge.symm
  obtain ⟨M, hM⟩ : ∃ M : Nat → Value × Value, M = fun p => if p = e then (x0, y0) else N p := ⟨_, rfl⟩
  have hMe : M e = (x0, y0) := by rw [hM]; simp
  have hMo : ∀ p, p ≠ e → M p = N p := fun p hp => by rw [hM]; simp [hp]
  have hNM : Nodes w g r n M ((e, k, v) :: es) := by
    refine ⟨⟨kk0, vv0, vv1, by rw [hMo g hge]; exact hkn⟩, fun p k' v' hp => ?_⟩
    rcases List.mem_cons.1 hp with h1 | h1
    · injection h1 with h1 h2
      injection h2 with h2 h3
      subst h1 h2 h3
      rw [hMe]; exact he
    · rw [hMo p (by rintro rfl; exact hne (List.mem_map.2 ⟨_, h1, rfl⟩))]
      exact hN.ent p k' v' h1
  have hLM : Linked M g (es.map (·.1)) g := hL.congr (fun p hp => by rw [hMo]; rintro rfl; rcases List.mem_cons.1 hp with h1 | h1; exact hge h1.symm; exact hne h1) (fun p hp => by rw [hMo]; rintro rfl; rcases List.mem_append.1 hp with h1 | h1; exact hne h1; exact heg0 (by simpa using h1))
  have hF := hLM.front (e := e) (by intro hm; rcases List.mem_cons.1 hm with h1 | h1; exact hge h1.symm; exact hne h1) hnd
  have hh := hLM.head
  obtain ⟨t, htd⟩ : ∃ t, t = headD (es.map (·.1)) g := ⟨_, rfl⟩
  have htm : t ∈ es.map (·.1) ++ [g] := by rw [htd]; exact headD_mem _ _
  rw [← htd] at hh hF
  have hmt : t ∈ g :: ((e, k, v) :: es).map (·.1) := by
    rcases List.mem_append.1 htm with h1 | h1
    · rw [List.map_cons]; exact List.mem_cons_of_mem _ (List.mem_cons_of_mem _ h1)
    · simp at h1; simp [h1]
  have hme : e ∈ g :: ((e, k, v) :: es).map (·.1) := by simp
  have hmg : g ∈ g :: ((e, k, v) :: es).map (·.1) := by simp
  have hte : t ≠ e := by
    rintro rfl
    rcases List.mem_append.1 htm with h1 | h1
    · exact hne h1
    · simp at h1; exact hge h1.symm
  obtain ⟨a1, a2, a3, a4, a5⟩ := hNM.cells hme
  obtain ⟨b1, b2, b3, b4, b5⟩ := hNM.cells hmg
  obtain ⟨c1, c2, c3, c4, c5⟩ := hNM.cells hmt
  obtain ⟨d1, _, _, _, _, d2, _, _⟩ := hNM.counts
  rw [hh] at b2
  rw [hMe] at a1 a2
  unfold at_ at b2
  simp only at a1 a2
  have hndE : (g :: ((e, k, v) :: es).map (·.1)).Nodup := by
    rw [List.map_cons]
    refine List.nodup_cons.2 ⟨fun hm => ?_, List.nodup_cons.2 ⟨hne, (List.nodup_cons.1 hnd).2⟩⟩
    rcases List.mem_cons.1 hm with h1 | h1
    · exact hge h1
    · exact (List.nodup_cons.1 hnd).1 h1
  have heg := hge.symm
  have het := hte.symm
  have hadd : IntKind.i64.wrap ((n : Int) + 1) = (n : Int) + 1 := IntWalk.i64_in _ (by omega)
  have HN := Lib.hid hNM
  have HF := Lib.hid hF
  have HND := Lib.hid hndE
  have HMT := Lib.hid hmt
  have HME := Lib.hid hme
  have HMG := Lib.hid hmg
  generalize M g = Mg at *
  generalize M t = Mt at *
  clear hN hL hNM hLM hF hnd hndE h hh htd htm hmt hme hmg he hne hM hMe hMo hkn
  go_enter Try.func20, Try.ntmps20
  go_wp2
  go_region
  all_goals go_wp2
  all_goals go_region
  all_goals go_wp2
  all_goals
    go_end0
    have h1 := (HN.out.setN (b := e) (at_ g)).setO (b := e) (at_ t)
    have h2 := (h1.setO (b := g) (at_ e)).setN (b := t) (at_ e)
    have h3 := h2.count ((n : Int) + 1)
    have hC := (((((Chg.refl w (fun b => b ∈ g :: e :: es.map (·.1))).set HME.out 3 (at_ g)).set HME.out 4 (at_ t)).set HMG.out 4 (at_ e)).set HMT.out 3 (at_ e)).set HMG.out 5 (.int .i64 ((n : Int) + 1))
    exact ⟨rfl, ⟨⟨_, h3.drew.drew, HF.out⟩, HND.out⟩, hC.drew.drew⟩

set_option maxHeartbeats 1000000 in
theorem use_any {g e : Nat} {r : Rest} {n : Nat} {k : Int} {v : Int × Int} {e1 e2 : List En} (w : World) (h : RingAt w g r ((n : Int) + 1) (e1 ++ (e, k, v) :: e2)) (hn : n ≤ 4096) :
    Calls Try.prog 17 #[.pointer (some ⟨g, 0, none⟩), .pointer (some ⟨e, 0, none⟩)] w fun x w' => x = .returned (.tuple #[]) ∧ RingAt w' g r ((n : Int) + 1) ((e, k, v) :: (e1 ++ e2)) ∧ Chg w w' (fun b => b ∈ g :: (e1 ++ (e, k, v) :: e2).map (·.1)) := by
  have hnd := h.nd
  have hne : e ∉ (e1 ++ e2).map (·.1) := by
    rw [List.map_append, List.map_cons] at hnd
    rw [List.map_append]
    intro hm
    have h2 := (List.nodup_cons.1 hnd).2
    rcases List.mem_append.1 hm with h1 | h1
    · exact (List.nodup_append.1 h2).2.2 e h1 e (by simp) rfl
    · exact (List.nodup_cons.1 (List.nodup_append.1 h2).2.1).1 h1
  have HNE := Lib.hid hne
  have HR := Lib.hid (remove_any w h hn)
  clear h hnd hne
  go_enter Try.func17, Try.ntmps17
  go_wp2_with fail
  refine HR.out.mono ?_
  rintro x w1 ⟨rfl, hr, hw, hc⟩
  have HA := Lib.hid (add_any w1 hr hw HNE.out hn)
  have HC := Lib.hid hc
  clear hr hw hc
  go_wp2_with fail
  refine HA.out.mono ?_
  rintro x w2 ⟨rfl, hr, hc⟩
  have HR2 := Lib.hid hr
  have HC2 := Lib.hid (HC.out.trans (hc.mono (Q := fun b => b ∈ g :: (e1 ++ (e, k, v) :: e2).map (·.1)) (fun b _ hb => by
    rw [List.map_append, List.map_cons]
    rw [List.map_append] at hb
    simp at hb ⊢
    rcases hb with h | h | h | h
    · exact .inl h
    · exact .inr (.inr (.inl h))
    · exact .inr (.inl h)
    · exact .inr (.inr (.inr h)))))
  clear hr hc
  go_wp2
  go_end0
  exact ⟨rfl, HR2.out, HC2.out⟩

set_option maxHeartbeats 1000000 in
theorem oldest_any {g : Nat} {r : Rest} {n : Int} {es : List En} (w : World) (h : RingAt w g r n es) :
    Calls Try.prog 19 #[.pointer (some ⟨g, 0, none⟩)] w fun x w' => x = .returned (at_ (lastD g (es.map (·.1)))) ∧ w = w' := by
  obtain ⟨N, hN, hL⟩ := h.ex
  have hl := hL.last
  obtain ⟨a1, _, _, _, _⟩ := hN.cells (b := g) (by simp)
  rw [hl] at a1
  unfold at_ at a1 ⊢
  clear hN hL hl h
  generalize lastD g (es.map (·.1)) = t at *
  go_enter Try.func19, Try.ntmps19
  go_wp2
  go_ret
  exact ⟨rfl, rfl⟩
end Go.Proofs.Ytofjpbpfjjohdaa.KA
