/- The cache of int,int: forget, Put. -/
import Derived.Test.YtofjpbpfjjohdaaK3IA
namespace Go.Proofs.Ytofjpbpfjjohdaa.KA
open Go.RowKit Go.Proofs.Ytofjpbpfjjohdaa
open Go.Maps (Keyed)

/-- The blocks of a cache. -/
def CB (g b : Nat) (es : List En) : Nat → Prop := fun k => k = g ∨ k = b ∨ k ∈ es.map (·.1)
theorem Chg.toGrown {w w1 w2 : World} {P : Nat → Prop} {b : Nat} (h : Chg w w1 P) (hg : w1.grownBy w2 (some b)) (hb : P b) : Chg w w2 P :=
  ⟨hg.os.trans h.os, hg.tape.trans h.tape, hg.output.trans h.output, Nat.le_trans h.size hg.size, fun k hk hn => (hg.block k (Nat.lt_of_lt_of_le hk h.size) (by intro e; injection e with e; subst e; exact hn hb)).trans (h.block k hk hn)⟩
/-- The ring is as it was where the index has been written. -/
theorem RingAt.mapped {w w' : World} {g : Nat} {r : Rest} {n : Int} {es : List En} (h : RingAt w g r n es) {P : Program} {kt : TypeId} {b M : Nat} {m : Lit → Option Value} (hm : MapAt w P kt b m M) (hg : w.grownBy w' (some b)) : RingAt w' g r n es := by
  obtain ⟨N, ⟨⟨k0, v0, v1, hk⟩, he⟩, hl⟩ := h.ex
  exact ⟨⟨N, ⟨⟨k0, v0, v1, hk.kept (hg.block _ hk.lt (fun e => hm.ne hk (by injection e)))⟩, fun p k v hp => (he p k v hp).kept (hg.block _ (he p k v hp).lt (fun e => hm.ne (he p k v hp) (by injection e)))⟩, hl⟩, h.nd⟩
/-- The index is as it was where the ring has been turned. -/
theorem MapAt.ringed {w w' : World} {g : Nat} {r : Rest} {n : Int} {es : List En} (h : RingAt w g r n es) {P : Program} {kt : TypeId} {b M : Nat} {m : Lit → Option Value} (hm : MapAt w P kt b m M) (hc : Chg w w' (fun k => k ∈ g :: es.map (·.1))) : MapAt w' P kt b m M := by
  refine hm.kept (hc.block b hm.lt ?_)
  obtain ⟨N, ⟨⟨k0, v0, v1, hk⟩, he⟩, hl⟩ := h.ex
  intro hb
  rcases List.mem_cons.1 hb with h1 | h1
  · exact hm.ne hk h1.symm
  · obtain ⟨⟨p, k, v⟩, hp, rfl⟩ := List.mem_map.1 h1
    exact hm.ne (he p k v hp) rfl
theorem lit_inj {k k' : Int} (h : (.int .i64 k : Lit) = .int .i64 k') : k = k' := by injection h
theorem find_none_of {es : List En} {k : Int} (h : k ∉ es.map (·.2.1)) : es.find? (fun t => decide (t.2.1 = k)) = none := by
  rw [List.find?_eq_none]
  intro t ht
  simp
  rintro rfl
  exact h (List.mem_map.2 ⟨t, ht, rfl⟩)
theorem find_some_of {e1 e2 : List En} {e : Nat} {k : Int} {v : Int × Int} (h : ((e1 ++ (e, k, v) :: e2).map (·.2.1)).Nodup) : (e1 ++ (e, k, v) :: e2).find? (fun t => decide (t.2.1 = k)) = some (e, k, v) := by
  rw [List.find?_append]
  rw [List.map_append, List.map_cons] at h
  have hn : e1.find? (fun t => decide (t.2.1 = k)) = none := find_none_of (fun hm => (List.nodup_append.1 h).2.2 k hm k (by simp) rfl)
  rw [hn]
  simp
theorem find_other {e1 e2 : List En} {e : Nat} {k k' : Int} {v : Int × Int} (h : k' ≠ k) : (e1 ++ (e, k, v) :: e2).find? (fun t => decide (t.2.1 = k')) = (e1 ++ e2).find? (fun t => decide (t.2.1 = k')) := by
  rw [List.find?_append, List.find?_append, List.find?_cons]
  have : decide ((e, k, v).2.1 = k') = false := by simp; exact Ne.symm h
  rw [this]

set_option maxRecDepth 100000 in
set_option maxHeartbeats 4000000 in
theorem forget_any {B g b size e : Nat} {k : Int} {v : Int × Int} {e1 e2 : List En} {f m : Int} (w : World) (h : CAt w B g b size (e1 ++ (e, k, v) :: e2) f m) :
    Calls Try.prog 18 #[.pointer (some ⟨g, 0, none⟩), .pointer (some ⟨e, 0, none⟩)] w fun x w' => x = .returned (.tuple #[]) ∧ CAt w' B g b size (e1 ++ e2) f m ∧ Chg w w' (CB g b (e1 ++ (e, k, v) :: e2)) := by
  have hk : -9223372036854775808 ≤ k ∧ k ≤ 9223372036854775807 := h.kr e k v (by simp)
  obtain ⟨mm, hm, hf⟩ := h.map
  obtain ⟨N, hN, hL⟩ := h.ring.ex
  have hwe := hN.ent e k v (by simp)
  obtain ⟨_, _, d6, _, _, _, _, _⟩ := hN.counts
  have c0 : w.cell? ⟨e, 0, none⟩ = some (Value.int .i64 k) := by rw [hwe.cell]; rfl
  have HF := Lib.hid (findable_any k w)
  have hmd : MapAt w.drew Try.prog 3 b mm (e1 ++ (e, k, v) :: e2).length := hm.kept rfl
  have hfe : mm (.int .i64 k) = some (at_ e) := by rw [hf k hk, find_some_of h.keys]; rfl
  obtain ⟨w2, hrun, hm2, hg2, hs2⟩ := hmd.drop Try.keyed Try.underlying44 (Try.zeroE _) (key_of k hk) 0
  rw [hfe] at hm2
  have hlen : (e1 ++ (e, k, v) :: e2).length = (e1 ++ e2).length + 1 := by simp; omega
  have hr2 : RingAt w2 g ⟨size, b, f, m⟩ (((e1 ++ e2).length : Int) + 1) (e1 ++ (e, k, v) :: e2) := by
    have h1 : RingAt w.drew g ⟨size, b, f, m⟩ ((e1 ++ (e, k, v) :: e2).length : Int) (e1 ++ (e, k, v) :: e2) := h.ring.below (below_drewN w 1)
    have h2 := h1.mapped hmd hg2
    rw [hlen] at h2
    simpa using h2
  have HR := Lib.hid (remove_any w2 hr2 (by have := h.len; have := h.hi; omega))
  have HR2 := Lib.hid hr2
  have H := Lib.hid h
  have HM := Lib.hid hm2
  have HMF := Lib.hid hf
  have HC := Lib.hid (Chg.toGrown ((Chg.refl w (CB g b (e1 ++ (e, k, v) :: e2))).drew) hg2 (.inr (.inl rfl)))
  clear h hm hf hN hL hwe hmd hfe hm2 hg2 hs2 hr2 hlen
  go_enter Try.func18, Try.ntmps18
  go_wp2_with fail
  refine HF.out.mono ?_
  rintro x w1 ⟨rfl, rfl⟩
  go_wp2_with fail
  go_region
  all_goals go_wp2_with fail
  all_goals
    refine HR.out.mono ?_
    rintro x w3 ⟨rfl, hr, hw, hc⟩
    have hm3 := MapAt.ringed HR2.out HM.out hc
    have hC := HC.out.trans (hc.mono (Q := CB g b (e1 ++ (e, k, v) :: e2)) (fun p _ hp => by rcases List.mem_cons.1 hp with h1 | h1; exact .inl h1; exact .inr (.inr h1)))
    have hkk : ((e1 ++ e2).map (·.2.1)).Nodup := by
      have := H.out.keys
      rw [List.map_append, List.map_cons] at this
      rw [List.map_append]
      exact this.sublist (List.Sublist.append_left (List.sublist_cons_self _ _) _)
    have hsub : ∀ t, t ∈ e1 ++ e2 → t ∈ e1 ++ (e, k, v) :: e2 := fun t ht => by
      rcases List.mem_append.1 ht with h1 | h1
      · exact List.mem_append_left _ h1
      · exact List.mem_append_right _ (List.mem_cons_of_mem _ h1)
    have hcat : CAt w3 B g b size (e1 ++ e2) f m := by
      refine ⟨hr, ⟨_, by simpa using hm3, fun k' hk' => ?_⟩, hkk, fun p k' v' hp => H.out.kr p k' v' (hsub _ hp), by have := H.out.len; simp at this ⊢; omega, H.out.lo, H.out.hi, H.out.geg, H.out.geb, fun p hp => ?_⟩
      · by_cases hkk' : k' = k
        · subst hkk'
          rw [mset_same (Try.keyed.key (key_of k' hk'))]
          have h1 := H.out.keys
          rw [List.map_append, List.map_cons] at h1
          rw [find_none_of]
          · rfl
          · rw [List.map_append]
            intro hm
            rcases List.mem_append.1 hm with h2 | h2
            · exact (List.nodup_append.1 h1).2.2 k' h2 k' (by simp) rfl
            · exact (List.nodup_cons.1 (List.nodup_append.1 h1).2.1).1 h2
        · rw [mset_other (fun e => hkk' (lit_inj e)), HMF.out k' hk', find_other hkk']
      · obtain ⟨t, ht, rfl⟩ := List.mem_map.1 hp
        exact H.out.gep _ (List.mem_map.2 ⟨t, hsub t ht, rfl⟩)
    have HCA := Lib.hid hcat
    have HCC := Lib.hid hC
    clear hr hw hc hm3 hC hkk hsub hcat
    go_wp2
    go_end0
    exact ⟨rfl, HCA.out, HCC.out⟩
end Go.Proofs.Ytofjpbpfjjohdaa.KA
