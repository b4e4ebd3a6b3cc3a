/- The cache of string,int: Put. -/
import Derived.Test.YtofjpbpfjjohdaaK5SI
namespace Go.Proofs.Ytofjpbpfjjohdaa.KS
open Go.RowKit Go.Proofs.Ytofjpbpfjjohdaa
open Go.Maps (Keyed)

/-- What becomes of a cache's entries by a Put. -/
def PutTo (w : World) (size : Nat) (k : ByteArray) (v : Int) (es es' : List En) : Prop :=
  (∃ e1 e e2 v0, es = e1 ++ (e, k, v0) :: e2 ∧ es' = (e, k, v) :: (e1 ++ e2)) ∨
  (k ∉ es.map (·.2.1) ∧ ∃ e, w.heap.size ≤ e ∧ es' = (e, k, v) :: (if es.length = size then es.dropLast else es))
def PutPost (w : World) (B g b size : Nat) (k : ByteArray) (v : Int) (es : List En) (f m : Int) (x : Ending) (w' : World) : Prop :=
  x = .returned (.tuple #[]) ∧ ∃ es', CAt w' B g b size es' f m ∧ PutTo w size k v es es' ∧ Chg w w' (CB g b es)
theorem RingAt.value {w : World} {g e : Nat} {r : Rest} {n : Int} {k : ByteArray} {v0 v : Int} {e1 e2 : List En} (h : RingAt w g r n (e1 ++ (e, k, v0) :: e2)) : RingAt (w.setCell ⟨e, 1, none⟩ (Value.int .i64 v)) g r n (e1 ++ (e, k, v) :: e2) := by
  obtain ⟨N, hN, hl⟩ := h.ex
  have hnd := h.nd
  rw [List.map_append, List.map_cons] at hl hnd
  obtain ⟨kk, vv, hk⟩ := hN.knot
  have hwe := hN.ent e k v0 (by simp)
  have hge := whole_ne hk hwe (by decide)
  refine ⟨⟨N, ⟨⟨kk, vv, hk.kept (Below.heap_setCell _ _ _ _ hge)⟩, fun p k' v' hp => ?_⟩, by rw [List.map_append, List.map_cons]; exact hl⟩, by rw [List.map_append, List.map_cons]; exact hnd⟩
  have hother : ∀ t, t ∈ e1 ∨ t ∈ e2 → t.1 ≠ e := by
    rintro t ht rfl
    have h2 := (List.nodup_cons.1 hnd).2
    rcases ht with h1 | h1
    · exact (List.nodup_append.1 h2).2.2 t.1 (List.mem_map.2 ⟨t, h1, rfl⟩) t.1 (by simp) rfl
    · exact (List.nodup_cons.1 (List.nodup_append.1 h2).2.1).1 (List.mem_map.2 ⟨t, h1, rfl⟩)
  rcases List.mem_append.1 hp with h1 | h1
  · exact (hN.ent p k' v' (List.mem_append_left _ h1)).kept (Below.heap_setCell _ _ _ _ (hother _ (.inl h1)))
  · rcases List.mem_cons.1 h1 with h1 | h1
    · injection h1 with h1 h2
      injection h2 with h2 h3
      subst h1 h2
      rw [h3]
      simpa using hwe.store 1 (Value.int .i64 v)
    · exact (hN.ent p k' v' (List.mem_append_right _ (List.mem_cons_of_mem _ h1))).kept (Below.heap_setCell _ _ _ _ (hother _ (.inr h1)))
theorem split_of {es : List En} {k : ByteArray} (h : k ∈ es.map (·.2.1)) : ∃ e1 e v0 e2, es = e1 ++ (e, k, v0) :: e2 := by
  obtain ⟨⟨e, k', v0⟩, hm, rfl⟩ := List.mem_map.1 h
  obtain ⟨e1, e2, rfl⟩ := List.append_of_mem hm
  exact ⟨e1, e, v0, e2, rfl⟩
theorem CAt.front2 {w : World} {B g b size e : Nat} {k : ByteArray} {v v0 : Int} {e1 e2 : List En} {f m f' m' : Int} {w' : World} (h : CAt w B g b size (e1 ++ (e, k, v0) :: e2) f m) (hr : RingAt w' g ⟨size, b, f', m'⟩ (((e1 ++ e2).length : Int) + 1) ((e, k, v) :: (e1 ++ e2))) (hb : w'.heap[b]? = w.heap[b]?) : CAt w' B g b size ((e, k, v) :: (e1 ++ e2)) f' m' := by
  obtain ⟨mm, hm, hf⟩ := h.map
  have hlen : (e1 ++ (e, k, v0) :: e2).length = ((e, k, v) :: (e1 ++ e2)).length := by simp; omega
  have hperm : ((e, k, v) :: (e1 ++ e2)).map (·.2.1) = k :: (e1 ++ e2).map (·.2.1) := rfl
  have hkeys := h.keys
  rw [List.map_append, List.map_cons] at hkeys
  have hk2 : k ∉ (e1 ++ e2).map (·.2.1) := by
    rw [List.map_append]
    intro hx
    rcases List.mem_append.1 hx with h2 | h2
    · exact (List.nodup_append.1 hkeys).2.2 k h2 k (by simp) rfl
    · exact (List.nodup_cons.1 (List.nodup_append.1 hkeys).2.1).1 h2
  have hsub : ∀ t, t ∈ e1 ++ e2 → t ∈ e1 ++ (e, k, v0) :: e2 := fun t ht => by
    rcases List.mem_append.1 ht with h1 | h1
    · exact List.mem_append_left _ h1
    · exact List.mem_append_right _ (List.mem_cons_of_mem _ h1)
  refine ⟨by simpa using hr, ⟨mm, by rw [← hlen]; exact hm.kept hb, fun k' hk' => ?_⟩, ?_, fun p k' v' hp => ?_, by rw [← hlen]; exact h.len, h.lo, h.hi, h.geg, h.geb, fun p hp => ?_⟩
  · rw [hf k' hk']
    by_cases hkk : k' = k
    · subst hkk
      rw [find_some_of h.keys]
      simp
    · rw [find_other hkk, List.find?_cons]
      have : decide ((e, k, v).2.1 = k') = false := by simp; exact Ne.symm hkk
      rw [this]
  · rw [hperm]
    refine List.nodup_cons.2 ⟨hk2, ?_⟩
    rw [List.map_append]
    exact hkeys.sublist (List.Sublist.append_left (List.sublist_cons_self _ _) _)
  · rcases List.mem_cons.1 hp with h1 | h1
    · injection h1 with h1 h2
      injection h2 with h2 h3
      subst h1 h2 h3
      exact h.kr p k' v0 (by simp)
    · exact h.kr p k' v' (hsub _ h1)
  · rw [List.map_cons] at hp
    rcases List.mem_cons.1 hp with h1 | h1
    · exact h.gep p (by rw [h1]; simp)
    · obtain ⟨t, ht, rfl⟩ := List.mem_map.1 h1
      exact h.gep _ (List.mem_map.2 ⟨t, hsub t ht, rfl⟩)

set_option maxRecDepth 100000 in
set_option maxHeartbeats 4000000 in
theorem Put_there {B g b size : Nat} {es : List En} {f m : Int} (k : ByteArray) (v : Int) (w : World) (h : CAt w B g b size es f m) (hk : k.size ≤ 9223372036854775807) (hin : k ∈ es.map (·.2.1)) :
    Calls Try.prog 11 #[.pointer (some ⟨g, 0, none⟩), Value.string k, Value.int .i64 v] w fun x w' => PutPost w B g b size k v es f m x w' := by
  obtain ⟨e1, e, v0, e2, rfl⟩ := split_of hin
  have HFI := Lib.hid (find_any k w h hk)
  have hfv : findV (e1 ++ (e, k, v0) :: e2) k = .pointer (some ⟨e, 0, none⟩) := by
    unfold findV
    rw [find_some_of h.keys]
    rfl
  rw [hfv] at HFI
  obtain ⟨N, hN, _⟩ := h.ring.ex
  have hwe := hN.ent e k v0 (by simp)
  have c1 : w.cell? ⟨e, 1, none⟩ = some (Value.int .i64 v0) := by rw [hwe.cell]; rfl
  have z1 := hwe.free 1
  have hlen : (e1 ++ (e, k, v0) :: e2).length = (e1 ++ e2).length + 1 := by simp; omega
  have hr := h.ring.value (v := v)
  rw [hlen] at hr
  have hr' : RingAt (w.setCell ⟨e, 1, none⟩ (Value.int .i64 v)) g ⟨size, b, f, m⟩ (((e1 ++ e2).length : Int) + 1) (e1 ++ (e, k, v) :: e2) := by simpa using hr
  have HU := Lib.hid (use_any _ hr' (by have := h.len; have := h.hi; omega))
  have H := Lib.hid h
  have HWE := Lib.hid hwe
  clear hfv hN hwe hr hr' h hk hin hlen
  go_enter Try.func11, Try.ntmps11
  go_wp2_with fail
  refine HFI.out.mono ?_
  rintro x w1 ⟨rfl, rfl⟩
  go_wp2_with fail
  refine HU.out.mono ?_
  rintro x w3 ⟨rfl, hr, hc⟩
  obtain ⟨mm, hm, _⟩ := H.out.map
  have hbk : w3.heap[b]? = w.heap[b]? := by
    have h1 : (w.setCell ⟨e, 1, none⟩ (Value.int .i64 v)).heap[b]? = w.heap[b]? := Below.heap_setCell _ _ _ _ (hm.ne HWE.out).symm
    have h2 : MapAt (w.setCell ⟨e, 1, none⟩ (Value.int .i64 v)) Try.prog 9 b mm _ := hm.kept h1
    rw [← h1]
    refine hc.block b h2.lt ?_
    obtain ⟨N, hN, _⟩ := H.out.ring.ex
    obtain ⟨kk, vv, hkn⟩ := hN.knot
    intro hb
    rcases List.mem_cons.1 hb with h3 | h3
    · exact hm.ne hkn h3.symm
    · rw [List.map_append, List.map_cons] at h3
      rcases List.mem_append.1 h3 with h4 | h4
      · obtain ⟨⟨p, k', v'⟩, hp, rfl⟩ := List.mem_map.1 h4
        exact hm.ne (hN.ent p k' v' (List.mem_append_left _ hp)) rfl
      · rcases List.mem_cons.1 h4 with h5 | h5
        · exact hm.ne HWE.out h5.symm
        · obtain ⟨⟨p, k', v'⟩, hp, rfl⟩ := List.mem_map.1 h5
          exact hm.ne (hN.ent p k' v' (List.mem_append_right _ (List.mem_cons_of_mem _ hp))) rfl
  have hcat := CAt.front2 H.out hr hbk
  have hC : Chg w w3 (CB g b (e1 ++ (e, k, v0) :: e2)) := ((Chg.refl w (CB g b (e1 ++ (e, k, v0) :: e2))).set (b := e) (.inr (.inr (by simp))) 1 (Value.int .i64 v)).trans (hc.mono (Q := CB g b (e1 ++ (e, k, v0) :: e2)) (fun p _ hp => by
    rcases List.mem_cons.1 hp with h1 | h1
    · exact .inl h1
    · rw [List.map_append, List.map_cons] at h1
      exact .inr (.inr (by rw [List.map_append, List.map_cons]; exact h1))))
  have HQ := Lib.hid (show PutPost w B g b size k v (e1 ++ (e, k, v0) :: e2) f m (.returned (.tuple #[])) w3 from ⟨rfl, _, hcat, .inl ⟨e1, e, e2, v0, rfl, rfl⟩, hC⟩)
  clear hr hc hm hbk hcat hC
  go_wp2
  go_end0
  exact HQ.out
end Go.Proofs.Ytofjpbpfjjohdaa.KS
