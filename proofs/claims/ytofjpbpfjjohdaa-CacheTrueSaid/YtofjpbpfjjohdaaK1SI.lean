/- The cache of string,int: its ring. -/
import Derived.Test.YtofjpbpfjjohdaaK0
namespace Go.Proofs.Ytofjpbpfjjohdaa.KS
open Go.RowKit Go.Proofs.Ytofjpbpfjjohdaa

abbrev En := Nat × ByteArray × Int
/-- What lies in the cache's block behind the ring. -/
structure Rest where
  size : Int
  b : Nat
  f : Int
  m : Int
/-- The nodes as they lie: the cache's own block (the knot) and the entries'. -/
structure Nodes (w : World) (g : Nat) (r : Rest) (n : Int) (N : Nat → Value × Value) (es : List En) : Prop where
  knot : ∃ k0 v0, Whole w g 66 #[k0, v0, (N g).1, (N g).2, .int .i64 n, .int .i64 r.size, .map (some r.b), .int .i64 r.f, .int .i64 r.m]
  ent : ∀ p k v, (p, k, v) ∈ es → Whole w p 62 #[Value.string k, Value.int .i64 v, (N p).1, (N p).2]
/-- The ring: its nodes, tied in their order. -/
structure RingAt (w : World) (g : Nat) (r : Rest) (n : Int) (es : List En) : Prop where
  ex : ∃ N, Nodes w g r n N es ∧ Linked N g (es.map (·.1)) g
  nd : (g :: es.map (·.1)).Nodup
/-- Only these blocks, and new memory, are other than they were. -/
structure Chg (w w' : World) (P : Nat → Prop) : Prop where
  os : w'.os = w.os
  tape : w'.tape = w.tape
  output : w'.output = w.output
  size : w.heap.size ≤ w'.heap.size
  block : ∀ k, k < w.heap.size → ¬ P k → w'.heap[k]? = w.heap[k]?
theorem Chg.refl (w : World) (P : Nat → Prop) : Chg w w P := ⟨rfl, rfl, rfl, Nat.le_refl _, fun _ _ _ => rfl⟩
theorem Chg.set {w w' : World} {P : Nat → Prop} (h : Chg w w' P) {b : Nat} (hb : P b) (i : Nat) (u : Value) : Chg w (w'.setCell ⟨b, i, none⟩ u) P :=
  ⟨h.os, h.tape, h.output, by simpa [World.setCell] using h.size, fun k hk hn => (Below.heap_setCell w' ⟨b, i, none⟩ u k (by rintro rfl; exact hn hb)).trans (h.block k hk hn)⟩
theorem Chg.drew {w w' : World} {P : Nat → Prop} (h : Chg w w' P) : Chg w w'.drew P := ⟨h.os, h.tape, h.output, h.size, h.block⟩
theorem Chg.drewN {w w' : World} {P : Nat → Prop} (h : Chg w w' P) (n : Nat) : Chg w (w'.drewN n) P := ⟨h.os, h.tape, h.output, h.size, h.block⟩
theorem Chg.trans {a b c : World} {P : Nat → Prop} (h : Chg a b P) (k : Chg b c P) : Chg a c P :=
  ⟨k.os.trans h.os, k.tape.trans h.tape, k.output.trans h.output, Nat.le_trans h.size k.size, fun i hi hn => (k.block i (Nat.lt_of_lt_of_le hi h.size) hn).trans (h.block i hi hn)⟩
theorem Chg.mono {w w' : World} {P Q : Nat → Prop} (h : Chg w w' P) (hpq : ∀ k, k < w.heap.size → P k → Q k) : Chg w w' Q := ⟨h.os, h.tape, h.output, h.size, fun k hk hn => h.block k hk (fun hp => hn (hpq k hk hp))⟩
theorem Chg.ofBelow {w w' : World} (P : Nat → Prop) (h : Below w.heap.size w w') : Chg w w' P := ⟨h.os, h.tape, h.output, h.size, fun k hk _ => h.block k hk⟩
theorem Chg.below {w w' : World} {P : Nat → Prop} {B : Nat} (h : Chg w w' P) (hP : ∀ k, P k → B ≤ k) (hB : B ≤ w.heap.size) : Below B w w' := ⟨h.os, h.tape, h.output, h.size, fun k hk => h.block k (by omega) (fun hp => by have := hP k hp; omega)⟩

theorem Nodes.ne {w : World} {g p : Nat} {r : Rest} {n : Int} {N : Nat → Value × Value} {es : List En} {k : ByteArray} {v : Int} (h : Nodes w g r n N es) (hp : (p, k, v) ∈ es) : g ≠ p := by
  obtain ⟨k0, v0, hk⟩ := h.knot
  exact whole_ne hk (h.ent p k v hp) (by decide)
/-- One link of one node is written. -/
theorem Nodes.setN {w : World} {g b : Nat} {r : Rest} {n : Int} {N : Nat → Value × Value} {es : List En} (h : Nodes w g r n N es) (u : Value) : Nodes (w.setCell ⟨b, 2, none⟩ u) g r n (setN N b u) es := by
  refine ⟨?_, fun p k v hp => ?_⟩
  · obtain ⟨k0, v0, hk⟩ := h.knot
    refine ⟨k0, v0, ?_⟩
    by_cases e : g = b
    · subst e
      rw [setN_same]
      simpa using hk.store 2 u
    · rw [setN_other _ _ e]
      exact hk.kept (Below.heap_setCell _ _ _ _ e)
  · have hw := h.ent p k v hp
    by_cases e : p = b
    · subst e
      rw [setN_same]
      simpa using hw.store 2 u
    · rw [setN_other _ _ e]
      exact hw.kept (Below.heap_setCell _ _ _ _ e)
theorem Nodes.setO {w : World} {g b : Nat} {r : Rest} {n : Int} {N : Nat → Value × Value} {es : List En} (h : Nodes w g r n N es) (u : Value) : Nodes (w.setCell ⟨b, 3, none⟩ u) g r n (setO N b u) es := by
  refine ⟨?_, fun p k v hp => ?_⟩
  · obtain ⟨k0, v0, hk⟩ := h.knot
    refine ⟨k0, v0, ?_⟩
    by_cases e : g = b
    · subst e
      rw [setO_same]
      simpa using hk.store 3 u
    · rw [setO_other _ _ e]
      exact hk.kept (Below.heap_setCell _ _ _ _ e)
  · have hw := h.ent p k v hp
    by_cases e : p = b
    · subst e
      rw [setO_same]
      simpa using hw.store 3 u
    · rw [setO_other _ _ e]
      exact hw.kept (Below.heap_setCell _ _ _ _ e)
theorem Nodes.count {w : World} {g : Nat} {r : Rest} {n : Int} {N : Nat → Value × Value} {es : List En} (h : Nodes w g r n N es) (n' : Int) : Nodes (w.setCell ⟨g, 4, none⟩ (.int .i64 n')) g r n' N es := by
  obtain ⟨k0, v0, hk⟩ := h.knot
  refine ⟨⟨k0, v0, by simpa using hk.store 4 (.int .i64 n')⟩, fun p k v hp => (h.ent p k v hp).kept (Below.heap_setCell _ _ _ _ (h.ne hp).symm)⟩
theorem Nodes.drew {w : World} {g : Nat} {r : Rest} {n : Int} {N : Nat → Value × Value} {es : List En} (h : Nodes w g r n N es) : Nodes w.drew g r n N es := ⟨h.knot, h.ent⟩
theorem Nodes.sub {w : World} {g : Nat} {r : Rest} {n : Int} {N : Nat → Value × Value} {es es' : List En} (h : Nodes w g r n N es) (hs : ∀ t ∈ es', t ∈ es) : Nodes w g r n N es' := ⟨h.knot, fun p k v hp => h.ent p k v (hs _ hp)⟩
/-- A node's two links, as cells. -/
theorem Nodes.cells {w : World} {g b : Nat} {r : Rest} {n : Int} {N : Nat → Value × Value} {es : List En} (h : Nodes w g r n N es) (hb : b ∈ g :: es.map (·.1)) :
    w.cell? ⟨b, 2, none⟩ = some (N b).1 ∧ w.cell? ⟨b, 3, none⟩ = some (N b).2 ∧ w.frozen? ⟨b, 2, none⟩ = false ∧ w.frozen? ⟨b, 3, none⟩ = false ∧ b < w.heap.size := by
  rcases List.mem_cons.1 hb with rfl | hb
  · obtain ⟨k0, v0, hk⟩ := h.knot
    exact ⟨by rw [hk.cell]; rfl, by rw [hk.cell]; rfl, hk.free _, hk.free _, hk.lt⟩
  · obtain ⟨⟨p, k, v⟩, hp, rfl⟩ := List.mem_map.1 hb
    have hk := h.ent p k v hp
    exact ⟨by rw [hk.cell]; rfl, by rw [hk.cell]; rfl, hk.free _, hk.free _, hk.lt⟩
theorem Nodes.counts {w : World} {g : Nat} {r : Rest} {n : Int} {N : Nat → Value × Value} {es : List En} (h : Nodes w g r n N es) :
    w.cell? ⟨g, 4, none⟩ = some (.int .i64 n) ∧ w.cell? ⟨g, 5, none⟩ = some (.int .i64 r.size) ∧ w.cell? ⟨g, 6, none⟩ = some (.map (some r.b)) ∧ w.cell? ⟨g, 7, none⟩ = some (.int .i64 r.f) ∧ w.cell? ⟨g, 8, none⟩ = some (.int .i64 r.m) ∧ w.frozen? ⟨g, 4, none⟩ = false ∧ w.frozen? ⟨g, 7, none⟩ = false ∧ w.frozen? ⟨g, 8, none⟩ = false := by
  obtain ⟨k0, v0, hk⟩ := h.knot
  exact ⟨by rw [hk.cell]; rfl, by rw [hk.cell]; rfl, by rw [hk.cell]; rfl, by rw [hk.cell]; rfl, by rw [hk.cell]; rfl, hk.free _, hk.free _, hk.free _⟩

set_option maxRecDepth 100000 in
set_option maxHeartbeats 4000000 in
theorem remove_any {g e : Nat} {r : Rest} {n : Nat} {k : ByteArray} {v : Int} {e1 e2 : List En} (w : World) (h : RingAt w g r ((n : Int) + 1) (e1 ++ (e, k, v) :: e2)) (hn : n ≤ 4096) :
    Calls Try.prog 32 #[.pointer (some ⟨g, 0, none⟩), .pointer (some ⟨e, 0, none⟩)] w fun x w' => x = .returned (.tuple #[]) ∧ RingAt w' g r n (e1 ++ e2) ∧ Whole w' e 62 #[Value.string k, Value.int .i64 v, .pointer none, .pointer none] ∧ Chg w w' (fun b => b ∈ g :: (e1 ++ (e, k, v) :: e2).map (·.1)) := by
  obtain ⟨N, hN, hL⟩ := h.ex
  have hnd := h.nd
  rw [List.map_append, List.map_cons] at hL hnd
  obtain ⟨hq, hh, hU⟩ := hL.unlink hnd
  obtain ⟨q, hqd⟩ : ∃ q, q = lastD g (e1.map (·.1)) := ⟨_, rfl⟩
  obtain ⟨t, htd⟩ : ∃ t, t = headD (e2.map (·.1)) g := ⟨_, rfl⟩
  have hqm : q ∈ g :: e1.map (·.1) := by rw [hqd]; exact lastD_mem _ _
  have htm : t ∈ e2.map (·.1) ++ [g] := by rw [htd]; exact headD_mem _ _
  rw [← hqd] at hq hU
  rw [← htd] at hh hU
  have hme : e ∈ g :: (e1 ++ (e, k, v) :: e2).map (·.1) := by simp
  have hmq : q ∈ g :: (e1 ++ (e, k, v) :: e2).map (·.1) := by
    rcases List.mem_cons.1 hqm with h1 | h1
    · simp [h1]
    · rw [List.map_append]; exact List.mem_cons_of_mem _ (List.mem_append_left _ h1)
  have hmt : t ∈ g :: (e1 ++ (e, k, v) :: e2).map (·.1) := by
    rcases List.mem_append.1 htm with h1 | h1
    · rw [List.map_append, List.map_cons]; exact List.mem_cons_of_mem _ (List.mem_append_right _ (List.mem_cons_of_mem _ h1))
    · simp at h1; simp [h1]
  obtain ⟨a1, a2, a3, a4, a5⟩ := hN.cells hme
  obtain ⟨b1, b2, b3, b4, b5⟩ := hN.cells hmq
  obtain ⟨c1, c2, c3, c4, c5⟩ := hN.cells hmt
  obtain ⟨d1, _, _, _, _, d2, _, _⟩ := hN.counts
  rw [hq] at a1
  rw [hh] at a2
  unfold at_ at a1 a2
  have hge : g ≠ e := hN.ne (k := k) (v := v) (by simp)
  have hqe : q ≠ e := by
    rintro rfl
    rcases List.mem_cons.1 hqm with h1 | h1
    · exact hge h1.symm
    · exact (List.nodup_append.1 (List.nodup_cons.1 hnd).2).2.2 q h1 q (by simp) rfl
  have hte : t ≠ e := by
    rintro rfl
    rcases List.mem_append.1 htm with h1 | h1
    · exact (List.nodup_cons.1 (List.nodup_append.1 (List.nodup_cons.1 hnd).2).2.1).1 h1
    · simp at h1; exact hge h1.symm
  have heg := hge.symm
  have heq := hqe.symm
  have het := hte.symm
  have hsub : IntKind.i64.wrap ((n : Int) + 1 - 1) = (n : Int) := by rw [IntWalk.i64_in _ (by omega)]; omega
  have hsub2 : (n : Int) + 1 - 1 = (n : Int) := by omega
  have HN := Lib.hid hN
  have HU := Lib.hid hU
  have HND := Lib.hid hnd
  have HMQ := Lib.hid hmq
  have HMT := Lib.hid hmt
  have HME := Lib.hid hme
  have hgl := (hN.cells (b := g) (by simp)).2.2.2.2
  generalize N q = Nq at *
  generalize N t = Nt at *
  clear hN hU hL hnd h hq hh hqd htd hqm htm hmq hmt hme
  go_enter Try.func32, Try.ntmps32
  go_wp2
  go_region
  all_goals go_wp2
  all_goals
    go_end0
    have h1 := HN.out.setO (b := q) (at_ t)
    have h2 := h1.setN (b := t) (at_ q)
    have h3 := (h2.setN (b := e) (.pointer none)).setO (b := e) (.pointer none)
    have h4 := h3.count (n : Int)
    have he4 := h4.ent e k v (by simp)
    rw [setO_same, setN_same] at he4
    have hgm : g ∈ g :: (e1 ++ (e, k, v) :: e2).map (·.1) := by simp
    refine ⟨rfl, ⟨⟨_, (h4.sub (es' := e1 ++ e2) (fun t ht => by simp at ht ⊢; rcases ht with h | h <;> simp [h])).drew, ?_⟩, ?_⟩, he4, (((((Chg.refl w _).set HMQ.out 3 _).set HMT.out 2 _).set HME.out 2 _).set HME.out 3 _).set hgm 4 _ |>.drew⟩
    · rw [List.map_append]
      refine HU.out.congr (fun p hp => ?_) (fun p hp => ?_)
      · rw [setO_other _ _ ?_, setN_snd]
        rintro rfl
        rcases List.mem_cons.1 hp with h1 | h1
        · exact heg h1
        · have h2 := (List.nodup_cons.1 HND.out).2
          rcases List.mem_append.1 h1 with h1 | h1
          · exact (List.nodup_append.1 h2).2.2 p h1 p (by simp) rfl
          · exact (List.nodup_cons.1 (List.nodup_append.1 h2).2.1).1 h1
      · rw [setO_fst, setN_other]
        rintro rfl
        rcases List.mem_append.1 hp with h1 | h1
        · have h2 := (List.nodup_cons.1 HND.out).2
          rcases List.mem_append.1 h1 with h1 | h1
          · exact (List.nodup_append.1 h2).2.2 p h1 p (by simp) rfl
          · exact (List.nodup_cons.1 (List.nodup_append.1 h2).2.1).1 h1
        · exact heg (by simpa using h1)
    · rw [List.map_append]
      refine (List.Sublist.nodup ?_ HND.out)
      exact List.Sublist.cons_cons _ (List.Sublist.append_left (List.sublist_cons_self _ _) _)
end Go.Proofs.Ytofjpbpfjjohdaa.KS
