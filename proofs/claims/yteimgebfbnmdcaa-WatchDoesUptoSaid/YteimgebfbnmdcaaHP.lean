/- What rows say changes: watch.ends. -/
import Derived.Test.YteimgebfbnmdcaaHO
namespace Go.Proofs.Yteimgebfbnmdcaa
open Go.RowKit Go.Shelf
open Go.Maps (Keyed)

theorem infoCh : (Try.prog.info? 53).map (fun i => (i.zero, i.size, i.bytes)) = some (some (.agg #[.int .i64 0, .bool false, .string ⟨#[]⟩, .string ⟨#[]⟩, .string ⟨#[]⟩]), 5, 64) := by kernel_rfl
theorem infoMu : (Try.prog.info? 51).map (fun i => (i.zero, i.size, i.bytes)) = some (some (.agg #[.bool false, .string ⟨#[]⟩, .string ⟨#[]⟩, .string ⟨#[]⟩]), 4, 56) := by kernel_rfl
/-- What a call writes behind some elements of its own. -/
structure OutE {α : Type} (T : TypeId) (k : Nat) (enc : α → List Value) (w wr : World) (v : Value) (L : List α) : Prop where
  below : Below w.heap.size w wr
  row : wr.ownsRow w.heap.size T k v L.length (L.flatMap enc)
theorem OutE.up {α : Type} {T : TypeId} {k : Nat} {enc : α → List Value} {w wr w' : World} {v : Value} {L : List α} (h : OutE T k enc w wr v L) (hb : Below wr.heap.size wr w') : OutE T k enc w w' v L :=
  ⟨bell_up h.below hb, owns_keptN h.row (fun k hk => hb.block k (h.row.lt k hk).2)⟩
theorem OutE.next {α : Type} {T : TypeId} {k : Nat} {enc : α → List Value} {w wr w' : World} {v v' : Value} {L : List α} (h : OutE T k enc w wr v L) (x : α) (hg : wr.grownBy w' v.ownBlock) (hown : w'.ownsRow w.heap.size T k v' (L.length + 1) (L.flatMap enc ++ enc x)) : OutE T k enc w w' v' (L ++ [x]) := by
  refine ⟨h.below.grown hg h.below.size (fun k e => (h.row.lt k e).1), ?_⟩
  rw [List.length_append, List.flatMap_append]
  simpa using hown
theorem own_new (W : World) (cs : Array Value) (e : TypeId) (k n B : Nat) (hc : cs.size = n * k) (hB : B ≤ W.heap.size) (hn : n ≤ maxLen) : (W.alloc (.cells cs e)).ownsRow B e k (.slice (some ⟨W.heap.size, 0, none⟩) n n) n cs.toList := by
  refine ⟨by simpa using hc, .inr ⟨W.heap.size, n, cs, rfl, hB, World.alloc_heap_new W _, Nat.le_refl _, hn, hc, ?_⟩⟩
  rw [List.take_of_length_le (by simp [hc])]
theorem fiveE_new (w : World) (x y z a b : Value) (t : TypeId) : ∀ j u, [x, y, z, a, b][j]? = some u → (w.alloc (.cells #[x, y, z, a, b] t)).cell? ((⟨w.heap.size, 0, none⟩ : Addr).add j) = some u := by
  intro j u hj
  rw [add_plain, Nat.zero_add, new_cell]
  simpa using hj
theorem fourE_new (w : World) (x y z a : Value) (t : TypeId) : ∀ j u, [x, y, z, a][j]? = some u → (w.alloc (.cells #[x, y, z, a] t)).cell? ((⟨w.heap.size, 0, none⟩ : Addr).add j) = some u := by
  intro j u hj
  rw [add_plain, Nat.zero_add, new_cell]
  simpa using hj
/-- The changes with which a row begins and ends. -/
def endsL (r : Rw) : List Ch := if r.u = 0 then [⟨r.s, false, r.t⟩] else if r.s < r.u then [⟨r.s, false, r.t⟩, ⟨r.u, true, r.t⟩] else []
theorem endsL_len (r : Rw) : (endsL r).length ≤ 2 := by
  unfold endsL
  split
  · simp
  · split <;> simp
set_option maxRecDepth 100000 in
set_option maxHeartbeats 4000000 in
theorem ends_any (w : World) (r : Rw) :
    Calls Try.prog 26 #[.agg (rw1 r).toArray] w fun e w' => ∃ v, e = .returned v ∧ OutE 53 5 chc w w' v (endsL r) := by
  obtain ⟨w3, hw3⟩ : ∃ w3, w3 = ((w.alloc (.cells (rw1 r).toArray 49)).alloc (.cells (chc ⟨r.s, false, r.t⟩).toArray 53)).alloc (.cells (chc ⟨r.u, true, r.t⟩).toArray 53) := ⟨_, rfl⟩
  have hb3 : Below w.heap.size w w3 := by rw [hw3]; exact bell_alloc (bell_alloc (below_alloc _ _) _) _
  have hs3 : w3.heap.size = w.heap.size + 3 := by rw [hw3]; simp
  have HB := Lib.hid hb3
  have HW := Lib.hid hw3
  have HS := Lib.hid hs3
  have he : endsL r = if r.u = 0 then [⟨r.s, false, r.t⟩] else if r.s < r.u then [⟨r.s, false, r.t⟩, ⟨r.u, true, r.t⟩] else [] := rfl
  have HE := Lib.hid he
  clear he hb3 hw3 hs3
  generalize endsL r = L at *
  unfold chc rw1 at HW
  unfold rw1
  by_cases h0 : r.u = 0
  · have h1 : (r.u == 0) = true := by simp [h0]
    have HN := Lib.hid (show (w3.alloc (.cells (chc ⟨r.s, false, r.t⟩).toArray 53)).ownsRow w.heap.size 53 5 (.slice (some ⟨w3.heap.size, 0, none⟩) 1 1) L.length (L.flatMap chc) from by
      rw [HE.out, if_pos h0]
      exact own_new w3 (chc ⟨r.s, false, r.t⟩).toArray 53 5 1 _ rfl (by have := HS.out; omega) (by decide))
    rw [HS.out, HW.out] at HN
    have HB2 := Lib.hid (bell_alloc HB.out (.cells (chc ⟨r.s, false, r.t⟩).toArray 53))
    rw [HW.out] at HB2
    unfold chc at HN HB2
    clear h0 HE HB HW HS
    go_enter Try.func26, Try.ntmps26
    go_wp2
    go_ret
    exact ⟨_, rfl, HB2.out, HN.out⟩
  · have h1 : (r.u == 0) = false := by simp [h0]
    by_cases h2 : r.s < r.u
    · have HN := Lib.hid (show (w3.alloc (.cells (chc ⟨r.s, false, r.t⟩ ++ chc ⟨r.u, true, r.t⟩).toArray 53)).ownsRow w.heap.size 53 5 (.slice (some ⟨w3.heap.size, 0, none⟩) 2 2) L.length (L.flatMap chc) from by
        rw [HE.out, if_neg h0, if_pos h2]
        exact own_new w3 (chc ⟨r.s, false, r.t⟩ ++ chc ⟨r.u, true, r.t⟩).toArray 53 5 2 _ rfl (by have := HS.out; omega) (by decide))
      rw [HS.out, HW.out] at HN
      have HB2 := Lib.hid (bell_alloc HB.out (.cells (chc ⟨r.s, false, r.t⟩ ++ chc ⟨r.u, true, r.t⟩).toArray 53))
      rw [HW.out] at HB2
      unfold chc at HN HB2
      clear h0 HE HB HW HS
      go_enter Try.func26, Try.ntmps26
      go_wp2
      go_ret
      exact ⟨_, rfl, HB2.out, HN.out⟩
    · have HN := Lib.hid (show w3.ownsRow w.heap.size 53 5 (.slice none 0 0) L.length (L.flatMap chc) from by
        rw [HE.out, if_neg h0, if_neg h2]
        exact World.ownsRow_nil _ _ _ _)
      rw [HW.out] at HN
      have HB2 := Lib.hid HB.out
      rw [HW.out] at HB2
      clear h0 HE HB HW HS
      go_enter Try.func26, Try.ntmps26
      go_wp2
      go_ret
      exact ⟨_, rfl, HB2.out, HN.out⟩
end Go.Proofs.Yteimgebfbnmdcaa
