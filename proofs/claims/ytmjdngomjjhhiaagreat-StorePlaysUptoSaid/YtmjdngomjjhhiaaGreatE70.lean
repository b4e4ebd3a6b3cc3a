/- The document's Collect. -/
import Derived.Test.YtmjdngomjjhhiaaGreatE66
import Derived.StillTailTactics
import Derived.Deep.RegionLaw
namespace Go.Proofs.YtmjdngomjjhhiaaGreat
open Go.RowKit
open Go.Maps (Keyed)

/-- A store of the document's that a call makes: what it was handed, its answer's place, the new one. -/
structure NewS (w wr : World) (sv : Value) (wm wn : Int) (v : Value) (L : List Rw) : Prop where
  x0 : Whole wr w.heap.size 28 #[sv, .int .i64 wm]
  x1 : Whole wr (w.heap.size + 1) 28 #[.slice none 0 0, .int .i64 0]
  x2 : Whole wr (w.heap.size + 2) 28 #[v, .int .i64 wn]
  row : wr.ownsRow (w.heap.size + 3) 46 5 v L.length (rwc L)
  bel : Below w.heap.size w wr
theorem NewS.up {w wr w' : World} {sv v : Value} {wm wn : Int} {L : List Rw} (h : NewS w wr sv wm wn v L) (hb : Below wr.heap.size wr w') : NewS w w' sv wm wn v L :=
  ⟨h.x0.kept (hb.block _ h.x0.lt), h.x1.kept (hb.block _ h.x1.lt), h.x2.kept (hb.block _ h.x2.lt), owns_keptN h.row (fun k hk => hb.block k (h.row.lt k hk).2), bell_up h.bel hb⟩
theorem NewS.next {w wr w' : World} {sv v v' : Value} {wm wn : Int} {L : List Rw} (h : NewS w wr sv wm wn v L) (r : Rw) (hg : wr.grownBy w' v.ownBlock) (hown : w'.ownsRow (w.heap.size + 3) 46 5 v' (L.length + 1) (rwc L ++ [.string r.t.o, .string r.t.r, .string r.t.u, .int .i64 r.s, .int .i64 r.u])) :
    Whole w' (w.heap.size + 2) 28 #[v, .int .i64 wn] ∧ NewS w (w'.setCell ⟨w.heap.size + 2, 0, none⟩ v') sv wm wn v' (L ++ [r]) := by
  have hne : ∀ k, k < w.heap.size + 3 → some k ≠ v.ownBlock := fun k hk e => by have := (h.row.lt k e.symm).1; omega
  have k2 := h.x2.kept (hg.block _ h.x2.lt (hne _ (by omega)))
  refine ⟨k2, ?_, ?_, k2.store 0 v', ?_, ?_⟩
  · exact (h.x0.kept (hg.block _ h.x0.lt (hne _ (by omega)))).kept (Below.heap_setCell w' ⟨w.heap.size + 2, 0, none⟩ _ _ (by show w.heap.size ≠ w.heap.size + 2; omega))
  · exact (h.x1.kept (hg.block _ h.x1.lt (hne _ (by omega)))).kept (Below.heap_setCell w' ⟨w.heap.size + 2, 0, none⟩ _ _ (by show w.heap.size + 1 ≠ w.heap.size + 2; omega))
  · rw [List.length_append, rwc_append]
    exact owns_keptN hown (fun k hk => Below.heap_setCell w' ⟨w.heap.size + 2, 0, none⟩ _ k (by show k ≠ w.heap.size + 2; have := (hown.lt k hk).1; omega))
  · exact (h.bel.grown hg h.bel.size (fun k e => by have := (h.row.lt k e).1; omega)).setCell (p := ⟨w.heap.size + 2, 0, none⟩) (by show w.heap.size ≤ w.heap.size + 2; omega) _
theorem NewS.start (w : World) (sv : Value) (wm wn : Int) : NewS w (((w.alloc (.cells #[sv, .int .i64 wm] 28)).alloc (.cells #[.slice none 0 0, .int .i64 0] 28)).alloc (.cells #[.slice none 0 0, .int .i64 wn] 28)) sv wm wn nilS [] := by
  have a1 := below_alloc w (.cells #[sv, .int .i64 wm] 28)
  have e1 := heap_alloc_new w (.cells #[sv, .int .i64 wm] 28)
  have s1 : (w.alloc (.cells #[sv, .int .i64 wm] 28)).heap.size = w.heap.size + 1 := by simp
  have x1 : Whole (w.alloc (.cells #[sv, .int .i64 wm] 28)) w.heap.size 28 #[sv, .int .i64 wm] := e1
  clear e1
  generalize w.alloc (.cells #[sv, .int .i64 wm] 28) = W1 at *
  have a2 := below_alloc W1 (.cells #[.slice none 0 0, .int .i64 0] 28)
  have s2 : (W1.alloc (.cells #[.slice none 0 0, .int .i64 0] 28)).heap.size = W1.heap.size + 1 := by simp
  have x2 : Whole (W1.alloc (.cells #[.slice none 0 0, .int .i64 0] 28)) W1.heap.size 28 #[.slice none 0 0, .int .i64 0] := heap_alloc_new _ _
  generalize W1.alloc (.cells #[.slice none 0 0, .int .i64 0] 28) = W2 at *
  have a3 := below_alloc W2 (.cells #[.slice none 0 0, .int .i64 wn] 28)
  have x3 : Whole (W2.alloc (.cells #[.slice none 0 0, .int .i64 wn] 28)) W2.heap.size 28 #[.slice none 0 0, .int .i64 wn] := heap_alloc_new _ _
  generalize W2.alloc (.cells #[.slice none 0 0, .int .i64 wn] 28) = W3 at *
  have y1 := x1.kept (a2.block _ x1.lt)
  have z1 := y1.kept (a3.block _ y1.lt)
  have z2 := x2.kept (a3.block _ x2.lt)
  rw [s1] at z2
  rw [s2, s1] at x3
  exact ⟨z1, z2, x3, World.ownsRow_nil _ _ _ _, bell_up (bell_up a1 a2) a3⟩
def goneB (rev : Int) (x : Rw) : Bool := decide (x.u = 0) || decide (rev < x.u)
theorem collectR_take {R : List Rw} {i : Nat} {x : Rw} (rev : Int) (h : R[i]? = some x) : collectR (R.take (i + 1)) rev = if goneB rev x = true then collectR (R.take i) rev ++ [x] else collectR (R.take i) rev := by
  unfold collectR goneB
  rw [List.take_add_one, h, List.filter_append]
  show _ ++ List.filter _ [x] = _
  rw [List.filter_cons]
  split
  · rfl
  · exact List.append_nil _
theorem collectR_le (R : List Rw) (rev : Int) (i : Nat) : (collectR (R.take i) rev).length ≤ i := by
  unfold collectR
  have := List.length_filter_le (fun x : Rw => decide (x.u = 0) || decide (rev < x.u)) (R.take i)
  rw [List.length_take] at this
  omega
set_option maxHeartbeats 8000000 in
set_option maxRecDepth 100000 in
theorem rcollect_any {ra : Option Addr} {n rc : Nat} {R : List Rw} {w : World} (hR : RowsAt w ra n R) (hn : n ≤ 1099511627776) (wm rev : Int) (h1 : 0 ≤ rev) (h2 : rev ≤ maxRev) (h3 : wm ≤ rev) :
    Calls Tryz.prog 25 #[stV (.slice ra n rc) wm, .int .i64 rev] w fun e w' => ∃ v, e = .returned (.tuple #[stV v rev, .int .i64 0]) ∧ w'.ownsRow w.heap.size 46 5 v (collectR R rev).length (rwc (collectR R rev)) ∧ Below w.heap.size w w' := by
  unfold maxRev at h2
  have h4 : ¬ rev < 0 := by omega
  have h5 : ¬ 1125899906842624 < rev := by omega
  have h6 : ¬ rev < wm := by omega
  obtain ⟨j0, hj0, jz0, jz1, jz2⟩ := info_parts infoR
  obtain ⟨w3, hw3⟩ : ∃ w3, w3 = (((w.alloc (.cells #[.slice ra n rc, .int .i64 wm] 28)).alloc (.cells #[.slice none 0 0, .int .i64 0] 28)).alloc (.cells #[.slice none 0 0, .int .i64 rev] 28)) := ⟨_, rfl⟩
  have hN : NewS w w3 (.slice ra n rc) wm rev nilS (collectR (R.take 0) rev) := by
    rw [hw3]; exact NewS.start w _ _ _
  have HN := Lib.hid hN
  have HR := Lib.hid hR
  have HLN := Lib.hid hR.len
  obtain ⟨q0, hq0⟩ : ∃ q, q = w.heap.size := ⟨_, rfl⟩
  clear hN hR
  go_enter Tryz.func25, Tryz.ntmps25
  go_upto_region 7 with fail
  rw [← hw3]
  clear hw3 hq0 h4 h5 h6
  go_loopw [7] (fun iv wr => ∃ i : Nat, i ≤ n ∧ iv = .int .i64 i ∧ ∃ v, NewS w wr (.slice ra n rc) wm rev v (collectR (R.take i) rev)) (fun iv _ => n - (intOf iv).toNat)
  case atStart => exact ⟨0, by omega, rfl, _, HN.out⟩
  case round =>
    clear HN
    obtain ⟨i, hin, rfl, v, hS⟩ := hrel
    obtain ⟨va, vc, rfl, _, _⟩ := owned_anyE hS.row
    have s0 : wr.cell? ⟨w.heap.size, 0, none⟩ = some (.slice ra n rc) := by rw [hS.x0.cell]; rfl
    by_cases hil : i < n
    · obtain ⟨x, hx⟩ : ∃ x, R[i]? = some x := ⟨_, List.getElem?_eq_getElem (by rw [HLN.out]; exact hil)⟩
      obtain ⟨b, off, rfl, hbB, k0, k1, k2, k3, k4⟩ := (HR.out.below hS.bel).cells hx
      have HCT := Lib.hid (collectR_take rev hx)
      have hll := collectR_le R rev i
      have hil2 : (i : Int) < (n : Int) := by omega
      have hi4 : i ≤ 1099511627776 := by omega
      have HS := Lib.hid hS
      generalize hL : collectR (R.take i) rev = L at *
      have HR3 := Lib.hid (show wr.drew.ownsRow (w.heap.size + 3) 46 5 (.slice va L.length vc) L.length (rwc L) from owns_keptN HS.out.row (fun _ _ => rfl))
      have HN1 := Lib.hid (show L.length + 1 ≤ maxLen by unfold maxLen; omega)
      have HN2 := Lib.hid (show (L.length + 1) * 64 ≤ 140737488355328 by omega)
      have HBS := Lib.hid (show w.heap.size + 3 ≤ wr.heap.size from by have := HS.out.x2.lt; omega)
      have HXI := Lib.hid hx
      have HHD := Lib.hid (show ∀ W : World, Below wr.heap.size wr W → W.cell? ⟨w.heap.size + 1 + 1, 0, none⟩ = some (.slice va L.length vc) ∧ W.cell? ⟨w.heap.size, 0, none⟩ = some (.slice (some ⟨b, off, none⟩) n rc) ∧ W.cell? ⟨b, off + i * 5, none⟩ = some (.string x.t.o) ∧ W.cell? ⟨b, off + i * 5 + 1, none⟩ = some (.string x.t.r) ∧ W.cell? ⟨b, off + i * 5 + 2, none⟩ = some (.string x.t.u) ∧ W.cell? ⟨b, off + i * 5 + 3, none⟩ = some (.int .i64 x.s) ∧ W.cell? ⟨b, off + i * 5 + 4, none⟩ = some (.int .i64 x.u) from fun W hW => by
        have h2 := HS.out.x2.kept (hW.block _ HS.out.x2.lt)
        have h0 := HS.out.x0.kept (hW.block _ HS.out.x0.lt)
        obtain ⟨b', off', e, _, k⟩ := (HR.out.below (HS.out.up hW).bel).cells HXI.out
        injection e with e
        injection e with e1 e2 _
        rw [← e1, ← e2] at k
        exact ⟨by rw [h2.cell]; rfl, by rw [h0.cell]; rfl, k⟩)
      clear hx hbB hS hL hll
      by_cases hgo : x.u = 0 ∨ rev < x.u
      · have hg : goneB rev x = true := by unfold goneB; simpa using hgo
        have HC2 := Lib.hid (show collectR (R.take (i + 1)) rev = L ++ [x] by rw [HCT.out, if_pos hg])
        clear HCT hg
        rcases (show x.u = 0 ∨ (x.u ≠ 0 ∧ rev < x.u) by omega) with c1 | ⟨c1, c2⟩
        case' inl =>
          have c3 : (x.u == 0) = true := by simp [c1]
          clear c1
        case' inr => have c3 : (x.u == 0) = false := by simp [c1]
        all_goals
          go_upto_region 10 with fail
          clear s0 k0 k1 k2 k3 k4
          obtain ⟨a0, a1, a2, a3, a4, a5, a6⟩ := HHD.out wr.drew (below_drew1 wr)
          obtain ⟨b0, b1, b2, b3, b4, b5, b6⟩ := HHD.out (wr.alloc (.cells #[.string x.t.o, .string x.t.r, .string x.t.u, .int .i64 x.s, .int .i64 x.u] 46)).drew (bell_up (below_alloc wr _) (below_drew1 _))
          obtain ⟨d0, d1, d2, d3, d4, d5, d6⟩ := HHD.out wr (Below.refl _ _)
          go_region_law (first
            | (refine step_append_any _ rfl (.tmp 47) (.tmp 53) 26 rfl (w.heap.size + 3) 46 j0 (.agg #[.string ⟨#[]⟩, .string ⟨#[]⟩, .string ⟨#[]⟩, .int .i64 0, .int .i64 0]) 5 64 Tryz.underlying26 hj0 jz0 jz1 jz2 rfl (by decide) (.slice va L.length vc) L.length (rwc L) rfl (HR3.out.alloc _) ⟨wr.heap.size, 0, none⟩ 1 1 [.string x.t.o, .string x.t.r, .string x.t.u, .int .i64 x.s, .int .i64 x.u] rfl rfl (five_new wr.drew _ _ _ _ _ 46) (by simp [Value.oneCell']) HN1.out HN2.out (by have := HBS.out; simp; omega) ?_; intro v' w6 hown6 hgr6 hat6
               obtain ⟨e5, g5, rfl, _, _⟩ := owned_anyE hown6
               have hnx := (HS.out.up (show Below wr.heap.size wr (wr.drew.alloc (.cells #[.string x.t.o, .string x.t.r, .string x.t.u, .int .i64 x.s, .int .i64 x.u] 46)) from bell_alloc (below_drew1 wr) _)).next x hgr6 hown6
               have ce3 : w6.cell? ⟨w.heap.size + 1 + 1, 0, none⟩ = some (.slice va L.length vc) := by rw [hnx.1.cell]; rfl
               have fr3 : w6.frozen? ⟨w.heap.size + 1 + 1, 0, none⟩ = false := hnx.1.free 0
               have HN := Lib.hid (show NewS w (w6.setCell ⟨w.heap.size + 1 + 1, 0, none⟩ (.slice e5 (L.length + 1) g5)) (.slice (some ⟨b, off, none⟩) n rc) wm rev (.slice e5 (L.length + 1) g5) (L ++ [x]) from hnx.2)
               clear hown6 hgr6 hat6 hnx))
          all_goals
            go_wp2
            go_roundw
            case rel => exact ⟨i + 1, by omega, by go_num, _, by rw [HC2.out]; exact HN.out⟩
            case measure => simp [intOf]; omega
      · have hg : goneB rev x = false := by unfold goneB; simpa using hgo
        have HC2 := Lib.hid (show collectR (R.take (i + 1)) rev = L by rw [HCT.out, if_neg (by rw [hg]; exact Bool.false_ne_true)])
        have c1 : x.u ≠ 0 := fun e => hgo (.inl e)
        have c2 : ¬ rev < x.u := fun e => hgo (.inr e)
        have c3 : (x.u == 0) = false := by simp [c1]
        clear HCT hg hgo
        go_wp2
        go_roundw
        case rel => exact ⟨i + 1, by omega, by go_num, _, by rw [HC2.out]; exact HS.out⟩
        case measure => simp [intOf]; omega
    · obtain rfl : i = n := by omega
      have htn : R.take i = R := by rw [← HLN.out, List.take_length]
      rw [htn] at hS
      have t0 : wr.cell? ⟨w.heap.size + 1 + 1, 0, none⟩ = some (.slice va (collectR R rev).length vc) := by rw [hS.x2.cell]; rfl
      have t1 : wr.cell? ⟨w.heap.size + 1 + 1, 1, none⟩ = some (.int .i64 rev) := by rw [hS.x2.cell]; rfl
      have u0 : wr.cell? ⟨w.heap.size + 1, 0, none⟩ = some (.slice none 0 0) := by rw [hS.x1.cell]; rfl
      have u1 : wr.cell? ⟨w.heap.size + 1, 1, none⟩ = some (.int .i64 0) := by rw [hS.x1.cell]; rfl
      have f0 : wr.frozen? ⟨w.heap.size + 1, 0, none⟩ = false := hS.x1.free 0
      have f1 : wr.frozen? ⟨w.heap.size + 1, 1, none⟩ = false := hS.x1.free 1
      have HS := Lib.hid hS
      clear htn hS
      have hx1 := (HS.out.x1.store 0 (.slice va (collectR R rev).length vc)).store 1 (.int .i64 rev)
      have r0 : ((wr.setCell ⟨w.heap.size + 1, 0, none⟩ (.slice va (collectR R rev).length vc)).setCell ⟨w.heap.size + 1, 1, none⟩ (.int .i64 rev)).cell? ⟨w.heap.size + 1, 0, none⟩ = some (.slice va (collectR R rev).length vc) := by rw [hx1.cell]; rfl
      have r1 : ((wr.setCell ⟨w.heap.size + 1, 0, none⟩ (.slice va (collectR R rev).length vc)).setCell ⟨w.heap.size + 1, 1, none⟩ (.int .i64 rev)).cell? ⟨w.heap.size + 1, 1, none⟩ = some (.int .i64 rev) := by rw [hx1.cell]; rfl
      have HBE := Lib.hid (show Below w.heap.size w ((wr.setCell ⟨w.heap.size + 1, 0, none⟩ (.slice va (collectR R rev).length vc)).setCell ⟨w.heap.size + 1, 1, none⟩ (.int .i64 rev)) from
        (HS.out.bel.setCell (p := ⟨w.heap.size + 1, 0, none⟩) (by show w.heap.size ≤ w.heap.size + 1; omega) _).setCell (p := ⟨w.heap.size + 1, 1, none⟩) (by show w.heap.size ≤ w.heap.size + 1; omega) _)
      have HRE := Lib.hid (show ((wr.setCell ⟨w.heap.size + 1, 0, none⟩ (.slice va (collectR R rev).length vc)).setCell ⟨w.heap.size + 1, 1, none⟩ (.int .i64 rev)).ownsRow w.heap.size 46 5 (.slice va (collectR R rev).length vc) (collectR R rev).length (rwc (collectR R rev)) from
        own_lower (owns_keptN HS.out.row (fun k hk => (Below.heap_setCell _ ⟨w.heap.size + 1, 1, none⟩ _ k (by show k ≠ w.heap.size + 1; have := (HS.out.row.lt k hk).1; omega)).trans (Below.heap_setCell wr ⟨w.heap.size + 1, 0, none⟩ _ k (by show k ≠ w.heap.size + 1; have := (HS.out.row.lt k hk).1; omega)))) (by omega))
      clear hx1
      go_wp2
      refine bodyPost_ret (v := .tuple #[stV (.slice va (collectR R rev).length vc) rev, .int .i64 0]) (by simp [results, Tryz.results25, go_sem, r0, r1]) rfl ⟨_, rfl, HRE.out, HBE.out⟩
end Go.Proofs.YtmjdngomjjhhiaaGreat
