/- The document's Drop. -/
import Derived.Test.YtmjdngomjjhhiaaGreatE71
namespace Go.Proofs.YtmjdngomjjhhiaaGreat
open Go.RowKit
open Go.Maps (Keyed)

theorem StrsAt.cells {w : World} {a : Option Addr} {n : Nat} {l : List ByteArray} (h : StrsAt w a n l) {i : Nat} {o : ByteArray} (hi : l[i]? = some o) : ∃ b off, a = some ⟨b, off, none⟩ ∧ b < w.heap.size ∧ w.cell? ⟨b, off + i, none⟩ = some (.string o) := by
  have hl := (List.getElem?_eq_some_iff.1 hi).1
  rcases h.at_ with h0 | ⟨b, off, ha, hb, hc⟩
  · have := h.len; omega
  · exact ⟨b, off, ha, hb, hc i o hi⟩
instance decMemB (a : ByteArray) (l : List ByteArray) : Decidable (a ∈ l) := decidable_of_iff (l.any (fun x => decide (x = a)) = true) (by simp [List.any_eq_true])
theorem StrsAt.below {w w' : World} {a : Option Addr} {n : Nat} {l : List ByteArray} (h : StrsAt w a n l) (hb : Below w.heap.size w w') : StrsAt w' a n l := h.keep hb.size (fun _ _ h => hb.block _ h)
def dropR (R : List Rw) (os : List ByteArray) : List Rw := R.filter fun x => !decide (x.t.o ∈ os)
theorem dropR_take {R : List Rw} {i : Nat} {x : Rw} (os : List ByteArray) (h : R[i]? = some x) : dropR (R.take (i + 1)) os = if x.t.o ∈ os then dropR (R.take i) os else dropR (R.take i) os ++ [x] := by
  unfold dropR
  rw [List.take_add_one, h, List.filter_append]
  show _ ++ List.filter _ [x] = _
  rw [List.filter_cons]
  by_cases hx : x.t.o ∈ os
  · rw [if_neg (by simp [hx]), if_pos hx]; exact List.append_nil _
  · rw [if_pos (by simp [hx]), if_neg hx]; rfl
theorem dropR_le (R : List Rw) (os : List ByteArray) (i : Nat) : (dropR (R.take i) os).length ≤ i := by
  unfold dropR
  have := List.length_filter_le (fun x : Rw => !decide (x.t.o ∈ os)) (R.take i)
  rw [List.length_take] at this
  omega
theorem SM.dropL_sp : ∀ (os : List ByteArray) (M : SM) (t : Tp), (M.dropL os).sp t = if t.o ∈ os then [] else M.sp t := by
  intro os
  induction os with
  | nil => intro M t; simp [SM.dropL]
  | cons o os ih =>
    intro M t
    show ((M.dropO o).dropL os).sp t = _
    rw [ih]
    show (if t.o ∈ os then [] else (if decide (t.o = o) = true then [] else M.sp t)) = _
    by_cases h1 : t.o ∈ os
    · simp [h1]
    · by_cases h2 : t.o = o
      · simp [h2]
      · simp [h1, h2]
theorem Rep.dropL {M : SM} {R : List Rw} (hr : Rep ltT M R) (os : List ByteArray) : Rep ltT (M.dropL os) (dropR R os) := by
  refine hr.filter (fun x => !decide (x.t.o ∈ os)) fun t => ?_
  rw [SM.dropL_sp]
  show _ = (M.sp t).filter (fun _ => !decide (t.o ∈ os))
  by_cases h : t.o ∈ os
  · simp [h]
  · rw [if_neg h, decide_eq_false h]
    exact (List.filter_eq_self.2 (fun _ _ => rfl)).symm
set_option maxHeartbeats 8000000 in
set_option maxRecDepth 100000 in
theorem rdrop_any {ra a : Option Addr} {n rc m c : Nat} {R : List Rw} {os : List ByteArray} {w : World} (hR : RowsAt w ra n R) (hn : n ≤ 1099511627776) (hO : StrsAt w a m os) (hm : m ≤ 1099511627776) (wm : Int) :
    Calls Tryz.prog 28 #[stV (.slice ra n rc) wm, .slice a m c] w fun e w' => ∃ v, e = .returned (stV v wm) ∧ w'.ownsRow w.heap.size 46 5 v (dropR R os).length (rwc (dropR R os)) ∧ Below w.heap.size w w' := by
  obtain ⟨j0, hj0, jz0, jz1, jz2⟩ := info_parts infoR
  obtain ⟨w3, hw3⟩ : ∃ w3, w3 = (((w.alloc (.cells #[.slice ra n rc, .int .i64 wm] 28)).alloc (.cells #[.slice none 0 0, .int .i64 0] 28)).alloc (.cells #[.slice none 0 0, .int .i64 wm] 28)) := ⟨_, rfl⟩
  have hN : NewS w w3 (.slice ra n rc) wm wm nilS (dropR (R.take 0) os) := by
    rw [hw3]; exact NewS.start w _ _ _
  have HN := Lib.hid hN
  have HR := Lib.hid hR
  have HO := Lib.hid hO
  have HLN := Lib.hid hR.len
  have HLO := Lib.hid hO.len
  clear hN hR hO
  go_enter Tryz.func28, Tryz.ntmps28
  go_upto_region 3 with fail
  rw [← hw3]
  clear hw3
  go_loopw [6] (fun iv wr => ∃ i : Nat, i ≤ n ∧ iv = .int .i64 i ∧ ∃ v, NewS w wr (.slice ra n rc) wm wm v (dropR (R.take i) os)) (fun iv _ => n - (intOf iv).toNat)
  case atStart => exact ⟨0, by omega, rfl, _, HN.out⟩
  case round =>
    clear HN
    obtain ⟨i, hin, rfl, v, hS⟩ := hrel
    obtain ⟨va, vc, rfl, _, _⟩ := owned_anyE hS.row
    have s0 : wr.cell? ⟨w.heap.size, 0, none⟩ = some (.slice ra n rc) := by rw [hS.x0.cell]; rfl
    by_cases hil : i < n
    · obtain ⟨x, hx⟩ : ∃ x, R[i]? = some x := ⟨_, List.getElem?_eq_getElem (by rw [HLN.out]; exact hil)⟩
      obtain ⟨b, off, rfl, hbB, _, _, _, _, _⟩ := HR.out.cells hx
      have HHB := Lib.hid hbB
      have HCT := Lib.hid (dropR_take os hx)
      have hll := dropR_le R os i
      have hil2 : (i : Int) < (n : Int) := by omega
      have hi4 : i ≤ 1099511627776 := by omega
      have HS := Lib.hid hS
      generalize hL : dropR (R.take i) os = L at *
      have HXI := Lib.hid hx
      have HLL := Lib.hid (show L.length ≤ 1099511627776 by omega)
      clear hx hbB hS hL hll
      go_wp2_with fail
      go_loopw [7, 8] (fun gv kv wr2 => ∃ k : Nat, k ≤ m ∧ kv = .int .i64 k ∧ gv = .bool (decide (x.t.o ∈ os.take k)) ∧ Below wr.heap.size wr wr2) (fun _ kv _ => m - (intOf kv).toNat)
      case atStart => exact ⟨0, by omega, rfl, by simp, Below.refl _ _⟩
      case round =>
        obtain ⟨k, hk, rfl, rfl, hbk⟩ := hrel
        have HS2 := Lib.hid (HS.out.up hbk)
        have HBK := Lib.hid hbk
        have s0 : wr.cell? ⟨w.heap.size, 0, none⟩ = some (.slice (some ⟨b, off, none⟩) n rc) := by rw [HS2.out.x0.cell]; rfl
        by_cases hkm : k < m
        · obtain ⟨o, ho⟩ : ∃ o, os[k]? = some o := ⟨_, List.getElem?_eq_getElem (by rw [HLO.out]; exact hkm)⟩
          obtain ⟨b2, off2, rfl, _, k9⟩ := (HO.out.below HS2.out.bel).cells ho
          obtain ⟨b', off', e, _, k0, _, _, _, _⟩ := (HR.out.below HS2.out.bel).cells HXI.out
          injection e with e
          injection e with e1 e2 e3
          subst e1 e2
          clear e3
          have htk : os.take (k + 1) = os.take k ++ [o] := by rw [List.take_add_one, ho]; rfl
          have HTK := Lib.hid htk
          have hkm2 : (k : Int) < (m : Int) := by omega
          have hk4 : k ≤ 1099511627776 := by omega
          clear ho htk hbk
          by_cases hin2 : x.t.o ∈ os.take k
          · have HD := Lib.hid (show decide (x.t.o ∈ os.take (k + 1)) = true by rw [HTK.out]; simp [hin2])
            rw [decide_eq_true hin2]
            clear hin2
            go_wp2_with fail
            go_quiet (fail)
            have HBN := Lib.hid (bell_up HBK.out (below_drewN wr nq))
            go_wp2
            go_roundw
            case rel => exact ⟨k + 1, by omega, by go_num, by rw [HD.out], HBN.out⟩
            case measure => simp [intOf]; omega
          · rw [decide_eq_false hin2]
            by_cases heq : x.t.o = o
            · have HD := Lib.hid (show decide (x.t.o ∈ os.take (k + 1)) = true by rw [HTK.out]; simp [heq])
              have h1 : (x.t.o.toList == o.toList) = true := by rw [heq]; simp
              clear hin2 heq
              go_wp2_with fail
              go_quiet (fail)
              have HBN := Lib.hid (bell_up HBK.out (below_drewN wr nq))
              go_wp2
              go_roundw
              case rel => exact ⟨k + 1, by omega, by go_num, by rw [HD.out], HBN.out⟩
              case measure => simp [intOf]; omega
            · have HD := Lib.hid (show decide (x.t.o ∈ os.take (k + 1)) = false by rw [HTK.out]; simp [hin2, heq])
              have h1 : (x.t.o.toList == o.toList) = false := str_ne heq
              clear hin2 heq
              go_wp2_with fail
              go_quiet (fail)
              have HBN := Lib.hid (bell_up HBK.out (below_drewN wr nq))
              go_wp2
              go_roundw
              case rel => exact ⟨k + 1, by omega, by go_num, by rw [HD.out], HBN.out⟩
              case measure => simp [intOf]; omega
        · obtain rfl : k = m := by omega
          have htn : os.take k = os := by rw [← HLO.out, List.take_length]
          rw [htn]
          clear htn hbk
          by_cases hgo : x.t.o ∈ os
          · have HC2 := Lib.hid (show dropR (R.take (i + 1)) os = L by rw [HCT.out, if_pos hgo])
            rw [decide_eq_true hgo]
            clear HCT hgo
            go_wp2
            go_roundw
            case rel => exact ⟨i + 1, by omega, by go_num, _, by rw [HC2.out]; exact HS2.out⟩
            case measure => simp [intOf]; omega
          · have HC2 := Lib.hid (show dropR (R.take (i + 1)) os = L ++ [x] by rw [HCT.out, if_neg hgo])
            rw [decide_eq_false hgo]
            clear HCT hgo
            have HR3 := Lib.hid (show wr.drew.ownsRow (w.heap.size + 3) 46 5 (.slice va L.length vc) L.length (rwc L) from owns_keptN HS2.out.row (fun _ _ => rfl))
            have HN1 := Lib.hid (show L.length + 1 ≤ maxLen by have := HLL.out; unfold maxLen; omega)
            have HN2 := Lib.hid (show (L.length + 1) * 64 ≤ 140737488355328 by have := HLL.out; omega)
            have HBS := Lib.hid (show w.heap.size + 3 ≤ wr.heap.size from by have := HS2.out.x2.lt; omega)
            have HHD := Lib.hid (show ∀ W : World, Below wr.heap.size wr W → W.cell? ⟨w.heap.size + 1 + 1, 0, none⟩ = some (.slice va L.length vc) ∧ W.cell? ⟨w.heap.size, 0, none⟩ = some (.slice (some ⟨b, off, none⟩) n rc) ∧ W.cell? ⟨b, off + i * 5, none⟩ = some (.string x.t.o) ∧ W.cell? ⟨b, off + i * 5 + 1, none⟩ = some (.string x.t.r) ∧ W.cell? ⟨b, off + i * 5 + 2, none⟩ = some (.string x.t.u) ∧ W.cell? ⟨b, off + i * 5 + 3, none⟩ = some (.int .i64 x.s) ∧ W.cell? ⟨b, off + i * 5 + 4, none⟩ = some (.int .i64 x.u) from fun W hW => by
              have h2 := HS2.out.x2.kept (hW.block _ HS2.out.x2.lt)
              have h0 := HS2.out.x0.kept (hW.block _ HS2.out.x0.lt)
              obtain ⟨b', off', e, _, k⟩ := (HR.out.below (HS2.out.up hW).bel).cells HXI.out
              injection e with e
              injection e with e1 e2 _
              rw [← e1, ← e2] at k
              exact ⟨by rw [h2.cell]; rfl, by rw [h0.cell]; rfl, k⟩)
            go_upto_region 11 with fail
            clear s0
            obtain ⟨a0, a1, a2, a3, a4, a5, a6⟩ := HHD.out wr.drew (below_drew1 wr)
            obtain ⟨b0, b1, b2, b3, b4, b5, b6⟩ := HHD.out (wr.alloc (.cells #[.string x.t.o, .string x.t.r, .string x.t.u, .int .i64 x.s, .int .i64 x.u] 46)).drew (bell_up (below_alloc wr _) (below_drew1 _))
            obtain ⟨d0, d1, d2, d3, d4, d5, d6⟩ := HHD.out wr (Below.refl _ _)
            go_region_law (first
              | (refine step_append_any _ rfl (.tmp 43) (.tmp 49) 26 rfl (w.heap.size + 3) 46 j0 (.agg #[.string ⟨#[]⟩, .string ⟨#[]⟩, .string ⟨#[]⟩, .int .i64 0, .int .i64 0]) 5 64 Tryz.underlying26 hj0 jz0 jz1 jz2 rfl (by decide) (.slice va L.length vc) L.length (rwc L) rfl (HR3.out.alloc _) ⟨wr.heap.size, 0, none⟩ 1 1 [.string x.t.o, .string x.t.r, .string x.t.u, .int .i64 x.s, .int .i64 x.u] rfl rfl (five_new wr.drew _ _ _ _ _ 46) (by simp [Value.oneCell']) HN1.out HN2.out (by have := HBS.out; simp; omega) ?_; intro v' w6 hown6 hgr6 hat6
                 obtain ⟨e5, g5, rfl, _, _⟩ := owned_anyE hown6
                 have hnx := (HS2.out.up (show Below wr.heap.size wr (wr.drew.alloc (.cells #[.string x.t.o, .string x.t.r, .string x.t.u, .int .i64 x.s, .int .i64 x.u] 46)) from bell_alloc (below_drew1 wr) _)).next x hgr6 hown6
                 have ce3 : w6.cell? ⟨w.heap.size + 1 + 1, 0, none⟩ = some (.slice va L.length vc) := by rw [hnx.1.cell]; rfl
                 have fr3 : w6.frozen? ⟨w.heap.size + 1 + 1, 0, none⟩ = false := hnx.1.free 0
                 have HN := Lib.hid (show NewS w (w6.setCell ⟨w.heap.size + 1 + 1, 0, none⟩ (.slice e5 (L.length + 1) g5)) (.slice (some ⟨b, off, none⟩) n rc) wm wm (.slice e5 (L.length + 1) g5) (L ++ [x]) from hnx.2)
                 clear hown6 hgr6 hat6 hnx))
            all_goals
              go_wp2
              go_roundw
              case rel => exact ⟨i + 1, by omega, by go_num, _, by rw [HC2.out]; exact HN.out⟩
              case measure => simp [intOf]; omega
    · obtain rfl : i = n := by omega
      have htn : R.take i = R := by rw [← HLN.out, List.take_length]
      rw [htn] at hS
      have t0 : wr.cell? ⟨w.heap.size + 1 + 1, 0, none⟩ = some (.slice va (dropR R os).length vc) := by rw [hS.x2.cell]; rfl
      have t1 : wr.cell? ⟨w.heap.size + 1 + 1, 1, none⟩ = some (.int .i64 wm) := by rw [hS.x2.cell]; rfl
      have u0 : wr.cell? ⟨w.heap.size + 1, 0, none⟩ = some (.slice none 0 0) := by rw [hS.x1.cell]; rfl
      have u1 : wr.cell? ⟨w.heap.size + 1, 1, none⟩ = some (.int .i64 0) := by rw [hS.x1.cell]; rfl
      have f0 : wr.frozen? ⟨w.heap.size + 1, 0, none⟩ = false := hS.x1.free 0
      have f1 : wr.frozen? ⟨w.heap.size + 1, 1, none⟩ = false := hS.x1.free 1
      have HS := Lib.hid hS
      clear htn hS
      have hx1 := (HS.out.x1.store 0 (.slice va (dropR R os).length vc)).store 1 (.int .i64 wm)
      have r0 : ((wr.setCell ⟨w.heap.size + 1, 0, none⟩ (.slice va (dropR R os).length vc)).setCell ⟨w.heap.size + 1, 1, none⟩ (.int .i64 wm)).cell? ⟨w.heap.size + 1, 0, none⟩ = some (.slice va (dropR R os).length vc) := by rw [hx1.cell]; rfl
      have r1 : ((wr.setCell ⟨w.heap.size + 1, 0, none⟩ (.slice va (dropR R os).length vc)).setCell ⟨w.heap.size + 1, 1, none⟩ (.int .i64 wm)).cell? ⟨w.heap.size + 1, 1, none⟩ = some (.int .i64 wm) := by rw [hx1.cell]; rfl
      have HBE := Lib.hid (show Below w.heap.size w ((wr.setCell ⟨w.heap.size + 1, 0, none⟩ (.slice va (dropR R os).length vc)).setCell ⟨w.heap.size + 1, 1, none⟩ (.int .i64 wm)) from
        (HS.out.bel.setCell (p := ⟨w.heap.size + 1, 0, none⟩) (by show w.heap.size ≤ w.heap.size + 1; omega) _).setCell (p := ⟨w.heap.size + 1, 1, none⟩) (by show w.heap.size ≤ w.heap.size + 1; omega) _)
      have HRE := Lib.hid (show ((wr.setCell ⟨w.heap.size + 1, 0, none⟩ (.slice va (dropR R os).length vc)).setCell ⟨w.heap.size + 1, 1, none⟩ (.int .i64 wm)).ownsRow w.heap.size 46 5 (.slice va (dropR R os).length vc) (dropR R os).length (rwc (dropR R os)) from
        own_lower (owns_keptN HS.out.row (fun k hk => (Below.heap_setCell _ ⟨w.heap.size + 1, 1, none⟩ _ k (by show k ≠ w.heap.size + 1; have := (HS.out.row.lt k hk).1; omega)).trans (Below.heap_setCell wr ⟨w.heap.size + 1, 0, none⟩ _ k (by show k ≠ w.heap.size + 1; have := (HS.out.row.lt k hk).1; omega)))) (by omega))
      clear hx1
      go_wp2
      refine bodyPost_ret (v := stV (.slice va (dropR R os).length vc) wm) (by simp [results, Tryz.results28, go_sem, r0, r1]) rfl ⟨_, rfl, HRE.out, HBE.out⟩
end Go.Proofs.YtmjdngomjjhhiaaGreat
