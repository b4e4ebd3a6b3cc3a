/- The document's first table: the walk. -/
import Derived.Test.YtobehjlejlaeeaaDoorRRefN
namespace Go.Proofs.YtobehjlejlaeeaaDoor
open Go.RowKit

theorem Tryd.infoRT : (Tryd.prog.info? 36).map (·.size) = some 17 := by kernel_rfl
theorem setRow_newR (w : World) (c c' : Array Value) (t : TypeId) : (w.alloc (.cells c t)).setRow w.heap.size c' = w.alloc (.cells c' t) := Go.World.setRow_alloc_new w c c' t
set_option maxRecDepth 100000 in
set_option maxHeartbeats 4000000 in
theorem rnew_bad (nodes points : Int) (w : World) (h : nodes < 1 ∨ 8 < nodes ∨ points < 1 ∨ 64 < points) :
    Calls Tryd.prog 13 #[.int .i64 nodes, .int .i64 points] w fun e w' => e = .returned (.tuple #[.agg (tcs 0 noOwn), .int .i64 1]) ∧ Below w.heap.size w w' := by
  have h0 : nodes < 1 ∨ 1 ≤ nodes ∧ 8 < nodes ∨ 1 ≤ nodes ∧ nodes ≤ 8 ∧ points < 1 ∨ 1 ≤ nodes ∧ nodes ≤ 8 ∧ 1 ≤ points ∧ 64 < points := by omega
  clear h
  rcases h0 with h | ⟨h1, h2⟩ | ⟨h1, h2, h3⟩ | ⟨h1, h2, h3, h4⟩
  all_goals
    go_enter Tryd.func13, Tryd.ntmps13
    go_wp2_with (refine wpList_store_rowTo rfl 36 (.tmp 4) (.tmp 27) rfl rfl w.heap.size (tcs 0 noOwn) rfl rfl 36 _ (heap_alloc_new w _) (by kernel_rfl) rfl zero_one ?_; rw [setRow_newR])
    refine bodyPost_ret (v := .tuple #[.agg (tcs 0 noOwn), .int .i64 1]) (res_two Tryd.results13 _ _ w.heap.size 36 (tcs 0 noOwn) _ _ rfl rfl (heap_alloc_new w _) Tryd.underlying36 rfl Tryd.infoRT) rfl ⟨rfl, below_alloc _ _⟩

theorem far_sum (a x : Nat) (ha : a < 4294967296) (hx : x < 4294967296) : ((x : Int) + 4294967296 - (a : Int)) % 4294967296 = ((Mt.far a x : Nat) : Int) := by
  unfold Mt.far
  omega
/-- The document's table while it is made: slot s is under way. -/
def mid (nodes points s : Nat) (o : Nat) : List Int := (Mt.part (fun j => (Mt.own nodes points j : Int)) s).set s (o : Int)
theorem mid_len (nodes points s o : Nat) : (mid nodes points s o).length = 16 := by simp [mid, Mt.part_len]
theorem mid_set (nodes points s o p : Nat) : (mid nodes points s o).set s (p : Int) = mid nodes points s p := by simp [mid]
theorem mid_zero (nodes points s : Nat) : mid nodes points s 0 = Mt.part (fun j => (Mt.own nodes points j : Int)) s := by
  unfold mid
  apply List.ext_getElem
  · simp
  · intro j h1 h2
    rw [List.getElem_set]
    split
    · next h =>
      subst h
      simp [Mt.part]
    · rfl
def Mt.st (at_ : Nat) (l : List (Nat × Nat)) : Nat × Nat := Mt.rfold at_ (1099511627776, 0) l
theorem Mt.st_snoc (at_ : Nat) (l : List (Nat × Nat)) (p : Nat × Nat) : Mt.st at_ (l ++ [p]) = Mt.rstep at_ (Mt.st at_ l) p := Mt.rfold_snoc _ _ _ _
theorem Mt.st_own (nodes points s : Nat) (h1 : 0 < nodes) (h2 : 0 < points) : (Mt.st (Mt.hash (Mt.slotText s)) (Mt.pts nodes points)).2 = Mt.own nodes points s := by
  refine Mt.rfold_own _ _ _ ?_ (by omega)
  intro h
  have hl := Mt.pts_len nodes points
  rw [h] at hl
  have := Nat.mul_pos h1 h2
  simp at hl
  omega
theorem mid_done (nodes points s : Nat) (h1 : 0 < nodes) (h2 : 0 < points) : mid nodes points s (Mt.st (Mt.hash (Mt.slotText s)) (Mt.pts nodes points)).2 = Mt.part (fun j => (Mt.own nodes points j : Int)) (s + 1) := by
  rw [Mt.st_own nodes points s h1 h2]
  exact Mt.part_set (fun j => (Mt.own nodes points j : Int)) s
theorem Mt.st_in {at_ nodes points n p : Nat} (hn : n < nodes) (h8 : nodes ≤ 8) : (Mt.st at_ (Mt.pts n points ++ Mt.row n p)).1 ≤ 1099511627776 ∧ (Mt.st at_ (Mt.pts n points ++ Mt.row n p)).2 ≤ 8 := by
  refine Mt.rfold_in _ _ (Nat.le_refl _) (Nat.zero_le _) ?_
  intro q hq
  rcases List.mem_append.1 hq with h | h
  · have := (Mt.pts_in h).2
    omega
  · simp only [Mt.row, List.mem_map, List.mem_range] at h
    obtain ⟨k, _, rfl⟩ := h
    simp only [Mt.pt]
    omega
set_option maxRecDepth 100000 in
set_option maxHeartbeats 8000000 in
theorem rnew_good (nodes points : Nat) (w : World) (h1 : 1 ≤ nodes) (h2 : nodes ≤ 8) (h3 : 1 ≤ points) (h4 : points ≤ 64) :
    Calls Tryd.prog 13 #[.int .i64 nodes, .int .i64 points] w fun e w' => e = .returned (.tuple #[.agg (tcs 0 (Mt.owns nodes points)), .int .i64 0]) ∧ Below w.heap.size w w' := by
  obtain ⟨W0, hW0⟩ : ∃ W0, W0 = w.alloc (.cells (tcs 0 noOwn) 36) := ⟨_, rfl⟩
  have hR0 : Whole W0 w.heap.size 36 (tcs 0 noOwn) := by rw [hW0]; exact heap_alloc_new _ _
  have hB0 : Below w.heap.size w W0 := by rw [hW0]; exact below_alloc _ _
  have hz0 : W0.heap.size = w.heap.size + 1 := by rw [hW0]; simp
  have hT1 : Whole (W0.alloc (.cells (tcs 0 noOwn) 36)) (w.heap.size + 1) 36 (tcs 0 noOwn) := by rw [← hz0]; exact heap_alloc_new _ _
  have hR1 := hR0.kept ((below_alloc W0 (.cells (tcs 0 noOwn) 36)).block _ hR0.lt)
  have hB1 := hB0.trans ((below_alloc W0 (.cells (tcs 0 noOwn) 36)).mono hB0.size)
  have HE := Lib.hid (show ∀ Z : Array Value, ((w.alloc (.cells (tcs 0 noOwn) 36)).alloc (.cells Z 36)).setRow (w.heap.size + 1) (tcs 0 noOwn) = W0.alloc (.cells (tcs 0 noOwn) 36) by
    intro Z
    rw [← hW0, ← hz0]
    exact setRow_newR _ _ _ _)
  have HN := Lib.hid (show ((w.alloc (.cells (tcs 0 noOwn) 36)).alloc (.cells (tcs 0 noOwn) 36)).heap[w.heap.size + 1]? = some (.cells (tcs 0 noOwn) 36 (0, 0)) by rw [← hW0]; exact hT1)
  rw [zero_tab] at HN
  have HT1 := Lib.hid hT1; have HR1 := Lib.hid hR1; have HB1 := Lib.hid hB1
  clear hR0 hB0 hz0 hT1 hR1 hB1 hW0
  go_enter Tryd.func13, Tryd.ntmps13
  go_wp2_with (refine wpList_store_rowTo rfl 36 (.tmp 6) (.tmp 28) rfl rfl (w.heap.size + 1) (tcs 0 noOwn) rfl rfl 36 _ HN.out (by kernel_rfl) rfl zero_one ?_; rw [← zero_tab, HE.out]; generalize W0.alloc (.cells (tcs 0 noOwn) 36) = W1 at *; clear HN HE)
  have HLAT := Lib.hid (fun s : Nat => Mt.hash_lt (Mt.slotText s))
  have HS0 := Lib.hid (Mt.part_none (fun j => (Mt.own nodes points j : Int)))
  go_loopw [7] (fun sv wr => (∃ s : Nat, s ≤ 16 ∧ sv = .int .i64 s ∧ Whole wr (w.heap.size + 1) 36 (tcs 0 (Mt.part (fun j => (Mt.own nodes points j : Int)) s))) ∧ Whole wr w.heap.size 36 (tcs 0 noOwn) ∧ Below w.heap.size w wr) (fun sv _ => 16 - (intOf sv).toNat)
  case atStart => exact ⟨⟨0, by omega, rfl, by rw [HS0.out]; exact HT1.out⟩, HR1.out, HB1.out⟩
  case round =>
    obtain ⟨⟨s, hs, rfl, hT⟩, hR, hb⟩ := hrel
    have HR := Lib.hid hR; have HBB := Lib.hid hb
    clear hR hb
    by_cases hlt : s < 16
    · have HT := Lib.hid (show Whole wr (w.heap.size + 1) 36 (tcs 0 (mid nodes points s 0)) by rw [mid_zero]; exact hT)
      have HDONE := Lib.hid (mid_done nodes points s h1 h3)
      have ha := slot_add s wr
      have hsz := slotText_size s
      have hla := HLAT.out s
      clear hT
      go_wp2_with (first
        | (go_at_call 26; refine (decimal_any _ _ (by omega)).mono ?_; rintro e w1 ⟨rfl, rfl⟩)
        | (go_at_call 9; refine (rhash_any _ _ (by omega)).mono ?_; rintro e w1 ⟨rfl, rfl⟩; clear ha))
      generalize Mt.hash (Mt.slotText s) = at_ at *
      go_loopw [9, 10] (fun bv nv wr => (∃ n : Nat, n ≤ nodes ∧ nv = .int .i64 n ∧ bv = .int .u64 (Mt.st at_ (Mt.pts n points)).1 ∧ Whole wr (w.heap.size + 1) 36 (tcs 0 (mid nodes points s (Mt.st at_ (Mt.pts n points)).2))) ∧ Whole wr w.heap.size 36 (tcs 0 noOwn) ∧ Below w.heap.size w wr) (fun _ nv _ => nodes - (intOf nv).toNat)
      case atStart => exact ⟨⟨0, by omega, rfl, rfl, HT.out⟩, HR.out, HBB.out⟩
      case round =>
        obtain ⟨⟨n, hn, rfl, rfl, hT⟩, hR, hb⟩ := hrel
        have HT2 := Lib.hid hT; have HR2 := Lib.hid hR; have HB2 := Lib.hid hb
        clear hT hR hb
        by_cases hnl : n < nodes
        · have HSU := Lib.hid (Mt.pts_succ n points)
          go_wp2
          go_loopw [9, 11] (fun bv pv wr => (∃ p : Nat, p ≤ points ∧ pv = .int .i64 p ∧ bv = .int .u64 (Mt.st at_ (Mt.pts n points ++ Mt.row n p)).1 ∧ Whole wr (w.heap.size + 1) 36 (tcs 0 (mid nodes points s (Mt.st at_ (Mt.pts n points ++ Mt.row n p)).2))) ∧ Whole wr w.heap.size 36 (tcs 0 noOwn) ∧ Below w.heap.size w wr) (fun _ pv _ => points - (intOf pv).toNat)
          case atStart => exact ⟨⟨0, by omega, rfl, by simp [Mt.row], by simpa [Mt.row] using HT2.out⟩, HR2.out, HB2.out⟩
          case round =>
            obtain ⟨⟨p, hp, rfl, rfl, hT⟩, hR, hb⟩ := hrel
            by_cases hpl : p < points
            · obtain ⟨a1, a2, a3⟩ := node_adds n p wr
              have hns := nodeText_size n p
              have hin := Mt.st_in (at_ := at_) (points := points) (p := p) hnl h2
              have HST := Lib.hid (show Mt.st at_ (Mt.pts n points ++ Mt.row n (p + 1)) = Mt.rstep at_ (Mt.st at_ (Mt.pts n points ++ Mt.row n p)) (Mt.hash (Mt.nodeText n p), n) by rw [Mt.row_succ, ← List.append_assoc, Mt.st_snoc]; rfl)
              have hfe := far_sum at_ (Mt.hash (Mt.nodeText n p)) hla (Mt.hash_lt _)
              have hfl := Mt.far_lt at_ (Mt.hash (Mt.nodeText n p))
              have hhl := Mt.hash_lt (Mt.nodeText n p)
              have z0 := hT.free (1 + s)
              have c0 : wr.cell? ⟨w.heap.size + 1, 1 + s, none⟩ = some (.int .i64 ((mid nodes points s (Mt.st at_ (Mt.pts n points ++ Mt.row n p)).2).getD s 0)) := by rw [hT.cell]; exact tcs_at _ _ _ (by rw [mid_len]; exact hlt)
              generalize hbo : Mt.st at_ (Mt.pts n points ++ Mt.row n p) = bo at *
              obtain ⟨b, o⟩ := bo
              simp only at hin hT c0
              have hb1 := hin.1
              have HT3 := Lib.hid hT; have HR3 := Lib.hid hR; have HB3 := Lib.hid hb
              have HFE := Lib.hid hfe
              clear hT hR hb hin hbo hfe
              by_cases hc : Mt.far at_ (Mt.hash (Mt.nodeText n p)) < b
              · have HRS := Lib.hid (show Mt.rstep at_ (b, o) (Mt.hash (Mt.nodeText n p), n) = (Mt.far at_ (Mt.hash (Mt.nodeText n p)), n) by unfold Mt.rstep; rw [if_pos hc])
                generalize Mt.far at_ (Mt.hash (Mt.nodeText n p)) = fr at *
                go_wp2_with (first
                  | (go_at_call 26; refine (decimal_any _ _ (by omega)).mono ?_; rintro e w1 ⟨rfl, rfl⟩)
                  | (go_at_call 9; refine (rhash_any _ _ (by omega)).mono ?_; rintro e w1 ⟨rfl, rfl⟩; clear a1 a2 a3; have hfe := HFE.out))
                go_roundw
                case rel =>
                  have hst := HT3.out.store (1 + s) (.int .i64 (n : Int))
                  rw [tcs_set, mid_set] at hst
                  refine ⟨⟨p + 1, by omega, by go_num, by rw [HST.out, HRS.out, HFE.out], by rw [HST.out, HRS.out]; exact hst⟩, HR3.out.kept (Below.heap_setCell _ _ _ _ (by simp)), HB3.out.setCell (by simp) _⟩
                case measure => simp [intOf]; omega
              · have HRS := Lib.hid (show Mt.rstep at_ (b, o) (Mt.hash (Mt.nodeText n p), n) = (b, o) by unfold Mt.rstep; rw [if_neg hc])
                generalize Mt.far at_ (Mt.hash (Mt.nodeText n p)) = fr at *
                go_wp2_with (first
                  | (go_at_call 26; refine (decimal_any _ _ (by omega)).mono ?_; rintro e w1 ⟨rfl, rfl⟩)
                  | (go_at_call 9; refine (rhash_any _ _ (by omega)).mono ?_; rintro e w1 ⟨rfl, rfl⟩; clear a1 a2 a3; have hfe := HFE.out))
                go_roundw
                case rel =>
                  refine ⟨⟨p + 1, by omega, by go_num, by rw [HST.out, HRS.out], by rw [HST.out, HRS.out]; exact HT3.out⟩, HR3.out, HB3.out⟩
                case measure => simp [intOf]; omega
            · obtain rfl : p = points := by omega
              have HT3 := Lib.hid hT; have HR3 := Lib.hid hR; have HB3 := Lib.hid hb
              clear hT hR hb
              go_wp2
              go_roundw
              case rel => exact ⟨⟨n + 1, by omega, by go_num, by rw [HSU.out], by rw [HSU.out]; exact HT3.out⟩, HR3.out, HB3.out⟩
              case measure => simp [intOf]; omega
        · obtain rfl : n = nodes := by omega
          go_wp2
          go_roundw
          case rel => exact ⟨⟨s + 1, by omega, by go_num, by rw [← HDONE.out]; exact HT2.out⟩, HR2.out, HB2.out⟩
          case measure => simp [intOf]; omega
    · obtain rfl : s = 16 := by omega
      rw [Mt.part_all] at hT
      have HT := Lib.hid hT
      have htl := Mt.owns_len nodes points
      have HO := Lib.hid (tcs_one 0 (Mt.owns nodes points))
      have hcs := tcs_size 0 _ htl
      have HH := Lib.hid (show (wr.setRow w.heap.size (tcs 0 (Mt.owns nodes points))).heap[w.heap.size]? = some (.cells (tcs 0 (Mt.owns nodes points)) 36 (0, 0)) from setRow_heap _ _ _ _ _ _ HR.out)
      have HI := Lib.hid (show (Tryd.prog.info? 36).map (·.size) = some (tcs 0 (Mt.owns nodes points)).size by rw [hcs]; exact Tryd.infoRT)
      have HC := Lib.hid (show (tcs 0 noOwn).size = (tcs 0 (Mt.owns nodes points)).size by rw [hcs]; rfl)
      clear hcs htl hT
      generalize hTT : tcs 0 (Mt.owns nodes points) = T at *
      have HTT := Lib.hid hTT
      clear hTT
      go_wp2_with (first
        | (refine wpList_load_row rfl 36 (.tmp 6) rfl (w.heap.size + 1) rfl 36 T (0, 0) _ HT.out Tryd.underlying36 rfl HI.out ?_)
        | (refine wpList_store_rowTo rfl 36 (.tmp 4) (.tmp 67) rfl rfl w.heap.size T rfl rfl 36 _ HR.out HI.out HC.out HO.out ?_))
      refine bodyPost_ret (v := .tuple #[.agg T, .int .i64 0]) (res_two Tryd.results13 _ _ w.heap.size 36 T _ _ rfl rfl HH.out Tryd.underlying36 rfl HI.out) rfl ⟨by rw [HTT.out], below_setRow HBB.out (Nat.le_refl _) _⟩
end Go.Proofs.YtobehjlejlaeeaaDoor
