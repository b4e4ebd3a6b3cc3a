/- The document's cache: Put. -/
import Derived.Test.YtfhflijlgejknaaKR2
namespace Go.Proofs.Ytfhflijlgejknaa
open Go.RowKit

theorem three_boxes {w w0 w1 : World} {t u : TypeId} {c1 c2 c3 : Array Value} (h : w0 = ((w.alloc (.cells c1 t)).alloc (.cells c2 u)).alloc (.cells c3 t)) (hb : Below w0.heap.size w0 w1) : Whole w1 w.heap.size t c1 ∧ Whole w1 (w.heap.size + 1) u c2 ∧ Whole w1 (w.heap.size + 1 + 1) t c3 ∧ Below w.heap.size w w1 := by
  subst h
  have hz : (w.alloc (.cells c1 t)).heap.size = w.heap.size + 1 := by simp
  have hz2 : ((w.alloc (.cells c1 t)).alloc (.cells c2 u)).heap.size = w.heap.size + 1 + 1 := by simp
  have h0 : Whole (w.alloc (.cells c1 t)) w.heap.size t c1 := heap_alloc_new w _
  have h1 : Whole ((w.alloc (.cells c1 t)).alloc (.cells c2 u)) (w.heap.size + 1) u c2 := by rw [← hz]; exact heap_alloc_new _ _
  have h2 : Whole (((w.alloc (.cells c1 t)).alloc (.cells c2 u)).alloc (.cells c3 t)) (w.heap.size + 1 + 1) t c3 := by rw [← hz2]; exact heap_alloc_new _ _
  have h01 := h0.kept ((below_alloc _ (.cells c2 u)).block _ h0.lt)
  have h02 := h01.kept ((below_alloc _ (.cells c3 t)).block _ h01.lt)
  have h12 := h1.kept ((below_alloc _ (.cells c3 t)).block _ h1.lt)
  exact ⟨h02.kept (hb.block _ h02.lt), h12.kept (hb.block _ h12.lt), h2.kept (hb.block _ h2.lt), (((below_alloc w _).trans ((below_alloc _ _).mono (by simp))).trans ((below_alloc _ _).mono (by simp; omega))).trans (hb.mono (by simp; omega))⟩
/-- The document's Put. -/
def PutL (s : Nat) (k : ByteArray) (v : Int) (l l' : List Pr) : Prop :=
  (∃ l1 v0 l2, l = l1 ++ (k, v0) :: l2 ∧ k ∉ l1.map (·.1) ∧ l' = (k, v) :: (l1 ++ l2)) ∨ (k ∉ l.map (·.1) ∧ l' = (k, v) :: (if l.length = s then l.dropLast else l))
def RPutPost (w : World) (s : Nat) (h m : Int) (k : ByteArray) (v : Int) (l : List Pr) (e : Ending) (w' : World) : Prop :=
  ∃ a' n' c' l', e = .returned (.agg #[.slice a' n' c', .int .i64 (s : Int), .int .i64 h, .int .i64 m]) ∧ Pairs w' w.heap.size a' n' c' l' ∧ Below w.heap.size w w' ∧ PutL s k v l l'
theorem take_drop_last (l : List Pr) (n : Nat) (h : l.length = n) (hn : 0 < n) : l.take (n - 1) ++ l.drop (n - 1 + 1) = l.dropLast := by
  rw [List.drop_eq_nil_of_le (by omega), List.append_nil, List.dropLast_eq_take, h]

set_option maxRecDepth 100000 in
set_option maxHeartbeats 1000000 in
theorem rput_any {B n c s : Nat} {a : Option Addr} {l : List Pr} (h m : Int) (k : ByteArray) (v : Int) (w : World) (hp : Pairs w B a n c l) (hn : n ≤ s) (hs : s ≤ 4096) (hs1 : 1 ≤ s) :
    Calls Try.prog 12 #[.agg #[.slice a n c, .int .i64 (s : Int), .int .i64 h, .int .i64 m], .agg #[.string k, .int .i64 v]] w fun e w' => RPutPost w s h m k v l e w' := by
  obtain ⟨i0, hi0, hz0, hz1, hz2⟩ := KS.info_of Try.infoQ
  obtain ⟨w0, hw0⟩ : ∃ w0, w0 = ((w.alloc (.cells #[.slice a n c, .int .i64 (s : Int), .int .i64 h, .int .i64 m] 31)).alloc (.cells #[.string k, .int .i64 v] 40)).alloc (.cells #[.slice none 0 0, .int .i64 0, .int .i64 0, .int .i64 0] 31) := ⟨_, rfl⟩
  obtain ⟨_, _, _, hb0⟩ := three_boxes hw0 (Below.refl _ _)
  have HF := Lib.hid (rfind_any (s : Int) h m k w0 (hp.below hb0) (by omega))
  have HP := Lib.hid hp
  have hlen := hp.len
  clear hp hb0
  go_enter Try.func12, Try.ntmps12
  go_wp2_with fail
  rw [← hw0]
  refine HF.out.mono ?_
  rintro e w1 ⟨⟨r, rfl, hr⟩, hb⟩
  obtain ⟨h1, h2, h3, hb1⟩ := three_boxes hw0 hb
  obtain ⟨a0, a1, a2, a3, f0, f1, f2, f3⟩ := four_of h1
  have HP1 := Lib.hid (HP.out.below hb1)
  have HW1 := Lib.hid h1
  have HW2 := Lib.hid h2
  have HW3 := Lib.hid h3
  have HB1 := Lib.hid hb1
  have hlt3 : w.heap.size + 1 + 1 < w1.heap.size := h3.lt
  clear hb hw0 HF h1 h2 h3 hb1
  rcases hr with ⟨l1, v0, l2, hl, hnot, rfl⟩ | ⟨hnot, rfl⟩
  · have hln : l1.length < n := by rw [← hlen, hl]; simp
    have hr0 : ¬ (l1.length : Int) < 0 := by omega
    have hge : (0 : Int) ≤ (l1.length : Int) := by omega
    obtain ⟨tl, htl⟩ : ∃ tl, tl = l1 ++ l2 := ⟨_, rfl⟩
    have HTL := Lib.hid (show l.take l1.length ++ l.drop (l1.length + 1) = tl by rw [hl, htl]; simp)
    have HPUT := Lib.hid (show PutL s k v l ((k, v) :: tl) from .inl ⟨l1, v0, l2, hl, hnot, by rw [htl]⟩)
    have HWO := Lib.hid (rwithout_any (s : Int) h m w1 HP1.out (by omega) hln)
    clear hl hnot htl
    go_wp2_with fail
    refine HWO.out.mono ?_
    rintro e w2 ⟨⟨ta, tc, rfl, hp2⟩, hb2⟩
    rw [HTL.out] at hp2
    have q1 := HW1.out.kept (hb2.block _ HW1.out.lt)
    have q2 := HW2.out.kept (hb2.block _ HW2.out.lt)
    have q3 := HW3.out.kept (hb2.block _ HW3.out.lt)
    obtain ⟨x0, x1, x2, x3, z0, z1, z2, z3⟩ := four_of q1
    have hbt := HB1.out.trans (hb2.mono (show w.heap.size ≤ w1.heap.size by omega))
    have y0 : w2.cell? ⟨w.heap.size + 1, 0, none⟩ = some (.string k) := by rw [q2.cell]; rfl
    have y1 : w2.cell? ⟨w.heap.size + 1, 1, none⟩ = some (.int .i64 v) := by rw [q2.cell]; rfl
    obtain ⟨wt, hwt⟩ : ∃ wt, wt = w2.setCell ⟨w.heap.size, 0, none⟩ (.slice ta (n - 1) tc) := ⟨_, rfl⟩
    have HBX := Lib.hid (show Whole wt w.heap.size 31 #[.slice ta (n - 1) tc, .int .i64 (s : Int), .int .i64 h, .int .i64 m] by rw [hwt]; exact q1.store 0 _)
    have HPX := Lib.hid (show Whole wt (w.heap.size + 1) 40 #[.string k, .int .i64 v] by rw [hwt]; exact q2.kept (Below.heap_setCell _ _ _ _ (by simp)))
    have HRX := Lib.hid (show Whole wt (w.heap.size + 1 + 1) 31 #[.slice none 0 0, .int .i64 0, .int .i64 0, .int .i64 0] by rw [hwt]; exact q3.kept (Below.heap_setCell _ _ _ _ (by simp; omega)))
    have HPL := Lib.hid (show Pairs wt w1.heap.size ta (n - 1) tc tl by rw [hwt]; exact hp2.setQ (by omega))
    have HBT := Lib.hid (show Below w.heap.size w wt by rw [hwt]; exact hbt.setCell (p := ⟨w.heap.size, 0, none⟩) (Nat.le_refl _) _)
    have HSZ := Lib.hid (show wt.heap.size = w2.heap.size by rw [hwt]; simp [World.setCell])
    have htn : n - 1 ≤ 4095 := by omega
    generalize n - 1 = tn at *
    clear hp2 hb2 q1 q2 q3 hbt a0 a1 a2 a3 f0 f1 f2 f3 HW1 HW2 HW3 HB1 HP1 HP HWO

    have hl0 : w.heap.size < w2.heap.size := by rw [← HSZ.out]; exact HBX.out.lt
    have hl1 : w.heap.size + 1 < w2.heap.size := by rw [← HSZ.out]; exact HPX.out.lt
    have hl2 : w.heap.size + 1 + 1 < w2.heap.size := by rw [← HSZ.out]; exact HRX.out.lt
    have ne0 : w.heap.size ≠ w2.heap.size := by omega
    have ne1 : w.heap.size + 1 ≠ w2.heap.size := by omega
    have HROW := Lib.hid (one_row wt wt.heap.size k v (Nat.le_refl _))
    rw [HSZ.out] at HROW
    go_wp2_with (
       at_builtin
       (try rw [← hwt])
       (refine wpList_append_at_any _ rfl (.tmp 29) (.tmp 31) 29 rfl w2.heap.size 40 i0 (.agg #[.string ⟨#[]⟩, .int .i64 0]) 2 24 Try.underlying29 hi0 hz0 hz1 hz2 rfl (by decide) _ 1 [.string k, .int .i64 v] rfl HROW.out ta tn tc (flat tl) rfl (by rw [flat_length, HPL.out.len]) HPL.out.nil (HPL.out.below (below_alloc _ _)).news (flat_one _) (by unfold maxLen; omega) (by omega) (by have := HSZ.out; simp <;> omega) ?_)
       intro v5 w5 hown5 hgrow5 hat5
       have hb5 : Below wt.heap.size wt w5 := (below_alloc wt _).grown hgrow5 (by simp) (fun q hq => by have := (HROW.out.lt q hq).1; have := HSZ.out; omega)
       rw [show [Value.string k, Value.int .i64 v] ++ flat tl = flat ((k, v) :: tl) from rfl] at hown5
       obtain ⟨a5, c5, rfl, hp5⟩ := Pairs.owned hown5
       have HP5 := Lib.hid hp5; have HB5 := Lib.hid hb5
       have q1 := HBX.out.kept (hb5.block _ HBX.out.lt); have q2 := HRX.out.kept (hb5.block _ HRX.out.lt)
       obtain ⟨j0, j1, j2, j3, k0, k1, k2, k3⟩ := four_of q1
       obtain ⟨m0, m1, m2, m3, n0, n1, n2, n3⟩ := four_of q2
       have hz5 : w2.heap.size ≤ w5.heap.size := by have := hb5.size; have := HSZ.out; omega
       clear hown5 hgrow5 hat5 hb5 hp5 q1 q2 x0 x1 x2 x3 z0 z1 z2 z3 y0 y1)
    refine bodyPost_ret (v := .agg #[.slice a5 (1 + tn) c5, .int .i64 (s : Int), .int .i64 h, .int .i64 m]) (by simp [results, Try.results12, go_sem, m0, m1, m2, m3]) rfl ?_
    refine ⟨a5, 1 + tn, c5, (k, v) :: tl, rfl, ?_, ?_, HPUT.out⟩
    · refine Pairs.mono (B := w2.heap.size) ?_ (by omega)
      repeat (first | (with_reducible refine Pairs.setQ ?_ (by omega)) | (with_reducible refine Pairs.drewQ ?_))
      exact HP5.out
    · repeat (first | (with_reducible refine Below.setCell ?_ (by simp <;> omega) _) | (with_reducible refine below_drewQ ?_))
      exact HBT.out.trans (HB5.out.mono HBT.out.size)
  · by_cases hfull : s = n
    · subst hfull
      have hge : ¬ ((0 : Int) ≤ -1) := by omega
      obtain ⟨tl, htl⟩ : ∃ tl, tl = l.dropLast := ⟨_, rfl⟩
      have HTL := Lib.hid (show l.take (s - 1) ++ l.drop (s - 1 + 1) = tl by rw [htl]; exact take_drop_last l s hlen (by omega))
      have HPUT := Lib.hid (show PutL s k v l ((k, v) :: tl) from .inr ⟨hnot, by rw [htl, if_pos (by omega)]⟩)
      have HWO := Lib.hid (rwithout_any (s : Int) h m w1 HP1.out (by omega) (show s - 1 < s by omega))
      rw [show ((s - 1 : Nat) : Int) = (s : Int) - 1 by omega] at HWO
      clear hnot htl
      go_wp2_with fail
      refine HWO.out.mono ?_
      rintro e w2 ⟨⟨ta, tc, rfl, hp2⟩, hb2⟩
      rw [HTL.out] at hp2
      have q1 := HW1.out.kept (hb2.block _ HW1.out.lt)
      have q2 := HW2.out.kept (hb2.block _ HW2.out.lt)
      have q3 := HW3.out.kept (hb2.block _ HW3.out.lt)
      obtain ⟨x0, x1, x2, x3, z0, z1, z2, z3⟩ := four_of q1
      have hbt := HB1.out.trans (hb2.mono (show w.heap.size ≤ w1.heap.size by omega))
      have y0 : w2.cell? ⟨w.heap.size + 1, 0, none⟩ = some (.string k) := by rw [q2.cell]; rfl
      have y1 : w2.cell? ⟨w.heap.size + 1, 1, none⟩ = some (.int .i64 v) := by rw [q2.cell]; rfl
      obtain ⟨wt, hwt⟩ : ∃ wt, wt = w2.setCell ⟨w.heap.size, 0, none⟩ (.slice ta (s - 1) tc) := ⟨_, rfl⟩
      have HBX := Lib.hid (show Whole wt w.heap.size 31 #[.slice ta (s - 1) tc, .int .i64 (s : Int), .int .i64 h, .int .i64 m] by rw [hwt]; exact q1.store 0 _)
      have HPX := Lib.hid (show Whole wt (w.heap.size + 1) 40 #[.string k, .int .i64 v] by rw [hwt]; exact q2.kept (Below.heap_setCell _ _ _ _ (by simp)))
      have HRX := Lib.hid (show Whole wt (w.heap.size + 1 + 1) 31 #[.slice none 0 0, .int .i64 0, .int .i64 0, .int .i64 0] by rw [hwt]; exact q3.kept (Below.heap_setCell _ _ _ _ (by simp; omega)))
      have HPL := Lib.hid (show Pairs wt w1.heap.size ta (s - 1) tc tl by rw [hwt]; exact hp2.setQ (by omega))
      have HBT := Lib.hid (show Below w.heap.size w wt by rw [hwt]; exact hbt.setCell (p := ⟨w.heap.size, 0, none⟩) (Nat.le_refl _) _)
      have HSZ := Lib.hid (show wt.heap.size = w2.heap.size by rw [hwt]; simp [World.setCell])
      have htn : s - 1 ≤ 4095 := by omega
      generalize s - 1 = tn at *
      clear hp2 hb2 q1 q2 q3 hbt a0 a1 a2 a3 f0 f1 f2 f3 HW1 HW2 HW3 HB1 HP1 HP HWO

      have hl0 : w.heap.size < w2.heap.size := by rw [← HSZ.out]; exact HBX.out.lt
      have hl1 : w.heap.size + 1 < w2.heap.size := by rw [← HSZ.out]; exact HPX.out.lt
      have hl2 : w.heap.size + 1 + 1 < w2.heap.size := by rw [← HSZ.out]; exact HRX.out.lt
      have ne0 : w.heap.size ≠ w2.heap.size := by omega
      have ne1 : w.heap.size + 1 ≠ w2.heap.size := by omega
      have HROW := Lib.hid (one_row wt wt.heap.size k v (Nat.le_refl _))
      rw [HSZ.out] at HROW
      go_wp2_with (
         at_builtin
         (try rw [← hwt])
         (refine wpList_append_at_any _ rfl (.tmp 29) (.tmp 31) 29 rfl w2.heap.size 40 i0 (.agg #[.string ⟨#[]⟩, .int .i64 0]) 2 24 Try.underlying29 hi0 hz0 hz1 hz2 rfl (by decide) _ 1 [.string k, .int .i64 v] rfl HROW.out ta tn tc (flat tl) rfl (by rw [flat_length, HPL.out.len]) HPL.out.nil (HPL.out.below (below_alloc _ _)).news (flat_one _) (by unfold maxLen; omega) (by omega) (by have := HSZ.out; simp <;> omega) ?_)
         intro v5 w5 hown5 hgrow5 hat5
         have hb5 : Below wt.heap.size wt w5 := (below_alloc wt _).grown hgrow5 (by simp) (fun q hq => by have := (HROW.out.lt q hq).1; have := HSZ.out; omega)
         rw [show [Value.string k, Value.int .i64 v] ++ flat tl = flat ((k, v) :: tl) from rfl] at hown5
         obtain ⟨a5, c5, rfl, hp5⟩ := Pairs.owned hown5
         have HP5 := Lib.hid hp5; have HB5 := Lib.hid hb5
         have q1 := HBX.out.kept (hb5.block _ HBX.out.lt); have q2 := HRX.out.kept (hb5.block _ HRX.out.lt)
         obtain ⟨j0, j1, j2, j3, k0, k1, k2, k3⟩ := four_of q1
         obtain ⟨m0, m1, m2, m3, n0, n1, n2, n3⟩ := four_of q2
         have hz5 : w2.heap.size ≤ w5.heap.size := by have := hb5.size; have := HSZ.out; omega
         clear hown5 hgrow5 hat5 hb5 hp5 q1 q2 x0 x1 x2 x3 z0 z1 z2 z3 y0 y1)
      refine bodyPost_ret (v := .agg #[.slice a5 (1 + tn) c5, .int .i64 (s : Int), .int .i64 h, .int .i64 m]) (by simp [results, Try.results12, go_sem, m0, m1, m2, m3]) rfl ?_
      refine ⟨a5, 1 + tn, c5, (k, v) :: tl, rfl, ?_, ?_, HPUT.out⟩
      · refine Pairs.mono (B := w2.heap.size) ?_ (by omega)
        repeat (first | (with_reducible refine Pairs.setQ ?_ (by omega)) | (with_reducible refine Pairs.drewQ ?_))
        exact HP5.out
      · repeat (first | (with_reducible refine Below.setCell ?_ (by simp <;> omega) _) | (with_reducible refine below_drewQ ?_))
        exact HBT.out.trans (HB5.out.mono HBT.out.size)
    · have HPUT := Lib.hid (show PutL s k v l ((k, v) :: l) from .inr ⟨hnot, by rw [if_neg (by omega)]⟩)
      have hns : ¬ (n : Int) = (s : Int) := by omega
      have htn : n ≤ 4095 := by omega
      have y0 : w1.cell? ⟨w.heap.size + 1, 0, none⟩ = some (.string k) := by rw [HW2.out.cell]; rfl
      have y1 : w1.cell? ⟨w.heap.size + 1, 1, none⟩ = some (.int .i64 v) := by rw [HW2.out.cell]; rfl
      have HSZ := Lib.hid (show w1.heap.size = w1.heap.size from rfl)

      have hl0 : w.heap.size < w1.heap.size := by rw [← HSZ.out]; exact HW1.out.lt
      have hl1 : w.heap.size + 1 < w1.heap.size := by rw [← HSZ.out]; exact HW2.out.lt
      have hl2 : w.heap.size + 1 + 1 < w1.heap.size := by rw [← HSZ.out]; exact HW3.out.lt
      have ne0 : w.heap.size ≠ w1.heap.size := by omega
      have ne1 : w.heap.size + 1 ≠ w1.heap.size := by omega
      have HROW := Lib.hid (one_row w1 w1.heap.size k v (Nat.le_refl _))
      go_wp2_with (
         at_builtin
         (refine wpList_append_at_any _ rfl (.tmp 29) (.tmp 31) 29 rfl w1.heap.size 40 i0 (.agg #[.string ⟨#[]⟩, .int .i64 0]) 2 24 Try.underlying29 hi0 hz0 hz1 hz2 rfl (by decide) _ 1 [.string k, .int .i64 v] rfl HROW.out a n c (flat l) rfl (by rw [flat_length, HP1.out.len]) HP1.out.nil (HP1.out.below (below_alloc _ _)).news (flat_one _) (by unfold maxLen; omega) (by omega) (by have := HSZ.out; simp <;> omega) ?_)
         intro v5 w5 hown5 hgrow5 hat5
         have hb5 : Below w1.heap.size w1 w5 := (below_alloc w1 _).grown hgrow5 (by simp) (fun q hq => by have := (HROW.out.lt q hq).1; have := HSZ.out; omega)
         rw [show [Value.string k, Value.int .i64 v] ++ flat l = flat ((k, v) :: l) from rfl] at hown5
         obtain ⟨a5, c5, rfl, hp5⟩ := Pairs.owned hown5
         have HP5 := Lib.hid hp5; have HB5 := Lib.hid hb5
         have q1 := HW1.out.kept (hb5.block _ HW1.out.lt); have q2 := HW3.out.kept (hb5.block _ HW3.out.lt)
         obtain ⟨j0, j1, j2, j3, k0, k1, k2, k3⟩ := four_of q1
         obtain ⟨m0, m1, m2, m3, n0, n1, n2, n3⟩ := four_of q2
         have hz5 : w1.heap.size ≤ w5.heap.size := by have := hb5.size; have := HSZ.out; omega
         clear hown5 hgrow5 hat5 hb5 hp5 q1 q2 a0 a1 a2 a3 f0 f1 f2 f3 y0 y1)
      refine bodyPost_ret (v := .agg #[.slice a5 (1 + n) c5, .int .i64 (s : Int), .int .i64 h, .int .i64 m]) (by simp [results, Try.results12, go_sem, m0, m1, m2, m3]) rfl ?_
      refine ⟨a5, 1 + n, c5, (k, v) :: l, rfl, ?_, ?_, HPUT.out⟩
      · refine Pairs.mono (B := w1.heap.size) ?_ (by omega)
        repeat (first | (with_reducible refine Pairs.setQ ?_ (by omega)) | (with_reducible refine Pairs.drewQ ?_))
        exact HP5.out
      · repeat (first | (with_reducible refine Below.setCell ?_ (by simp <;> omega) _) | (with_reducible refine below_drewQ ?_))
        exact HB1.out.trans (HB5.out.mono HB1.out.size)
end Go.Proofs.Ytfhflijlgejknaa
