/- Tables: a first one that is made. -/
import Derived.Test.YtobehjlejlaeeaaDoorRNew
import Derived.Laws.CopyOwn
namespace Go.Proofs.YtobehjlejlaeeaaDoor
open Go.RowKit

set_option maxRecDepth 100000 in
set_option maxHeartbeats 4000000 in
theorem new_good (nodes points : Nat) (w : World) (h1 : 1 ≤ nodes) (h2 : nodes ≤ 8) (h3 : 1 ≤ points) (h4 : points ≤ 64) :
    Calls Tryd.prog 12 #[.int .i64 nodes, .int .i64 points] w fun e w' => e = .returned (.tuple #[.agg (tcs 0 (Mt.owns nodes points)), .int .i64 0]) ∧ Below w.heap.size w w' := by
  have HW0 := Lib.hid (show Whole (w.alloc (.cells (tcs 0 noOwn) 32)) w.heap.size 32 (tcs 0 noOwn) from heap_alloc_new _ _)
  have HB0 := Lib.hid (below_alloc w (.cells (tcs 0 noOwn) 32))
  rw [zero_tab] at HW0 HB0
  go_enter Tryd.func12, Tryd.ntmps12
  go_wp2_with (go_at_call 23; generalize w.alloc _ = w0 at *; refine (points_any nodes points _ h2 h4).mono ?_; rintro e w1 ⟨⟨v, rfl, hv⟩, hb⟩; have HV := Lib.hid hv; have HB1 := Lib.hid hb; clear hv hb)
  have hz01 := HB1.out.size
  have hlt0 := HW0.out.lt
  have hW1 : Whole w1 w.heap.size 32 (tcs 0 noOwn) := by
    rw [zero_tab]
    exact HW0.out.kept (HB1.out.block _ hlt0)
  have hg0 : w.heap.size < w1.heap.size := hW1.lt
  have hT0 : Whole (w1.alloc (.cells (tcs 0 noOwn) 32)) w1.heap.size 32 (tcs 0 noOwn) := heap_alloc_new _ _
  have hb2 := below_alloc w1 (.cells (tcs 0 noOwn) 32)
  have HR := Lib.hid (hW1.kept (hb2.block _ hW1.lt))
  obtain ⟨a, c, rfl, hp⟩ := Lies.owned HV.out
  have HP := Lib.hid ((hp.below hb2).mono HB0.out.size)
  have HAD := Lib.hid (show ∀ ad, a = some ad → ad.block < w1.heap.size from fun ad e => (hp.at_ ad e).2.1)
  have HB2 := Lib.hid ((HB0.out.trans (HB1.out.mono HB0.out.size)).trans (hb2.mono (by omega)))
  have HT0 := Lib.hid hT0
  have HPL := Lib.hid (Mt.pts_len nodes points)
  have hmul0 : 0 < nodes * points := Nat.mul_pos h1 h3
  have hmul1 : nodes * points ≤ 512 := Nat.le_trans (Nat.mul_le_mul h2 h4) (by omega)
  have HPT := Lib.hid (show ∀ p ∈ Mt.pts nodes points, p.1 < 4294967296 from fun p hp => (Mt.pts_in hp).1)
  clear hW1 hT0 hb2 hp HW0 HB0 HB1 HV hz01 hlt0
  rw [← zero_tab]
  generalize hg7 : w1.heap.size = g7 at *
  have HG7 := Lib.hid hg7
  generalize hw2 : w1.alloc (.cells (tcs 0 noOwn) 32) = w2 at *
  have HW2 := Lib.hid hw2
  clear hg7 hw2
  generalize nodes * points = N at *
  go_loopw [27] (fun sv wr => (∃ s : Nat, s ≤ 16 ∧ sv = .int .i64 s ∧ Whole wr g7 32 (tcs 0 (Mt.part (fun j => (Mt.own nodes points j : Int)) s))) ∧ Whole wr w.heap.size 32 (tcs 0 noOwn) ∧ Points wr w.heap.size a N c (Mt.pts nodes points) ∧ Below w.heap.size w wr) (fun sv _ => 16 - (intOf sv).toNat)
  case atStart => exact ⟨⟨0, by omega, rfl, HT0.out⟩, HR.out, HP.out, HB2.out⟩
  case round =>
    obtain ⟨⟨s, hs, rfl, hT⟩, hR, hP, hb⟩ := hrel
    have HT := Lib.hid hT; have HRR := Lib.hid hR; have HPP := Lib.hid hP; have HBB := Lib.hid hb
    clear hT hR hP hb
    by_cases hlt : s < 16
    · have ha := slot_add s wr
      have hsz := slotText_size s
      go_wp2_with (first
        | (go_at_call 25; refine (itoa_any _ _ (by omega)).mono ?_; rintro e w1 ⟨rfl, rfl⟩)
        | (go_at_call 10; refine (hash_any _ _ (by omega)).mono ?_; rintro e w1 ⟨rfl, rfl⟩; clear ha)
        | (go_at_call 24; refine (owner_any _ _ HPP.out hmul0 HPL.out hmul1 (Mt.hash_lt _) HPT.out).mono ?_; rintro e w3 ⟨rfl, hb3⟩
           have hT3 := HT.out.kept (hb3.block _ HT.out.lt)
           have c3 : w3.cell? ⟨g7, 1 + s, none⟩ = some (.int .i64 ((Mt.part (fun j => (Mt.own nodes points j : Int)) s).getD s 0)) := by rw [hT3.cell]; exact tcs_at _ _ _ (by rw [Mt.part_len]; omega)
           have z3 := hT3.free (1 + s)
           have HR3 := Lib.hid (HRR.out.kept (hb3.block _ HRR.out.lt)); have HP3 := Lib.hid (HPP.out.below hb3); have HB3 := Lib.hid (HBB.out.trans (hb3.mono HBB.out.size)); have HT3 := Lib.hid hT3; clear hb3 hT3))
      go_roundw
      case rel =>
        have hst := HT3.out.store (1 + s) (.int .i64 ((Mt.owner (Mt.hash (Mt.slotText s)) (Mt.pts nodes points) : Nat) : Int))
        rw [tcs_set] at hst
        rw [show ((Mt.owner (Mt.hash (Mt.slotText s)) (Mt.pts nodes points) : Nat) : Int) = (fun j => (Mt.own nodes points j : Int)) s from rfl, Mt.part_set] at hst
        refine ⟨⟨s + 1, by omega, by go_num, hst⟩, HR3.out.kept (Below.heap_setCell _ _ _ _ (by simp; omega)), HP3.out.keep (by simp [World.setCell]) (fun ad e => Below.heap_setCell _ _ _ _ (by have := HAD.out ad e; simp; omega)), HB3.out.setCell (by simp; omega) _⟩
      case measure => simp [intOf]; omega
    · obtain rfl : s = 16 := by omega
      rw [Mt.part_all] at HT
      have htl := Mt.owns_len nodes points
      have hone := tcs_one 0 (Mt.owns nodes points)
      have hcs := tcs_size 0 _ htl
      have HH := Lib.hid (show (wr.setRow w.heap.size (tcs 0 (Mt.owns nodes points))).heap[w.heap.size]? = some (.cells (tcs 0 (Mt.owns nodes points)) 32 (0, 0)) from setRow_heap _ _ _ _ _ _ HRR.out)
      have HI := Lib.hid (show (Tryd.prog.info? 32).map (·.size) = some (tcs 0 (Mt.owns nodes points)).size by rw [hcs]; exact Tryd.infoT)
      have HO := Lib.hid hone
      have HC := Lib.hid (show (tcs 0 noOwn).size = (tcs 0 (Mt.owns nodes points)).size by rw [hcs]; rfl)
      clear hone hcs htl
      generalize hTT : tcs 0 (Mt.owns nodes points) = T at *
      have HTT := Lib.hid hTT
      clear hTT
      go_wp2_with (first
        | (refine wpList_load_row rfl 32 (.tmp 7) rfl g7 rfl 32 T (0, 0) _ HT.out Tryd.underlying32 rfl HI.out ?_)
        | (refine wpList_store_rowTo rfl 32 (.tmp 4) (.tmp 40) rfl rfl w.heap.size T rfl rfl 32 _ HRR.out HI.out HC.out HO.out ?_))
      refine bodyPost_ret (v := .tuple #[.agg T, .int .i64 0]) (res_two Tryd.results12 _ _ w.heap.size 32 T _ _ rfl rfl HH.out Tryd.underlying32 rfl HI.out) rfl ⟨by rw [HTT.out], below_setRow HBB.out (Nat.le_refl _) _⟩
end Go.Proofs.YtobehjlejlaeeaaDoor
