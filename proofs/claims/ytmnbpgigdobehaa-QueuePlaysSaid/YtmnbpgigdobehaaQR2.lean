/- The document's queue: Pour. -/
import Derived.Test.YtmnbpgigdobehaaQR1
namespace Go.Proofs.Ytmnbpgigdobehaa
open Go.RowKit Go.Conc

theorem below_drew {W w4 : World} (h : Below W.drew.heap.size W.drew w4) : Below W.heap.size W w4 := ⟨h.os, h.tape, h.output, h.size, h.block⟩
theorem four_new {w w1 : World} {t : TypeId} {A C X Y : Array Value} (hb : Below ((((w.alloc (.cells A t)).alloc (.cells C t)).alloc (.cells X t)).alloc (.cells Y t)).heap.size ((((w.alloc (.cells A t)).alloc (.cells C t)).alloc (.cells X t)).alloc (.cells Y t)) w1) :
    Whole w1 w.heap.size t A ∧ Whole w1 (w.heap.size + 1) t C ∧ Whole w1 (w.heap.size + 1 + 1) t X ∧ Whole w1 (w.heap.size + 1 + 1 + 1) t Y ∧ Below w.heap.size w w1 := by
  have z0 : (w.alloc (.cells A t)).heap.size = w.heap.size + 1 := by simp
  have z1 : ((w.alloc (.cells A t)).alloc (.cells C t)).heap.size = w.heap.size + 1 + 1 := by simp
  have z2 : (((w.alloc (.cells A t)).alloc (.cells C t)).alloc (.cells X t)).heap.size = w.heap.size + 1 + 1 + 1 := by simp
  have h0 : Whole (w.alloc (.cells A t)) w.heap.size t A := heap_alloc_new w _
  have h1 : Whole ((w.alloc (.cells A t)).alloc (.cells C t)) (w.heap.size + 1) t C := by rw [← z0]; exact heap_alloc_new _ _
  have h2 : Whole (((w.alloc (.cells A t)).alloc (.cells C t)).alloc (.cells X t)) (w.heap.size + 1 + 1) t X := by rw [← z1]; exact heap_alloc_new _ _
  have h3 : Whole ((((w.alloc (.cells A t)).alloc (.cells C t)).alloc (.cells X t)).alloc (.cells Y t)) (w.heap.size + 1 + 1 + 1) t Y := by rw [← z2]; exact heap_alloc_new _ _
  have b1 := below_alloc (w.alloc (.cells A t)) (.cells C t)
  have b2 := below_alloc ((w.alloc (.cells A t)).alloc (.cells C t)) (.cells X t)
  have b3 := below_alloc (((w.alloc (.cells A t)).alloc (.cells C t)).alloc (.cells X t)) (.cells Y t)
  have k0 := ((h0.kept (b1.block _ h0.lt)))
  have k1 := k0.kept (b2.block _ k0.lt)
  have k2 := k1.kept (b3.block _ k1.lt)
  have j1 := h1.kept (b2.block _ h1.lt)
  have j2 := j1.kept (b3.block _ j1.lt)
  have i2 := h2.kept (b3.block _ h2.lt)
  exact ⟨k2.kept (hb.block _ k2.lt), j2.kept (hb.block _ j2.lt), i2.kept (hb.block _ i2.lt), h3.kept (hb.block _ h3.lt), ((((Below.refl _ _).alloc (Nat.le_refl _) _).alloc (by simp) _).alloc (by simp; omega) _).alloc (by simp; omega) _ |>.trans (hb.mono (by simp; omega))⟩

/-- A block that is one of the document's queues. -/
def QBlk (w : World) (g : Nat) : Prop := ∃ cs, Whole w g 29 cs
theorem QBlk.set {w : World} {g : Nat} (h : QBlk w g) (g2 i : Nat) (u : Value) : QBlk (w.setCell ⟨g2, i, none⟩ u) g := by
  obtain ⟨cs, h⟩ := h
  by_cases e : g2 = g
  · subst e
    exact ⟨_, h.store i u⟩
  · exact ⟨cs, h.kept (Below.heap_setCell _ _ _ _ (Ne.symm e))⟩
theorem Strs.setQ {w : World} {B n g : Nat} {a : Option Addr} {l : List ByteArray} (h : Strs w B a n l) (hq : QBlk w g) (hg : B ≤ g) (i : Nat) (u : Value) : Strs (w.setCell ⟨g, i, none⟩ u) B a n l := by
  obtain ⟨cs, hq⟩ := hq
  exact h.setCell hq (by decide) hg i u
theorem Strs.drewQ {w : World} {B n : Nat} {a : Option Addr} {l : List ByteArray} (h : Strs w B a n l) : Strs w.drew B a n l := h
theorem QBlk.drewQ {w : World} {g : Nat} (h : QBlk w g) : QBlk w.drew g := h
theorem below_drewQ {B : Nat} {w w' : World} (h : Below B w w') : Below B w w'.drew := ⟨h.os, h.tape, h.output, h.size, h.block⟩
/-- Put, where all find room. -/
theorem rput_fits {B cap n n2 : Nat} (a : Option Addr) (c : Nat) (xs : List ByteArray) (a2 : Option Addr) (c2 : Nat) (l : List ByteArray) (L : Int) (w : World) (h : Strs w B a n xs) (h2 : Strs w B a2 n2 l) (hnil : a = none → n = 0 ∧ c = 0) (hnc : n ≤ c) (hB : B ≤ w.heap.size) (hcap : cap ≤ 4096) (hn : n + n2 ≤ cap) (hL : -9223372036854775808 ≤ L ∧ L ≤ 9223372036854775807) :
    Calls Try.prog 9 #[.agg #[.slice a n c, .int .i64 (cap : Int), .int .i64 L], .slice a2 n2 c2] w fun e w' => ∃ a' c', e = .returned (.tuple #[.agg #[.slice a' (n + n2) c', .int .i64 (cap : Int), .int .i64 L], .int .i64 (n2 : Int)]) ∧ Strs w' B a' (n + n2) (xs ++ l) ∧ (a' = none → n + n2 = 0 ∧ c' = 0) ∧ n + n2 ≤ c' ∧ Below w.heap.size w w' := by
  refine (rput_any a c xs a2 c2 l L w h h2 hnil hnc hB hcap (by omega) (by omega) hL).mono ?_
  rintro e w' ⟨a', c', rfl, hs, hn', hc', hb⟩
  have e1 : min n2 (cap - n) = n2 := by omega
  have e2 : lostAt L (cap - n) n2 = L := by unfold lostAt; rw [if_pos (by omega)]
  rw [e1, List.take_of_length_le (by rw [h2.1]; omega)] at hs
  rw [e1] at hn' hc'
  rw [e1, e2]
  exact ⟨a', c', rfl, hs, hn', hc', hb⟩
/-- What comes of a call of the document's Pour. -/
def RPourPost (w : World) (B n n2 cap cap2 : Nat) (L L2 : Int) (xs ys : List ByteArray) (e : Ending) (w' : World) : Prop :=
  ∃ a' c' b' d', e = .returned (.tuple #[.agg #[.slice a' (n - min n (cap2 - n2)) c', .int .i64 (cap : Int), .int .i64 L], .agg #[.slice b' (n2 + min n (cap2 - n2)) d', .int .i64 (cap2 : Int), .int .i64 L2], .int .i64 ((min n (cap2 - n2) : Nat) : Int)]) ∧
    Strs w' B a' (n - min n (cap2 - n2)) (xs.drop (cap2 - n2)) ∧ (a' = none → n - min n (cap2 - n2) = 0 ∧ c' = 0) ∧ n - min n (cap2 - n2) ≤ c' ∧
    Strs w' B b' (n2 + min n (cap2 - n2)) (ys ++ xs.take (cap2 - n2)) ∧ (b' = none → n2 + min n (cap2 - n2) = 0 ∧ d' = 0) ∧ n2 + min n (cap2 - n2) ≤ d' ∧ Below w.heap.size w w'

set_option maxRecDepth 100000 in
set_option maxHeartbeats 4000000 in
theorem rpour_any {B cap cap2 n n2 : Nat} (a : Option Addr) (c : Nat) (xs : List ByteArray) (a2 : Option Addr) (c2 : Nat) (ys : List ByteArray) (L L2 : Int) (w : World) (h : Strs w B a n xs) (hnil : a = none → n = 0 ∧ c = 0) (hnc : n ≤ c) (h2 : Strs w B a2 n2 ys) (hnil2 : a2 = none → n2 = 0 ∧ c2 = 0) (hnc2 : n2 ≤ c2) (hB : B ≤ w.heap.size) (hcap : cap2 ≤ 4096) (hn2 : n2 ≤ cap2) (hn : n ≤ 4096) (hL : -9223372036854775808 ≤ L2 ∧ L2 ≤ 9223372036854775807) :
    Calls Try.prog 15 #[.agg #[.slice a n c, .int .i64 (cap : Int), .int .i64 L], .agg #[.slice a2 n2 c2, .int .i64 (cap2 : Int), .int .i64 L2]] w fun e w' => RPourPost w B n n2 cap cap2 L L2 xs ys e w' := by
  obtain ⟨r, hr⟩ : ∃ r, r = cap2 - n2 := ⟨_, rfl⟩
  obtain ⟨k, hk⟩ : ∃ k, k = min n r := ⟨_, rfl⟩
  have hkn : k ≤ n := by omega
  have hkr : k ≤ r := by omega
  have hsub : IntKind.i64.wrap ((cap2 : Int) - (n2 : Int)) = (r : Int) := by rw [IntWalk.i64_in _ (by omega)]; omega
  have hsub2 : (cap2 : Int) - (n2 : Int) = (r : Int) := by omega
  have HNIL := Lib.hid hnil
  have HNIL2 := Lib.hid hnil2
  have HS := Lib.hid h
  have HS2 := Lib.hid h2
  have hhead := fun w => slice_head a n c k (by omega) w
  have htail := fun w => slice_tail a n c k hkn w
  have hst := h.tail (c := c) hkn hnc
  have hnt := tailAt_none (m := k) hnil
  have HST := Lib.hid hst
  have HNT := Lib.hid hnt
  have HNC := Lib.hid (show n - k ≤ c - k by omega)
  have HHD := Lib.hid (h.head hkn)
  generalize tailAt a c k = at_ at *
  generalize c - k = ct at *
  obtain ⟨nt, hntt⟩ : ∃ nt, nt = n - k := ⟨_, rfl⟩
  rw [← hntt] at htail HST HNT HNC
  have HNTT := Lib.hid hntt
  have HK := Lib.hid hk
  have HR := Lib.hid hr
  clear hr hnil hnil2 h h2 hst hnt hntt
  have hW : Strs ((((w.alloc (.cells #[.slice a n c, .int .i64 (cap : Int), .int .i64 L] 29)).alloc (.cells #[.slice a2 n2 c2, .int .i64 (cap2 : Int), .int .i64 L2] 29)).alloc (.cells #[.slice none 0 0, .int .i64 0, .int .i64 0] 29)).alloc (.cells #[.slice none 0 0, .int .i64 0, .int .i64 0] 29)).drew B a2 n2 ys ∧ Strs ((((w.alloc (.cells #[.slice a n c, .int .i64 (cap : Int), .int .i64 L] 29)).alloc (.cells #[.slice a2 n2 c2, .int .i64 (cap2 : Int), .int .i64 L2] 29)).alloc (.cells #[.slice none 0 0, .int .i64 0, .int .i64 0] 29)).alloc (.cells #[.slice none 0 0, .int .i64 0, .int .i64 0] 29)).drew B a k (xs.take k) := by
    have hb := (((((Below.refl _ w).alloc (Nat.le_refl _) (.cells #[.slice a n c, .int .i64 (cap : Int), .int .i64 L] 29)).alloc (by simp) (.cells #[.slice a2 n2 c2, .int .i64 (cap2 : Int), .int .i64 L2] 29)).alloc (by simp; omega) (.cells #[.slice none 0 0, .int .i64 0, .int .i64 0] 29)).alloc (by simp; omega) (.cells #[.slice none 0 0, .int .i64 0, .int .i64 0] 29))
    exact ⟨(HS2.out.below hb).below (below_drewN _ 1), (HHD.out.below hb).below (below_drewN _ 1)⟩
  have HW := Lib.hid hW
  clear hW
  have hcall := fun (hB2 : B ≤ ((((w.alloc (.cells #[.slice a n c, .int .i64 (cap : Int), .int .i64 L] 29)).alloc (.cells #[.slice a2 n2 c2, .int .i64 (cap2 : Int), .int .i64 L2] 29)).alloc (.cells #[.slice none 0 0, .int .i64 0, .int .i64 0] 29)).alloc (.cells #[.slice none 0 0, .int .i64 0, .int .i64 0] 29)).drew.heap.size) => rput_fits a2 c2 ys a c (xs.take k) L2 _ HW.out.1 HW.out.2 HNIL2.out hnc2 hB2 hcap (by omega : n2 + k ≤ cap2) hL
  have HC := Lib.hid (hcall (by simp; omega))
  clear hcall
  have he1 : min n (cap2 - n2) = k := by rw [HK.out, HR.out]
  have he2 : xs.drop (cap2 - n2) = xs.drop k := by
    rw [← HR.out]
    by_cases h1 : n < r
    · rw [List.drop_of_length_le (by rw [HS.out.1]; omega), List.drop_of_length_le (by rw [HS.out.1, HK.out]; omega)]
    · rw [show k = r by rw [HK.out]; omega]
  have he3 : xs.take (cap2 - n2) = xs.take k := by
    rw [← HR.out]
    by_cases h1 : n < r
    · rw [List.take_of_length_le (by rw [HS.out.1]; omega), List.take_of_length_le (by rw [HS.out.1, HK.out]; omega)]
    · rw [show k = r by rw [HK.out]; omega]
  have HE1 := Lib.hid he1
  have HE2 := Lib.hid he2
  have HE3 := Lib.hid he3
  clear he1 he2 he3
  by_cases hgt : n < r
  · obtain rfl : k = n := by omega
    clear hk
    go_enter Try.func15, Try.ntmps15
    go_wp2_with fail
    go_region_with (
        go_at_call 9;
        refine HC.out.mono ?_;
        rintro e w4 ⟨b', d', rfl, hs, hn', hc', hb⟩;
        have hb4 := below_drew hb;
        obtain ⟨h0, h1, h2, h3, hbw⟩ := four_new hb4;
        have HS4 := Lib.hid hs; have HN4 := Lib.hid hn'; have HC4 := Lib.hid hc'; have HB4 := Lib.hid hbw; have HH0 := Lib.hid h0; have HH1 := Lib.hid h1; have HH2 := Lib.hid h2; have HH3 := Lib.hid h3;
        obtain ⟨q00, q01, q02, f00, f01, f02⟩ := three_of h0;
        obtain ⟨q10, q11, q12, f10, f11, f12⟩ := three_of h1;
        obtain ⟨q20, q21, q22, f20, f21, f22⟩ := three_of h2;
        obtain ⟨q30, q31, q32, f30, f31, f32⟩ := three_of h3;
        have hz4 := h3.lt;
        clear hs hn' hc' hb hb4 hbw h0 h1 h2 h3)
    all_goals
      go_wp2
      go_region
    all_goals
      go_wp2
      refine bodyPost_ret (v := .tuple #[.agg #[.slice at_ nt ct, .int .i64 (cap : Int), .int .i64 L], .agg #[.slice b' (n2 + k) d', .int .i64 (cap2 : Int), .int .i64 L2], .int .i64 (k : Int)]) (by simp [results, Try.results15, go_sem, q20, q21, q22, q30, q31, q32]) rfl ?_
      unfold RPourPost
      rw [HE1.out, HE2.out, HE3.out, ← HNTT.out]
      refine ⟨at_, ct, b', d', rfl, ?_, HNT.out, HNC.out, ?_, HN4.out, HC4.out, ?_⟩
      · repeat (first | (with_reducible refine Strs.setQ ?_ ?_ ?_ _ _) | (with_reducible refine Strs.drewQ ?_))
        all_goals first
          | (with_reducible exact HST.out.below HB4.out)
          | (repeat (first | (with_reducible refine QBlk.set ?_ _ _ _) | (with_reducible refine QBlk.drewQ ?_))); first | omega | exact ⟨_, HH0.out⟩ | exact ⟨_, HH1.out⟩ | exact ⟨_, HH2.out⟩ | exact ⟨_, HH3.out⟩
      · repeat (first | (with_reducible refine Strs.setQ ?_ ?_ ?_ _ _) | (with_reducible refine Strs.drewQ ?_))
        all_goals first
          | (with_reducible exact HS4.out)
          | (repeat (first | (with_reducible refine QBlk.set ?_ _ _ _) | (with_reducible refine QBlk.drewQ ?_))); first | omega | exact ⟨_, HH0.out⟩ | exact ⟨_, HH1.out⟩ | exact ⟨_, HH2.out⟩ | exact ⟨_, HH3.out⟩
      · repeat (first | (with_reducible refine Below.setCell ?_ (by simp <;> omega) _) | (with_reducible refine below_drewQ ?_))
        exact HB4.out
  · obtain rfl : k = r := by omega
    clear hk
    go_enter Try.func15, Try.ntmps15
    go_wp2_with fail
    go_region_with (
        go_at_call 9;
        refine HC.out.mono ?_;
        rintro e w4 ⟨b', d', rfl, hs, hn', hc', hb⟩;
        have hb4 := below_drew hb;
        obtain ⟨h0, h1, h2, h3, hbw⟩ := four_new hb4;
        have HS4 := Lib.hid hs; have HN4 := Lib.hid hn'; have HC4 := Lib.hid hc'; have HB4 := Lib.hid hbw; have HH0 := Lib.hid h0; have HH1 := Lib.hid h1; have HH2 := Lib.hid h2; have HH3 := Lib.hid h3;
        obtain ⟨q00, q01, q02, f00, f01, f02⟩ := three_of h0;
        obtain ⟨q10, q11, q12, f10, f11, f12⟩ := three_of h1;
        obtain ⟨q20, q21, q22, f20, f21, f22⟩ := three_of h2;
        obtain ⟨q30, q31, q32, f30, f31, f32⟩ := three_of h3;
        have hz4 := h3.lt;
        clear hs hn' hc' hb hb4 hbw h0 h1 h2 h3)
    all_goals
      go_wp2
      go_region
    all_goals
      go_wp2
      refine bodyPost_ret (v := .tuple #[.agg #[.slice at_ nt ct, .int .i64 (cap : Int), .int .i64 L], .agg #[.slice b' (n2 + k) d', .int .i64 (cap2 : Int), .int .i64 L2], .int .i64 (k : Int)]) (by simp [results, Try.results15, go_sem, q20, q21, q22, q30, q31, q32]) rfl ?_
      unfold RPourPost
      rw [HE1.out, HE2.out, HE3.out, ← HNTT.out]
      refine ⟨at_, ct, b', d', rfl, ?_, HNT.out, HNC.out, ?_, HN4.out, HC4.out, ?_⟩
      · repeat (first | (with_reducible refine Strs.setQ ?_ ?_ ?_ _ _) | (with_reducible refine Strs.drewQ ?_))
        all_goals first
          | (with_reducible exact HST.out.below HB4.out)
          | (repeat (first | (with_reducible refine QBlk.set ?_ _ _ _) | (with_reducible refine QBlk.drewQ ?_))); first | omega | exact ⟨_, HH0.out⟩ | exact ⟨_, HH1.out⟩ | exact ⟨_, HH2.out⟩ | exact ⟨_, HH3.out⟩
      · repeat (first | (with_reducible refine Strs.setQ ?_ ?_ ?_ _ _) | (with_reducible refine Strs.drewQ ?_))
        all_goals first
          | (with_reducible exact HS4.out)
          | (repeat (first | (with_reducible refine QBlk.set ?_ _ _ _) | (with_reducible refine QBlk.drewQ ?_))); first | omega | exact ⟨_, HH0.out⟩ | exact ⟨_, HH1.out⟩ | exact ⟨_, HH2.out⟩ | exact ⟨_, HH3.out⟩
      · repeat (first | (with_reducible refine Below.setCell ?_ (by simp <;> omega) _) | (with_reducible refine below_drewQ ?_))
        exact HB4.out
end Go.Proofs.Ytmnbpgigdobehaa
