/- FrameSums: the sum of parts is that of all together, however they are cut. -/
import Derived.Test.YtojkegnflbfloaaRefSum1
import Derived.RegionTactic
import Derived.ChangeAlike
import Derived.Deep.RegionWith
import Derived.BigQuiet
import Derived.Deep.RegionHeld3
namespace Go.Proofs.Ytojkegnflbfloaa
open Go.RowKit

theorem addr_add_zero (x : Addr) : x.add 0 = x := by
  unfold Addr.add
  cases x with
  | mk b o s => cases s <;> simp
theorem slice_head (a : Option Addr) (n c m : Nat) (hm : m ≤ c) (w : World) :
    (Instr.slice 22 (.slice a n c) none (some (.int .i64 (m : Int))) none).run Try.prog w = .ok (.slice a m c) w := by
  rw [run_slice_h w _ _ _ _ (by kernel_rfl) .i64 (m : Int) (by omega) (by omega), show Try.prog.elem 22 = 5 by kernel_rfl, show (sizeOf 5).run Try.prog w = .ok 1 w by kernel_rfl]
  simp [Result.andThen, sliced]
  intro _
  cases a <;> simp [addr_add_zero]
/-- Where a slice's rest begins. -/
def tailAt (a : Option Addr) (c m : Nat) : Option Addr := if c = m then a else a.map (·.add m)
theorem slice_tail (a : Option Addr) (n c m : Nat) (hm : m ≤ n) (w : World) :
    (Instr.slice 22 (.slice a n c) (some (.int .i64 (m : Int))) none none).run Try.prog w = .ok (.slice (tailAt a c m) (n - m) (c - m)) w := by
  rw [run_slice_l w _ _ _ _ (by kernel_rfl) .i64 (m : Int) (by omega) (by omega), show Try.prog.elem 22 = 5 by kernel_rfl, show (sizeOf 5).run Try.prog w = .ok 1 w by kernel_rfl]
  simp [Result.andThen, sliced, tailAt]
theorem IsB.tail {w : World} {a : Option Addr} {n : Nat} {xs : List Int} (h : IsB w a n xs) (c m : Nat) (hm : m ≤ n) (hn : n ≤ c) : IsB w (tailAt a c m) (n - m) (xs.drop m) := by
  rcases Nat.eq_zero_or_pos (n - m) with h0 | h0
  · refine ⟨by simp [h.1], fun x hx => h.2.1 x (List.mem_of_mem_drop hx), .inl h0⟩
  · obtain ⟨b, off, rfl, _⟩ := h.2.2.resolve_left (by omega)
    have h2 := h.sub m (n - m) (by omega)
    rw [List.take_of_length_le (by simp [h.1])] at h2
    have e : tailAt (some ⟨b, off, none⟩) c m = some ⟨b, off + m, none⟩ := by
      unfold tailAt
      rw [if_neg (by omega)]
      simp only [Option.map_some]
      congr 1
      unfold Addr.add
      split <;> simp_all
    rw [e]
    exact h2
theorem IsB.head {w : World} {a : Option Addr} {n : Nat} {xs : List Int} (h : IsB w a n xs) (m : Nat) (hm : m ≤ n) : IsB w a m (xs.take m) := by
  rcases Nat.eq_zero_or_pos m with h0 | h0
  · subst h0
    exact IsB.empty w a
  · obtain ⟨b, off, rfl, _⟩ := h.2.2.resolve_left (by omega)
    simpa using h.sub 0 m (by omega)

set_option maxHeartbeats 1000000 in
theorem sums_core (a : Option Addr) (n c m : Nat) (cut : Int) (xs : List Int) (w : World) (hxs : IsB w a n xs) (hnc : n ≤ c) (hcm : c ≤ 140737488351232) (hm : m ≤ n)
    (hcut : (0 ≤ cut ∧ cut ≤ n ∧ cut = m) ∨ (m = 0 ∧ (cut < 0 ∨ (n : Int) < cut))) :
    Calls Try.prog 3 #[.slice a n c, .int .i64 cut] w fun e w' => e = .returned (.bool true) ∧ Below w.heap.size w w' := by
  have HX := Lib.hid hxs
  clear hxs
  go_enter Try.func3, Try.ntmps3
  go_wp2_with fail
  refine (awake_any w).mono ?_
  rintro e w1 ⟨rfl, hb1⟩
  have hx1 := HX.out.below hb1
  have hcv := hx1.str c
  have HB1 := Lib.hid hb1
  have HX1 := Lib.hid hx1
  obtain ⟨S, hS⟩ : ∃ S, S = strOfNums xs := ⟨_, rfl⟩
  rw [← hS] at hcv
  have HSS := Lib.hid hS
  clear hb1 hx1 hS
  go_wp2_with fail
  refine (refsum_any S xs _ HSS.out HX.out.2.1 (by have := HX.out.1; omega)).mono ?_
  rintro e w2 ⟨rfl, hb2⟩
  have hb2' := HB1.out.trans (hb2.mono HB1.out.size)
  have hx2 := HX.out.below hb2'
  have hv1 : IsV w2 (.slice a n c) xs := ⟨_, _, _, rfl, by unfold maxLen; omega, hx2⟩
  have hvh : IsV w2 (.slice a m c) (xs.take m) := ⟨_, _, _, rfl, by unfold maxLen; omega, hx2.head m hm⟩
  have hvt : IsV w2 (.slice (tailAt a c m) (n - m) (c - m)) (xs.drop m) := ⟨_, _, _, rfl, by unfold maxLen; omega, hx2.tail c m hm hnc⟩
  have hs1 := fun w => slice_head a n c m (by omega) w
  have hs2 := fun w => slice_tail a n c m hm w
  generalize tailAt a c m = a2 at *
  generalize n - m = n2 at *
  generalize c - m = c2 at *
  have HB2 := Lib.hid hb2'
  obtain ⟨T, hT⟩ : ∃ T, T = Mt.sum xs := ⟨_, rfl⟩
  have k1 : Calls Try.prog 13 #[.slice (some ⟨w2.heap.size, 0, none⟩) 1 1] (w2.alloc (.cells #[.slice a n c] 22)).drew fun e w' => e = .returned (.int .u32 T) ∧ (w2.alloc (.cells #[.slice a n c] 22)).drew = w' := by
    have hp : Parts (w2.alloc (.cells #[.slice a n c] 22)).drew w2.heap.size 1 [xs] := Parts.lit [.slice a n c] [xs] 22 rfl (by simp [maxLen]) (by
      intro i hi
      match i, hi with
      | 0, _ => exact hv1)
    have := sum_any w2.heap.size 1 1 [xs] _ hp
    rw [hT]
    simpa using this
  have k2 : Calls Try.prog 13 #[.slice (some ⟨w2.heap.size + 1, 0, none⟩) 2 2] ((w2.alloc (.cells #[.slice a n c] 22)).alloc (.cells #[.slice a m c, .slice a2 n2 c2] 22)).drew fun e w' => e = .returned (.int .u32 T) ∧ ((w2.alloc (.cells #[.slice a n c] 22)).alloc (.cells #[.slice a m c, .slice a2 n2 c2] 22)).drew = w' := by
    obtain ⟨W, hW⟩ : ∃ W, W = w2.alloc (.cells #[.slice a n c] 22) := ⟨_, rfl⟩
    have hz : W.heap.size = w2.heap.size + 1 := by rw [hW]; simp
    rw [← hW, ← hz]
    have q1 : IsV W (.slice a m c) (xs.take m) := by
      obtain ⟨_, _, _, h1, h2, h3⟩ := hvh
      exact ⟨_, _, _, h1, h2, by rw [hW]; exact h3.alloc _⟩
    have q2 : IsV W (.slice a2 n2 c2) (xs.drop m) := by
      obtain ⟨_, _, _, h1, h2, h3⟩ := hvt
      exact ⟨_, _, _, h1, h2, by rw [hW]; exact h3.alloc _⟩
    have hp : Parts (W.alloc (.cells #[.slice a m c, .slice a2 n2 c2] 22)).drew W.heap.size 2 [xs.take m, xs.drop m] := Parts.two q1 q2
    have := sum_any W.heap.size 2 2 _ _ hp
    rw [hT]
    simpa using this
  have k3 : Calls Try.prog 13 #[.slice (some ⟨w2.heap.size + 1 + 1, 0, none⟩) 3 3] (((w2.alloc (.cells #[.slice a n c] 22)).alloc (.cells #[.slice a m c, .slice a2 n2 c2] 22)).alloc (.cells #[.slice none 0 0, .slice a n c, .slice none 0 0] 22)).drew fun e w' => e = .returned (.int .u32 T) ∧ (((w2.alloc (.cells #[.slice a n c] 22)).alloc (.cells #[.slice a m c, .slice a2 n2 c2] 22)).alloc (.cells #[.slice none 0 0, .slice a n c, .slice none 0 0] 22)).drew = w' := by
    obtain ⟨W, hW⟩ : ∃ W, W = (w2.alloc (.cells #[.slice a n c] 22)).alloc (.cells #[.slice a m c, .slice a2 n2 c2] 22) := ⟨_, rfl⟩
    have hz : W.heap.size = w2.heap.size + 1 + 1 := by rw [hW]; simp
    rw [← hW, ← hz]
    have q1 : IsV W (.slice a n c) xs := by
      obtain ⟨_, _, _, h1, h2, h3⟩ := hv1
      exact ⟨_, _, _, h1, h2, by rw [hW]; exact (h3.alloc _).alloc _⟩
    have hp : Parts (W.alloc (.cells #[.slice none 0 0, .slice a n c, .slice none 0 0] 22)).drew W.heap.size 3 [[], xs, []] := Parts.lit [.slice none 0 0, .slice a n c, .slice none 0 0] [[], xs, []] 22 rfl (by simp [maxLen]) (by
      intro i hi
      match i, hi with
      | 0, _ => exact ⟨_, _, _, rfl, by simp [maxLen], IsB.empty _ _⟩
      | 1, _ => exact q1
      | 2, _ => exact ⟨_, _, _, rfl, by simp [maxLen], IsB.empty _ _⟩)
    have := sum_any W.heap.size 3 3 _ _ hp
    rw [hT]
    simpa using this
  have hfin : Below w.heap.size w (((w2.alloc (.cells #[.slice a n c] 22)).alloc (.cells #[.slice a m c, .slice a2 n2 c2] 22)).alloc (.cells #[.slice none 0 0, .slice a n c, .slice none 0 0] 22)).drew := by
    have h0 := HB2.out.size
    exact (((HB2.out.alloc h0 _).alloc (by simp; omega) _).alloc (by simp; omega) _).drew
  have K1 := Lib.hid k1
  have K2 := Lib.hid k2
  have K3 := Lib.hid k3
  have HF := Lib.hid hfin
  rw [← hT]
  clear hb2 hb2' hx2 hv1 hvh hvt k1 k2 k3 hfin hcv hT
  rcases hcut with ⟨h1, h2, rfl⟩ | ⟨rfl, h1 | h1⟩
  · go_wp2_with fail
    go_region_held3 (fun _ => True) (trivial) (first
      | (go_at_call 13; (with_reducible refine K1.out.mono ?_); rintro e w' ⟨rfl, rfl⟩)
      | (go_at_call 13; (with_reducible refine K2.out.mono ?_); rintro e w' ⟨rfl, rfl⟩)
      | (go_at_call 13; (with_reducible refine K3.out.mono ?_); rintro e w' ⟨rfl, rfl⟩))
    clear hs1 hs2
    go_wp2
    go_ret
    exact ⟨rfl, HF.out⟩
  all_goals
    have hs3 : ∀ w, (Instr.slice 22 (.slice a n c) none (some (.int .i64 0)) none).run Try.prog w = .ok (.slice a 0 c) w := hs1
    have hs4 : ∀ w, (Instr.slice 22 (.slice a n c) (some (.int .i64 0)) none none).run Try.prog w = .ok (.slice a2 n2 c2) w := hs2
    clear hs1 hs2
    go_wp2_with fail
    go_region_held3 (fun _ => True) (trivial) (first
      | (go_at_call 13; (with_reducible refine K1.out.mono ?_); rintro e w' ⟨rfl, rfl⟩)
      | (go_at_call 13; (with_reducible refine K2.out.mono ?_); rintro e w' ⟨rfl, rfl⟩)
      | (go_at_call 13; (with_reducible refine K3.out.mono ?_); rintro e w' ⟨rfl, rfl⟩))
    clear hs3 hs4
    go_wp2
    go_ret
    exact ⟨rfl, HF.out⟩

theorem sums_walk {a : Option Addr} {n c : Nat} {zs : List Int} {cut : Int} (w : World) (h : IsRow .u8 w a n c zs) (hr : c ≤ 140737488351232) :
    Calls Try.prog 3 #[.slice a n c, .int .i64 cut] w fun e w' => e = .returned (.bool true) ∧ Below w.heap.size w w' := by
  obtain ⟨hb, _, hnc, _⟩ := h.isB
  by_cases hc : 0 ≤ cut ∧ cut ≤ n
  · obtain ⟨m, rfl⟩ := Int.eq_ofNat_of_zero_le hc.1
    exact sums_core a n c m _ _ w hb hnc hr (by omega) (.inl ⟨hc.1, hc.2, rfl⟩)
  · exact sums_core a n c 0 _ _ w hb hnc hr (by omega) (.inr ⟨rfl, by omega⟩)
end Go.Proofs.Ytojkegnflbfloaa
