/- log: the bench. log: what a growing row leaves alone. -/
import Derived.Test.YteodldmbnghfcaaL7
namespace Go.Proofs.Yteodldmbnghfcaa
open Go.RowKit

theorem in7 : In64 7 := ⟨by decide, by decide⟩
theorem in8 : In64 8 := ⟨by decide, by decide⟩
theorem len78 : (cat [kindD 7, kindD 8]).length = 40 ∧ (cat [kindD 7]).length = 20 := by
  simp [cat, kind_len]
theorem cut78 : (cat [kindD 7, kindD 8]).take (Dk.left 40 20 0) = (cat [kindD 7, kindD 8]).take 20 ∧ cnt [kindD 7, kindD 8] 20 = 1 := by
  refine ⟨rfl, ?_⟩
  rw [cnt, kind_len (by decide), if_pos (by decide), cnt, kind_len (by decide), if_neg (by decide)]
theorem Lg.turned0 {w w' : World} {B gl g d r n : Nat} {v : Value} {xs : List Int} (h : Lg w B gl g v xs d r n) (ht : Dk.Turned w w' g none) (hB : B ≤ w.heap.size) : Below B w w' :=
  ht.below h.disk.ge (by simp) hB

set_option maxRecDepth 100000 in
set_option maxHeartbeats 4000000 in
theorem lawake_any (w : World) : Calls Try.prog 4 #[] w fun e w' => e = .returned (.bool true) ∧ Below w.heap.size w w' := by
  go_enter Try.func4, Try.ntmps4
  go_wp2_with fail
  refine (Dk.new_good w.heap.size 200 _ (by decide) (Nat.le_refl _)).mono ?_
  rintro e w1 ⟨rfl, hd1, hb1⟩
  have HO := Lib.hid (lopen_cat w.heap.size w.heap.size (.slice none 0 0) [] 0 200 w1 hd1 (by simp))
  have HB1 := Lib.hid hb1
  clear hd1 hb1
  go_wp2_with fail
  refine HO.out.mono ?_
  rintro e w2 ⟨gl, ra, rc, v2, rfl, _, _, hgl, hl2, ho2, _, _, ht2⟩
  have HL2 := Lib.hid hl2
  have HB2 := Lib.hid (HB1.out.trans (ht2.below (Nat.le_refl _) (by simp) HB1.out.size))
  have HW := Lib.hid (lwrite_any w.heap.size gl w.heap.size v2 [] 0 200 _ (kindD 7) w2 hl2 (kind_in w2 in7))
  clear hl2 ho2 ht2 hgl
  go_wp2_with fail
  refine HW.out.mono ?_
  rintro e w3 ⟨c3, rfl, ⟨rfl, _, _, v3, hl3, hk3, _⟩ | ⟨h3, _⟩⟩
  rotate_left
  · exfalso
    rcases h3 with ⟨_, _, h3⟩ | ⟨_, h3⟩
    · rw [kind_len (by decide)] at h3
      simp [cat] at h3
    · exact h3 (kind_good in7)
  have HL3 := Lib.hid hl3
  have HB3 := Lib.hid (HB2.out.trans (HL2.out.below hk3 HB2.out.size))
  have HA := Lib.hid (ladd_any w.heap.size gl w.heap.size v3 ([] ++ [kindD 7]) _ 200 _ (kindD 8) w3 hl3 (kind_in w3 in8))
  clear hl3 hk3
  go_wp2_with fail
  refine HA.out.mono ?_
  rintro e w4 ⟨c4, rfl, ⟨rfl, _, _, v4, hl4, hk4, _⟩ | ⟨h4, _⟩⟩
  rotate_left
  · exfalso
    rcases h4 with ⟨_, _, h4⟩ | ⟨_, h4⟩
    · rw [kind_len (by decide), show ([] ++ [kindD 7] : List MsgD) = [kindD 7] from rfl, len78.2] at h4
      omega
    · exact h4 (kind_good in8)
  have HL4 := Lib.hid hl4
  have HB4 := Lib.hid (HB3.out.trans (HL3.out.below hk4 HB3.out.size))
  have hl4' : Lg w4 w.heap.size gl w.heap.size v4 (cat [kindD 7, kindD 8]) 20 200 2 := by
    have := hl4
    rw [show ([] ++ [kindD 7] : List MsgD) = [kindD 7] from rfl, len78.2] at this
    exact this
  have HC := Lib.hid (count_any w.heap.size gl w.heap.size v4 _ 20 200 2 w4 hl4')
  have HX := Lib.hid (Dk.crash_any 0 w4 hl4'.disk (by decide))
  have HL4' := Lib.hid hl4'
  clear hl4 hk4 hl4'
  go_wp2_with fail
  refine HC.out.mono ?_
  rintro e w5 ⟨rfl, rfl⟩
  go_wp2_with fail
  refine HX.out.mono ?_
  rintro e w5 ⟨rfl, v5, hd5, ht5, ho5⟩
  have HB5 := Lib.hid (HB4.out.trans (HL4'.out.turned0 ht5 HB4.out.size))
  have hd5' : Dk.DAt w5 w.heap.size w.heap.size v5 ((cat [kindD 7, kindD 8]).take 20) 20 200 := by
    have := hd5
    rw [len78.1, cut78.1] at this
    exact this
  have ho := lopen_cut w.heap.size w.heap.size v5 [kindD 7, kindD 8] 20 20 200 w5 hd5' (by
    intro m hm
    rcases List.mem_cons.1 hm with rfl | hm
    · exact kind_fine in7
    · obtain rfl : m = kindD 8 := by simpa using hm
      exact kind_fine in8)
  rw [cut78.2] at ho
  have HO5 := Lib.hid ho
  clear hd5 ht5 ho5 hd5' ho
  go_wp2_with fail
  refine HO5.out.mono ?_
  rintro e w6 ⟨gl6, ra6, rc6, v6, rfl, _, _, hgl6, hl6, ho6, _, hm6, ht6⟩
  have HB6 := Lib.hid (HB5.out.trans (ht6.below (Nat.le_refl _) (by simp) HB5.out.size))
  have hl6' : Lg w6 w.heap.size gl6 w.heap.size v6 (cat [kindD 7]) 20 200 1 := by
    have := hl6
    unfold Ls at this
    rw [show ([kindD 7, kindD 8] : List MsgD).take 1 = [kindD 7] from rfl, len78.2] at this
    exact this
  obtain ⟨b6, o6, rfl, hb6, hc6⟩ := hm6.2.resolve_left (by simp)
  obtain ⟨s8, s9, s10, s11, hbx, _⟩ := hc6 0 (kindD 7) rfl
  have k0 : w6.cell? ⟨b6, o6, none⟩ = some (.int .i64 7) := by
    have := hbx.1
    rw [Nat.zero_mul, Nat.add_zero] at this
    exact this
  have HC6 := Lib.hid (count_any w.heap.size gl6 w.heap.size v6 _ 20 200 1 w6 hl6')
  have HF6 := Lib.hid (lleft_any w.heap.size gl6 w.heap.size v6 _ 20 200 1 w6 hl6')
  simp only [List.length_take, List.length_cons, List.length_nil]
  clear hgl6 hl6 ho6 hm6 ht6 hl6' hc6 hbx
  go_wp2_with fail
  refine HC6.out.mono ?_
  rintro e w7 ⟨rfl, rfl⟩
  go_wp2_with fail
  refine HF6.out.mono ?_
  rintro e w7 ⟨rfl, q, rfl⟩
  rw [len78.2]
  have HB7 := Lib.hid (HB6.out.trans ((below_drewN w6 q).mono HB6.out.size))
  go_wp2
  go_ret
  exact ⟨rfl, HB7.out⟩
end Go.Proofs.Yteodldmbnghfcaa

namespace Go.Proofs.Yteodldmbnghfcaa
open Go.RowKit

theorem slice_headM (a : Option Addr) (n c m : Nat) (hm : m ≤ c) (w : World) :
    (Instr.slice 30 (.slice a n c) none (some (.int .i64 (m : Int))) none).run Try.prog w = .ok (.slice a m c) w := by
  rw [run_slice_h w _ _ _ _ (by kernel_rfl) .i64 (m : Int) (by omega) (by omega), show Try.prog.elem 30 = 40 by kernel_rfl, show (sizeOf 40).run Try.prog w = .ok 12 w by kernel_rfl]
  simp [Result.andThen, sliced]
  intro _
  cases a <;> simp [addr_add_zero]
theorem Lg.grown {w w' : World} {B gl g d r n base k : Nat} {v u : Value} {xs : List Int} {l : List Value} (h : Lg w B gl g v xs d r n) (hu : w.ownsRow base 40 12 u k l) (hg : w.grownBy w' u.ownBlock) : Lg w' B gl g v xs d r n := by
  have hne : ∀ j, u.ownBlock = some j → j ≠ gl ∧ j ≠ g ∧ some j ≠ v.ownBlock := fun j hj => h.apart hu (by decide) (by decide) (by decide) hj
  have hd : Whole w g 60 _ := h.disk.blk
  refine ⟨h.lg.kept (hg.block gl h.lg.lt fun e => (hne gl e.symm).1 rfl), h.ge, ⟨?_, h.disk.ge, ?_, h.disk.byte, h.disk.hd, h.disk.hr, h.disk.hm⟩⟩
  · exact hd.kept (hg.block g hd.lt fun e => (hne g e.symm).2.1 rfl)
  · exact owns_keep h.disk.own fun j hj => hg.block j (h.disk.own.lt j hj).2 fun e => (hne j e.symm).2.2 hj.symm
theorem Whole.past {w w' : World} {B gl g d r n k : Nat} {v : Value} {xs : List Int} {t : TypeId} {cs : Array Value} (hw : Whole w k t cs) (h : Lg w B gl g v xs d r n) (hk : Kept w w' gl g v) (ht : t ≠ 66) (h2 : t ≠ 60) (h3 : t ≠ 5) : Whole w' k t cs := by
  have hne : ∀ (q : Nat) (t' : TypeId) (cs' : Array Value), Whole w q t' cs' → t ≠ t' → k ≠ q := by
    rintro q t' cs' hq hn rfl
    unfold Whole at hq hw
    rw [hq] at hw
    injection hw with hw
    injection hw with _ hw
    exact hn hw.symm
  refine hw.kept (hk.block k hw.lt (hne _ _ _ h.lg ht) (hne _ _ _ (show Whole w g 60 _ from h.disk.blk) h2) ?_)
  intro e
  rcases h.disk.own.2 with ⟨e2, _⟩ | ⟨b, cap, cur, e2, _, h4, _⟩
  · rw [e2] at e; cases e
  · rw [e2] at e
    have e1 : k = b := by simpa [Value.ownBlock] using e
    subst e1
    unfold Whole at hw
    rw [hw] at h4
    injection h4 with h4
    injection h4 with _ h4
    exact h3 h4
end Go.Proofs.Yteodldmbnghfcaa
