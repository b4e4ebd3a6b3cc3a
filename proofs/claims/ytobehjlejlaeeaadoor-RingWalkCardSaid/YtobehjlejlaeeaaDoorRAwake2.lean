/- The law's first question. -/
import Derived.Test.YtobehjlejlaeeaaDoorRAwake
namespace Go.Proofs.YtobehjlejlaeeaaDoor
open Go.RowKit

theorem Mt.own5 : ∃ k : Int, (Mt.owns 3 8).getD 5 0 = k ∧ 0 ≤ k ∧ k < 3 := by
  refine ⟨(Mt.own 3 8 5 : Int), Mt.owns_at 3 8 5 (by omega), by omega, ?_⟩
  have := Mt.own_lt (nodes := 3) (points := 8) (s := 5) (by omega) (by omega)
  omega
theorem Mt.move5 {o : List Int} {k : Int} (hk : o.getD 5 0 = k) : Mt.move 0 o 5 ((k + 1) % 3) = (1, o.set 5 ((k + 1) % 3), 0) := by
  unfold Mt.move
  rw [if_neg (by omega), if_neg (by show ¬ o.getD (5 : Int).toNat 0 = _; rw [show (5 : Int).toNat = 5 from rfl, hk]; omega)]
  rfl
theorem Mt.ups5 {o : List Int} {x : Int} (hl : o.length = 16) (hx : o.getD 5 0 ≠ x) : Mt.ups (Mt.other o (o.set 5 x)) 16 = [5] := by
  have h : ∀ s ∈ List.range 16, Mt.other o (o.set 5 x) s = (s == 5) := by
    intro s hs
    rw [List.mem_range] at hs
    unfold Mt.other
    by_cases h5 : s = 5
    · subst h5
      simp [List.getD, hl] at hx ⊢
      exact hx
    · have h5' : 5 ≠ s := fun e => h5 e.symm
      simp [List.getD, h5, h5']
  unfold Mt.ups
  rw [List.filter_congr h]
  rfl
theorem Mt.hash_two : Mt.hash ⟨#[]⟩ ≠ Mt.hash ⟨#[97]⟩ := by decide +kernel
theorem new38 (w : World) : Calls Tryd.prog 12 #[.int .i64 3, .int .i64 8] w fun e w' => e = .returned (.tuple #[.agg (tcs 0 (Mt.owns 3 8)), .int .i64 0]) ∧ Below w.heap.size w w' :=
  new_good 3 8 w (by omega) (by omega) (by omega) (by omega)

set_option maxRecDepth 100000 in
set_option maxHeartbeats 8000000 in
theorem awake_any (w : World) : Calls Tryd.prog 8 #[] w fun e w' => e = .returned (.bool true) ∧ Below w.heap.size w w' := by
  obtain ⟨k, hk, hk0, hk3⟩ := Mt.own5
  have HN := Lib.hid (new38 w)
  have hol := Mt.owns_len 3 8
  generalize Mt.owns 3 8 = o at *
  have HM := Lib.hid (Mt.move5 hk)
  have hx : o.getD 5 0 ≠ (k + 1) % 3 := by omega
  have HU := Lib.hid (Mt.ups5 hol hx)
  have HT := Lib.hid (TabC.mk' 0 o hol)
  have HT2 := Lib.hid (TabC.mk' 1 (o.set 5 ((k + 1) % 3)) (by rw [List.length_set]; exact hol))
  have H2 := Lib.hid Mt.hash_two
  have HC5 := Lib.hid (show (tcs 0 o)[1 + 5]? = some (.int .i64 k) by rw [HT.out.cs 5 (by omega), hk])
  clear hk hol hx
  go_enter Tryd.func8, Tryd.ntmps8
  go_wp2_with (first
    | (go_at_call 12; refine HN.out.mono ?_; rintro e w1 ⟨rfl, hb1⟩; have HB1 := Lib.hid hb1; clear hb1)
    | (refine wpList_store_rowTo rfl 32 (.tmp 1) (.tmp 8) rfl rfl w1.heap.size (tcs 0 o) rfl rfl 32 _ (heap_alloc_new w1 _) HT.out.info (by rw [HT.out.size]; rfl) HT.out.one ?_
       rw [setRow_new]
       have hT1 : Whole (w1.alloc (.cells (tcs 0 o) 32)) w1.heap.size 32 (tcs 0 o) := heap_alloc_new _ _
       have c0 : (w1.alloc (.cells (tcs 0 o) 32)).cell? ⟨w1.heap.size, 0, none⟩ = some (.int .i64 0) := by rw [hT1.cell]; exact HT.out.c0
       have c5 : (w1.alloc (.cells (tcs 0 o) 32)).cell? ⟨w1.heap.size, 6, none⟩ = some (.int .i64 k) := by rw [hT1.cell]; exact HC5.out
       have HB2 := Lib.hid (HB1.out.alloc HB1.out.size (.cells (tcs 0 o) 32))
       have HT1 := Lib.hid hT1
       clear hT1
       generalize w1.alloc (.cells (tcs 0 o) 32) = w2 at *
       generalize w1.heap.size = g1 at *)
    | (refine wpList_load_row rfl 32 (.tmp 1) rfl g1 rfl 32 (tcs 0 o) (0, 0) _ HT1.out Tryd.underlying32 rfl HT.out.info ?_)
    | (go_at_call 14; refine (move_any 5 ((k + 1) % 3) _ HT.out).mono ?_; rintro e w3 ⟨rfl, hb3⟩; rw [HM.out]
       have HB3 := Lib.hid (HB2.out.trans (hb3.mono HB2.out.size)); have HT3 := Lib.hid (HT1.out.kept (hb3.block _ HT1.out.lt)); clear hb3 c0 c5)
    | (refine wpList_store_rowTo rfl 32 (.tmp 3) (.tmp 25) rfl rfl w3.heap.size (tcs 1 (o.set 5 ((k + 1) % 3))) rfl rfl 32 _ (heap_alloc_new w3 _) HT2.out.info (by rw [HT2.out.size]; rfl) HT2.out.one ?_
       rw [setRow_new]
       have hT4 : Whole (w3.alloc (.cells (tcs 1 (o.set 5 ((k + 1) % 3))) 32)) w3.heap.size 32 (tcs 1 (o.set 5 ((k + 1) % 3))) := heap_alloc_new _ _
       have HB4 := Lib.hid (HB3.out.alloc HB3.out.size (.cells (tcs 1 (o.set 5 ((k + 1) % 3))) 32))
       have HT1b := Lib.hid (HT3.out.kept ((below_alloc w3 (.cells (tcs 1 (o.set 5 ((k + 1) % 3))) 32)).block _ HT3.out.lt))
       have HT4 := Lib.hid hT4
       clear hT4
       generalize w3.alloc (.cells (tcs 1 (o.set 5 ((k + 1) % 3))) 32) = w4 at *
       generalize w3.heap.size = g3 at *)
    | (refine wpList_load_row rfl 32 (.tmp 3) rfl g3 rfl 32 (tcs 1 (o.set 5 ((k + 1) % 3))) (0, 0) _ HT4.out Tryd.underlying32 rfl HT2.out.info ?_)
    | (refine wpList_load_row rfl 32 (.tmp 1) rfl g1 rfl 32 (tcs 0 o) (0, 0) _ HT1b.out Tryd.underlying32 rfl HT.out.info ?_)
    | (go_at_call 20; refine (diff_any _ HT.out HT2.out).mono ?_; rintro e w5 ⟨⟨v, rfl, hv⟩, hb5⟩; rw [HU.out] at hv; obtain ⟨a5, c5, rfl, hl⟩ := Lies.owned hv; obtain ⟨b5, off5, rfl, _, _⟩ := hl.addr (by simp)
       have e0 := hl.cell (j := 0) (u := .int .i64 5) rfl
       rw [Nat.add_zero] at e0
       have f0 : w5.cell? ⟨g3, 0, none⟩ = some (.int .i64 1) := by rw [(HT4.out.kept (hb5.block _ HT4.out.lt)).cell]; exact HT2.out.c0
       have HB5 := Lib.hid (HB4.out.trans (hb5.mono HB4.out.size)); clear hb5 hv hl)
    | (go_at_call 10; first
       | (with_reducible refine (hash_any ⟨#[]⟩ _ (by decide)).mono ?_; rintro e w6 ⟨rfl, rfl⟩)
       | (with_reducible refine (hash_any ⟨#[97]⟩ _ (by decide)).mono ?_; rintro e w6 ⟨rfl, rfl⟩; have h2 := H2.out; generalize Mt.hash ⟨#[]⟩ = x1 at *; generalize Mt.hash ⟨#[97]⟩ = x2 at *; have h2' : ((x1 : Int) != (x2 : Int)) = true := (by simp; omega))))
  go_ret
  exact ⟨rfl, HB5.out⟩
end Go.Proofs.YtobehjlejlaeeaaDoor
