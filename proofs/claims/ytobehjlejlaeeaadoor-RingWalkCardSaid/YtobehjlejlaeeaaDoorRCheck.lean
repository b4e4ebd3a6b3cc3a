/- Tables asked: Check, Owner; the program's table as the document's. -/
import Derived.Test.YtobehjlejlaeeaaDoorRRead
namespace Go.Proofs.YtobehjlejlaeeaaDoor
open Go.RowKit

def Mt.bad (n x : Int) : Bool := decide (x < 0) || decide (n ≤ x)
def Mt.check (e : Int) (o : List Int) (n : Int) : Int := if e < 0 ∨ o.any (Mt.bad n) = true then 1 else 0
theorem Mt.bad_take {n : Int} {o : List Int} {i : Nat} (h : (o.take i).any (Mt.bad n) = false) (hi : i < o.length) (hb : Mt.bad n (o.getD i 0) = false) : (o.take (i + 1)).any (Mt.bad n) = false := by
  rw [List.take_succ_eq_append_getElem hi, List.any_append, h]
  have : o.getD i 0 = o[i] := by simp [List.getD, hi]
  rw [this] at hb
  simp [hb]
theorem Mt.bad_at {n : Int} {o : List Int} {i : Nat} (hi : i < o.length) (hb : Mt.bad n (o.getD i 0) = true) : o.any (Mt.bad n) = true := by
  have : o.getD i 0 = o[i] := by simp [List.getD, hi]
  rw [this] at hb
  exact List.any_eq_true.2 ⟨_, List.getElem_mem hi, hb⟩

set_option maxRecDepth 100000 in
set_option maxHeartbeats 8000000 in
theorem check_any {T : Array Value} {e : Int} {a : List Int} (n : Int) (w : World) (hT : TabC T e a) :
    Calls Tryd.prog 17 #[.agg T, .int .i64 n] w fun r w' => r = .returned (.int .i64 (Mt.check e a n)) ∧ Below w.heap.size w w' := by
  obtain ⟨W1, hW1⟩ : ∃ W1, W1 = w.alloc (.cells T 32) := ⟨_, rfl⟩
  have hA : Whole W1 w.heap.size 32 T := by rw [hW1]; exact heap_alloc_new _ _
  have HR := Lib.hid (range_owners hA hT)
  have HB := Lib.hid (show Below w.heap.size w W1 by rw [hW1]; exact below_alloc _ _)
  rw [hW1] at HR
  have HW1 := Lib.hid hW1
  have c0 := hT.c0
  have HT := Lib.hid hT
  have HI := Lib.hid (show (Tryd.prog.info? 30).map (·.size) = some (acs a).toList.length by rw [Array.length_toList, acs_size, hT.len]; exact Tryd.infoA)
  have HL := Lib.hid hT.len
  clear hA hT hW1
  by_cases he : e < 0
  · have HC := Lib.hid (show Mt.check e a n = 1 by unfold Mt.check; rw [if_pos (.inl he)])
    go_enter Tryd.func17, Tryd.ntmps17
    go_wp2
    go_ret
    exact ⟨by rw [HC.out]; rfl, by rw [← HW1.out]; exact HB.out⟩
  · go_enter Tryd.func17, Tryd.ntmps17
    go_wp2_with (refine wpList_load_mid rfl 30 (.tmp 10) rfl w.heap.size 1 rfl (acs a).toList _ HR.out Tryd.underlying30 rfl HI.out ?_; rw [← HW1.out])
    go_loop [12] (fun iv => ∃ i : Nat, i ≤ 16 ∧ iv = .int .i64 i ∧ (a.take i).any (Mt.bad n) = false) (fun iv => 16 - (intOf iv).toNat)
    case atStart => exact ⟨0, by omega, rfl, by simp⟩
    case round =>
      obtain ⟨i, hi, rfl, hn⟩ := hrel
      by_cases hlt : i < 16
      · have c2 := acs_at a i (by rw [HL.out]; exact hlt)
        have c3 := index_run _ i _ hlt c2
        by_cases hb : Mt.bad n (a.getD i 0) = true
        · have HC := Lib.hid (show Mt.check e a n = 1 by unfold Mt.check; rw [if_pos (.inr (Mt.bad_at (by rw [HL.out]; exact hlt) hb))])
          have hb2 : a.getD i 0 < 0 ∨ 0 ≤ a.getD i 0 ∧ n ≤ a.getD i 0 := by
            unfold Mt.bad at hb
            simp only [Bool.or_eq_true, decide_eq_true_eq] at hb
            omega
          generalize a.getD i 0 = x at *
          clear hb hn c2
          rcases hb2 with h1 | ⟨h1, h2⟩
          all_goals
            go_wp2
            go_ret
            exact ⟨by rw [HC.out]; rfl, HB.out⟩
        · have hbf : Mt.bad n (a.getD i 0) = false := by simpa using hb
          have HN := Lib.hid (Mt.bad_take hn (by rw [HL.out]; exact hlt) hbf)
          have hb2 : 0 ≤ a.getD i 0 ∧ a.getD i 0 < n := by
            unfold Mt.bad at hbf
            simp only [Bool.or_eq_false_iff, decide_eq_false_iff_not] at hbf
            omega
          obtain ⟨h1, h2⟩ := hb2
          generalize a.getD i 0 = x at *
          clear hb hbf hn c2
          go_wp2
          go_round
          case rel => exact ⟨i + 1, by omega, by go_num, HN.out⟩
          case measure => simp [intOf]; omega
      · obtain rfl : i = 16 := by omega
        rw [List.take_of_length_le (by rw [HL.out]; exact Nat.le_refl _)] at hn
        have HC := Lib.hid (show Mt.check e a n = 0 by unfold Mt.check; rw [if_neg (by rw [hn]; simp; omega)])
        clear hn
        go_wp2
        go_ret
        exact ⟨by rw [HC.out]; rfl, HB.out⟩

set_option maxRecDepth 100000 in
set_option maxHeartbeats 8000000 in
theorem rcheck_any {T : Array Value} {e : Int} {a : List Int} (n : Int) (w : World) (hT : TabC T e a) :
    Calls Tryd.prog 18 #[.agg T, .int .i64 n] w fun r w' => r = .returned (.int .i64 (Mt.check e a n)) ∧ Below w.heap.size w w' := by
  obtain ⟨W1, hW1⟩ : ∃ W1, W1 = w.alloc (.cells T 36) := ⟨_, rfl⟩
  have hA : Whole W1 w.heap.size 36 T := by rw [hW1]; exact heap_alloc_new _ _
  have HB := Lib.hid (show Below w.heap.size w W1 by rw [hW1]; exact below_alloc _ _)
  have c0 : W1.cell? ⟨w.heap.size, 0, none⟩ = some (.int .i64 e) := by rw [hA.cell]; exact hT.c0
  have HS := Lib.hid (show ∀ i, i < 16 → W1.cell? ⟨w.heap.size, 1 + i, none⟩ = some (.int .i64 (a.getD i 0)) from fun i hi => by rw [hA.cell]; exact hT.cs i hi)
  have HL := Lib.hid hT.len
  have HW1 := Lib.hid hW1
  clear hA hT hW1
  go_enter Tryd.func18, Tryd.ntmps18
  go_wp2
  rw [← HW1.out]
  go_loop [5] (fun iv => ∃ i : Nat, i ≤ 16 ∧ iv = .int .i64 i ∧ (a.take i).any (Mt.bad n) = false) (fun iv => 16 - (intOf iv).toNat)
  case atStart => exact ⟨0, by omega, rfl, by simp⟩
  case round =>
    obtain ⟨i, hi, rfl, hn⟩ := hrel
    by_cases hlt : i < 16
    · have c2 := HS.out i hlt
      by_cases hb : Mt.bad n (a.getD i 0) = true
      · have HC := Lib.hid (show Mt.check e a n = 1 by unfold Mt.check; rw [if_pos (.inr (Mt.bad_at (by rw [HL.out]; exact hlt) hb))])
        have hb2 : a.getD i 0 < 0 ∨ 0 ≤ a.getD i 0 ∧ n ≤ a.getD i 0 := by
          unfold Mt.bad at hb
          simp only [Bool.or_eq_true, decide_eq_true_eq] at hb
          omega
        generalize a.getD i 0 = x at *
        clear hb hn
        rcases hb2 with h1 | ⟨h1, h2⟩
        all_goals
          go_wp2
          go_ret
          exact ⟨by rw [HC.out]; rfl, HB.out⟩
      · have hbf : Mt.bad n (a.getD i 0) = false := by simpa using hb
        have HN := Lib.hid (Mt.bad_take hn (by rw [HL.out]; exact hlt) hbf)
        have hb2 : 0 ≤ a.getD i 0 ∧ a.getD i 0 < n := by
          unfold Mt.bad at hbf
          simp only [Bool.or_eq_false_iff, decide_eq_false_iff_not] at hbf
          omega
        obtain ⟨h1, h2⟩ := hb2
        generalize a.getD i 0 = x at *
        clear hb hbf hn
        go_wp2
        go_round
        case rel => exact ⟨i + 1, by omega, by go_num, HN.out⟩
        case measure => simp [intOf]; omega
    · obtain rfl : i = 16 := by omega
      rw [List.take_of_length_le (by rw [HL.out]; exact Nat.le_refl _)] at hn
      by_cases he : e < 0
      · have HC := Lib.hid (show Mt.check e a n = 1 by unfold Mt.check; rw [if_pos (.inl he)])
        clear hn
        go_wp2
        go_ret
        exact ⟨by rw [HC.out]; rfl, HB.out⟩
      · have HC := Lib.hid (show Mt.check e a n = 0 by unfold Mt.check; rw [if_neg (by rw [hn]; simp; omega)])
        clear hn
        go_wp2
        go_ret
        exact ⟨by rw [HC.out]; rfl, HB.out⟩

set_option maxRecDepth 100000 in
set_option maxHeartbeats 8000000 in
theorem towner_core {T : Array Value} {e : Int} {a : List Int} (s : ByteArray) (k : Nat) (x : Int) (w : World) (hT : TabC T e a) (hs : s.size ≤ 140737488355328) (hk : Mt.slot s = k) (hlt : k < 16) (hx : a.getD k 0 = x) :
    Calls Tryd.prog 19 #[.agg T, .string s] w fun r w' => r = .returned (.int .i64 x) ∧ Below w.heap.size w w' := by
  have c2 : (w.alloc (.cells T 32)).cell? ⟨w.heap.size, 1 + k, none⟩ = some (.int .i64 x) := by rw [new_cell, ← hx]; exact hT.cs _ hlt
  have HB := Lib.hid (below_alloc w (.cells T 32))
  have HK := Lib.hid hk
  clear hk hT hx
  go_enter Tryd.func19, Tryd.ntmps19
  go_wp2_with (go_at_call 11; refine (slot_any _ _ hs).mono ?_; rintro r w1 ⟨rfl, rfl⟩; rw [HK.out])
  go_ret
  exact ⟨rfl, HB.out⟩
theorem towner_any {T : Array Value} {e : Int} {a : List Int} (s : ByteArray) (w : World) (hT : TabC T e a) (hs : s.size ≤ 140737488355328) :
    Calls Tryd.prog 19 #[.agg T, .string s] w fun r w' => r = .returned (.int .i64 (a.getD (Mt.slot s) 0)) ∧ Below w.heap.size w w' :=
  towner_core s _ _ w hT hs rfl (Mt.slot_lt s) rfl
end Go.Proofs.YtobehjlejlaeeaaDoor
