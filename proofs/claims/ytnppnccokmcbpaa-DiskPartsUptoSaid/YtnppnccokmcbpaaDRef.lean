/- The document's disk. -/
import Derived.Test.YtnppnccokmcbpaaDForks
namespace Go.Proofs.Ytnppnccokmcbpaa
open Go.RowKit

/-- The document's disk as a value. -/
def RD (S : ByteArray) (d r : Int) : Value := .agg #[.string S, .int .i64 d, .int .i64 r]

theorem wrong_any (r : Int) (w : World) : Calls Try.prog 10 #[.int .i64 r] w fun e w' => e = .returned (.int .i64 (if r < 0 ∨ 1048576 < r then 1 else 0)) ∧ w = w' := by
  by_cases h : r < 0
  · go_enter Try.func10, Try.ntmps10
    go_wp2
    go_ret
    exact ⟨rfl, rfl⟩
  · by_cases h2 : 1048576 < r
    · go_enter Try.func10, Try.ntmps10
      go_wp2
      go_ret
      exact ⟨rfl, rfl⟩
    · go_enter Try.func10, Try.ntmps10
      go_wp2
      go_ret
      exact ⟨rfl, rfl⟩

set_option maxHeartbeats 1000000 in
theorem rsync_any (S : ByteArray) (d r : Int) (w : World) :
    Calls Try.prog 14 #[RD S d r] w fun e w' => e = .returned (RD S S.size r) ∧ Below w.heap.size w w' := by
  unfold RD
  go_enter Try.func14, Try.ntmps14
  go_wp2
  refine bodyPost_ret (v := .agg #[.string S, .int .i64 S.size, .int .i64 r]) (by simp [results, Try.results14, go_sem]) rfl ⟨rfl, ?_⟩
  exact ((Below.refl _ _).alloc (Nat.le_refl _) _).alloc (by simp) _

set_option maxHeartbeats 1000000 in
theorem rappend_full (S X : ByteArray) (d r : Int) (w : World) (hS : S.size ≤ 1048576) (hX : X.size ≤ 140737488355328) (h : r < (S.size : Int) + X.size) :
    Calls Try.prog 12 #[RD S d r, .string X] w fun e w' => e = .returned (.tuple #[RD S d r, .int .i64 3]) ∧ Below w.heap.size w w' := by
  unfold RD
  have hw : IntKind.i64.wrap ((S.size : Int) + (X.size : Int)) = (S.size : Int) + (X.size : Int) := IntWalk.i64_in _ (by omega)
  go_enter Try.func12, Try.ntmps12
  go_wp2
  refine bodyPost_ret (v := .tuple #[.agg #[.string S, .int .i64 d, .int .i64 r], .int .i64 3]) (by simp [results, Try.results12, go_sem]) rfl ⟨rfl, ?_⟩
  exact ((Below.refl _ _).alloc (Nat.le_refl _) _).alloc (by simp) _
set_option maxHeartbeats 1000000 in
theorem rappend_fits (S X : ByteArray) (d r : Int) (w : World) (hS : S.size ≤ 1048576) (hX : X.size ≤ 140737488355328) (h : (S.size : Int) + X.size ≤ r) :
    Calls Try.prog 12 #[RD S d r, .string X] w fun e w' => e = .returned (.tuple #[RD (S ++ X) d r, .int .i64 0]) ∧ Below w.heap.size w w' := by
  unfold RD
  have hw : IntKind.i64.wrap ((S.size : Int) + (X.size : Int)) = (S.size : Int) + (X.size : Int) := IntWalk.i64_in _ (by omega)
  have hadd : ∀ w, (Op.stringOp .add S X).run Try.prog w = .ok (.string (S ++ X)) w := fun w => by rw [run_string_add_sum w S X (by omega)]
  have h' : ¬ r < (S.size : Int) + X.size := by omega
  go_enter Try.func12, Try.ntmps12
  go_wp2
  refine bodyPost_ret (v := .tuple #[.agg #[.string (S ++ X), .int .i64 d, .int .i64 r], .int .i64 0]) (by simp [results, Try.results12, go_sem]) rfl ⟨rfl, ?_⟩
  exact ((Below.refl _ _).alloc (Nat.le_refl _) _).alloc (by simp) _

theorem str_head (S : ByteArray) (j : Nat) (hj : j ≤ S.size) (w : World) :
    (Instr.slice 9 (.string S) none (some (.int .i64 (j : Int))) none).run Try.prog w = .ok (.string (S.extract 0 j)) w := by
  rw [run_slice_string_to_if (P := Try.prog) (w := w) 9 S .i64 (j : Int) Try.underlying9, if_pos (by omega)]
  rfl

/-- Three cells of a new block, behind a call. -/
theorem three_new {w w1 : World} {o : Obj} {t : TypeId} {a b c : Value} (hb : Below ((w.alloc o).alloc (.cells #[a, b, c] t)).heap.size ((w.alloc o).alloc (.cells #[a, b, c] t)) w1) :
    w1.cell? ⟨w.heap.size + 1, 0, none⟩ = some a ∧ w1.cell? ⟨w.heap.size + 1, 1, none⟩ = some b ∧ w1.cell? ⟨w.heap.size + 1, 2, none⟩ = some c ∧ w1.frozen? ⟨w.heap.size + 1, 0, none⟩ = false ∧ w1.frozen? ⟨w.heap.size + 1, 1, none⟩ = false ∧ w1.frozen? ⟨w.heap.size + 1, 2, none⟩ = false ∧ w.heap.size + 1 < w1.heap.size := by
  have hz : (w.alloc o).heap.size = w.heap.size + 1 := by simp
  have h1 : Whole ((w.alloc o).alloc (.cells #[a, b, c] t)) (w.heap.size + 1) t #[a, b, c] := by rw [← hz]; exact heap_alloc_new (w.alloc o) _
  have h2 := h1.kept (hb.block _ h1.lt)
  exact ⟨by rw [h2.cell]; rfl, by rw [h2.cell]; rfl, by rw [h2.cell]; rfl, h2.free 0, h2.free 1, h2.free 2, h2.lt⟩

theorem two_new {w w1 : World} {A B : Obj} (hb : Below ((w.alloc A).alloc B).heap.size ((w.alloc A).alloc B) w1) : Below w.heap.size w w1 :=
  (((Below.refl _ _).alloc (Nat.le_refl _) A).alloc (by simp) B).trans (hb.mono (by simp; omega))

set_option maxHeartbeats 2000000 in
theorem rcrash_any (S : ByteArray) (d : Nat) (r keep : Int) (w : World) (hS : S.size ≤ 1048576) (hd : d ≤ S.size) (hk : keep < 9223372036854775808) :
    Calls Try.prog 16 #[RD S d r, .int .i64 keep] w fun e w' => e = .returned (RD (S.extract 0 (left S.size d keep)) (left S.size d keep) r) ∧ Below w.heap.size w w' := by
  have hw : IntKind.i64.wrap ((S.size : Int) - (d : Int)) = (S.size : Int) - (d : Int) := IntWalk.i64_in _ (by omega)
  obtain ⟨p, hp⟩ : ∃ p, p = left S.size d keep := ⟨_, rfl⟩
  rw [← hp]
  have hpl : d ≤ p ∧ p ≤ S.size := by rw [hp]; unfold left; omega
  have hz : (S.extract 0 p).size = p := by simp; omega
  by_cases hcut : (if keep < 0 then 0 else keep) < (S.size : Int) - (d : Int)
  · have hh := str_head S p hpl.2
    by_cases h0 : keep < 0
    · rw [if_pos h0] at hcut
      obtain rfl : p = d := by rw [hp]; unfold left; omega
      have hwd : IntKind.i64.wrap ((p : Int) + 0) = (p : Int) := by rw [IntWalk.i64_in _ (by omega)]; omega
      clear hp
      generalize S.extract 0 p = T at *
      go_enter Try.func16, Try.ntmps16
      unfold RD
      go_wp2_with fail
      refine (rsync_any _ _ r _).mono ?_
      rintro e w1 ⟨rfl, hb1⟩
      obtain ⟨c0, c1, c2, f0, f1, f2, hlt⟩ := three_new hb1
      have HB := Lib.hid (two_new hb1)
      have HZ := Lib.hid hz
      clear hb1 hz
      unfold RD
      go_wp2
      refine bodyPost_ret (v := .agg #[.string T, .int .i64 T.size, .int .i64 r]) (by simp [results, Try.results16, go_sem, c0, c1, c2]) rfl ⟨by rw [HZ.out], ?_⟩
      exact ((HB.out.setCell (p := ⟨_, 0, none⟩) (by simp) _).setCell (p := ⟨_, 1, none⟩) (by simp) _).setCell (p := ⟨_, 2, none⟩) (by simp) _
    · rw [if_neg h0] at hcut
      have hpk : (p : Int) = (d : Int) + keep := by rw [hp]; unfold left; omega
      have hwd : IntKind.i64.wrap ((d : Int) + keep) = (p : Int) := by rw [IntWalk.i64_in _ (by omega)]; omega
      have hwe : (d : Int) + keep = (p : Int) := hpk.symm
      clear hp hpk
      generalize S.extract 0 p = T at *
      go_enter Try.func16, Try.ntmps16
      unfold RD
      go_wp2_with fail
      refine (rsync_any _ _ r _).mono ?_
      rintro e w1 ⟨rfl, hb1⟩
      obtain ⟨c0, c1, c2, f0, f1, f2, hlt⟩ := three_new hb1
      have HB := Lib.hid (two_new hb1)
      have HZ := Lib.hid hz
      clear hb1 hz
      unfold RD
      go_wp2
      refine bodyPost_ret (v := .agg #[.string T, .int .i64 T.size, .int .i64 r]) (by simp [results, Try.results16, go_sem, c0, c1, c2]) rfl ⟨by rw [HZ.out], ?_⟩
      exact ((HB.out.setCell (p := ⟨_, 0, none⟩) (by simp) _).setCell (p := ⟨_, 1, none⟩) (by simp) _).setCell (p := ⟨_, 2, none⟩) (by simp) _
  · obtain rfl : p = S.size := by rw [hp]; unfold left; split at hcut <;> omega
    have hE : S.extract 0 S.size = S := by simp
    rw [hE]
    clear hp hE hz
    by_cases h0 : keep < 0
    · rw [if_pos h0] at hcut
      go_enter Try.func16, Try.ntmps16
      unfold RD
      go_wp2_with fail
      refine (rsync_any _ _ r _).mono ?_
      rintro e w1 ⟨rfl, hb1⟩
      obtain ⟨c0, c1, c2, f0, f1, f2, hlt⟩ := three_new hb1
      have HB := Lib.hid (two_new hb1)
      clear hb1
      unfold RD
      go_wp2
      refine bodyPost_ret (v := .agg #[.string S, .int .i64 S.size, .int .i64 r]) (by simp [results, Try.results16, go_sem, c0, c1, c2]) rfl ⟨rfl, ?_⟩
      exact ((HB.out.setCell (p := ⟨_, 0, none⟩) (by simp) _).setCell (p := ⟨_, 1, none⟩) (by simp) _).setCell (p := ⟨_, 2, none⟩) (by simp) _
    · rw [if_neg h0] at hcut
      go_enter Try.func16, Try.ntmps16
      unfold RD
      go_wp2_with fail
      refine (rsync_any _ _ r _).mono ?_
      rintro e w1 ⟨rfl, hb1⟩
      obtain ⟨c0, c1, c2, f0, f1, f2, hlt⟩ := three_new hb1
      have HB := Lib.hid (two_new hb1)
      clear hb1
      unfold RD
      go_wp2
      refine bodyPost_ret (v := .agg #[.string S, .int .i64 S.size, .int .i64 r]) (by simp [results, Try.results16, go_sem, c0, c1, c2]) rfl ⟨rfl, ?_⟩
      exact ((HB.out.setCell (p := ⟨_, 0, none⟩) (by simp) _).setCell (p := ⟨_, 1, none⟩) (by simp) _).setCell (p := ⟨_, 2, none⟩) (by simp) _

set_option maxHeartbeats 2000000 in
theorem rtrunc_bad (S : ByteArray) (d r k : Int) (w : World) (h : k < 0 ∨ (S.size : Int) < k) :
    Calls Try.prog 18 #[RD S d r, .int .i64 k] w fun e w' => e = .returned (.tuple #[RD S d r, .int .i64 1]) ∧ Below w.heap.size w w' := by
  unfold RD
  rcases h with h | h
  · go_enter Try.func18, Try.ntmps18
    go_wp2
    refine bodyPost_ret (v := .tuple #[.agg #[.string S, .int .i64 d, .int .i64 r], .int .i64 1]) (by simp [results, Try.results18, go_sem]) rfl ⟨rfl, ?_⟩
    exact ((Below.refl _ _).alloc (Nat.le_refl _) _).alloc (by simp) _
  · have h0 : ¬ k < 0 := by omega
    go_enter Try.func18, Try.ntmps18
    go_wp2
    refine bodyPost_ret (v := .tuple #[.agg #[.string S, .int .i64 d, .int .i64 r], .int .i64 1]) (by simp [results, Try.results18, go_sem]) rfl ⟨rfl, ?_⟩
    exact ((Below.refl _ _).alloc (Nat.le_refl _) _).alloc (by simp) _

set_option maxHeartbeats 2000000 in
theorem rtrunc_good (S : ByteArray) (d r : Int) (k : Nat) (w : World) (h : k ≤ S.size) :
    Calls Try.prog 18 #[RD S d r, .int .i64 k] w fun e w' => e = .returned (.tuple #[RD (S.extract 0 k) k r, .int .i64 0]) ∧ Below w.heap.size w w' := by
  have hh := str_head S k h
  have hz : (S.extract 0 k).size = k := by simp; omega
  have h1 : ¬ (S.size : Int) < (k : Int) := by omega
  generalize S.extract 0 k = T at *
  go_enter Try.func18, Try.ntmps18
  unfold RD
  go_wp2_with fail
  refine (rsync_any _ _ r _).mono ?_
  rintro e w1 ⟨rfl, hb1⟩
  obtain ⟨c0, c1, c2, f0, f1, f2, hlt⟩ := three_new hb1
  have HB := Lib.hid (two_new hb1)
  have HZ := Lib.hid hz
  clear hb1 hz
  unfold RD
  go_wp2
  refine bodyPost_ret (v := .tuple #[.agg #[.string T, .int .i64 T.size, .int .i64 r], .int .i64 0]) (by simp [results, Try.results18, go_sem, c0, c1, c2]) rfl ⟨by rw [HZ.out], ?_⟩
  exact ((HB.out.setCell (p := ⟨_, 0, none⟩) (by simp) _).setCell (p := ⟨_, 1, none⟩) (by simp) _).setCell (p := ⟨_, 2, none⟩) (by simp) _
end Go.Proofs.Ytnppnccokmcbpaa
