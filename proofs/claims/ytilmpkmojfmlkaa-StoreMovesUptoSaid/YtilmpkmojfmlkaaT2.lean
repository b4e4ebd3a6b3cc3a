/- Layer 5: strings.Cut at a byte; objects and users, on both sides. -/
import Derived.Test.YtilmpkmojfmlkaaT1
import Derived.Lib.Walk
namespace Go.Proofs.Ytilmpkmojfmlkaa
open Go.RowKit

theorem below_drew {w w' : World} {B : Nat} (h : ∃ n, w' = w.drewN n) : Below B w w' := by
  obtain ⟨n, rfl⟩ := h
  exact ⟨rfl, rfl, rfl, Nat.le_refl _, fun _ _ => rfl⟩

set_option maxHeartbeats 2000000 in
set_option maxRecDepth 100000 in
theorem index_any (S : ByteArray) (x : UInt8) (w : World) :
    Calls Try.prog 105 #[.string S, .string ⟨#[x]⟩] w fun e w' => e = .returned (.int .i64 (fnd x S)) ∧ w' = w := by
  have hf : Lib.indexByte S.data.toList x = fnd x S := indexByte_has S x
  have HF := Lib.hid hf
  clear hf
  go_enter Try.func105, Try.ntmps105
  go_wp2_with (go_at_call 106; refine (indexByte_any _ _ _).mono ?_; rintro e w' ⟨rfl, rfl⟩)
  · have h : ([x] == S.toList) = true := by assumption
    go_ret
    refine ⟨?_, rfl⟩
    have e : S.data.toList = [x] := by rw [← Lib.toList_data]; exact (beq_iff_eq.1 h).symm
    rw [← HF.out, e]
    simp [Lib.indexByte]
  · go_ret
    refine ⟨?_, rfl⟩
    rw [← HF.out]
    simp
    rfl

set_option maxHeartbeats 2000000 in
set_option maxRecDepth 100000 in
theorem lcut_any (S : ByteArray) (x : UInt8) (w : World) (hS : S.size ≤ 9223372036854775806) :
    Calls Try.prog 104 #[.string S, .string ⟨#[x]⟩] w fun e w' => e = .returned (.tuple #[.string (hd x S), .string (tl x S), .bool (has x S)]) ∧ ∃ n, w' = w.drewN n := by
  cases h : has x S with
  | false =>
    have e : fnd x S = -1 := by simp [fnd, h]
    have HI := index_any S x
    rw [e] at HI
    rw [hd_none h, tl_none h]
    go_enter Try.func104, Try.ntmps104
    go_wp2_with (go_at_call 105; refine (HI _).mono ?_; rintro e w' ⟨rfl, rfl⟩)
    go_ret3
    exact ⟨rfl, 0, rfl⟩
  | true =>
    have e : fnd x S = ix x S := by simp [fnd, h]
    have HI := index_any S x
    rw [e] at HI
    have hlt : ix x S < S.size := by simpa [has] using h
    have hA := fun w : World => str_head S (ix x S) (by omega) w
    have hB := fun w : World => str_tail S (ix x S + 1) (by omega) w
    have HX := Lib.hid h
    unfold hd tl
    generalize ix x S = k at *
    have hw : IntKind.i64.wrap ((k : Int) + 1) = ((k + 1 : Nat) : Int) := by rw [IntWalk.i64_in _ (by omega)]; omega
    clear h e
    go_enter Try.func104, Try.ntmps104
    go_wp2_with (go_at_call 105; refine (HI _).mono ?_; rintro e w' ⟨rfl, rfl⟩)
    go_quiet (fail)
    go_wp2
    go_ret3
    exact ⟨rfl, _, rfl⟩

set_option maxHeartbeats 2000000 in
set_option maxRecDepth 100000 in
theorem cut_any (S : ByteArray) (x : UInt8) (w : World) (hS : S.size ≤ 9223372036854775806) :
    Calls Try.prog 100 #[.string S, .string ⟨#[x]⟩] w fun e w' => e = .returned (.tuple #[.string (hd x S), .string (tl x S), .bool (has x S)]) ∧ ∃ n, w' = w.drewN n := by
  go_enter Try.func100, Try.ntmps100
  go_wp2_with (go_at_call 104; refine (lcut_any _ _ _ hS).mono ?_; rintro e w' ⟨rfl, n, rfl⟩)
  go_ret3
  exact ⟨rfl, n, rfl⟩
end Go.Proofs.Ytilmpkmojfmlkaa
