/- The document's network: Flip. -/
import Derived.Test.YtmmjgpdclodlfaaNS
namespace Go.Proofs.Ytmmjgpdclodlfaa
open Go.RowKit

section
variable {B c : Nat} {a : Option Addr} {l : List Dp}
set_option maxRecDepth 100000 in
set_option maxHeartbeats 4000000 in
theorem rflip_none (x bit : Int) (w : World) (hx : x < 0 ∨ (l.length : Int) ≤ x) :
    Calls Try.prog 15 #[.slice a l.length c, .int .i64 x, .int .i64 bit] w fun e w' => e = .returned (.tuple #[.slice a l.length c, .int .i64 4]) ∧ w' = w := by
  have h0 : x < 0 ∨ (0 ≤ x ∧ (l.length : Int) ≤ x) := by omega
  clear hx
  rcases h0 with h1 | ⟨h1, h2⟩
  all_goals
    go_enter Try.func15, Try.ntmps15
    go_wp2
    go_ret2
    exact ⟨rfl, rfl⟩
set_option maxRecDepth 100000 in
set_option maxHeartbeats 4000000 in
theorem rflip_range {i : Nat} {p : Dp} (bit : Int) (w : World) (h : Ds w B a c l) (hi : l[i]? = some p) (hb : bit < 0 ∨ (p.2.2.size : Int) ≤ bit.tdiv 8) (hbm : bit ≤ 9223372036854775807) :
    Calls Try.prog 15 #[.slice a l.length c, .int .i64 (i : Int), .int .i64 bit] w fun e w' => e = .returned (.tuple #[.slice a l.length c, .int .i64 1]) ∧ w' = w := by
  obtain ⟨b, off, rfl, hbl, hil, e0, e1, e2⟩ := ds_at h hi
  obtain ⟨fr, dst, S⟩ := p
  simp only at e0 e1 e2 hb
  clear h hi
  by_cases h0 : bit < 0
  · clear hb
    go_enter Try.func15, Try.ntmps15
    go_wp2
    go_ret2
    exact ⟨rfl, rfl⟩
  · have hd := hb.resolve_left h0
    have hw : IntKind.i64.wrap (bit.tdiv 8) = bit.tdiv 8 := IntWalk.i64_in _ (by rw [Int.tdiv_eq_ediv_of_nonneg (by omega)]; omega)
    have hdd : decide ((S.size : Int) ≤ bit.tdiv 8) = true := by rw [decide_eq_true_eq]; exact hd
    have hb0 : decide (bit < 0) = false := by simpa using h0
    clear hb h0 hbm
    generalize hq : bit.tdiv 8 = y at *
    go_enter Try.func15, Try.ntmps15
    go_wp2
    go_ret2
    exact ⟨rfl, rfl⟩
end
end Go.Proofs.Ytmmjgpdclodlfaa
