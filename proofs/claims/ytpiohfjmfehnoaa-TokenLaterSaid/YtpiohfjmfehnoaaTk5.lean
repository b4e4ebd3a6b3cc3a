/- Layer 23: the document's side: a sign, the sum, digits. -/
import Derived.Test.YtpiohfjmfehnoaaTk4
namespace Go.Proofs.Ytpiohfjmfehnoaa
open Go.RowKit

theorem run_signAt (p : Nat) (hp : p < 31) (w : World) : Sem.run Try.prog (Instr.index 9 (.string ⟨#[48, 49, 50, 51, 52, 53, 54, 55, 56, 57, 97, 98, 99, 100, 101, 102, 103, 104, 106, 107, 109, 110, 112, 113, 114, 115, 116, 117, 118, 119, 120]⟩) (.int .i64 (p : Int))) w = .ok (.int .u8 (sgn p)) w := by
  have hs : p < SG.size := hp
  have h := run_index_string (P := Try.prog) (w := w) 9 SG .i64 (p : Int) Try.underlying9
  rw [dif_pos ⟨by omega, by omega⟩] at h
  have hg : ((SG[p]'hs).toNat : Int) = sgn p := by
    have h1 := sgn_at' ⟨p, hp⟩ hs
    have h2 := sgn_facts hp
    simp only at h1
    omega
  rw [← hg]
  exact h

set_option maxHeartbeats 1000000 in
theorem rsign_any (b : Nat) (hb : b < 256) (w : World) :
    Calls Try.prog 23 #[.int .u8 b] w fun e w' => e = .returned (.int .i64 (pla b.toUInt8)) ∧ w' = w := by
  have hf := pla_facts b.toUInt8
  have hbn : b.toUInt8.toNat = b := by simp; omega
  rw [hbn] at hf
  unfold pn at hf
  obtain ⟨q, hq⟩ : ∃ q, q = pla b.toUInt8 := ⟨_, rfl⟩
  have hfw : ∀ p, p < 31 → sgn p = b → q = p := by
    intro p hp h
    have := (sgn_facts hp).2.2.1
    rw [h, Int.toNat_natCast] at this
    rw [hq, this]
  rw [← hq] at hf ⊢
  clear hq hbn
  have HW := Lib.hid hfw
  have HF := Lib.hid hf.2.2
  have h1 := hf.1
  have h2 := hf.2.1
  clear hf hfw
  go_enter Try.func23, Try.ntmps23
  go_wp2
  go_loop [3] (fun i => ∃ k : Nat, k ≤ 31 ∧ i = .int .i64 k ∧ (q < 0 ∨ (k : Int) ≤ q)) (fun i => 31 - (intOf i).toNat)
  case atStart => exact ⟨0, by omega, rfl, by omega⟩
  case round =>
    obtain ⟨k, hk, rfl, hkq⟩ := hrel
    by_cases hks : k < 31
    · have hix := fun w => run_signAt k hks w
      by_cases he : sgn k = b
      · have hqk := HW.out k hks he
        rw [he] at hix
        subst hqk
        go_wp2
        go_ret
        exact ⟨rfl, rfl⟩
      · have hne : q ≠ k := by
          intro h
          have := HF.out (by omega)
          rw [h] at this
          exact he (by simpa using this)
        go_wp2
        go_round
        case rel => exact ⟨k + 1, by omega, by go_num, by omega⟩
        case measure => simp [intOf]; omega
    · have hq1 : q = -1 := by omega
      subst hq1
      go_wp2
      go_ret
      exact ⟨rfl, rfl⟩

set_option maxHeartbeats 1000000 in
set_option maxRecDepth 100000 in
/-- The sum of signs, as the document has it. -/
theorem rsum_any (ps : List Nat) (hp : ok31 ps) (hl : ps.length ≤ 100) (w : World) :
    Calls Try.prog 19 #[.string (T ps)] w fun e w' => e = .returned (.int .i64 (ws 1 ps % 31 : Nat)) ∧ w' = w := by
  have hsz := T_size ps
  have HSZ := Lib.hid hsz
  obtain ⟨S, hS⟩ : ∃ S, S = T ps := ⟨_, rfl⟩
  rw [← hS] at hsz
  have HS := Lib.hid hS
  rw [← hS]
  clear hS
  go_enter Try.func19, Try.ntmps19
  go_wp2
  go_loop [3, 4] (fun s i => ∃ k : Nat, k ≤ ps.length ∧ i = .int .i64 k ∧ s = .int .i64 (ws 1 (ps.take k) : Nat)) (fun _ i => ps.length - (intOf i).toNat)
  case atStart => exact ⟨0, by omega, rfl, by simp [ws]⟩
  case round =>
    obtain ⟨k, hk, rfl, rfl⟩ := hrel
    have hb1 := ws_bound 1 (ps.take k) (fun x hx => hp x (List.mem_of_mem_take hx)) 101 (by rw [List.length_take]; omega)
    rw [List.length_take] at hb1
    have hb : ws 1 (ps.take k) ≤ 31 * 101 * 100 := Nat.le_trans hb1 (Nat.mul_le_mul (Nat.le_refl _) (by omega))
    clear hb1
    by_cases hks : k < ps.length
    · have hks' : k < S.size := by omega
      have hg := at_get S k hks'
      rw [show at_ S k = at_ (T ps) k by rw [HS.out], T_at ps hp k hks] at hg
      have hq := sgn_facts (hp _ (List.getElem_mem hks))
      have ht := ws_take ps k hks
      have hp31 := hp _ (List.getElem_mem hks)
      have HT := Lib.hid ht
      obtain ⟨p, hpd⟩ : ∃ p, p = ps[k] := ⟨_, rfl⟩
      rw [← hpd] at hq hp31 hg
      have HPD := Lib.hid hpd
      have HQ := Lib.hid hq.2.2.1
      have HG := Lib.hid hg
      clear hq ht hpd hg
      have hm : (k + 1) * p ≤ 100 * 31 := Nat.mul_le_mul (by omega) (by omega)
      obtain ⟨s0, hs0⟩ : ∃ s0, s0 = ws 1 (ps.take k) := ⟨_, rfl⟩
      have HS0 := Lib.hid hs0
      rw [← hs0] at hb ⊢
      clear hs0
      have hm2 : ((k : Int) + 1) * (p : Int) = ((k + 1) * p : Nat) := by push_cast; rfl
      obtain ⟨m, hm0⟩ : ∃ m, m = (k + 1) * p := ⟨_, rfl⟩
      rw [← hm0] at hm hm2
      have HM0 := Lib.hid hm0
      clear hm0
      have hw1 : IntKind.i64.wrap (((k : Int) + 1) * (p : Int)) = (m : Int) := by rw [hm2]; exact IntWalk.i64_in _ ⟨by omega, by omega⟩
      go_wp2_with fail
      refine (rsign_any _ (S[k].toNat_lt) _).mono ?_
      rintro e w1 ⟨rfl, rfl⟩
      rw [show pla _ = (p : Int) from by rw [HG.out]; exact HQ.out]
      go_wp2
      all_goals go_round
      case rel => exact ⟨k + 1, by omega, by go_num, by rw [HT.out, ← HS0.out, ← HPD.out, ← HM0.out]; push_cast; rfl⟩
      case measure => simp [intOf]; omega
    · have hk2 : k = ps.length := by omega
      subst hk2
      rw [List.take_length] at *
      go_wp2
      go_ret
      exact ⟨rfl, rfl⟩

set_option maxHeartbeats 1000000 in
set_option maxRecDepth 100000 in
theorem digits_any (n : Nat) (hn : n ≤ 1125899906842624) (w : World) :
    Calls Try.prog 18 #[.int .i64 n] w fun e w' => e = .returned (.string (T (dg n))) ∧ ∃ q, w' = w.drewN q := by
  induction n using Nat.strongRecOn generalizing w with
  | ind n ih =>
    rcases Nat.eq_zero_or_pos n with h0 | h0
    · subst h0
      rw [dg_zero]
      go_enter Try.func18, Try.ntmps18
      go_wp2
      go_ret
      exact ⟨rfl, 0, rfl⟩
    · have hd : T (dg n) = T (dg (n / 31)) ++ T [n % 31] := by rw [dg_pos h0, T_append]
      have HI := Lib.hid (fun w => ih (n / 31) (by omega) (by omega) w)
      have hlt : n % 31 < 31 := Nat.mod_lt _ (by decide)
      have hsl := fun w => run_sign (n % 31) hlt w
      have hsz1 := T_size [n % 31]
      have hsz2 := T_size (dg (n / 31))
      have hl2 : (dg (n / 31)).length ≤ 11 := dg_len _ _ (by omega)
      rw [List.length_singleton] at hsz1
      rw [hd]
      clear hd ih
      generalize T (dg (n / 31)) = V at *
      generalize T [n % 31] = U at *
      rw [show (((n / 31 : Nat)) : Int) = (n : Int) / 31 by omega] at HI
      rw [show (((n % 31 : Nat)) : Int) = (n : Int) % 31 by omega] at hsl
      have hw1 : IntKind.i64.wrap ((n : Int) % 31 + 1) = (n : Int) % 31 + 1 := IntWalk.i64_in _ ⟨by omega, by omega⟩
      go_enter Try.func18, Try.ntmps18
      go_wp2_with fail
      go_quiet ((go_at_call 18; exact Calls.quiet_of (HI.out _)))
      go_wp2
      go_ret
      exact ⟨rfl, _, rfl⟩
end Go.Proofs.Ytpiohfjmfehnoaa
