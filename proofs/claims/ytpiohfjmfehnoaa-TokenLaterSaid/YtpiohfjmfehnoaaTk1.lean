/- Layer 23: a byte's place, a sign, the sum, the last sign, a number: the program's walks. -/
import Derived.Test.YtpiohfjmfehnoaaTk0
import Derived.Deep.DeepCutAuto
namespace Go.Proofs.Ytpiohfjmfehnoaa
open Go.RowKit

set_option maxHeartbeats 1000000 in
set_option maxRecDepth 100000 in
theorem indexByteI_any (S : ByteArray) (c : Int) (w : World) :
    Calls Try.prog 26 #[.string S, .int .u8 c] w fun e w' => e = .returned (.int .i64 (Lib.indexByte S.data.toList c.toNat.toUInt8)) ∧ w' = w := by
  go_enter Try.func26, Try.ntmps26
  go_wp2
  rw [run_callFunc_extern Try.func27 (by kernel_rfl) (by kernel_rfl) (by kernel_rfl) (e := Extern.BytealgIndexByte.indexByte) (by kernel_rfl), Lib.run_indexByteString]
  simp only [Result.andThen]
  rw [Oper.upon_value]
  go_wp2
  go_ret
  exact ⟨rfl, rfl⟩
theorem indexByte_any (S : ByteArray) (c : Int) (w : World) :
    Calls Try.prog 25 #[.string S, .int .u8 c] w fun e w' => e = .returned (.int .i64 (Lib.indexByte S.data.toList c.toNat.toUInt8)) ∧ w' = w := by
  go_enter Try.func25, Try.ntmps25
  go_wp2_with fail
  refine (indexByteI_any _ _ _).mono ?_
  rintro e w1 ⟨rfl, rfl⟩
  go_wp2
  go_ret
  exact ⟨rfl, rfl⟩
theorem place_any (b : Int) (w : World) :
    Calls Try.prog 21 #[.int .u8 b] w fun e w' => e = .returned (.int .i64 (pla b.toNat.toUInt8)) ∧ w' = w := by
  go_enter Try.func21, Try.ntmps21
  go_wp2_with fail
  refine (indexByte_any _ _ _).mono ?_
  rintro e w1 ⟨rfl, rfl⟩
  go_wp2
  go_ret
  exact ⟨rfl, rfl⟩

/-- A sign cut out of all signs. -/
theorem run_sign (p : Nat) (hp : p < 31) (w : World) : Sem.run Try.prog (Instr.slice 9 (.string ⟨#[48, 49, 50, 51, 52, 53, 54, 55, 56, 57, 97, 98, 99, 100, 101, 102, 103, 104, 106, 107, 109, 110, 112, 113, 114, 115, 116, 117, 118, 119, 120]⟩) (some (.int .i64 p)) (some (.int .i64 ((p : Int) + 1))) none) w = .ok (.string (T [p])) w := by
  have h := run_slice_string (P := Try.prog) w 9 SG .i64 .i64 (p : Int) ((p : Int) + 1) Try.underlying9 (by omega) (by omega) (by have : SG.size = 31 := rfl; omega)
  rw [← (sgn_facts hp).2.2.2]
  exact h
set_option maxHeartbeats 1000000 in
theorem sign_any (p : Nat) (hp : p < 31) (w : World) :
    Calls Try.prog 16 #[.int .i64 p] w fun e w' => e = .returned (.string (T [p])) ∧ w' = w := by
  have hsl := fun wx => run_sign p hp wx
  have hb : (p : Int) + 1 ≤ 31 := by omega
  go_enter Try.func16, Try.ntmps16
  go_wp2
  go_ret
  exact ⟨rfl, rfl⟩

set_option maxHeartbeats 1000000 in
set_option maxRecDepth 100000 in
/-- The sum of signs. -/
theorem sum_any (ps : List Nat) (hp : ok31 ps) (hl : ps.length ≤ 100) (w : World) :
    Calls Try.prog 24 #[.string (T ps)] w fun e w' => e = .returned (.int .i64 (ws 1 ps % 31 : Nat)) ∧ w' = w := by
  have hsz := T_size ps
  have HSZ := Lib.hid hsz
  obtain ⟨S, hS⟩ : ∃ S, S = T ps := ⟨_, rfl⟩
  rw [← hS] at hsz
  have HS := Lib.hid hS
  rw [← hS]
  clear hS
  go_enter Try.func24, Try.ntmps24
  go_wp2
  go_loop [3, 7] (fun s i => ∃ k : Nat, k ≤ ps.length ∧ i = .int .i64 k ∧ s = .int .i64 (ws 1 (ps.take k) : Nat)) (fun _ i => ps.length - (intOf i).toNat)
  case atStart => exact ⟨0, by omega, rfl, by simp [ws]⟩
  case round =>
    obtain ⟨k, hk, rfl, rfl⟩ := hrel
    have hb1 := ws_bound 1 (ps.take k) (fun x hx => hp x (List.mem_of_mem_take hx)) 101 (by rw [List.length_take]; omega)
    rw [List.length_take] at hb1
    have hb : ws 1 (ps.take k) ≤ 31 * 101 * 100 := Nat.le_trans hb1 (Nat.mul_le_mul (Nat.le_refl _) (by omega))
    clear hb1
    by_cases hks : k < ps.length
    · have hks' : k < S.size := by omega
      have hg := at_get S k hks'
      rw [show at_ S k = at_ (T ps) k by rw [HS.out], T_at ps hp k hks] at hg
      have hq := sgn_facts (hp _ (List.getElem_mem hks))
      have ht := ws_take ps k hks
      have hp31 := hp _ (List.getElem_mem hks)
      have HT := Lib.hid ht
      obtain ⟨p, hpd⟩ : ∃ p, p = ps[k] := ⟨_, rfl⟩
      rw [← hpd] at hq hp31 hg
      have HPD := Lib.hid hpd
      have HQ := Lib.hid hq.2.2.1
      have HG := Lib.hid hg
      clear hq ht hpd hg
      have hm : (k + 1) * p ≤ 100 * 31 := Nat.mul_le_mul (by omega) (by omega)
      obtain ⟨s0, hs0⟩ : ∃ s0, s0 = ws 1 (ps.take k) := ⟨_, rfl⟩
      have HS0 := Lib.hid hs0
      rw [← hs0] at hb ⊢
      clear hs0
      have hm2 : ((k : Int) + 1) * (p : Int) = ((k + 1) * p : Nat) := by push_cast; rfl
      obtain ⟨m, hm0⟩ : ∃ m, m = (k + 1) * p := ⟨_, rfl⟩
      rw [← hm0] at hm hm2
      have HM0 := Lib.hid hm0
      clear hm0
      have hw1 : IntKind.i64.wrap (((k : Int) + 1) * (p : Int)) = (m : Int) := by rw [hm2]; exact IntWalk.i64_in _ ⟨by omega, by omega⟩
      go_wp2_with fail
      refine (place_any _ _).mono ?_
      rintro e w1 ⟨rfl, rfl⟩
      rw [show pla _ = (p : Int) from by rw [Int.toNat_natCast, HG.out]; exact HQ.out]
      go_wp2
      all_goals go_round
      case rel => exact ⟨k + 1, by omega, by go_num, by rw [HT.out, ← HS0.out, ← HPD.out, ← HM0.out]; push_cast; rfl⟩
      case measure => simp [intOf]; omega
    · have hk2 : k = ps.length := by omega
      subst hk2
      rw [List.take_length] at *
      go_wp2
      go_ret
      exact ⟨rfl, rfl⟩

set_option maxHeartbeats 1000000 in
theorem finish_any (ps : List Nat) (hp : ok31 ps) (hl : ps.length ≤ 20) (w : World) :
    Calls Try.prog 15 #[.string (T ps)] w fun e w' => e = .returned (.string (T (ps ++ [fin ps]))) ∧ w' = w := by
  have hsz := T_size ps
  have hf := fin_lt (ps := ps) (by omega)
  go_enter Try.func15, Try.ntmps15
  go_wp2
  go_loop [3] (fun s => ∃ l : Nat, l ≤ fin ps ∧ s = .int .i64 l) (fun s => 31 - (intOf s).toNat)
  case atStart => exact ⟨0, by omega, rfl⟩
  case round =>
    obtain ⟨l, hk, rfl⟩ := hrel
    have hl31 : l < 31 := by omega
    have hsz1 := T_size [l]
    have ok2 : ok31 (ps ++ [l]) := by
      intro x hx
      rcases List.mem_append.1 hx with h | h
      · exact hp x h
      · simp at h; omega
    have hl2 : (ps ++ [l]).length ≤ 100 := by rw [List.length_append]; simp; omega
    have HX := Lib.hid (fun w => sum_any _ ok2 hl2 w)
    have hone := fun h => fin_one (ps := ps) (l := l) (by omega) hl31 h
    have HO := Lib.hid hone
    clear ok2 hl2 hone
    rw [List.length_singleton] at hsz1
    go_wp2_with fail
    refine (sign_any l hl31 _).mono ?_
    rintro e w1 ⟨rfl, rfl⟩
    go_wp2_with fail
    rw [T_append]
    refine (HX.out _).mono ?_
    rintro e w2 ⟨rfl, rfl⟩
    by_cases hz : ws 1 (ps ++ [l]) % 31 = 0
    · have he := HO.out hz
      have HE := Lib.hid he
      clear he
      rw [hz]
      go_wp2_with fail
      refine (sign_any l hl31 _).mono ?_
      rintro e w3 ⟨rfl, rfl⟩
      go_wp2
      go_ret
      exact ⟨by rw [← HE.out, ← T_append]; rfl, rfl⟩
    · have hne : l ≠ fin ps := by
        rintro rfl
        exact hz (fin_right (by omega))
      go_wp2
      go_round
      case rel => exact ⟨l + 1, by omega, by go_num⟩
      case measure => simp [intOf]; omega

set_option maxHeartbeats 1000000 in
theorem number_any (n : Nat) (hn : n ≤ 1125899906842624) (w : World) :
    Calls Try.prog 17 #[.int .i64 n] w fun e w' => e = .returned (.string (T (dg n))) ∧ w' = w := by
  have hlen := dg_len n 11 (by omega)
  have HN := Lib.hid hlen
  clear hlen
  go_enter Try.func17, Try.ntmps17
  go_wp2
  go_loop [0, 3] (fun r s => ∃ (m : Nat) (acc : List Nat), m ≤ 1125899906842624 ∧ r = .int .i64 m ∧ s = .string (T acc) ∧ dg n = dg m ++ acc) (fun r _ => (intOf r).toNat)
  case atStart => exact ⟨n, [], hn, rfl, rfl, by simp⟩
  case round =>
    obtain ⟨m, acc, hm, rfl, rfl, hd⟩ := hrel
    have hsz := T_size acc
    have hacc : acc.length ≤ 11 := by have := HN.out; rw [hd, List.length_append] at this; omega
    have hsz1 := T_size [m % 31]
    rw [List.length_singleton] at hsz1
    have hlt : m % 31 < 31 := Nat.mod_lt _ (by decide)
    by_cases h0 : 0 < m
    · have hd2 : dg n = dg (m / 31) ++ (m % 31 :: acc) := by rw [hd, dg_pos h0]; simp
      have HD := Lib.hid hd2
      clear hd hd2
      go_wp2_with fail
      refine (sign_any (m % 31) hlt _).mono ?_
      rintro e w1 ⟨rfl, rfl⟩
      go_wp2
      go_round
      case rel => exact ⟨m / 31, m % 31 :: acc, by omega, by go_num, by rw [T_append]; rfl, HD.out⟩
      case measure => simp [intOf]; omega
    · have hm0 : m = 0 := by omega
      subst hm0
      rw [dg_zero, List.nil_append] at hd
      have HD := Lib.hid hd
      clear hd
      go_wp2
      go_ret
      exact ⟨by rw [HD.out]; rfl, rfl⟩
end Go.Proofs.Ytpiohfjmfehnoaa
