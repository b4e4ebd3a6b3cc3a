/- Layer 23: the document's Print and Parse. -/
import Derived.Test.YtpiohfjmfehnoaaTk5
namespace Go.Proofs.Ytpiohfjmfehnoaa
open Go.RowKit

set_option maxHeartbeats 2000000 in
set_option maxRecDepth 100000 in
theorem rprint_any (n r : Int) (w : World) :
    Calls Try.prog 10 #[.int .i64 n, .int .i64 r] w fun e w' => e = .returned (.tuple #[.string (prT n r), .int .i64 (prE n r)]) ∧ ∃ q, w' = w.drewN q := by
  cases hf : fitB n r with
  | false =>
    have h1 : prT n r = ByteArray.empty := by rw [prT, hf]; rfl
    have h2 : prE n r = 1 := by rw [prE, hf]; rfl
    rw [h1, h2]
    have h0 : n < 0 ∨ (0 ≤ n ∧ 8 ≤ n) ∨ (0 ≤ n ∧ n < 8 ∧ r < 0) ∨ (0 ≤ n ∧ n < 8 ∧ 0 ≤ r ∧ 1125899906842624 < r) := by
      have := mt fitB_iff.2 (by rw [hf]; decide)
      omega
    clear h1 h2 hf
    rcases h0 with h | ⟨h, h1⟩ | ⟨h, h1, h2⟩ | ⟨h, h1, h2, h3⟩
    all_goals
      go_enter Try.func10, Try.ntmps10
      go_wp2
      go_ret2
      exact ⟨rfl, 0, rfl⟩
  | true =>
    have h1 : prT n r = T (full n r) := by rw [prT, hf]; rfl
    have h2 : prE n r = 0 := by rw [prE, hf]; rfl
    rw [h1, h2]
    obtain ⟨ho, hl⟩ := pre_ok hf
    have hx := fitB_iff.1 hf
    have HN := Lib.hid (fun w => digits_any r.toNat (by omega) w)
    have e1 : ((r.toNat : Nat) : Int) = r := by omega
    have e2 : ((n.toNat : Nat) : Int) = n := by omega
    rw [e1] at HN
    have hs0 := fun w => run_sign n.toNat (by omega) w
    rw [e2] at hs0
    have hsz1 := T_size [n.toNat]
    have hsz2 := T_size (dg r.toNat)
    have hl2 : (dg r.toNat).length ≤ 11 := dg_len _ _ (by omega)
    rw [List.length_singleton] at hsz1
    have hap : T [n.toNat] ++ T (dg r.toNat) = T (pre n r) := by rw [T_append]; rfl
    have HAP := Lib.hid hap
    have hfu : T (full n r) = T (pre n r ++ [fin (pre n r)]) := rfl
    rw [hfu]
    obtain ⟨h3, h4, h5, h6⟩ := hx
    have hw1 : IntKind.i64.wrap (n + 1) = n + 1 := IntWalk.i64_in _ ⟨by omega, by omega⟩
    clear h1 h2 hf e1 e2 hap hfu
    generalize pre n r = ps at *
    generalize hdr : dg r.toNat = dr at *
    generalize T [n.toNat] = V1 at *
    generalize T dr = V2 at *
    have hszp := T_size ps
    go_enter Try.func10, Try.ntmps10
    go_wp2_with fail
    go_quiet ((go_at_call 18; exact Calls.quiet_of (HN.out _)))
    rw [HAP.out]
    go_wp2
    go_loop [7] (fun s => ∃ l : Nat, l ≤ fin ps ∧ s = .int .i64 l) (fun s => 31 - (intOf s).toNat)
    case atStart => exact ⟨0, by omega, rfl⟩
    case round =>
      obtain ⟨l, hk, rfl⟩ := hrel
      have hf31 := fin_lt (ps := ps) (by omega)
      have hl31 : l < 31 := by omega
      have hszl := T_size [l]
      rw [List.length_singleton] at hszl
      have ok2 : ok31 (ps ++ [l]) := by
        intro x hx
        rcases List.mem_append.1 hx with h | h
        · exact ho x h
        · simp at h; omega
      have hll2 : (ps ++ [l]).length ≤ 100 := by rw [List.length_append]; simp; omega
      have HX := Lib.hid (fun w => rsum_any _ ok2 hll2 w)
      rw [← T_append] at HX
      have hone := fun h => fin_one (ps := ps) (l := l) (by omega) hl31 h
      have hsl := fun w => run_sign l hl31 w
      have hw2 : IntKind.i64.wrap ((l : Int) + 1) = (l : Int) + 1 := IntWalk.i64_in _ ⟨by omega, by omega⟩
      have HO := Lib.hid hone
      clear ok2 hll2 hone
      by_cases hz : ws 1 (ps ++ [l]) % 31 = 0
      · have he := HO.out hz
        have hT : T ps ++ T [l] = T (ps ++ [fin ps]) := by rw [T_append, ← he]
        have HE := Lib.hid hT
        clear he hT
        rw [hz] at HX
        generalize T [l] = U at *
        generalize T ps = V at *
        go_wp2_with fail
        refine (HX.out _).mono ?_
        rintro e w2 ⟨rfl, rfl⟩
        go_wp2
        go_ret2
        exact ⟨by rw [← HE.out]; rfl, _, rfl⟩
      · have hne : l ≠ fin ps := by
          rintro rfl
          exact hz (fin_right (by omega))
        generalize ws 1 (ps ++ [l]) % 31 = z at *
        go_wp2_with fail
        refine (HX.out _).mono ?_
        rintro e w2 ⟨rfl, rfl⟩
        go_wp2
        go_round
        case rel => exact ⟨l + 1, by omega, by go_num⟩
        case measure => simp [intOf]; omega

theorem num_take (l : List Nat) (j : Nat) (h : j < l.length) : num 0 (l.take (j + 1)) = num 0 (l.take j) * 31 + l[j] := by
  rw [List.take_add_one, List.getElem?_eq_getElem h, Option.toList_some, num_snoc]
theorem mid_len (ps : List Nat) : (mid ps).length = ps.length - 2 := by rw [mid, List.length_take, List.length_drop]; omega
theorem mid_at (ps : List Nat) (j : Nat) (h : j < (mid ps).length) : (mid ps)[j] = ps[j + 1]'(by rw [mid_len] at h; omega) := by
  simp only [mid, List.getElem_take, List.getElem_drop]
  congr 1
  omega
end Go.Proofs.Ytpiohfjmfehnoaa
