/- Layer 5: users, on both sides. -/
import Derived.Test.YtilmpkmojfmlkaaT3
namespace Go.Proofs.Ytilmpkmojfmlkaa
open Go.RowKit

theorem usr_bad {S : ByteArray} (h : objE (hd 35 S) ≠ 0) : usrE S = objE (hd 35 S) ∧ usrA S = ByteArray.empty ∧ usrB S = ByteArray.empty := by
  have e : usrE S = objE (hd 35 S) := by rw [usrE, if_neg h]
  exact ⟨e, by rw [usrA, e, if_neg h], by rw [usrB, e, if_neg h]⟩
theorem usr_name {S : ByteArray} (h : objE (hd 35 S) = 0) (h1 : has 35 S = true) (h2 : nameB (tl 35 S) = false) : usrE S = 50 ∧ usrA S = ByteArray.empty ∧ usrB S = ByteArray.empty := by
  have e : usrE S = 50 := by rw [usrE, if_pos h, h1, h2]; rfl
  exact ⟨e, by rw [usrA, e, if_neg (by decide)], by rw [usrB, e, if_neg (by decide)]⟩
theorem usr_good {S : ByteArray} (h : objE (hd 35 S) = 0) (h1 : (has 35 S && !nameB (tl 35 S)) = false) : usrE S = 0 ∧ usrA S = hd 35 S ∧ usrB S = tl 35 S := by
  have e : usrE S = 0 := by rw [usrE, if_pos h, h1]; rfl
  exact ⟨e, by rw [usrA, e, if_pos rfl], by rw [usrB, e, if_pos rfl]⟩

set_option maxHeartbeats 2000000 in
set_option maxRecDepth 100000 in
theorem user_any (S : ByteArray) (w : World) (hS : S.size ≤ 9223372036854775806) :
    Calls Try.prog 89 #[.string S] w fun e w' => e = Three (usrA S) (usrB S) (usrE S) ∧ ∃ n, w' = w.drewN n := by
  have hs := hd_size 35 S
  have HC := Lib.hid (fun w => cut_any S 35 w hS)
  have HO := Lib.hid (fun w => object_any (hd 35 S) w (by omega))
  have HN := Lib.hid (fun w => isName_any (tl 35 S) w)
  have H1 := Lib.hid (@usr_bad S)
  have H2 := Lib.hid (@usr_name S)
  have H3 := Lib.hid (@usr_good S)
  clear hs
  generalize objE (hd 35 S) = z at *
  generalize objA (hd 35 S) = oa at *
  generalize objB (hd 35 S) = ob at *
  generalize hd 35 S = a at *
  generalize nameB (tl 35 S) = n1 at *
  generalize tl 35 S = b at *
  generalize has 35 S = h at *
  generalize usrE S = ue at *
  generalize usrA S = ua at *
  generalize usrB S = ub at *
  go_enter Try.func89, Try.ntmps89
  go_wp2_with fail
  refine (HC.out _).mono ?_
  rintro e w1 ⟨rfl, n, rfl⟩
  go_wp2_with fail
  refine (HO.out _).mono ?_
  rintro e w1 ⟨rfl, m, rfl⟩
  by_cases hz : z = 0
  · subst hz
    cases h with
    | false =>
      obtain ⟨rfl, rfl, rfl⟩ := H3.out (by simp) (by simp)
      go_wp2
      go_ret3
      exact ⟨rfl, n + m, by simp⟩
    | true =>
      go_wp2_with fail
      refine (HN.out _).mono ?_
      rintro e w1 ⟨rfl, rfl⟩
      cases n1 with
      | false =>
        obtain ⟨rfl, rfl, rfl⟩ := H2.out (by simp) (by simp) (by simp)
        go_wp2
        go_ret3
        exact ⟨rfl, n + m, by simp⟩
      | true =>
        obtain ⟨rfl, rfl, rfl⟩ := H3.out (by simp) (by simp)
        go_wp2
        go_ret3
        exact ⟨rfl, n + m, by simp⟩
  · obtain ⟨rfl, rfl, rfl⟩ := H1.out hz
    go_wp2
    go_ret3
    exact ⟨rfl, n + m, by simp⟩

set_option maxHeartbeats 2000000 in
set_option maxRecDepth 100000 in
theorem userR_any (S : ByteArray) (w : World) (hS : S.size ≤ 9223372036854775806) :
    Calls Try.prog 47 #[.string S] w fun e w' => e = Three (usrA S) (usrB S) (usrE S) ∧ ∃ n, w' = w.drewN n := by
  have hs := hd_size 35 S
  have HF := Lib.hid (fun w => find_any S 35 w (by omega))
  have HO := Lib.hid (fun w => objectR_any (hd 35 S) w (by omega))
  have HN := Lib.hid (fun w => name_any (tl 35 S) w)
  have H1 := Lib.hid (@usr_bad S)
  have H2 := Lib.hid (@usr_name S)
  have H3 := Lib.hid (@usr_good S)
  clear hs
  cases h : has 35 S with
  | false =>
    have e : fnd 35 S = -1 := by simp [fnd, h]
    have et := tl_none h
    rw [hd_none h, h, et] at H3
    rw [hd_none h] at HO H1
    rw [e] at HF
    clear e H2 HN et
    generalize objE S = z at *
    generalize objA S = oa at *
    generalize objB S = ob at *
    generalize usrE S = ue at *
    generalize usrA S = ua at *
    generalize usrB S = ub at *
    go_enter Try.func47, Try.ntmps47
    go_wp2_with fail
    refine (HF.out _).mono ?_
    rintro e w1 ⟨rfl, rfl⟩
    go_wp2_with fail
    refine (HO.out _).mono ?_
    rintro e w1 ⟨rfl, m, rfl⟩
    by_cases hz : z = 0
    · subst hz
      obtain ⟨rfl, rfl, rfl⟩ := H3.out (by simp) (by simp)
      go_wp2
      go_ret3
      exact ⟨rfl, m, rfl⟩
    · obtain ⟨rfl, rfl, rfl⟩ := H1.out hz
      go_wp2
      go_ret3
      exact ⟨rfl, m, rfl⟩
  | true =>
    have e : fnd 35 S = ix 35 S := by simp [fnd, h]
    have hlt : ix 35 S < S.size := by simpa [has] using h
    rw [e] at HF
    rw [h] at H2 H3
    generalize objE (hd 35 S) = z at *
    generalize objA (hd 35 S) = oa at *
    generalize objB (hd 35 S) = ob at *
    generalize nameB (tl 35 S) = n1 at *
    have hA := fun w : World => str_head S (ix 35 S) (by omega) w
    have hB := fun w : World => str_tail S (ix 35 S + 1) (by omega) w
    have hw : IntKind.i64.wrap ((ix 35 S : Int) + 1) = ((ix 35 S + 1 : Nat) : Int) := by rw [IntWalk.i64_in _ (by omega)]; omega
    simp only [hd, tl] at HN HO H3
    generalize ix 35 S = k at *
    clear h e
    generalize usrE S = ue at *
    generalize usrA S = ua at *
    generalize usrB S = ub at *
    go_enter Try.func47, Try.ntmps47
    go_wp2_with fail
    refine (HF.out _).mono ?_
    rintro e w1 ⟨rfl, rfl⟩
    go_wp2_with fail
    refine (HO.out _).mono ?_
    rintro e w1 ⟨rfl, m, rfl⟩
    by_cases hz : z = 0
    · subst hz
      go_wp2_with fail
      refine (HN.out _).mono ?_
      rintro e w1 ⟨rfl, rfl⟩
      cases n1 with
      | false =>
        obtain ⟨rfl, rfl, rfl⟩ := H2.out (by simp) (by simp) (by simp)
        go_wp2
        go_ret3
        exact ⟨rfl, _, rfl⟩
      | true =>
        obtain ⟨rfl, rfl, rfl⟩ := H3.out (by simp) (by simp)
        go_wp2_with fail
        go_quiet (fail)
        go_wp2
        go_ret3
        exact ⟨rfl, m + _, by simp; rfl⟩
    · obtain ⟨rfl, rfl, rfl⟩ := H1.out hz
      go_wp2
      go_ret3
      exact ⟨rfl, _, rfl⟩
end Go.Proofs.Ytilmpkmojfmlkaa
