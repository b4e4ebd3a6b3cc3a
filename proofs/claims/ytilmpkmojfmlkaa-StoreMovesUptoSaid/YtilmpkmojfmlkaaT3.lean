/- Layer 5: objects and users, on both sides. -/
import Derived.Test.YtilmpkmojfmlkaaT2
namespace Go.Proofs.Ytilmpkmojfmlkaa
open Go.RowKit

abbrev Three (a b : ByteArray) (e : Int) : Ending := .returned (.tuple #[.string a, .string b, .int .i64 e])
theorem hd_size (x : UInt8) (S : ByteArray) : (hd x S).size ≤ S.size := by
  have := ix_le x S
  rw [hd, ByteArray.size_extract]
  omega
theorem tl_size (x : UInt8) (S : ByteArray) : (tl x S).size ≤ S.size := by
  rw [tl, ByteArray.size_extract]
  omega

set_option maxHeartbeats 2000000 in
set_option maxRecDepth 100000 in
theorem object_any (S : ByteArray) (w : World) (hS : S.size ≤ 9223372036854775806) :
    Calls Try.prog 87 #[.string S] w fun e w' => e = Three (objA S) (objB S) (objE S) ∧ ∃ n, w' = w.drewN n := by
  have HC := fun w => cut_any S 58 w hS
  have key : ∀ (a b : ByteArray) (h n1 n2 : Bool), hd 58 S = a → tl 58 S = b → has 58 S = h → nameB a = n1 → nameB b = n2 → ∀ (p q : ByteArray) (z : Int),
      z = (if h then (if n1 && n2 then 0 else 50) else 51) → p = (if z = 0 then a else ByteArray.empty) → q = (if z = 0 then b else ByteArray.empty) →
      Calls Try.prog 87 #[.string S] w fun e w' => e = Three p q z ∧ ∃ n, w' = w.drewN n := by
    intro a b h n1 n2 ha hb hh hn1 hn2 p q z hz hp hq
    rw [ha, hb, hh] at HC
    have N1 := fun w => isName_any a w
    have N2 := fun w => isName_any b w
    rw [hn1] at N1
    rw [hn2] at N2
    clear ha hb hh hn1 hn2
    have HC' := Lib.hid HC
    have HN1 := Lib.hid N1
    have HN2 := Lib.hid N2
    have HZ := Lib.hid hz
    have HP := Lib.hid hp
    have HQ := Lib.hid hq
    clear HC N1 N2 hz hp hq
    go_enter Try.func87, Try.ntmps87
    go_wp2_with fail
    refine (HC'.out _).mono ?_
    rintro e w1 ⟨rfl, n, rfl⟩
    cases h with
    | false =>
      go_wp2
      go_ret3
      obtain rfl : z = 51 := HZ.out
      obtain rfl : p = ByteArray.empty := HP.out
      obtain rfl : q = ByteArray.empty := HQ.out
      exact ⟨rfl, _, rfl⟩
    | true =>
      go_wp2_with fail
      refine (HN1.out _).mono ?_
      rintro e w1 ⟨rfl, rfl⟩
      cases n1 with
      | false =>
        go_wp2
        go_ret3
        obtain rfl : z = 50 := HZ.out
        obtain rfl : p = ByteArray.empty := HP.out
        obtain rfl : q = ByteArray.empty := HQ.out
        exact ⟨rfl, _, rfl⟩
      | true =>
        go_wp2_with fail
        refine (HN2.out _).mono ?_
        rintro e w1 ⟨rfl, rfl⟩
        cases n2 with
        | false =>
          go_wp2
          go_ret3
          obtain rfl : z = 50 := HZ.out
          obtain rfl : p = ByteArray.empty := HP.out
          obtain rfl : q = ByteArray.empty := HQ.out
          exact ⟨rfl, _, rfl⟩
        | true =>
          go_wp2
          go_ret3
          obtain rfl : z = 0 := HZ.out
          obtain rfl : p = a := HP.out
          obtain rfl : q = b := HQ.out
          exact ⟨rfl, _, rfl⟩
  exact key _ _ _ _ _ rfl rfl rfl rfl rfl _ _ _ rfl rfl rfl

set_option maxHeartbeats 2000000 in
set_option maxRecDepth 100000 in
theorem objectR_any (S : ByteArray) (w : World) (hS : S.size ≤ 9223372036854775806) :
    Calls Try.prog 45 #[.string S] w fun e w' => e = Three (objA S) (objB S) (objE S) ∧ ∃ n, w' = w.drewN n := by
  have HF := fun w => find_any S 58 w (by omega)
  have N1 := fun w => name_any (hd 58 S) w
  have N2 := fun w => name_any (tl 58 S) w
  cases h : has 58 S with
  | false =>
    have e : fnd 58 S = -1 := by simp [fnd, h]
    have hz : objE S = 51 := by simp [objE, h]
    have hp : objA S = ByteArray.empty := by simp [objA, hz]
    have hq : objB S = ByteArray.empty := by simp [objB, hz]
    rw [e] at HF
    rw [hz, hp, hq]
    clear e hz hp hq h N1 N2
    go_enter Try.func45, Try.ntmps45
    go_wp2_with fail
    refine (HF _).mono ?_
    rintro e w1 ⟨rfl, rfl⟩
    go_wp2
    go_ret3
    exact ⟨rfl, 0, rfl⟩
  | true =>
    have e : fnd 58 S = ix 58 S := by simp [fnd, h]
    have hlt : ix 58 S < S.size := by simpa [has] using h
    rw [e] at HF
    have hA := fun w : World => str_head S (ix 58 S) (by omega) w
    have hB := fun w : World => str_tail S (ix 58 S + 1) (by omega) w
    have hw : IntKind.i64.wrap ((ix 58 S : Int) + 1) = ((ix 58 S + 1 : Nat) : Int) := by rw [IntWalk.i64_in _ (by omega)]; omega
    have hpq : ∀ n1 n2, nameB (hd 58 S) = n1 → nameB (tl 58 S) = n2 → objE S = (if n1 && n2 then 0 else 50) ∧ objA S = (if (if n1 && n2 then (0 : Int) else 50) = 0 then hd 58 S else ByteArray.empty) ∧ objB S = (if (if n1 && n2 then (0 : Int) else 50) = 0 then tl 58 S else ByteArray.empty) := by
      intro n1 n2 h1 h2
      have hz : objE S = (if n1 && n2 then 0 else 50) := by simp [objE, h, h1, h2]
      exact ⟨hz, by rw [objA, hz], by rw [objB, hz]⟩
    have HN1 := Lib.hid N1
    have HN2 := Lib.hid N2
    have HPQ := Lib.hid hpq
    simp only [hd, tl] at HN1 HN2 HPQ
    generalize ix 58 S = k at *
    generalize hE : objE S = zE at *
    generalize hF : objA S = zA at *
    generalize hG : objB S = zB at *
    clear h e N1 N2 hpq hE hF hG
    cases n1 : nameB (S.extract 0 k) with
    | false =>
      have h1 : ((nameB (S.extract 0 k)) && true) = false := by rw [n1]; rfl
      obtain ⟨q1, q2, q3⟩ := HPQ.out _ _ n1 rfl
      simp at q1 q2 q3
      subst q1 q2 q3
      clear h1
      go_enter Try.func45, Try.ntmps45
      go_wp2_with fail
      refine (HF _).mono ?_
      rintro e w1 ⟨rfl, rfl⟩
      go_wp2_with fail
      refine (HN1.out _).mono ?_
      rintro e w1 ⟨rfl, rfl⟩
      go_wp2
      go_ret3
      exact ⟨rfl, 0, rfl⟩
    | true =>
      cases n2 : nameB (S.extract (k + 1) S.size) with
      | false =>
        obtain ⟨q1, q2, q3⟩ := HPQ.out _ _ n1 n2
        simp at q1 q2 q3
        subst q1 q2 q3
        go_enter Try.func45, Try.ntmps45
        go_wp2_with fail
        refine (HF _).mono ?_
        rintro e w1 ⟨rfl, rfl⟩
        go_wp2_with fail
        refine (HN1.out _).mono ?_
        rintro e w1 ⟨rfl, rfl⟩
        go_wp2_with fail
        refine (HN2.out _).mono ?_
        rintro e w1 ⟨rfl, rfl⟩
        go_wp2
        go_ret3
        exact ⟨rfl, 0, rfl⟩
      | true =>
        obtain ⟨q1, q2, q3⟩ := HPQ.out _ _ n1 n2
        simp at q1 q2 q3
        subst q1 q2 q3
        go_enter Try.func45, Try.ntmps45
        go_wp2_with fail
        refine (HF _).mono ?_
        rintro e w1 ⟨rfl, rfl⟩
        go_wp2_with fail
        refine (HN1.out _).mono ?_
        rintro e w1 ⟨rfl, rfl⟩
        go_wp2_with fail
        refine (HN2.out _).mono ?_
        rintro e w1 ⟨rfl, rfl⟩
        go_wp2_with fail
        go_quiet (fail)
        go_wp2
        go_ret3
        exact ⟨rfl, _, rfl⟩
end Go.Proofs.Ytilmpkmojfmlkaa
