/- TokenOrder: unlike tokens have unlike texts; longer ones have greater revisions. -/
import Derived.Test.YtpiohfjmfehnoaaTk9
namespace Go.Proofs.Ytpiohfjmfehnoaa
open Go.RowKit

theorem dg_mono (r s : Nat) (h : r ≤ s) : (dg r).length ≤ (dg s).length := by
  induction s using Nat.strongRecOn generalizing r with
  | ind s ih =>
    rcases Nat.eq_zero_or_pos r with rfl | h0
    · rw [dg_zero]; simp
    · rw [dg_pos h0, dg_pos (by omega : 0 < s), List.length_append, List.length_append]
      have := ih (s / 31) (by omega) (r / 31) (Nat.div_le_div_right h)
      simpa using this
theorem num_lt (a b : Nat) (l m : List Nat) (hl : ok31 l) (h : l.length = m.length) (hab : a < b) : num a l < num b m := by
  induction l generalizing a b m with
  | nil => cases m with
    | nil => exact hab
    | cons q m => simp at h
  | cons p l ih => cases m with
    | nil => simp at h
    | cons q m =>
      have hp := hl p (by simp)
      exact ih (a * 31 + p) (b * 31 + q) m (fun x hx => hl x (by simp [hx])) (by simpa using h) (by omega)
theorem less_num (a : Nat) (l m : List Nat) (hl : ok31 l) (hm : ok31 m) (h : l.length = m.length) :
    Op.bytesLess (l.map fun p => (sgn p).toNat.toUInt8) (m.map fun p => (sgn p).toNat.toUInt8) = decide (num a l < num a m) := by
  induction l generalizing a m with
  | nil => cases m with
    | nil => simp [Op.bytesLess, num]
    | cons q m => simp at h
  | cons p l ih => cases m with
    | nil => simp at h
    | cons q m =>
      have hp := hl p (by simp)
      have hq := hm q (by simp)
      have fp := sgn_facts hp
      have fq := sgn_facts hq
      have hlt : ((sgn p).toNat.toUInt8 < (sgn q).toNat.toUInt8) ↔ p < q := by
        rw [UInt8.lt_iff_toNat_lt]
        have e1 : (sgn p).toNat.toUInt8.toNat = (sgn p).toNat := by simp; omega
        have e2 : (sgn q).toNat.toUInt8.toNat = (sgn q).toNat := by simp; omega
        rw [e1, e2, ← sgn_lt hp hq]
        omega
      have hl' : l.length = m.length := by simpa using h
      have ol : ok31 l := fun x hx => hl x (by simp [hx])
      have om : ok31 m := fun x hx => hm x (by simp [hx])
      rw [List.map_cons, List.map_cons, Op.bytesLess]
      rcases Nat.lt_trichotomy p q with hpq | hpq | hpq
      · have h1 : decide ((sgn p).toNat.toUInt8 < (sgn q).toNat.toUInt8) = true := decide_eq_true (hlt.2 hpq)
        have h2 : num a (p :: l) < num a (q :: m) := num_lt _ _ l m ol hl' (by omega)
        simp [h1, h2]
      · subst hpq
        have h1 : decide ((sgn p).toNat.toUInt8 < (sgn p).toNat.toUInt8) = false := decide_eq_false (by rw [hlt]; omega)
        rw [h1, ih (a * 31 + p) m ol om hl']
        simp [num]
        exact decide_eq_decide.2 Iff.rfl
      · have h1 : decide ((sgn p).toNat.toUInt8 < (sgn q).toNat.toUInt8) = false := decide_eq_false (by rw [hlt]; omega)
        have h2 : num a (q :: m) < num a (p :: l) := num_lt _ _ m l om hl'.symm (by omega)
        have h3 : ((sgn p).toNat.toUInt8 == (sgn q).toNat.toUInt8) = false := by
          rw [beq_eq_false_iff_ne]
          intro he
          have e1 := fp.2.2.1
          rw [he, fq.2.2.1] at e1
          omega
        have h4 : ¬ num a (p :: l) < num a (q :: m) := by omega
        simp [h1, h3, h4]
theorem T_less (l m : List Nat) (hl : ok31 l) (hm : ok31 m) (h : l.length = m.length) : Op.bytesLess (T l).toList (T m).toList = decide (num 0 l < num 0 m) := by
  rw [Lib.toList_data, Lib.toList_data, T_data, T_data]
  exact less_num 0 l m hl hm h

/-- All that the law asks of two tokens' texts. -/
structure Ord (a b c d : Int) (X Y : ByteArray) : Prop where
  same : X = Y ↔ a = c ∧ b = d
  len : b = d → X.size = Y.size
  longer : X.size ≠ Y.size → (X.size < Y.size ↔ b < d)
  inner : X.size = Y.size → Op.bytesLess (X.extract 1 (X.size - 1)).toList (Y.extract 1 (Y.size - 1)).toList = decide (b < d)
  small : 2 ≤ X.size ∧ X.size ≤ 13 ∧ 2 ≤ Y.size ∧ Y.size ≤ 13
theorem ord_any {a b c d : Int} (h : fitB a b = true) (k : fitB c d = true) : Ord a b c d (T (full a b)) (T (full c d)) := by
  have hf := fitB_iff.1 h
  have kf := fitB_iff.1 k
  have hl := full_len (n := a) (r := b)
  have kl := full_len (n := c) (r := d)
  refine ⟨⟨fun he => ?_, ?_⟩, ?_, ?_, ?_, ?_⟩
  · have r1 := read_full h
    rw [he] at r1
    have r2 := read_full k
    exact ⟨r1.2.1.symm.trans r2.2.1, r1.2.2.symm.trans r2.2.2⟩
  · rintro ⟨rfl, rfl⟩; rfl
  · rintro rfl; rw [T_size, T_size]; omega
  · rw [T_size, T_size]
    intro hne
    have m1 := dg_mono b.toNat d.toNat
    have m2 := dg_mono d.toNat b.toNat
    omega
  · rw [T_size, T_size]
    intro he
    have e1 : (T (full a b)).extract 1 ((full a b).length - 1) = T (dg b.toNat) := by rw [T_extract, ← full_mid (n := a) (r := b)]; rfl
    have e2 : (T (full c d)).extract 1 ((full c d).length - 1) = T (dg d.toNat) := by rw [T_extract, ← full_mid (n := c) (r := d)]; rfl
    rw [e1, e2, T_less _ _ (dg_ok _) (dg_ok _) (by omega), num_dg, num_dg]
    congr 1
    apply propext
    omega
  · rw [T_size, T_size]
    have := (full_ok h).2
    have := (full_ok k).2
    omega

set_option maxRecDepth 100000 in
set_option maxHeartbeats 4000000 in
theorem order_walk (a b c d : Int) (w : World) :
    Calls Try.prog 7 #[TokV a b, TokV c d] w fun e w' => e = .returned (.bool true) ∧ Below w.heap.size w w' := by
  have HA := Lib.hid (fun w => awake_any w)
  have HP := Lib.hid (fun w => print_any a b w)
  have HQ := Lib.hid (fun w => print_any c d w)
  have hX0 := box_new w a b 23 (0, 0)
  have hX1 := box_below hX0 (below_alloc _ (.cells (TokC c d) 23))
  have hY1 := box_new (w.alloc (.cells (TokC a b) 23)) c d 23 (0, 0)
  have hB1 := (below_alloc w (.cells (TokC a b) 23)).alloc (by rw [alloc_size1]; omega) (.cells (TokC c d) 23)
  rw [alloc_size1] at hY1
  have hall : (prE a b ≠ 0 ∨ prE c d ≠ 0) ∨ (prE a b = 0 ∧ prE c d = 0 ∧ Ord a b c d (prT a b) (prT c d)) := by
    cases h : fitB a b with
    | false => left; left; rw [prE, h]; decide
    | true =>
      cases k : fitB c d with
      | false => left; right; rw [prE, k]; decide
      | true =>
        right
        refine ⟨by rw [prE, h]; rfl, by rw [prE, k]; rfl, ?_⟩
        rw [prT, prT, h, k]
        exact ord_any h k
  have HX1 := Lib.hid hX1
  have HY1 := Lib.hid hY1
  have HB1 := Lib.hid hB1
  have HALL := Lib.hid hall
  clear hX0 hX1 hY1 hB1 hall
  generalize prT a b = X at *
  generalize prT c d = Y at *
  generalize prE a b = xe at *
  generalize prE c d = ye at *
  go_enter Try.func7, Try.ntmps7
  go_wp2_with fail
  refine (HA.out _).mono ?_
  rintro e w2 ⟨rfl, hb⟩
  have HX2 := Lib.hid (box_below HX1.out hb)
  have HY2 := Lib.hid (box_below HY1.out hb)
  have HB2 := Lib.hid (HB1.out.trans (hb.mono HB1.out.size))
  obtain ⟨c0, c1⟩ := HX2.out
  clear hb HX1 HY1 HB1
  go_wp2_with fail
  refine (HP.out _).mono ?_
  rintro e w3 ⟨rfl, hb⟩
  have HX3 := Lib.hid (box_below HX2.out hb)
  have HY3 := Lib.hid (box_below HY2.out hb)
  have HB3 := Lib.hid (HB2.out.trans (hb.mono HB2.out.size))
  clear hb HX2 HY2 HB2 c0 c1
  obtain ⟨c0, c1⟩ := HY3.out
  go_wp2_with fail
  refine (HQ.out _).mono ?_
  rintro e w4 ⟨rfl, hb⟩
  have HX4 := Lib.hid (box_below HX3.out hb)
  have HY4 := Lib.hid (box_below HY3.out hb)
  have HB4 := Lib.hid (HB3.out.trans (hb.mono HB3.out.size))
  clear hb HX3 HY3 HB3 c0 c1
  obtain ⟨x0, x1⟩ := HX4.out
  obtain ⟨y0, y1⟩ := HY4.out
  rcases HALL.out with (h | h) | ⟨rfl, rfl, ho⟩
  · go_wp2
    all_goals (go_ret; exact ⟨rfl, HB4.out⟩)
  · go_wp2
    all_goals (go_ret; exact ⟨rfl, HB4.out⟩)
  · have HO := Lib.hid ho
    have hsm := ho.small
    clear ho
    by_cases hac : a = c ∧ b = d
    · have hXY := HO.out.same.2 hac
      obtain ⟨rfl, rfl⟩ := hac
      have HXY := Lib.hid hXY
      subst hXY
      have q1 : (X.toList == X.toList) = true := by simp
      go_wp2
      all_goals (go_ret; exact ⟨rfl, HB4.out⟩)
    · have hXY : X ≠ Y := fun h => hac (HO.out.same.1 h)
      have q1 : (X.toList == Y.toList) = false := str_ne hXY
      by_cases hbd : b = d
      · subst hbd
        have hne : a ≠ c := fun h => hac ⟨h, rfl⟩
        have hsz := HO.out.len rfl
        go_wp2
        all_goals (go_ret; exact ⟨rfl, HB4.out⟩)
      · by_cases hsz : X.size = Y.size
        · have hin := HO.out.inner hsz
          have HIN := Lib.hid hin
          clear hin
          have hsx : ∀ w, Sem.run Try.prog (Instr.slice 9 (.string X) (some (.int .i64 1)) (some (.int .i64 ((X.size : Int) - 1))) none) w = .ok (.string (X.extract 1 (X.size - 1))) w := by
            intro w
            have h := str_slice X 1 (X.size - 1) (by omega) (by omega) w
            rw [show ((X.size - 1 : Nat) : Int) = (X.size : Int) - 1 by omega] at h
            exact h
          have hsy : ∀ w, Sem.run Try.prog (Instr.slice 9 (.string Y) (some (.int .i64 1)) (some (.int .i64 ((Y.size : Int) - 1))) none) w = .ok (.string (Y.extract 1 (Y.size - 1))) w := by
            intro w
            have h := str_slice Y 1 (Y.size - 1) (by omega) (by omega) w
            rw [show ((Y.size - 1 : Nat) : Int) = (Y.size : Int) - 1 by omega] at h
            exact h
          have hwx : IntKind.i64.wrap ((X.size : Int) - 1) = (X.size : Int) - 1 := IntWalk.i64_in _ ⟨by omega, by omega⟩
          have hwy : IntKind.i64.wrap ((Y.size : Int) - 1) = (Y.size : Int) - 1 := IntWalk.i64_in _ ⟨by omega, by omega⟩
          generalize X.extract 1 (X.size - 1) = X1 at *
          generalize Y.extract 1 (Y.size - 1) = Y1 at *
          go_wp2_with fail
          clear hsz
          go_quiet (fail)
          have z0 : (w4.drewN nq).cell? ⟨w.heap.size, 1, none⟩ = some (.int .i64 b) := x1
          have z1 : (w4.drewN nq).cell? ⟨w.heap.size + 1, 1, none⟩ = some (.int .i64 d) := y1
          have HB5 := Lib.hid (HB4.out.trans ((below_drewN w4 nq).mono HB4.out.size))
          generalize w4.drewN nq = w5 at *
          go_wp2
          go_ret
          refine ⟨?_, HB5.out⟩
          have hin := HIN.out
          simp [hin]
        · have hlg := HO.out.longer hsz
          rcases Nat.lt_or_gt_of_ne hsz with h1 | h1
          · have h2 := hlg.1 h1
            clear hlg
            go_wp2
            all_goals (go_ret; exact ⟨rfl, HB4.out⟩)
          · have h2 : d < b := by
              have : ¬ b < d := fun h => by have := hlg.2 h; omega
              omega
            clear hlg
            have e2 : ¬ b < d := by omega
            go_wp2
            go_ret
            exact ⟨by simp; omega, HB4.out⟩
end Go.Proofs.Ytpiohfjmfehnoaa
