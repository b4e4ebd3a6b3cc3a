/- TupleMade: what is put together of names is right, and read as those names. -/
import Derived.Test.YtfomhbaebgcleaaTMadeF
import Derived.Deep.DeepCutAuto
import Derived.Deep.CutBlock
namespace Go.Proofs.Ytfomhbaebgcleaa
open Go.RowKit

/-- The names' places. -/
def nth (a b c d e : ByteArray) : Nat → ByteArray
  | 0 => a
  | 1 => b
  | 2 => c
  | 3 => d
  | _ => e
theorem idx5 (a b c d e : ByteArray) (i : Nat) (hi : i < 5) (w : World) : (Instr.index 43 (.agg #[.string a, .string b, .string c, .string d, .string e]) (.int .i64 (i : Int))).run Try.prog w = .ok (.string (nth a b c d e i)) w := by
  match i, hi with
  | 0, _ => rfl
  | 1, _ => rfl
  | 2, _ => rfl
  | 3, _ => rfl
  | 4, _ => rfl
/-- Are the names ahead of a place names? -/
def upTo (a b c d e : ByteArray) : Nat → Bool
  | 0 => true
  | i + 1 => upTo a b c d e i && nameB (nth a b c d e i)
theorem upTo_all (a b c d e : ByteArray) : upTo a b c d e 5 = (nameB a && nameB b && nameB c && nameB d && nameB e) := by
  simp [upTo, nth]

/-- Whether a text may be a name as far as its first bytes go. -/
def niceUp (S : ByteArray) (j : Nat) : Bool := decide (0 < S.size) && decide (S.size ≤ 32) && (S.data.toList.take j).all okB
theorem nice_all (S : ByteArray) : niceUp S S.size = nameB S := by
  rw [niceUp, nameB, Lib.size_eq, List.take_length]
theorem nice_next {S : ByteArray} {j : Nat} (h : j < S.size) : niceUp S (j + 1) = (niceUp S j && okN (at_ S j)) := by
  rw [niceUp, niceUp, all_take_succ S j h, Bool.and_assoc, Bool.and_assoc, Bool.and_assoc]

/-- The names in their block. -/
def Five (W : World) (g : Nat) (a b c d e : ByteArray) : Prop := ∀ i, i < 5 → W.cell? ⟨g, i, none⟩ = some (.string (nth a b c d e i))
theorem five_below {W W' : World} {g : Nat} {a b c d e : ByteArray} (h : Five W g a b c d e) (hb : Below W.heap.size W W') : Five W' g a b c d e := fun i hi =>
  (hb.cell (p := ⟨g, i, none⟩) (World.block_lt_of_cell? W ⟨g, i, none⟩ (h i hi))).trans (h i hi)
theorem Five.cells {W : World} {g : Nat} {a b c d e : ByteArray} (h : Five W g a b c d e) : W.cell? ⟨g, 0, none⟩ = some (.string a) ∧ W.cell? ⟨g, 1, none⟩ = some (.string b) ∧ W.cell? ⟨g, 2, none⟩ = some (.string c) ∧ W.cell? ⟨g, 3, none⟩ = some (.string d) ∧ W.cell? ⟨g, 4, none⟩ = some (.string e) :=
  ⟨h 0 (by omega), h 1 (by omega), h 2 (by omega), h 3 (by omega), h 4 (by omega)⟩

set_option maxHeartbeats 4000000 in
set_option maxRecDepth 100000 in
theorem made_walk (a b c d e : ByteArray) (w : World) (ha : a.size ≤ 140737488351232) (hb : b.size ≤ 140737488351232) (hc : c.size ≤ 140737488351232) (hd : d.size ≤ 140737488351232) (he : e.size ≤ 140737488351232) :
    Calls Try.prog 6 #[.agg #[.string a, .string b, .string c, .string d, .string e]] w fun r w' => r = .returned (.bool true) ∧ Below w.heap.size w w' := by
  have HA := Lib.hid (fun w => awake_any w)
  have hidx := fun (i : Nat) (hi : i < 5) w => idx5 a b c d e i hi w
  have HI := Lib.hid hidx
  have hsz : ∀ i, (nth a b c d e i).size ≤ 140737488351232 := by
    intro i
    unfold nth
    split <;> assumption
  have HSZ := Lib.hid hsz
  have HU := Lib.hid (fun i => show upTo a b c d e (i + 1) = (upTo a b c d e i && nameB (nth a b c d e i)) from rfl)
  clear hidx hsz
  go_enter Try.func6, Try.ntmps6
  go_wp2_with fail
  refine (HA.out _).mono ?_
  rintro e1 w1 ⟨rfl, hb1⟩
  have HB1 := Lib.hid ((below_alloc w (.cells #[.string a, .string b, .string c, .string d, .string e] 43)).trans (hb1.mono (by simp)))
  have h5 : ∀ i, i < 5 → w1.cell? ⟨w.heap.size, i, none⟩ = some (.string (nth a b c d e i)) := by
    intro i hi
    rw [hb1.cell (p := ⟨w.heap.size, i, none⟩) (by simp), new_cell]
    match i, hi with
    | 0, _ => rfl
    | 1, _ => rfl
    | 2, _ => rfl
    | 3, _ => rfl
    | 4, _ => rfl
  have H5 := Lib.hid (show Five w1 w.heap.size a b c d e from h5)
  have k0 : w1.cell? ⟨w.heap.size, 0, none⟩ = some (.string a) := h5 0 (by omega)
  have k1 : w1.cell? ⟨w.heap.size, 1, none⟩ = some (.string b) := h5 1 (by omega)
  have k2 : w1.cell? ⟨w.heap.size, 2, none⟩ = some (.string c) := h5 2 (by omega)
  have k3 : w1.cell? ⟨w.heap.size, 3, none⟩ = some (.string d) := h5 3 (by omega)
  have k4 : w1.cell? ⟨w.heap.size, 4, none⟩ = some (.string e) := h5 4 (by omega)
  clear h5 hb1
  go_wp2_with fail
  go_loop [3, 5, 6, 7, 21] (fun ok _ _ _ iv => ∃ i : Nat, i ≤ 5 ∧ iv = .int .i64 i ∧ ok = .bool (upTo a b c d e i)) (fun _ _ _ _ iv => 5 - (intOf iv).toNat)
  case atStart => exact ⟨0, by omega, rfl, rfl⟩
  case round =>
    obtain ⟨i, hi, rfl, rfl⟩ := hrel
    by_cases hi5 : i < 5
    · have hx := fun w => HI.out i hi5 w
      have hs := HSZ.out i
      have HU1 := Lib.hid (HU.out i)
      generalize hS : nth a b c d e i = S at *
      generalize hok : upTo a b c d e i = ok at *
      clear hS hok
      go_upto_region 7 with fail
      go_cut [6] (fun s6 wx => s6 = .bool (niceUp S 0) ∧ w1 = wx)
      case first =>
        have hz : (S.size = 0) ∨ (0 < S.size ∧ S.size ≤ 32) ∨ 32 < S.size := by omega
        rcases hz with hz | ⟨hz, hz2⟩ | hz
        · have H0 := Lib.hid (show niceUp S 0 = false by simp [niceUp, hz])
          go_wp2_with fail
          go_meet
          exact ⟨by simp [H0.out] <;> omega, rfl⟩
        · have H0 := Lib.hid (show niceUp S 0 = true by simp [niceUp, hz, hz2])
          go_wp2_with fail
          go_meet
          exact ⟨by simp [H0.out] <;> omega, rfl⟩
        · have H0 := Lib.hid (show niceUp S 0 = false by simp [niceUp]; omega)
          go_wp2_with fail
          go_meet
          exact ⟨by simp [H0.out] <;> omega, rfl⟩
      case rest =>
        obtain ⟨rfl, rfl⟩ := hcut
        go_wp2_with fail
        go_loop [6, 7] (fun gv jv => ∃ j : Nat, j ≤ S.size ∧ jv = .int .i64 j ∧ gv = .bool (niceUp S j)) (fun _ jv => S.size - (intOf jv).toNat)
        case atStart => exact ⟨0, by omega, rfl, rfl⟩
        case round =>
          obtain ⟨j, hj, rfl, rfl⟩ := hrel
          by_cases hjs : j < S.size
          · have HN := Lib.hid (nice_next hjs)
            have hg := at_get S j hjs
            have hlt : at_ S j < 256 := by rw [← hg]; have := S[j].toNat_lt; simpa using this
            generalize at_ S j = b0 at *
            generalize niceUp S j = g0 at *
            go_upto_block 3 with fail
            go_cut [6] (fun s6 wx => s6 = .bool (g0 && okN b0) ∧ w1 = wx)
            case first =>
              cases g0 with
              | false =>
                go_wp2_with fail
                go_meet
                exact ⟨rfl, rfl⟩
              | true =>
                cases ho : okN b0 with
                | true =>
                  have q : b0 = 95 ∨ (48 ≤ b0 ∧ b0 ≤ 57) ∨ (97 ≤ b0 ∧ b0 ≤ 122) := by simp [okN] at ho; omega
                  have HO := Lib.hid ho
                  clear ho
                  rcases q with q | ⟨q1, q2⟩ | ⟨q1, q2⟩
                  all_goals
                    go_wp2_with fail
                    go_meet
                    exact ⟨by simp [HO.out] <;> omega, rfl⟩
                | false =>
                  have q : b0 < 48 ∨ (57 < b0 ∧ b0 < 95) ∨ (95 < b0 ∧ b0 < 97) ∨ 122 < b0 := by simp [okN] at ho; omega
                  have HO := Lib.hid ho
                  clear ho
                  rcases q with q | ⟨q1, q2⟩ | ⟨q1, q2⟩ | q
                  all_goals
                    go_wp2_with fail
                    go_meet
                    exact ⟨by simp [HO.out] <;> omega, rfl⟩
            case rest =>
              obtain ⟨rfl, rfl⟩ := hcut
              go_wp2
              go_round
              case rel => exact ⟨j + 1, by omega, by go_num, by rw [HN.out]⟩
              case measure => simp [intOf]; omega
          · have hj2 : j = S.size := by omega
            have hna := nice_all S
            rw [← hj2] at hna
            rw [hna]
            clear hj2
            cases ok with
            | true =>
              go_wp2
              go_round
              case rel => exact ⟨i + 1, by omega, by go_num, by rw [HU1.out]; rfl⟩
              case measure => simp [intOf]; omega
            | false =>
              go_wp2
              go_round
              case rel => exact ⟨i + 1, by omega, by go_num, by rw [HU1.out]; rfl⟩
              case measure => simp [intOf]; omega
    · have hi5' : i = 5 := by omega
      subst hi5'
      have hsr := HSZ.out
      clear HI HU
      generalize hok : upTo a b c d e 5 = ok at *
      rw [upTo_all] at hok
      have HOK := Lib.hid hok
      have hx1 := jn_size 58 a b
      have hx3 := jn_size 58 d e
      have hp := prn_size (jn 58 a b) c (jn 58 d e)
      have HR := Lib.hid (fun w => print_any (jn 58 a b) c (jn 58 d e) w (by omega) (by omega) (by omega))
      have HP := Lib.hid (fun w => parse_any (prn (jn 58 a b) c (jn 58 d e)) w (by omega))
      have HC := Lib.hid (fun w a' h => check_any a' 1 1 [(jn 58 a b, c, jn 58 d e)] w h (by omega))
      have HT := Lib.hid (fun w fr t => tups_one w (jn 58 a b) c (jn 58 d e) fr (by omega) (by omega) (by omega) t)
      rw [tupsE_one, show Tp.e (jn 58 a b, c, jn 58 d e) = tupE (jn 58 a b) c (jn 58 d e) from rfl] at HC
      have HO := Lib.hid (fun w => object_any (jn 58 a b) w (by omega))
      have hx4 := jn_size 35 (jn 58 d e) c
      have HUS := Lib.hid (fun w => user_any (jn 35 (jn 58 d e) c) w (by omega))
      have HG := Lib.hid (fun h => @parse_print (jn 58 a b) c (jn 58 d e) h)
      have h58 : (⟨#[58]⟩ : ByteArray).size = 1 := rfl
      have h35 : (⟨#[35]⟩ : ByteArray).size = 1 := rfl
      unfold TupV at HR HP
      clear hok hp hsr hx4
      rw [jn] at hx1 hx3
      have hjn1 : jn 58 a b = a ++ ⟨#[58]⟩ ++ b := rfl
      have hjn2 : jn 58 d e = d ++ ⟨#[58]⟩ ++ e := rfl
      have hjn3 : jn 35 (jn 58 d e) c = jn 58 d e ++ ⟨#[35]⟩ ++ c := rfl
      have hzs := jn_size 58 d e
      have HJ1 := Lib.hid hjn1
      have HJ2 := Lib.hid hjn2
      have HJ3 := Lib.hid hjn3
      clear hjn1 hjn2 hjn3 hx1 hx3
      go_wp2_with fail
      rw [← HJ1.out, ← HJ2.out]
      have HMADE := Lib.hid (@tup_made a b c d e)
      have HUNM := Lib.hid (@tup_unmade a b c d e)
      have HOM := Lib.hid (@obj_made a b)
      have HUM := Lib.hid (@usr_hash d e c)
      generalize jn 35 (jn 58 d e) c = U at *
      generalize jn 58 a b = X at *
      generalize jn 58 d e = Z at *
      generalize prsA (prn X c Z) = pa at *
      generalize prsB (prn X c Z) = pb at *
      generalize prsC (prn X c Z) = pc at *
      generalize prsE (prn X c Z) = pe at *
      generalize prn X c Z = pt at *
      generalize tupE X c Z = te at *
      generalize objA X = oa at *
      generalize objB X = ob at *
      generalize objE X = oe at *
      generalize usrA U = ua at *
      generalize usrB U = ub at *
      generalize usrE U = ue at *
      obtain ⟨g0, hg0⟩ : ∃ g0, g0 = w.heap.size := ⟨_, rfl⟩
      rw [← hg0] at H5 ⊢
      have HG0 := Lib.hid hg0
      clear hg0 k0 k1 k2 k3 k4
      have HF1 := Lib.hid (five_below H5.out (below_alloc w1 (.cells #[.string X, .string c, .string Z] 23)))
      have HX1 := Lib.hid (bx_new w1 X c Z 23 (0, 0))
      have HBB := Lib.hid (below_alloc2 HB1.out (.cells #[.string X, .string c, .string Z] 23))
      clear HB1 H5
      refine (HR.out _).mono ?_
      rintro e1 w2 ⟨rfl, hb2⟩
      have HF2 := Lib.hid (five_below HF1.out hb2)
      have HX2 := Lib.hid (bx_below HX1.out hb2)
      have HB2 := Lib.hid (below_both HBB.out hb2)
      clear hb2 HF1 HX1 HBB
      generalize w1.heap.size = g1 at *
      go_wp2_with fail
      refine (HP.out _).mono ?_
      rintro e1 w3 ⟨rfl, hb3⟩
      have hal := below_alloc w3 (.cells #[.string pa, .string pb, .string pc] 23)
      have HF3 := Lib.hid (five_below (five_below HF2.out hb3) hal)
      have HX3 := Lib.hid (bx_below (bx_below HX2.out hb3) hal)
      have HY3 := Lib.hid (bx_new w3 pa pb pc 23 (0, 0))
      have HB3 := Lib.hid (below_both (below_both HB2.out hb3) hal)
      have hsz3 : (w3.alloc (.cells #[.string pa, .string pb, .string pc] 23)).heap.size = w3.heap.size + 1 := by simp
      have HSZ3 := Lib.hid hsz3
      clear hb3 hal HF2 HX2 HB2 hsz3
      cases ok with
      | false =>
        go_wp2_with fail
        have htt := HT.out (w3.alloc (.cells #[.string pa, .string pb, .string pc] 23)) (0, 0) 23
        rw [HSZ3.out] at htt
        have HTT := Lib.hid htt
        have hal2 := below_alloc (w3.alloc (.cells #[.string pa, .string pb, .string pc] 23)) (.cells #[.string X, .string c, .string Z] 23)
        have HBA := Lib.hid (below_both HB3.out hal2)
        clear htt hal2
        obtain ⟨k0, k1, k2, k3, k4⟩ := HF3.out.cells
        obtain ⟨c0, c1, c2⟩ := HX3.out
        clear k0 k1 k2 k3
        go_loop [11] (fun jv => ∃ j : Nat, j ≤ e.size ∧ jv = .int .i64 j ∧ (35 : UInt8) ∉ e.data.toList.take j) (fun jv => e.size - (intOf jv).toNat)
        case atStart => exact ⟨0, by omega, rfl, by simp⟩
        case round =>
          obtain ⟨j, hj, rfl, hnm⟩ := hrel
          by_cases hjs : j < e.size
          · have hg := at_get e j hjs
            have hjl : j < e.data.toList.length := by rw [← Lib.size_eq]; exact hjs
            have hstep : at_ e j ≠ 35 → (35 : UInt8) ∉ e.data.toList.take (j + 1) := by
              intro hne hm
              rw [List.take_succ_eq_append_getElem hjl, List.mem_append, List.mem_singleton] at hm
              rcases hm with hm | hm
              · exact hnm hm
              · apply hne
                rw [at_, List.getD_eq_getElem?_getD, List.getElem?_eq_getElem hjl, Option.getD_some, ← hm]
                rfl
            have HST := Lib.hid hstep
            clear hstep hnm
            generalize at_ e j = b0 at *
            by_cases h35' : b0 = 35
            · subst h35'
              go_wp2
              go_ret
              exact ⟨rfl, HB3.out⟩
            · have HST2 := Lib.hid (HST.out h35')
              have hne : (b0 : Int) ≠ 35 := by omega
              go_wp2
              go_round
              case rel => exact ⟨j + 1, by omega, by go_num, HST2.out⟩
              case measure => simp [intOf]; omega
          · have hfin : te ≠ 0 := by
              refine HUNM.out HOK.out ?_
              rwa [List.take_of_length_le (by rw [← Lib.size_eq]; omega)] at hnm
            have HFIN := Lib.hid hfin
            clear hnm
            go_wp2_with fail
            refine (HC.out _ _ HTT.out).mono ?_
            rintro e1 w8 ⟨rfl, hb8⟩
            have HB8 := Lib.hid (below_both HBA.out hb8)
            clear hb8
            go_wp2
            go_ret
            exact ⟨by simp [HFIN.out], HB8.out⟩
      | true =>
        have hte := HMADE.out HOK.out
        subst hte
        obtain ⟨rfl, rfl, rfl, rfl⟩ := HG.out rfl
        have hnn := HOK.out
        simp only [Bool.and_eq_true] at hnn
        obtain ⟨⟨⟨⟨m1, m2⟩, m3⟩, m4⟩, m5⟩ := hnn
        obtain ⟨rfl, rfl, rfl⟩ := HOM.out m1 m2
        obtain ⟨hue, hua, hub⟩ := HUM.out m4 m5 m3
        subst hue hua hub
        clear m1 m2 m3 m4 m5 HOM HUM HG HMADE HUNM HOK
        obtain ⟨c0, c1, c2⟩ := HX3.out
        go_wp2_with fail
        refine (HO.out _).mono ?_
        rintro e1 w4 ⟨rfl, n4, rfl⟩
        obtain ⟨k0, k1, k2, k3, k4⟩ := HF3.out.cells
        clear k0 k1 k3 k4
        go_wp2_with fail
        rw [← HJ3.out]
        refine (HUS.out _).mono ?_
        rintro e1 w5 ⟨rfl, n5, rfl⟩
        have hd := below_drew (w := (w3.alloc (.cells #[.string pa, .string ub, .string ua] 23))) (w' := (((w3.alloc (.cells #[.string pa, .string ub, .string ua] 23)).drewN n4).drewN n5)) (B := (w3.alloc (.cells #[.string pa, .string ub, .string ua] 23)).heap.size) ⟨n4 + n5, by simp⟩
        have HF5 := Lib.hid (five_below HF3.out hd)
        have HX5 := Lib.hid (bx_below HX3.out hd)
        have HY5 := Lib.hid (bx_below HY3.out hd)
        have HB5 := Lib.hid (below_both HB3.out hd)
        have HSZ5 := Lib.hid (show (((w3.alloc (.cells #[.string pa, .string ub, .string ua] 23)).drewN n4).drewN n5).heap.size = w3.heap.size + 1 from HSZ3.out)
        clear hd HF3 HX3 HY3 HB3 HSZ3 k2 c0 c1 c2
        generalize (((w3.alloc (.cells #[.string pa, .string ub, .string ua] 23)).drewN n4).drewN n5) = W5 at *
        generalize w3.heap.size = g3 at *
        obtain ⟨c0, c1, c2⟩ := HX5.out
        go_wp2_with fail
        refine (HC.out _ _ (HT.out _ _ _)).mono ?_
        rintro e1 w6 ⟨rfl, hb6⟩
        have hal := below_alloc W5 (.cells #[.string pa, .string ub, .string ua] 23)
        have HF6 := Lib.hid (five_below (five_below HF5.out hal) hb6)
        have HX6 := Lib.hid (bx_below (bx_below HX5.out hal) hb6)
        have HY6 := Lib.hid (bx_below (bx_below HY5.out hal) hb6)
        have HB6 := Lib.hid (below_both (below_both HB5.out hal) hb6)
        clear hb6 hal HF5 HX5 HY5 HB5 c0 c1 c2
        obtain ⟨k0, k1, k2, k3, k4⟩ := HF6.out.cells
        obtain ⟨c0, c1, c2⟩ := HX6.out
        obtain ⟨d0, d1, d2⟩ := HY6.out
        have q1 : (oa.toList == oa.toList) = true := by simp
        have q2 : (ob.toList == ob.toList) = true := by simp
        have q3 : (ub.toList == ub.toList) = true := by simp
        have q4 : (ua.toList == ua.toList) = true := by simp
        have q5 : (pa.toList == pa.toList) = true := by simp
        go_wp2
        go_ret
        exact ⟨rfl, HB6.out⟩
end Go.Proofs.Ytfomhbaebgcleaa
