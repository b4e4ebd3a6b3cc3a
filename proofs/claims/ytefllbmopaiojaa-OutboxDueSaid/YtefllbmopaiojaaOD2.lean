/- OutboxDue: the walk. -/
import Derived.Test.YtefllbmopaiojaaOD1
import Derived.Deep.RegionLaw
import Derived.Deep.DeepCutAuto
import Derived.Deep.CutBlock
namespace Go.Proofs.Ytefllbmopaiojaa
open Go.RowKit

set_option maxRecDepth 100000 in
set_option maxHeartbeats 4000000 in
theorem due_bad (p : Int) (a : Option Addr) (n k : Nat) (ticks : Int) (w : World) (h : p < 1 ∨ 1000 < p) :
    Calls Try.prog 4 #[.int .i64 p, .slice a n k, .int .i64 ticks] w fun e w' => e = .returned (.bool true) ∧ Below w.heap.size w w' := by
  have H := Lib.hid (fun w => OI.new_bad p 50 w (by omega))
  clear h
  go_enter Try.func4, Try.ntmps4
  go_wp2_with fail
  refine (awake_any _).mono ?_
  rintro e w1 ⟨rfl, hb⟩
  have HB := Lib.hid hb
  clear hb
  go_wp2_with fail
  refine (H.out w1).mono ?_
  rintro e w2 ⟨rfl, rfl⟩
  go_wp2
  go_ret
  exact ⟨rfl, HB.out⟩
set_option maxRecDepth 100000 in
set_option maxHeartbeats 4000000 in
theorem due_out (p : Nat) (a : Option Addr) (n k : Nat) (ticks : Int) (w : World) (h1 : 1 ≤ p) (h2 : p ≤ 1000) (h : ticks < 0 ∨ 3000 < ticks) :
    Calls Try.prog 4 #[.int .i64 (p : Int), .slice a n k, .int .i64 ticks] w fun e w' => e = .returned (.bool true) ∧ Below w.heap.size w w' := by
  have H := Lib.hid (fun w => OI.new_good w.heap.size p 50 w h1 h2 (by omega) (by omega) (Nat.le_refl _))
  have key : ticks < 0 ∨ (¬ ticks < 0 ∧ 3000 < ticks) := by omega
  clear h
  rcases key with h | ⟨h0, h⟩
  all_goals
    go_enter Try.func4, Try.ntmps4
    go_wp2_with fail
    refine (awake_any _).mono ?_
    rintro e w1 ⟨rfl, hb⟩
    have HB := Lib.hid hb
    clear hb
    go_wp2_with fail
    refine (H.out w1).mono ?_
    rintro e w2 ⟨rfl, _, hb⟩
    have HB2 := Lib.hid (bell_up HB.out hb)
    clear hb
    go_wp2
    go_ret
    exact ⟨rfl, HB2.out⟩
/-- What the law has behind so many ticks. -/
def DJ (w W : World) (g b p : Nat) (row : Value) (es : List OI.En) (i : Nat) : Prop := OI.OAt W w.heap.size g b p 50 row es ∧ OI.Mine p i es ∧ Below w.heap.size w W
theorem DJ.below {w W W' : World} {g b p i : Nat} {row : Value} {es : List OI.En} (h : DJ w W g b p row es i) (hb : Below W.heap.size W W') : DJ w W' g b p row es i := ⟨h.1.below hb, h.2.1, bell_up h.2.2 hb⟩
theorem DJ.put {w W : World} {g b p i : Nat} {row : Value} {es : List OI.En} {k : ByteArray} {v : Int} (h : DJ w W g b p row es i) (hk : k ≠ OI.mineK) (hks : k.size ≤ 9223372036854775807) (hv : 0 ≤ v) :
    Calls Try.prog 11 #[.pointer (some ⟨g, 0, none⟩), .string k, .int .i64 v] W fun x W' => ∃ code row' es', x = .returned (.int .i64 code) ∧ DJ w W' g b p row' es' i := by
  refine (OI.put_any k v W h.1 hks h.2.2.size).mono ?_
  rintro x W' ⟨code, row', es', rfl, hO, hp, hc⟩
  exact ⟨code, row', es', rfl, hO, h.2.1.put hp hk hv, OI.up h.1 h.2.2 hc⟩
theorem DJ.ack {w W : World} {g b p i : Nat} {row : Value} {es : List OI.En} {k : ByteArray} (h : DJ w W g b p row es i) (hk : k ≠ OI.mineK) (hks : k.size ≤ 9223372036854775807) :
    Calls Try.prog 13 #[.pointer (some ⟨g, 0, none⟩), .string k] W fun x W' => ∃ bb row' es', x = .returned (.bool bb) ∧ DJ w W' g b p row' es' i := by
  refine (OI.ack_any k W h.1 hks).mono ?_
  rintro x W' ⟨rfl, row', hO, hc⟩
  exact ⟨_, row', _, rfl, hO, h.2.1.ack hk, OI.up h.1 h.2.2 hc⟩
theorem DJ.tick {w W : World} {g b p i : Nat} {row : Value} {es : List OI.En} (h : DJ w W g b p row es i) :
    Calls Try.prog 15 #[.pointer (some ⟨g, 0, none⟩)] W fun x W' => ∃ (v : Value) (l : List Int), x = .returned v ∧ W'.ownsRow W.heap.size 3 1 v l.length (l.map fun x => .int .i64 x) ∧ l.count (-1) = (if i % p = 0 then 1 else 0) ∧ l.length ≤ 50 ∧ DJ w W' g b p row (es.map (OI.tk p)) (i + 1) := by
  refine (OI.tick_any W h.1).mono ?_
  rintro x W' ⟨v, rfl, hv, hO, hc⟩
  exact ⟨v, OI.due es, rfl, hv, h.2.1.count h.1.keys h.1.tr, Nat.le_trans (OI.due_len es) h.1.len, hO, h.2.1.tick h.1.per.1, OI.up h.1 h.2.2 hc⟩
set_option maxRecDepth 100000 in
set_option maxHeartbeats 16000000 in
theorem due_good (p : Nat) (a : Option Addr) (n c : Nat) (ticks : Nat) (w : World) (h1 : 1 ≤ p) (h2 : p ≤ 1000) (ht : ticks ≤ 3000) (ho : OpsIn w a n) :
    Calls Try.prog 4 #[.int .i64 (p : Int), .slice a n c, .int .i64 (ticks : Int)] w fun e w' => e = .returned (.bool true) ∧ Below w.heap.size w w' := by
  have H := Lib.hid (fun W hW => OI.new_good w.heap.size p 50 W h1 h2 (by omega) (by omega) hW)
  have HO := Lib.hid ho
  have hta : decide ((ticks : Int) < 0) = false := by rw [decide_eq_false_iff_not]; omega
  have htb : decide (3000 < (ticks : Int)) = false := by rw [decide_eq_false_iff_not]; omega
  clear ho
  go_enter Try.func4, Try.ntmps4
  go_wp2_with fail
  refine (awake_any _).mono ?_
  rintro e w1 ⟨rfl, hb⟩
  have HB := Lib.hid hb
  have HN := Lib.hid (H.out w1 hb.size)
  clear hb
  go_wp2_with fail
  refine HN.out.mono ?_
  rintro e w2 ⟨rfl, hO, hb⟩
  have HB2 := Lib.hid (bell_up HB.out hb)
  have HP := Lib.hid (OI.put_any OI.mineK (-1) w2 hO (by decide) HB2.out.size)
  have HO2 := Lib.hid hO
  clear hO hb HN HB H
  generalize w1.heap.size + 1 = g at *
  generalize w1.heap.size = b at *
  go_wp2_with fail
  refine HP.out.mono ?_
  rintro e w3 ⟨code, row, es, rfl, hO, hp, hc⟩
  obtain ⟨q, rfl, rfl⟩ : ∃ q, code = 0 ∧ es = [⟨q, OI.mineK, -1, 0⟩] := by
    rcases hp with ⟨e1, y, e2, he, _⟩ | ⟨_, h3, _⟩ | ⟨_, _, h4, q, _, h5⟩
    · exact absurd (congrArg List.length he) (by simp)
    · exact absurd h3 (by simp)
    · exact ⟨q, h4, h5⟩
  have HD := Lib.hid (show DJ w w3 g b p row [⟨q, OI.mineK, -1, 0⟩] 0 from ⟨hO, ⟨⟨⟨q, OI.mineK, -1, 0⟩, by simp, rfl, rfl, by simp⟩, fun x hx hk => by rw [List.mem_singleton] at hx; rw [hx] at hk; exact absurd rfl hk⟩, OI.up HO2.out HB2.out hc⟩)
  clear hO hp hc HO2 HB2 HP
  go_wp2_with fail
  go_loopw [9, 10] (fun t9 t10 wr => ∃ (i : Nat) (row : Value) (es : List OI.En), i ≤ ticks ∧ t10 = .int .i64 i ∧ t9 = .int .i64 (OI.cd p i : Nat) ∧ DJ w wr g b p row es i) (fun _ t10 _ => ticks - (intOf t10).toNat)
  case atStart => exact ⟨0, _, _, by omega, rfl, by rw [OI.cd_zero h1]; rfl, HD.out⟩
  case round =>
    clear HD
    obtain ⟨i, row, es, hi, rfl, rfl, hD⟩ := hrel
    by_cases hit : i < ticks
    · have hcl := OI.cd_le (i := i) h1
      by_cases hin : i < n
      · obtain ⟨b0, off, rfl, hbl, hop⟩ := HO.out.resolve_left (by omega)
        obtain ⟨K, V, S, c0, c1, c2, hS⟩ := hop i hin
        have d0 := (hD.2.2.cell (p := ⟨b0, off + i * 3, none⟩) hbl).trans c0
        have d1 := (hD.2.2.cell (p := ⟨b0, off + i * 3 + 1, none⟩) hbl).trans c1
        have d2 := (hD.2.2.cell (p := ⟨b0, off + i * 3 + 2, none⟩) hbl).trans c2
        have HD := Lib.hid hD
        clear hop c0 c1 c2 hD
        by_cases hm : S = OI.mineK
        · have HQ := Lib.hid (show ∃ row es, DJ w wr g b p row es i from ⟨_, _, HD.out⟩)
          subst hm
          unfold OI.mineK at d2
          go_wp2_with fail
          clear d0 d1 d2 HD
          obtain ⟨row5, es5, hD⟩ := HQ.out
          have HT := Lib.hid hD.tick
          clear hD
          go_wp2_with fail
          refine HT.out.mono ?_
          rintro e w6 ⟨v, ls, rfl, hv, hcnt, hlen, hD⟩
          obtain ⟨va, vc, rfl, _, _⟩ := owned_any hv
          have HD := Lib.hid hD
          have HV := Lib.hid hv
          have HC := Lib.hid hcnt
          clear hD hv hcnt HT
          go_wp2_with fail
          go_loop [9, 87] (fun t9 t87 => ∃ j : Nat, j ≤ ls.length ∧ t87 = .int .i64 j ∧ t9 = .int .i64 ((OI.cd p i + (ls.take j).count (-1) : Nat) : Int)) (fun _ t87 => ls.length - (intOf t87).toNat)
          case atStart => exact ⟨0, by omega, rfl, by simp⟩
          case round =>
            obtain ⟨j, hj, rfl, rfl⟩ := hrel
            by_cases hjl : j < ls.length
            · obtain ⟨x, hx⟩ : ∃ x, ls[j]? = some x := ⟨_, List.getElem?_eq_getElem hjl⟩
              obtain ⟨bv, rfl, _, _, cx⟩ := owned_at (i := j) (u := .int .i64 x) HV.out (by simp [hx])
              have hcb : (ls.take j).count (-1) ≤ 50 := Nat.le_trans List.count_le_length (by rw [List.length_take]; omega)
              have HX := Lib.hid (take_snoc hx)
              clear hx
              generalize hq : (ls.take j).count (-1) = q at *
              have HQ := Lib.hid hq
              clear hq
              by_cases hx1 : x = -1
              · subst hx1
                go_wp2
                go_round
                case rel => exact ⟨j + 1, by omega, by go_num, by rw [HX.out, List.count_append, HQ.out]; go_num⟩
                case measure => simp [intOf]; omega
              · have HX1 := Lib.hid hx1
                go_wp2
                go_round
                case rel => exact ⟨j + 1, by omega, by go_num, by rw [HX.out, List.count_append, HQ.out, List.count_singleton]; simp [HX1.out]⟩
                case measure => simp [intOf]; omega
            · obtain rfl : j = ls.length := by omega
              rw [List.take_length, HC.out, ← OI.cd_succ h1]
              go_wp2_with fail
              go_roundw
              case rel => exact ⟨i + 1, row5, _, by omega, by go_num, rfl, HD.out⟩
              case measure => simp [intOf]; omega
        · have hne : (S.toList == [109, 105, 110, 101]) = false := by
            have h5 := str_ne hm
            rw [show OI.mineK.toList = [109, 105, 110, 101] by rw [ByteArray.toList_eq]; rfl] at h5
            exact h5
          have HM := Lib.hid hm
          clear hm
          by_cases hK : K = 0
          · subst hK
            obtain ⟨U, hU0, hU⟩ : ∃ U : Int, 0 ≤ U ∧ ((V < 0 ∧ U = 0) ∨ (¬ V < 0 ∧ U = V)) := ⟨max V 0, by omega, by omega⟩
            rcases hU with ⟨hv, rfl⟩ | ⟨hv, rfl⟩
            all_goals
              go_upto_region 14 with fail
              have HPP := Lib.hid ((HD.out.below (below_drewN wr 1)).put HM.out hS hU0)
              go_region_law (go_simp; go_at_call 11; refine Calls.mono HPP.out ?_; rintro e w6 ⟨code, row6, es6, rfl, hD6⟩)
              all_goals
                have HQ := Lib.hid (show ∃ row es, DJ w w6 g b p row es i from ⟨_, _, hD6⟩)
                clear d0 d1 d2 HD hD6
                go_wp2_with fail
                obtain ⟨row5, es5, hD⟩ := HQ.out
                have HT := Lib.hid hD.tick
                clear hD
                go_wp2_with fail
                refine HT.out.mono ?_
                rintro e w6 ⟨v, ls, rfl, hv, hcnt, hlen, hD⟩
                obtain ⟨va, vc, rfl, _, _⟩ := owned_any hv
                have HD := Lib.hid hD
                have HV := Lib.hid hv
                have HC := Lib.hid hcnt
                clear hD hv hcnt HT
                go_wp2_with fail
                go_loop [9, 87] (fun t9 t87 => ∃ j : Nat, j ≤ ls.length ∧ t87 = .int .i64 j ∧ t9 = .int .i64 ((OI.cd p i + (ls.take j).count (-1) : Nat) : Int)) (fun _ t87 => ls.length - (intOf t87).toNat)
                case atStart => exact ⟨0, by omega, rfl, by simp⟩
                case round =>
                  obtain ⟨j, hj, rfl, rfl⟩ := hrel
                  by_cases hjl : j < ls.length
                  · obtain ⟨x, hx⟩ : ∃ x, ls[j]? = some x := ⟨_, List.getElem?_eq_getElem hjl⟩
                    obtain ⟨bv, rfl, _, _, cx⟩ := owned_at (i := j) (u := .int .i64 x) HV.out (by simp [hx])
                    have hcb : (ls.take j).count (-1) ≤ 50 := Nat.le_trans List.count_le_length (by rw [List.length_take]; omega)
                    have HX := Lib.hid (take_snoc hx)
                    clear hx
                    generalize hq : (ls.take j).count (-1) = q at *
                    have HQ := Lib.hid hq
                    clear hq
                    by_cases hx1 : x = -1
                    · subst hx1
                      go_wp2
                      go_round
                      case rel => exact ⟨j + 1, by omega, by go_num, by rw [HX.out, List.count_append, HQ.out]; go_num⟩
                      case measure => simp [intOf]; omega
                    · have HX1 := Lib.hid hx1
                      go_wp2
                      go_round
                      case rel => exact ⟨j + 1, by omega, by go_num, by rw [HX.out, List.count_append, HQ.out, List.count_singleton]; simp [HX1.out]⟩
                      case measure => simp [intOf]; omega
                  · obtain rfl : j = ls.length := by omega
                    rw [List.take_length, HC.out, ← OI.cd_succ h1]
                    go_wp2_with fail
                    go_roundw
                    case rel => exact ⟨i + 1, row5, _, by omega, by go_num, rfl, HD.out⟩
                    case measure => simp [intOf]; omega
          · have HA := Lib.hid (HD.out.ack HM.out hS)
            go_wp2_with fail
            refine HA.out.mono ?_
            rintro e w6 ⟨bb, row6, es6, rfl, hD6⟩
            have HQ := Lib.hid (show ∃ row es, DJ w w6 g b p row es i from ⟨_, _, hD6⟩)
            clear d0 d1 d2 HD hD6
            go_wp2_with fail
            obtain ⟨row5, es5, hD⟩ := HQ.out
            have HT := Lib.hid hD.tick
            clear hD
            go_wp2_with fail
            refine HT.out.mono ?_
            rintro e w6 ⟨v, ls, rfl, hv, hcnt, hlen, hD⟩
            obtain ⟨va, vc, rfl, _, _⟩ := owned_any hv
            have HD := Lib.hid hD
            have HV := Lib.hid hv
            have HC := Lib.hid hcnt
            clear hD hv hcnt HT
            go_wp2_with fail
            go_loop [9, 87] (fun t9 t87 => ∃ j : Nat, j ≤ ls.length ∧ t87 = .int .i64 j ∧ t9 = .int .i64 ((OI.cd p i + (ls.take j).count (-1) : Nat) : Int)) (fun _ t87 => ls.length - (intOf t87).toNat)
            case atStart => exact ⟨0, by omega, rfl, by simp⟩
            case round =>
              obtain ⟨j, hj, rfl, rfl⟩ := hrel
              by_cases hjl : j < ls.length
              · obtain ⟨x, hx⟩ : ∃ x, ls[j]? = some x := ⟨_, List.getElem?_eq_getElem hjl⟩
                obtain ⟨bv, rfl, _, _, cx⟩ := owned_at (i := j) (u := .int .i64 x) HV.out (by simp [hx])
                have hcb : (ls.take j).count (-1) ≤ 50 := Nat.le_trans List.count_le_length (by rw [List.length_take]; omega)
                have HX := Lib.hid (take_snoc hx)
                clear hx
                generalize hq : (ls.take j).count (-1) = q at *
                have HQ := Lib.hid hq
                clear hq
                by_cases hx1 : x = -1
                · subst hx1
                  go_wp2
                  go_round
                  case rel => exact ⟨j + 1, by omega, by go_num, by rw [HX.out, List.count_append, HQ.out]; go_num⟩
                  case measure => simp [intOf]; omega
                · have HX1 := Lib.hid hx1
                  go_wp2
                  go_round
                  case rel => exact ⟨j + 1, by omega, by go_num, by rw [HX.out, List.count_append, HQ.out, List.count_singleton]; simp [HX1.out]⟩
                  case measure => simp [intOf]; omega
              · obtain rfl : j = ls.length := by omega
                rw [List.take_length, HC.out, ← OI.cd_succ h1]
                go_wp2_with fail
                go_roundw
                case rel => exact ⟨i + 1, row5, _, by omega, by go_num, rfl, HD.out⟩
                case measure => simp [intOf]; omega
      · have HQ := Lib.hid (show ∃ row es, DJ w wr g b p row es i from ⟨_, _, hD⟩)
        clear hD
        go_wp2_with fail
        obtain ⟨row5, es5, hD⟩ := HQ.out
        have HT := Lib.hid hD.tick
        clear hD
        go_wp2_with fail
        refine HT.out.mono ?_
        rintro e w6 ⟨v, ls, rfl, hv, hcnt, hlen, hD⟩
        obtain ⟨va, vc, rfl, _, _⟩ := owned_any hv
        have HD := Lib.hid hD
        have HV := Lib.hid hv
        have HC := Lib.hid hcnt
        clear hD hv hcnt HT
        go_wp2_with fail
        go_loop [9, 87] (fun t9 t87 => ∃ j : Nat, j ≤ ls.length ∧ t87 = .int .i64 j ∧ t9 = .int .i64 ((OI.cd p i + (ls.take j).count (-1) : Nat) : Int)) (fun _ t87 => ls.length - (intOf t87).toNat)
        case atStart => exact ⟨0, by omega, rfl, by simp⟩
        case round =>
          obtain ⟨j, hj, rfl, rfl⟩ := hrel
          by_cases hjl : j < ls.length
          · obtain ⟨x, hx⟩ : ∃ x, ls[j]? = some x := ⟨_, List.getElem?_eq_getElem hjl⟩
            obtain ⟨bv, rfl, _, _, cx⟩ := owned_at (i := j) (u := .int .i64 x) HV.out (by simp [hx])
            have hcb : (ls.take j).count (-1) ≤ 50 := Nat.le_trans List.count_le_length (by rw [List.length_take]; omega)
            have HX := Lib.hid (take_snoc hx)
            clear hx
            generalize hq : (ls.take j).count (-1) = q at *
            have HQ := Lib.hid hq
            clear hq
            by_cases hx1 : x = -1
            · subst hx1
              go_wp2
              go_round
              case rel => exact ⟨j + 1, by omega, by go_num, by rw [HX.out, List.count_append, HQ.out]; go_num⟩
              case measure => simp [intOf]; omega
            · have HX1 := Lib.hid hx1
              go_wp2
              go_round
              case rel => exact ⟨j + 1, by omega, by go_num, by rw [HX.out, List.count_append, HQ.out, List.count_singleton]; simp [HX1.out]⟩
              case measure => simp [intOf]; omega
          · obtain rfl : j = ls.length := by omega
            rw [List.take_length, HC.out, ← OI.cd_succ h1]
            go_wp2_with fail
            go_roundw
            case rel => exact ⟨i + 1, row5, _, by omega, by go_num, rfl, HD.out⟩
            case measure => simp [intOf]; omega
    · obtain rfl : i = ticks := by omega
      have hq : ((i : Int) + (p : Int) - 1) / (p : Int) = ((OI.cd p i : Nat) : Int) := by
        unfold OI.cd
        rw [Int.natCast_ediv]
        congr 1
        omega
      have hq2 : ((i : Int) + (p : Int) - 1).tdiv (p : Int) = ((OI.cd p i : Nat) : Int) := by
        rw [Int.tdiv_eq_ediv_of_nonneg (by omega)]
        exact hq
      have hcl := OI.cd_le (i := i) h1
      have HA := Lib.hid (OI.ack_any OI.mineK wr hD.1 (by decide))
      have HM := Lib.hid hD.2.1.has
      have HU := Lib.hid (fun W' (hc : Chg wr W' (OI.Blk g b row es)) => OI.up hD.1 hD.2.2 hc)
      generalize OI.cd p i = q at *
      unfold OI.mineK at HA
      clear hD
      go_wp2_with fail
      refine HA.out.mono ?_
      rintro e w6 ⟨rfl, row6, _, hc⟩
      have HU6 := Lib.hid (HU.out w6 hc)
      clear hc
      have HM : OI.hasK es ⟨#[109, 105, 110, 101]⟩ = true := HM.out
      rw [HM]
      clear HM
      go_wp2
      go_ret
      exact ⟨rfl, HU6.out⟩
end Go.Proofs.Ytefllbmopaiojaa
