/- OutboxRow: the walk. -/
import Derived.Test.YtefllbmopaiojaaOR1
import Derived.Deep.DeepCutAuto
import Derived.Deep.CutBlock
namespace Go.Proofs.Ytefllbmopaiojaa
open Go.RowKit
open Go.Maps (Keyed)

set_option maxRecDepth 100000 in
set_option maxHeartbeats 4000000 in
theorem row_bad (p : Int) (a : Option Addr) (n k : Nat) (w : World) (h : p < 1 ∨ 1000 < p) :
    Calls Try.prog 6 #[.int .i64 p, .slice a n k] w fun e w' => e = .returned (.bool true) ∧ Below w.heap.size w w' := by
  have H := Lib.hid (fun w => OS.new_bad p 4096 w (by omega))
  clear h
  go_enter Try.func6, Try.ntmps6
  go_wp2_with fail
  refine (awake_any _).mono ?_
  rintro e w1 ⟨rfl, hb⟩
  have HB := Lib.hid hb
  clear hb
  go_wp2_with fail
  refine (H.out w1).mono ?_
  rintro e w2 ⟨rfl, rfl⟩
  go_wp2
  go_ret
  exact ⟨rfl, HB.out⟩
theorem three_of {w : World} {g : Nat} {t : TypeId} {x y z : Value} (h : Whole w g t #[x, y, z]) : w.cell? ⟨g, 0, none⟩ = some x ∧ w.cell? ⟨g, 1, none⟩ = some y ∧ w.cell? ⟨g, 2, none⟩ = some z := by
  refine ⟨?_, ?_, ?_⟩ <;> rw [h.cell] <;> rfl
theorem Try.zeroB (w : World) : (zeroValue 4).run Try.prog w = .ok (.bool false) w := by kernel_rfl
set_option maxRecDepth 100000 in
set_option maxHeartbeats 16000000 in
theorem row_good (p : Nat) (a : Option Addr) (n c : Nat) (w : World) (h1 : 1 ≤ p) (h2 : p ≤ 1000) (ho : OpsIn w a n) (hn : n ≤ 140737488355328) :
    Calls Try.prog 6 #[.int .i64 (p : Int), .slice a n c] w fun e w' => e = .returned (.bool true) ∧ Below w.heap.size w w' := by
  have H := Lib.hid (fun W hW => OS.new_good w.heap.size p 4096 W h1 h2 (by omega) (by omega) hW)
  have HO := Lib.hid ho
  clear ho
  go_enter Try.func6, Try.ntmps6
  go_wp2_with fail
  refine (awake_any _).mono ?_
  rintro e w1 ⟨rfl, hb⟩
  have HB := Lib.hid hb
  have HN := Lib.hid (H.out w1 hb.size)
  clear hb
  go_wp2_with fail
  refine HN.out.mono ?_
  rintro e w2 ⟨rfl, hO, hb⟩
  have hbw := bell_up HB.out hb
  have hmk := @run_makeMap Try.prog
  have HJ := Lib.hid (show RJ w (w2.alloc (.map #[] 0)) (w1.heap.size + 1) w1.heap.size w2.heap.size p (.slice none 0 0) [] (fun _ => none) 0 from
    ⟨hO.below (below_alloc _ _), by simp, by simp, MapAt.made _ _ _, (by obtain ⟨mm, hm, _⟩ := hO.map; have := hm.lt; omega), hbw.size, bell_up hbw (below_alloc _ _)⟩)
  clear hO hb hbw HN HB H
  go_wp2_with fail
  clear hmk
  generalize w1.heap.size + 1 = g at *
  generalize w1.heap.size = b at *
  generalize w2.heap.size = gm at *
  go_loopw [28] (fun t28 wr => ∃ (i : Nat) (row : Value) (es : List OS.En) (mm : Lit → Option Value) (N : Nat), i ≤ n ∧ t28 = .int .i64 i ∧ RJ w wr g b gm p row es mm N ∧ N ≤ i) (fun t28 _ => n - (intOf t28).toNat)
  case atStart => exact ⟨0, _, _, _, 0, by omega, rfl, HJ.out, by omega⟩
  case round =>
    clear HJ
    obtain ⟨i, row, es, mm, N, hi, rfl, hJ, hN⟩ := hrel
    by_cases hin : i < n
    · obtain ⟨b0, off, rfl, hbl, hop⟩ := HO.out.resolve_left (by omega)
      obtain ⟨K, V, S, c0, c1, c2, hS⟩ := hop i hin
      have d0 := (hJ.up.cell (p := ⟨b0, off + i * 3, none⟩) hbl).trans c0
      have d1 := (hJ.up.cell (p := ⟨b0, off + i * 3 + 1, none⟩) hbl).trans c1
      have d2 := (hJ.up.cell (p := ⟨b0, off + i * 3 + 2, none⟩) hbl).trans c2
      obtain ⟨w4, hw4⟩ : ∃ w4, w4 = wr.alloc (.cells #[.int .i64 K, .int .i64 V, .string S] 33) := ⟨_, rfl⟩
      have hb4 : Below wr.heap.size wr w4 := by rw [hw4]; exact below_alloc _ _
      have hx4 : Whole w4 wr.heap.size 33 #[.int .i64 K, .int .i64 V, .string S] := by rw [hw4]; exact heap_alloc_new _ _
      have HJ4 := Lib.hid (hJ.below hb4)
      have HX4 := Lib.hid hx4
      have hN2 : N < maxLen := by unfold maxLen; omega
      clear hop c0 c1 c2 hJ hb4 hx4
      go_upto_region 10 with fail
      rw [← hw4]
      clear hw4 d0 d1 d2
      generalize wr.heap.size = q at *
      obtain ⟨d0, d1, d2⟩ := three_of HX4.out
      by_cases hK0 : K = 0
      · subst hK0
        have HP := Lib.hid (HJ4.out.put hS)
        go_wp2_with fail
        refine HP.out.mono ?_
        rintro e w5 ⟨code, rfl, hc, hcase⟩
        have hx5 := HJ4.out.whole HX4.out hc
        clear d0 d1 d2
        obtain ⟨d0, d1, d2⟩ := three_of hx5
        rcases hcase with ⟨hne, row5, hJ5⟩ | ⟨rfl, hm5, hnext⟩
        · have HJ5 := Lib.hid hJ5
          clear hJ5 hc hx5
          go_wp2_with fail
          go_roundw
          case rel => exact ⟨i + 1, _, _, _, N, by omega, by go_num, HJ5.out, by omega⟩
          case measure => simp [intOf]; omega
        · have HM5 := Lib.hid hm5
          have HNX := Lib.hid hnext
          clear hc hx5 hm5 hnext
          go_wp2_with (at_mapUpdate; refine wpList_store_map _ rfl _ _ _ 61 rfl 9 4 Try.keyS Try.underlying61 _ (Try.zeroB _) gm N mm rfl HM5.out hN2 _ (.bool false) (.string S.data.toList) rfl rfl (key_str S hS) ?_; intro w6 hm6 hg6 hs6)
          obtain ⟨row6, es6, hJ6⟩ := HNX.out w6 hm6 hg6
          have HJ6 := Lib.hid hJ6
          clear hm6 hg6 hs6 hJ6
          go_roundw
          case rel => exact ⟨i + 1, _, _, _, _, by omega, by go_num, HJ6.out, by split <;> omega⟩
          case measure => simp [intOf]; omega
      · by_cases hK1 : K = 1
        · subst hK1
          have HP := Lib.hid (HJ4.out.ack hS)
          go_wp2_with fail
          refine HP.out.mono ?_
          rintro e w5 ⟨bb, rfl, hc, hm5, hnext⟩
          have hx5 := HJ4.out.whole HX4.out hc
          clear d0 d1 d2
          obtain ⟨d0, d1, d2⟩ := three_of hx5
          have HM5 := Lib.hid hm5
          have HNX := Lib.hid hnext
          clear hc hx5 hm5 hnext
          go_wp2_with (at_mapUpdate; refine wpList_store_map _ rfl _ _ _ 61 rfl 9 4 Try.keyS Try.underlying61 _ (Try.zeroB _) gm N mm rfl HM5.out hN2 _ (.bool true) (.string S.data.toList) rfl rfl (key_str S hS) ?_; intro w6 hm6 hg6 hs6)
          obtain ⟨row6, es6, hJ6⟩ := HNX.out w6 hm6 hg6
          have HJ6 := Lib.hid hJ6
          clear hm6 hg6 hs6 hJ6
          go_roundw
          case rel => exact ⟨i + 1, _, _, _, _, by omega, by go_num, HJ6.out, by split <;> omega⟩
          case measure => simp [intOf]; omega
        · by_cases hK2 : K = 2
          · subst hK2
            have HKY := Lib.hid (OS.keys_any w4 HJ4.out.box)
            go_wp2_with fail
            refine HKY.out.mono ?_
            rintro e w5 ⟨kv, rfl, hkv, hb5⟩
            obtain ⟨ka, kc, rfl, _, _⟩ := owned_any hkv
            have HJ5 := Lib.hid (HJ4.out.below hb5)
            have HT := Lib.hid (HJ4.out.below hb5).tick
            have HKV := Lib.hid hkv
            clear d0 d1 d2 hkv hb5
            go_wp2_with fail
            refine HT.out.mono ?_
            rintro e w6 ⟨v, rfl, hv, hc, hJ6⟩
            obtain ⟨va, vc, rfl, _, _⟩ := owned_any hv
            have HKV6 := Lib.hid (HJ5.out.strs HKV.out hc)
            have HV6 := Lib.hid hv
            have HJ6 := Lib.hid hJ6
            have hdl := OS.due_len es
            have hel := HJ5.out.box.len
            have HVAL := Lib.hid HJ5.out.val
            have HND := Lib.hid HJ5.out.box.keys
            clear hv hc hJ6 HT HKV
            go_wp2_with fail
            go_loop [11, 62] (fun t11 t62 => ∃ a j : Nat, t11 = .int .i64 a ∧ t62 = .int .i64 j ∧ j ≤ (OS.due es).length ∧ a ≤ es.length ∧ OS.due (es.drop a) = (OS.due es).drop j) (fun _ t62 => (OS.due es).length - (intOf t62).toNat)
            case atStart => exact ⟨0, 0, rfl, rfl, by omega, by omega, rfl⟩
            case round =>
              obtain ⟨a, j, rfl, rfl, hj, ha, hd⟩ := hrel
              by_cases hjl : j < (OS.due es).length
              · obtain ⟨x, hx⟩ : ∃ x, (OS.due es)[j]? = some x := ⟨_, List.getElem?_eq_getElem hjl⟩
                obtain ⟨bv, rfl, _, _, cx⟩ := owned_at (i := j) (u := .string x) HV6.out (by simp [OS.vrow, hx])
                have hdr : (OS.due es).drop j = x :: (OS.due es).drop (j + 1) := by
                  obtain ⟨h4, h5⟩ := List.getElem?_eq_some_iff.1 hx
                  rw [← h5]
                  exact List.drop_eq_getElem_cons h4
                rw [hdr] at hd
                have HD := Lib.hid hd
                clear hx hdr hd
                generalize hDL : (OS.due es).length = dl at *
                have HDL := Lib.hid hDL
                clear hDL
                go_wp2_with fail
                go_loop [11] (fun t11 => ∃ a : Nat, t11 = .int .i64 a ∧ a ≤ es.length ∧ OS.due (es.drop a) = x :: (OS.due es).drop (j + 1)) (fun t11 => es.length - (intOf t11).toNat)
                case atStart => exact ⟨a, rfl, ha, HD.out⟩
                case round =>
                  clear HD ha
                  obtain ⟨a, rfl, ha, hd⟩ := hrel
                  obtain ⟨y, hy, hnx, hst⟩ := scan_on HVAL.out hd
                  have hal : a < es.length := (List.getElem?_eq_some_iff.1 hy).1
                  obtain ⟨bk, rfl, _, _, cy⟩ := owned_at (i := a) (u := .string y.k) HKV6.out (by simp [hy])
                  by_cases he : y.k = x
                  · have HST := Lib.hid (hst HND.out he)
                    have hgn := HJ6.out.gone (x := OS.tk p y) (List.mem_map.2 ⟨y, List.mem_of_getElem? hy, rfl⟩)
                    have hgn : (Instr.lookup 61 (.map (some gm)) (.string x) false).run Try.prog w6 = .ok (.bool false) w6 := by rw [← he]; exact hgn
                    rw [he] at cy
                    have heq : (x.toList == x.toList) = true := by simp
                    have hna : ¬ a = es.length := by omega
                    clear hy hnx hst hd he
                    go_wp2_with fail
                    go_round
                    case rel => exact ⟨a + 1, j + 1, by go_num, by go_num, by omega, by omega, HST.out⟩
                    case measure => simp [intOf]; omega
                  · have HNX := Lib.hid (hnx he)
                    have hne := str_ne he
                    clear hy hnx hst hd he
                    go_wp2_with fail
                    go_round
                    case rel => exact ⟨a + 1, by go_num, by omega, HNX.out⟩
                    case measure => simp [intOf]; omega
              · obtain rfl : j = (OS.due es).length := by omega
                go_wp2_with fail
                go_roundw
                case rel => exact ⟨i + 1, _, _, _, N, by omega, by go_num, HJ6.out, by omega⟩
                case measure => simp [intOf]; omega
          · have HJ5 := Lib.hid HJ4.out
            go_wp2_with fail
            go_roundw
            case rel => exact ⟨i + 1, _, _, _, N, by omega, by go_num, HJ5.out, by omega⟩
            case measure => simp [intOf]; omega
    · obtain rfl : i = n := by omega
      have HU := Lib.hid hJ.up
      clear hJ
      go_wp2
      go_ret
      exact ⟨rfl, HU.out⟩
end Go.Proofs.Ytefllbmopaiojaa
