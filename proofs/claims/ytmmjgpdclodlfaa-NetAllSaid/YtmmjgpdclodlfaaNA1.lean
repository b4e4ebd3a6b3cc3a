/- NetAll: the law. -/
import Derived.Test.YtmmjgpdclodlfaaNA0
import Derived.Carry
namespace Go.Proofs.Ytmmjgpdclodlfaa
open Go.RowKit

theorem flip_two0 {g i : Nat} {nodes : Int} {v : Value} {ps : List Pk} {p : Pk} (bit : Int) (hbm : bit ≤ 9223372036854775807) (hi : ps[i]? = some p) (hby : ∀ y ∈ p.xs, 0 ≤ y ∧ y < 256) : ∃ (c : Int) (ps1 : List Pk), (c = 0 ∨ c ≠ 0 ∧ ps = ps1) ∧
    (∀ (W : World) (B : Nat), NAt W B g nodes v ps → Calls Try.prog 14 #[.pointer (some ⟨g, 0, none⟩), .int .i64 (i : Int), .int .i64 bit] W fun e w' => e = .returned (.int .i64 c) ∧ NAt w' B g nodes v ps1 ∧ Chg W w' (NX g v ps)) ∧
    (c = 0 → ∀ (W : World) (B : Nat), NAt W B g nodes v ps1 → Calls Try.prog 14 #[.pointer (some ⟨g, 0, none⟩), .int .i64 (i : Int), .int .i64 bit] W fun e w' => e = .returned (.int .i64 0) ∧ NAt w' B g nodes v ps ∧ Chg W w' (NX g v ps)) := by
  by_cases hb : bit < 0 ∨ (p.xs.length : Int) ≤ bit.tdiv 8
  · refine ⟨1, ps, .inr ⟨by decide, rfl⟩, fun W B h => ?_, fun h => by cases h⟩
    refine (flip_range bit W h hi hb hbm).mono ?_
    rintro e w' ⟨he, rfl⟩
    exact ⟨he, h, Chg.refl _ _⟩
  · obtain ⟨k, rfl⟩ : ∃ k : Nat, bit = (k : Int) := ⟨bit.toNat, by omega⟩
    have hd1 : (k : Int).tdiv 8 = ((k / 8 : Nat) : Int) := by rw [Int.tdiv_eq_ediv_of_nonneg (by omega)]; omega
    rw [hd1] at hb
    have hkl : k / 8 < p.xs.length := by omega
    obtain ⟨y, hy⟩ : ∃ y, p.xs[k / 8]? = some y := ⟨_, List.getElem?_eq_getElem hkl⟩
    have hyr := hby y (List.mem_of_getElem? hy)
    have hfb := fb_facts hyr.1 hyr.2 (Nat.mod_lt k (by decide : 0 < 8))
    have hil := (List.getElem?_eq_some_iff.1 hi).1
    refine ⟨0, ps.set i ⟨p.fr, p.dst, p.v, p.xs.set (k / 8) (fb y (k % 8))⟩, .inl rfl, fun W B h => ?_, fun _ W B h => ?_⟩
    · refine (flip_ok W h hi hy).mono ?_
      rintro e w' ⟨he, hN, hc⟩
      exact ⟨he, hN, hc.mono fun q _ hq => .inr ⟨p, List.mem_of_getElem? hi, hq⟩⟩
    · refine (flip_ok (k := k) (x := fb y (k % 8)) W h (List.getElem?_set_self hil) (by simp only; rw [List.getElem?_set_self hkl])).mono ?_
      rintro e w' ⟨he, hN, hc⟩
      simp only [List.set_set, hfb.2.2.2] at hN
      have e1 : p.xs.set (k / 8) y = p.xs := by
        obtain ⟨hl, e⟩ := List.getElem?_eq_some_iff.1 hy
        rw [← e, List.set_getElem_self]
      have e2 : ps.set i p = ps := by
        obtain ⟨hl, e⟩ := List.getElem?_eq_some_iff.1 hi
        rw [← e, List.set_getElem_self]
      rw [e1] at hN
      have hN : NAt w' B g nodes v (ps.set i p) := hN
      rw [e2] at hN
      exact ⟨he, hN, hc.mono fun q _ hq => .inr ⟨p, List.mem_of_getElem? hi, hq⟩⟩
theorem flip_two {g i : Nat} {nodes : Int} {v : Value} {ps : List Pk} {p : Pk} (x : Int) (hx : x = (i : Int)) (bit : Int) (hbm : bit ≤ 9223372036854775807) (hi : ps[i]? = some p) (hby : ∀ y ∈ p.xs, 0 ≤ y ∧ y < 256) : ∃ (c : Int) (ps1 : List Pk), (c = 0 ∨ c ≠ 0 ∧ ps = ps1) ∧
    (∀ (W : World) (B : Nat), NAt W B g nodes v ps → Calls Try.prog 14 #[.pointer (some ⟨g, 0, none⟩), .int .i64 x, .int .i64 bit] W fun e w' => e = .returned (.int .i64 c) ∧ NAt w' B g nodes v ps1 ∧ Chg W w' (NX g v ps)) ∧
    (c = 0 → ∀ (W : World) (B : Nat), NAt W B g nodes v ps1 → Calls Try.prog 14 #[.pointer (some ⟨g, 0, none⟩), .int .i64 x, .int .i64 bit] W fun e w' => e = .returned (.int .i64 0) ∧ NAt w' B g nodes v ps ∧ Chg W w' (NX g v ps)) := by
  subst hx
  exact flip_two0 bit hbm hi hby
theorem deliver_at {B g : Nat} {nodes : Int} {v : Value} {ps : List Pk} {i : Nat} {p : Pk} (x : Int) (hx : x = (i : Int)) (w : World) (h : NAt w B g nodes v ps) (hi : ps[i]? = some p) (hn : ps.length ≤ 4096) (hB : B ≤ w.heap.size) :
    Calls Try.prog 10 #[.pointer (some ⟨g, 0, none⟩), .int .i64 x] w fun e w' => DeliverOk w B g nodes v ps i p e w' := by
  subst hx
  exact deliver_ok w h hi hn hB
/-- What the pick leaves. -/
def PickR (w : World) (a2 : Option Addr) (n2 j len : Nat) (s83 : Value) : Prop := s83 = .bool false ∨ s83 = .bool true ∧ j < n2 ∧ ∃ (k bp offp : Nat), k < len ∧ a2 = some ⟨bp, offp, none⟩ ∧ bp < w.heap.size ∧ w.cell? ⟨bp, offp + j, none⟩ = some (.int .i64 (k : Int))
set_option maxRecDepth 100000 in
set_option maxHeartbeats 4000000 in
theorem nall_many (a a2 : Option Addr) (n c n2 c2 : Nat) (bit : Int) (w : World) (hn : 4096 < n) :
    Calls Try.prog 4 #[.slice a n c, .slice a2 n2 c2, .int .i64 bit] w fun e w' => e = .returned (.bool true) ∧ Below w.heap.size w w' := by
  have hd : decide (4096 < (n : Int)) = true := by rw [decide_eq_true_eq]; omega
  go_enter Try.func4, Try.ntmps4
  go_wp2_with fail
  refine (awake_any _).mono ?_
  rintro e w1 ⟨rfl, hb⟩
  have HB := Lib.hid hb
  have HN := Lib.hid (new_good 2 w1 (by decide) (by decide))
  clear hb
  go_wp2_with fail
  refine HN.out.mono ?_
  rintro e w2 ⟨rfl, _, hb2⟩
  have HB2 := Lib.hid (HB.out.trans (hb2.mono HB.out.size))
  clear hb2 HN
  go_wp2
  go_ret
  exact ⟨rfl, HB2.out⟩
set_option maxRecDepth 100000 in
set_option maxHeartbeats 16000000 in
theorem nall_few (a a2 : Option Addr) (n c n2 c2 : Nat) (bit : Int) (w : World) (ht : TextsIn w a n) (hp : NumsIn w a2 n2) (hbm : bit ≤ 9223372036854775807) (hn : n ≤ 4096) (hn2 : n2 ≤ 9223372036854775807) :
    Calls Try.prog 4 #[.slice a n c, .slice a2 n2 c2, .int .i64 bit] w fun e w' => e = .returned (.bool true) ∧ Below w.heap.size w w' := by
  have hd : decide (4096 < (n : Int)) = false := by rw [decide_eq_false_iff_not]; omega
  have HT := Lib.hid ht
  have HP := Lib.hid hp
  have HBM := Lib.hid hbm
  clear ht hp hbm
  go_enter Try.func4, Try.ntmps4
  go_wp2_with fail
  refine (awake_any _).mono ?_
  rintro e w1 ⟨rfl, hb⟩
  have HB := Lib.hid hb
  have HN := Lib.hid (new_good 2 w1 (by decide) (by decide))
  clear hb
  go_wp2_with fail
  refine HN.out.mono ?_
  rintro e w2 ⟨rfl, hN2, hb2⟩
  have HJ0 := Lib.hid (show AJ w (w2.alloc (.map #[] 0)) w1.heap.size w2.heap.size (.slice none 0 0) [] (fun _ => none) 0 from
    ⟨NAt.below (B := w.heap.size) ⟨hN2.net, HB.out.size, FRow.nil _ _, by simp, by simp⟩ (below_alloc _ _), ⟨by simp, by simp⟩, by simp, MapAt.made _ _ _, Nat.le_trans HB.out.size hb2.size, fun _ => rfl, (HB.out.trans (hb2.mono HB.out.size)).trans ((below_alloc _ _).mono (Nat.le_trans HB.out.size hb2.size))⟩)
  clear hN2 hb2 HN
  have hmk := @run_makeMap Try.prog
  generalize w1.heap.size = g at *
  go_wp2_with fail
  clear hmk
  generalize w2.heap.size = mb at *
  go_loopw [38] (fun iv wr => ∃ k : Nat, k ≤ n ∧ iv = .int .i64 k ∧ ∃ v ps m N, AJ w wr g mb v ps m N ∧ ps.length = k ∧ N ≤ k) (fun iv _ => n - (intOf iv).toNat)
  case atStart => exact ⟨0, by omega, rfl, _, _, _, _, HJ0.out, rfl, by omega⟩
  case round =>
    clear HJ0
    obtain ⟨k, hk, rfl, v, ps, m, N, hj, hpl, hN⟩ := hrel
    by_cases hkn : k < n
    · obtain ⟨bo, off, rfl, hbo, htx⟩ := HT.out.resolve_left (by omega)
      obtain ⟨S, hc, hS⟩ := htx k hkn
      have d0 := (hj.up.cell (p := ⟨bo, off + k, none⟩) hbo).trans hc
      obtain ⟨C, w3, hcv, hin, hb3, _⟩ := conv_bytes wr S hS
      have hm1 : (k : Int).tmod 2 = ((k % 2 : Nat) : Int) := by rw [Int.tmod_eq_emod_of_nonneg (by omega)]; omega
      have hw1 : IntKind.i64.wrap (((k % 2 : Nat) : Int)) = ((k % 2 : Nat) : Int) := IntWalk.i64_in _ (by omega)
      have hw2 : IntKind.i64.wrap (1 - ((k % 2 : Nat) : Int)) = 1 - ((k % 2 : Nat) : Int) := IntWalk.i64_in _ (by omega)
      have hr2 : k % 2 < 2 := Nat.mod_lt _ (by decide)
      have HJ3 := Lib.hid (hj.below hb3)
      have HSD := Lib.hid (Go.Proofs.Ytmmjgpdclodlfaa.send_ok ((k % 2 : Nat) : Int) (1 - ((k % 2 : Nat) : Int)) w3 HJ3.out.net hin (by omega) (by omega) (by omega) (by omega) (by omega) HJ3.out.up.size)
      generalize hq : k % 2 = r at *
      have HPL := Lib.hid hpl
      clear hj hb3 hin hc htx hq hpl
      go_wp2_with fail
      refine HSD.out.mono ?_
      rintro e w4 ⟨rfl, u, v4, hN4, hc4, hv4, hu4⟩
      have hg4 : Good 2 (ps ++ [⟨(r : Int), 1 - (r : Int), u, nums S⟩]) := ⟨fun p hp => by
        rw [List.mem_append, List.mem_singleton] at hp
        rcases hp with hp | rfl
        · exact HJ3.out.good.each p hp
        · exact ⟨by simp only; omega, by simp only; rw [nums_len]; exact hS⟩, by rw [List.length_append, HPL.out]; simp; omega⟩
      have ho4 : ∀ p ∈ ps ++ [(⟨(r : Int), 1 - (r : Int), u, nums S⟩ : Pk)], p.fr + p.dst = 1 := fun p hp => by
        rw [List.mem_append, List.mem_singleton] at hp
        rcases hp with hp | rfl
        · exact HJ3.out.one p hp
        · simp only; omega
      have hM4 := HJ3.out.step hN4 hg4 ho4 (hc4.mono fun q _ hq => .inl hq)
      have HM4 := Lib.hid hM4
      have hlk := hM4.cnt.look hM4.map (S := S) (by omega)
      have hcl := cntP_le ps S
      rw [HPL.out] at hcl
      have hws : IntKind.i64.wrap ((cntP ps S : Int) + 1) = (cntP ps S : Int) + 1 := IntWalk.i64_in _ (by omega)
      have HC5 := Lib.hid (Cnts.put (ps' := ps ++ [(⟨(r : Int), 1 - (r : Int), u, nums S⟩ : Pk)]) hM4.cnt (S := S) (fun T => by
        rw [cntP_snoc]
        simp only [nums_str]
        by_cases e : S = T
        · subst e; rfl
        · rw [if_neg e, if_neg e]) (by omega))
      clear hN4 hc4 hv4 hu4 hg4 ho4 hM4
      generalize hcc : cntP ps S = cc at *
      clear hcc
      go_wp2_with (at_mapUpdate; refine wpList_store_map _ rfl _ _ _ 55 rfl 9 3 Try.keyS Try.underlying55 _ (Try.zeroI _) mb N m rfl HM4.out.map (by unfold maxLen; omega) _ _ (.string S.data.toList) rfl rfl (key_str S (by omega)) ?_; intro w5 hm5 hg5 hs5; have HJ5 := Lib.hid (HM4.out.mapped hm5 hg5 HC5.out); clear hm5 hg5 hs5)
      go_roundw
      case rel => exact ⟨k + 1, by omega, by go_num, _, _, _, _, HJ5.out, by rw [List.length_append, HPL.out]; rfl, by split <;> omega⟩
      case measure => simp [intOf]; omega
    · obtain rfl : k = n := by omega
      have HJ1 := Lib.hid hj
      have hl1 : ps.length ≤ 4096 := by omega
      have hN1 : N ≤ 4096 := by omega
      clear hj hpl hN hk
      go_wp2_with fail
      go_loopw [12] (fun iv wr => ∃ j : Nat, iv = .int .i64 j ∧ ∃ v ps m N, AJ w wr g mb v ps m N ∧ j + ps.length ≤ 4096 ∧ N ≤ 4096 + j) (fun iv _ => 5000 - (intOf iv).toNat)
      case atStart => exact ⟨0, rfl, _, _, _, _, HJ1.out, by omega, by omega⟩
      case round =>
        clear HJ1 hl1 hN1
        obtain ⟨j, rfl, v, ps, m, N, hj, hjl, hN⟩ := hrel
        have HJ := Lib.hid hj
        have HLN := Lib.hid (len_any wr hj.net)
        clear hj
        by_cases hpos : 0 < ps.length
        · have hd0 : decide (0 < (ps.length : Int)) = true := by rw [decide_eq_true_eq]; omega
          go_wp2_with fail
          refine HLN.out.mono ?_
          rintro e w3 ⟨rfl, hq⟩
          obtain rfl : wr = w3 := hq.symm
          have HLN := Lib.hid (fun nd => len_any (wr.drewN nd) (HJ.out.net.below (below_drewN wr nd)))
          go_upto_region 18 with fail
          go_cut [83] (fun s83 wx => AJ w wx g mb v ps m N ∧ PickR w a2 n2 j ps.length s83)
          case first J KK hJR hMK =>
            by_cases hjn : j < n2
            · obtain ⟨bp, offp, rfl, hbp, hnx⟩ := HP.out.resolve_left (by omega)
              obtain ⟨x, hx⟩ := hnx j hjn
              have q0 := (HJ.out.up.cell (p := ⟨bp, offp + j, none⟩) hbp).trans hx
              have HX := Lib.hid hx
              clear hx hnx
              rcases Int.lt_or_le x 0 with hx0 | hx0
              · have hdx : decide (0 ≤ x) = false := by rw [decide_eq_false_iff_not]; omega
                go_quiet ((go_at_call 18; exact Calls.quiet_of_same (HLN.out _)))
                go_wp2_with fail
                go_meet
                exact ⟨HJ.out.below (below_drewN _ _), .inl rfl⟩
              · have hdx : decide (0 ≤ x) = true := by rw [decide_eq_true_eq]; omega
                rcases Int.lt_or_le x (ps.length : Int) with hx1 | hx1
                · obtain ⟨k, rfl⟩ : ∃ k : Nat, x = (k : Int) := ⟨x.toNat, by omega⟩
                  go_quiet ((go_at_call 18; exact Calls.quiet_of_same (HLN.out _)))
                  go_wp2_with fail
                  go_meet
                  exact ⟨HJ.out.below (below_drewN _ _), .inr ⟨rfl, hjn, k, bp, offp, by omega, rfl, hbp, HX.out⟩⟩
                · have hdl : decide (x < (ps.length : Int)) = false := by rw [decide_eq_false_iff_not]; omega
                  go_quiet ((go_at_call 18; exact Calls.quiet_of_same (HLN.out _)))
                  go_wp2_with fail
                  go_meet
                  exact ⟨HJ.out.below (below_drewN _ _), .inl rfl⟩
            · have hdj : decide (j < n2) = false := by rw [decide_eq_false_iff_not]; omega
              go_quiet ((go_at_call 18; exact Calls.quiet_of_same (HLN.out _)))
              go_wp2_with fail
              go_meet
              exact ⟨HJ.out.below (below_drewN _ _), .inl rfl⟩
          case rest =>
            clear HJ HLN
            obtain ⟨hjc, hpk⟩ := hcut
            have HJC := Lib.hid hjc
            clear hjc
            rcases hpk with rfl | ⟨rfl, hjn, k, bp, offp, hkl, rfl, hbp, hx⟩
            · obtain ⟨k, hk0⟩ : ∃ k : Nat, k = 0 := ⟨0, rfl⟩
              have hkl : k < ps.length := by omega
              go_upto_region 20 with fail
              have HXK := Lib.hid (show (0 : Int) = (k : Int) by rw [hk0]; rfl)
              clear hk0
              obtain ⟨p, hp⟩ : ∃ p, ps[k]? = some p := ⟨_, List.getElem?_eq_getElem hkl⟩
              have HPI := Lib.hid hp
              obtain ⟨cd, ps1, hcc, hf1, hf2⟩ := flip_two (g := g) (nodes := 2) (v := v) 0 HXK.out bit HBM.out hp (HJC.out.net.pks p (List.mem_of_getElem? hp)).byte
              have HF1 := Lib.hid (hf1 wc w.heap.size HJC.out.net)
              have HF2 := Lib.hid hf2
              clear hf1 hf2 hp
              rcases hcc with rfl | ⟨hne, rfl⟩
              · go_wp2_with fail
                refine HF1.out.mono ?_
                rintro e w4 ⟨rfl, hN4, hc4⟩
                have HF3 := Lib.hid (HF2.out (by first | rfl | trivial) w4 w.heap.size hN4)
                have HC4 := Lib.hid hc4
                clear hN4 hc4 HF1 HF2
                go_wp2_with fail
                refine HF3.out.mono ?_
                rintro e w5 ⟨rfl, hN5, hc5⟩
                have hJ5 := HJC.out.step hN5 HJC.out.good HJC.out.one (HC4.out.trans hc5)
                have HJ5 := Lib.hid hJ5
                clear hN5 hc5 hJ5 HC4 HF3
                have HDV := Lib.hid (deliver_at (i := k) 0 (by first | rfl | exact HXK.out) w5 HJ5.out.net HPI.out HJ5.out.good.len HJ5.out.up.size)
                have h1 := HJ5.out.one p (List.mem_of_getElem? HPI.out)
                have hpx := (HJ5.out.good.each p (List.mem_of_getElem? HPI.out))
                obtain ⟨⟨hr1, hr2, hr3, hr4⟩, hpl⟩ := hpx
                have hpp : ∃ pa pk, p.v = .slice pa p.xs.length pk := by
                  obtain ⟨pa, pk, hv, _⟩ := (HJ5.out.net.pks p (List.mem_of_getElem? HPI.out)).isb
                  exact ⟨pa, pk, hv⟩
                obtain ⟨pa, pk, hpv⟩ := hpp
                have hks : k < ps.length := hkl
                go_wp2_with fail
                refine HDV.out.mono ?_
                rintro e w6 ⟨rfl, v6, hN6, hP6, hc6, _⟩
                have hJ6 := HJ5.out.step6 hN6 (HJ5.out.good.sub (List.eraseIdx_sublist _ _)) (fun q hq => HJ5.out.one q ((List.eraseIdx_sublist _ _).subset hq)) (hc6.mono fun q _ hq => .inl hq)
                have his : IsB w6 pa p.xs.length p.xs := by
                  obtain ⟨pa', pk', hv', hi', _⟩ := hP6.isb
                  rw [hpv] at hv'
                  injection hv' with e1 _ _
                  rw [e1]
                  exact hi'
                rw [hpv]
                have hJ7 := hJ6.below (below_alloc w6 (.cells #[.int .i64 p.fr, .int .i64 p.dst, .slice pa p.xs.length pk] 32))
                have HJ7 := Lib.hid hJ7
                have hst := (his.below (below_alloc w6 (.cells #[.int .i64 p.fr, .int .i64 p.dst, .slice pa p.xs.length pk] 32))).str pk
                have hsz := strOfNums_size p.xs
                have hcl := cntP_le ps (strOfNums p.xs)
                have hpl4 := HJ5.out.good.len
                have hws : IntKind.i64.wrap ((cntP ps (strOfNums p.xs) : Int) - 1) = (cntP ps (strOfNums p.xs) : Int) - 1 := IntWalk.i64_in _ (by omega)
                have hwf : IntKind.i64.wrap (p.fr + p.dst) = 1 := by rw [h1]; rfl
                have hlk := hJ7.cnt.look hJ7.map (S := strOfNums p.xs) (by omega)
                have HC5 := Lib.hid (Cnts.take (ps' := ps.eraseIdx k) hJ7.cnt (S := strOfNums p.xs) (fun T => by
                  rw [cntP_erase T ps k p HPI.out]
                  by_cases e : strOfNums p.xs = T
                  · subst e; rfl
                  · rw [if_neg e, if_neg e]) (by omega))
                have hel : (ps.eraseIdx k).length = ps.length - 1 := List.length_eraseIdx_of_lt hkl
                have HEL := Lib.hid hel
                have hss : (strOfNums p.xs).size ≤ 140737488351232 := by omega
                clear hN6 hP6 hc6 hJ6 his hJ7 h1 hpv hsz hel
                generalize hcc : cntP ps (strOfNums p.xs) = cc at *
                generalize hSS : strOfNums p.xs = S at *
                clear hcc hSS
                go_wp2_with (at_mapUpdate; refine wpList_store_map _ rfl _ _ _ 55 rfl 9 3 Try.keyS Try.underlying55 _ (Try.zeroI _) mb N m rfl HJ7.out.map (by unfold maxLen; omega) _ _ (.string S.data.toList) rfl rfl (key_str S (by omega)) ?_; intro w8 hm8 hg8 hs8; have HJ8 := Lib.hid (HJ7.out.mapped hm8 hg8 HC5.out); clear hm8 hg8 hs8)
                go_roundw
                case rel => exact ⟨j + 1, by go_num, _, _, _, _, HJ8.out, by rw [HEL.out]; omega, by split <;> omega⟩
                case measure => simp [intOf]; omega
              · have hb0 : (cd == 0) = false := by rw [beq_eq_false_iff_ne]; exact hne
                go_wp2_with fail
                refine HF1.out.mono ?_
                rintro e w5 ⟨rfl, hN5, hc5⟩
                have hJ5 := HJC.out.step hN5 HJC.out.good HJC.out.one hc5
                have HJ5 := Lib.hid hJ5
                clear hN5 hc5 hJ5 HF1 HF2
                have HDV := Lib.hid (deliver_at (i := k) 0 (by first | rfl | exact HXK.out) w5 HJ5.out.net HPI.out HJ5.out.good.len HJ5.out.up.size)
                have h1 := HJ5.out.one p (List.mem_of_getElem? HPI.out)
                have hpx := (HJ5.out.good.each p (List.mem_of_getElem? HPI.out))
                obtain ⟨⟨hr1, hr2, hr3, hr4⟩, hpl⟩ := hpx
                have hpp : ∃ pa pk, p.v = .slice pa p.xs.length pk := by
                  obtain ⟨pa, pk, hv, _⟩ := (HJ5.out.net.pks p (List.mem_of_getElem? HPI.out)).isb
                  exact ⟨pa, pk, hv⟩
                obtain ⟨pa, pk, hpv⟩ := hpp
                have hks : k < ps.length := hkl
                go_wp2_with fail
                refine HDV.out.mono ?_
                rintro e w6 ⟨rfl, v6, hN6, hP6, hc6, _⟩
                have hJ6 := HJ5.out.step6 hN6 (HJ5.out.good.sub (List.eraseIdx_sublist _ _)) (fun q hq => HJ5.out.one q ((List.eraseIdx_sublist _ _).subset hq)) (hc6.mono fun q _ hq => .inl hq)
                have his : IsB w6 pa p.xs.length p.xs := by
                  obtain ⟨pa', pk', hv', hi', _⟩ := hP6.isb
                  rw [hpv] at hv'
                  injection hv' with e1 _ _
                  rw [e1]
                  exact hi'
                rw [hpv]
                have hJ7 := hJ6.below (below_alloc w6 (.cells #[.int .i64 p.fr, .int .i64 p.dst, .slice pa p.xs.length pk] 32))
                have HJ7 := Lib.hid hJ7
                have hst := (his.below (below_alloc w6 (.cells #[.int .i64 p.fr, .int .i64 p.dst, .slice pa p.xs.length pk] 32))).str pk
                have hsz := strOfNums_size p.xs
                have hcl := cntP_le ps (strOfNums p.xs)
                have hpl4 := HJ5.out.good.len
                have hws : IntKind.i64.wrap ((cntP ps (strOfNums p.xs) : Int) - 1) = (cntP ps (strOfNums p.xs) : Int) - 1 := IntWalk.i64_in _ (by omega)
                have hwf : IntKind.i64.wrap (p.fr + p.dst) = 1 := by rw [h1]; rfl
                have hlk := hJ7.cnt.look hJ7.map (S := strOfNums p.xs) (by omega)
                have HC5 := Lib.hid (Cnts.take (ps' := ps.eraseIdx k) hJ7.cnt (S := strOfNums p.xs) (fun T => by
                  rw [cntP_erase T ps k p HPI.out]
                  by_cases e : strOfNums p.xs = T
                  · subst e; rfl
                  · rw [if_neg e, if_neg e]) (by omega))
                have hel : (ps.eraseIdx k).length = ps.length - 1 := List.length_eraseIdx_of_lt hkl
                have HEL := Lib.hid hel
                have hss : (strOfNums p.xs).size ≤ 140737488351232 := by omega
                clear hN6 hP6 hc6 hJ6 his hJ7 h1 hpv hsz hel
                generalize hcc : cntP ps (strOfNums p.xs) = cc at *
                generalize hSS : strOfNums p.xs = S at *
                clear hcc hSS
                go_wp2_with (at_mapUpdate; refine wpList_store_map _ rfl _ _ _ 55 rfl 9 3 Try.keyS Try.underlying55 _ (Try.zeroI _) mb N m rfl HJ7.out.map (by unfold maxLen; omega) _ _ (.string S.data.toList) rfl rfl (key_str S (by omega)) ?_; intro w8 hm8 hg8 hs8; have HJ8 := Lib.hid (HJ7.out.mapped hm8 hg8 HC5.out); clear hm8 hg8 hs8)
                go_roundw
                case rel => exact ⟨j + 1, by go_num, _, _, _, _, HJ8.out, by rw [HEL.out]; omega, by split <;> omega⟩
                case measure => simp [intOf]; omega
            · have q0 := (HJC.out.up.cell (p := ⟨bp, offp + j, none⟩) hbp).trans hx
              clear hx
              have HXK := Lib.hid (show (k : Int) = (k : Int) from rfl)
              obtain ⟨p, hp⟩ : ∃ p, ps[k]? = some p := ⟨_, List.getElem?_eq_getElem hkl⟩
              have HPI := Lib.hid hp
              obtain ⟨cd, ps1, hcc, hf1, hf2⟩ := flip_two (g := g) (nodes := 2) (v := v) (k : Int) HXK.out bit HBM.out hp (HJC.out.net.pks p (List.mem_of_getElem? hp)).byte
              have HF1 := Lib.hid (hf1 wc w.heap.size HJC.out.net)
              have HF2 := Lib.hid hf2
              clear hf1 hf2 hp
              rcases hcc with rfl | ⟨hne, rfl⟩
              · go_wp2_with fail
                refine HF1.out.mono ?_
                rintro e w4 ⟨rfl, hN4, hc4⟩
                have HF3 := Lib.hid (HF2.out (by first | rfl | trivial) w4 w.heap.size hN4)
                have HC4 := Lib.hid hc4
                clear hN4 hc4 HF1 HF2
                go_wp2_with fail
                refine HF3.out.mono ?_
                rintro e w5 ⟨rfl, hN5, hc5⟩
                have hJ5 := HJC.out.step hN5 HJC.out.good HJC.out.one (HC4.out.trans hc5)
                have HJ5 := Lib.hid hJ5
                clear hN5 hc5 hJ5 HC4 HF3
                have HDV := Lib.hid (deliver_at (i := k) (k : Int) (by first | rfl | exact HXK.out) w5 HJ5.out.net HPI.out HJ5.out.good.len HJ5.out.up.size)
                have h1 := HJ5.out.one p (List.mem_of_getElem? HPI.out)
                have hpx := (HJ5.out.good.each p (List.mem_of_getElem? HPI.out))
                obtain ⟨⟨hr1, hr2, hr3, hr4⟩, hpl⟩ := hpx
                have hpp : ∃ pa pk, p.v = .slice pa p.xs.length pk := by
                  obtain ⟨pa, pk, hv, _⟩ := (HJ5.out.net.pks p (List.mem_of_getElem? HPI.out)).isb
                  exact ⟨pa, pk, hv⟩
                obtain ⟨pa, pk, hpv⟩ := hpp
                have hks : k < ps.length := hkl
                go_wp2_with fail
                refine HDV.out.mono ?_
                rintro e w6 ⟨rfl, v6, hN6, hP6, hc6, _⟩
                have hJ6 := HJ5.out.step6 hN6 (HJ5.out.good.sub (List.eraseIdx_sublist _ _)) (fun q hq => HJ5.out.one q ((List.eraseIdx_sublist _ _).subset hq)) (hc6.mono fun q _ hq => .inl hq)
                have his : IsB w6 pa p.xs.length p.xs := by
                  obtain ⟨pa', pk', hv', hi', _⟩ := hP6.isb
                  rw [hpv] at hv'
                  injection hv' with e1 _ _
                  rw [e1]
                  exact hi'
                rw [hpv]
                have hJ7 := hJ6.below (below_alloc w6 (.cells #[.int .i64 p.fr, .int .i64 p.dst, .slice pa p.xs.length pk] 32))
                have HJ7 := Lib.hid hJ7
                have hst := (his.below (below_alloc w6 (.cells #[.int .i64 p.fr, .int .i64 p.dst, .slice pa p.xs.length pk] 32))).str pk
                have hsz := strOfNums_size p.xs
                have hcl := cntP_le ps (strOfNums p.xs)
                have hpl4 := HJ5.out.good.len
                have hws : IntKind.i64.wrap ((cntP ps (strOfNums p.xs) : Int) - 1) = (cntP ps (strOfNums p.xs) : Int) - 1 := IntWalk.i64_in _ (by omega)
                have hwf : IntKind.i64.wrap (p.fr + p.dst) = 1 := by rw [h1]; rfl
                have hlk := hJ7.cnt.look hJ7.map (S := strOfNums p.xs) (by omega)
                have HC5 := Lib.hid (Cnts.take (ps' := ps.eraseIdx k) hJ7.cnt (S := strOfNums p.xs) (fun T => by
                  rw [cntP_erase T ps k p HPI.out]
                  by_cases e : strOfNums p.xs = T
                  · subst e; rfl
                  · rw [if_neg e, if_neg e]) (by omega))
                have hel : (ps.eraseIdx k).length = ps.length - 1 := List.length_eraseIdx_of_lt hkl
                have HEL := Lib.hid hel
                have hss : (strOfNums p.xs).size ≤ 140737488351232 := by omega
                clear hN6 hP6 hc6 hJ6 his hJ7 h1 hpv hsz hel
                generalize hcc : cntP ps (strOfNums p.xs) = cc at *
                generalize hSS : strOfNums p.xs = S at *
                clear hcc hSS
                go_wp2_with (at_mapUpdate; refine wpList_store_map _ rfl _ _ _ 55 rfl 9 3 Try.keyS Try.underlying55 _ (Try.zeroI _) mb N m rfl HJ7.out.map (by unfold maxLen; omega) _ _ (.string S.data.toList) rfl rfl (key_str S (by omega)) ?_; intro w8 hm8 hg8 hs8; have HJ8 := Lib.hid (HJ7.out.mapped hm8 hg8 HC5.out); clear hm8 hg8 hs8)
                go_roundw
                case rel => exact ⟨j + 1, by go_num, _, _, _, _, HJ8.out, by rw [HEL.out]; omega, by split <;> omega⟩
                case measure => simp [intOf]; omega
              · have hb0 : (cd == 0) = false := by rw [beq_eq_false_iff_ne]; exact hne
                go_wp2_with fail
                refine HF1.out.mono ?_
                rintro e w5 ⟨rfl, hN5, hc5⟩
                have hJ5 := HJC.out.step hN5 HJC.out.good HJC.out.one hc5
                have HJ5 := Lib.hid hJ5
                clear hN5 hc5 hJ5 HF1 HF2
                have HDV := Lib.hid (deliver_at (i := k) (k : Int) (by first | rfl | exact HXK.out) w5 HJ5.out.net HPI.out HJ5.out.good.len HJ5.out.up.size)
                have h1 := HJ5.out.one p (List.mem_of_getElem? HPI.out)
                have hpx := (HJ5.out.good.each p (List.mem_of_getElem? HPI.out))
                obtain ⟨⟨hr1, hr2, hr3, hr4⟩, hpl⟩ := hpx
                have hpp : ∃ pa pk, p.v = .slice pa p.xs.length pk := by
                  obtain ⟨pa, pk, hv, _⟩ := (HJ5.out.net.pks p (List.mem_of_getElem? HPI.out)).isb
                  exact ⟨pa, pk, hv⟩
                obtain ⟨pa, pk, hpv⟩ := hpp
                have hks : k < ps.length := hkl
                go_wp2_with fail
                refine HDV.out.mono ?_
                rintro e w6 ⟨rfl, v6, hN6, hP6, hc6, _⟩
                have hJ6 := HJ5.out.step6 hN6 (HJ5.out.good.sub (List.eraseIdx_sublist _ _)) (fun q hq => HJ5.out.one q ((List.eraseIdx_sublist _ _).subset hq)) (hc6.mono fun q _ hq => .inl hq)
                have his : IsB w6 pa p.xs.length p.xs := by
                  obtain ⟨pa', pk', hv', hi', _⟩ := hP6.isb
                  rw [hpv] at hv'
                  injection hv' with e1 _ _
                  rw [e1]
                  exact hi'
                rw [hpv]
                have hJ7 := hJ6.below (below_alloc w6 (.cells #[.int .i64 p.fr, .int .i64 p.dst, .slice pa p.xs.length pk] 32))
                have HJ7 := Lib.hid hJ7
                have hst := (his.below (below_alloc w6 (.cells #[.int .i64 p.fr, .int .i64 p.dst, .slice pa p.xs.length pk] 32))).str pk
                have hsz := strOfNums_size p.xs
                have hcl := cntP_le ps (strOfNums p.xs)
                have hpl4 := HJ5.out.good.len
                have hws : IntKind.i64.wrap ((cntP ps (strOfNums p.xs) : Int) - 1) = (cntP ps (strOfNums p.xs) : Int) - 1 := IntWalk.i64_in _ (by omega)
                have hwf : IntKind.i64.wrap (p.fr + p.dst) = 1 := by rw [h1]; rfl
                have hlk := hJ7.cnt.look hJ7.map (S := strOfNums p.xs) (by omega)
                have HC5 := Lib.hid (Cnts.take (ps' := ps.eraseIdx k) hJ7.cnt (S := strOfNums p.xs) (fun T => by
                  rw [cntP_erase T ps k p HPI.out]
                  by_cases e : strOfNums p.xs = T
                  · subst e; rfl
                  · rw [if_neg e, if_neg e]) (by omega))
                have hel : (ps.eraseIdx k).length = ps.length - 1 := List.length_eraseIdx_of_lt hkl
                have HEL := Lib.hid hel
                have hss : (strOfNums p.xs).size ≤ 140737488351232 := by omega
                clear hN6 hP6 hc6 hJ6 his hJ7 h1 hpv hsz hel
                generalize hcc : cntP ps (strOfNums p.xs) = cc at *
                generalize hSS : strOfNums p.xs = S at *
                clear hcc hSS
                go_wp2_with (at_mapUpdate; refine wpList_store_map _ rfl _ _ _ 55 rfl 9 3 Try.keyS Try.underlying55 _ (Try.zeroI _) mb N m rfl HJ7.out.map (by unfold maxLen; omega) _ _ (.string S.data.toList) rfl rfl (key_str S (by omega)) ?_; intro w8 hm8 hg8 hs8; have HJ8 := Lib.hid (HJ7.out.mapped hm8 hg8 HC5.out); clear hm8 hg8 hs8)
                go_roundw
                case rel => exact ⟨j + 1, by go_num, _, _, _, _, HJ8.out, by rw [HEL.out]; omega, by split <;> omega⟩
                case measure => simp [intOf]; omega
        · have hd0 : decide (0 < (ps.length : Int)) = false := by rw [decide_eq_false_iff_not]; omega
          have hd1 : decide (0 < ps.length) = false := by rw [decide_eq_false_iff_not]; omega
          obtain ⟨D, hD, _, hDv⟩ := HJ.out.map
          have hz : ∀ (S : ByteArray) (v : Value), D.atKey (.string S.data.toList) .nil = .held v → v = .int .i64 0 := fun S v h => by
            have h1 := HJ.out.cnt S
            rw [← hDv, show ps = [] from List.eq_nil_of_length_eq_zero (by omega)] at h1
            unfold mview at h1
            rw [h] at h1
            exact h1
          have HZ := Lib.hid hz
          have HLN2 := Lib.hid HLN.out
          have HPE := Lib.hid (show (0 : Int) < 0 ∨ (ps.length : Int) ≤ 0 by omega)
          have HMB := Lib.hid HJ.out.map.lt
          clear hz hDv hpos HLN
          go_wp2_with (first
            | (go_at_call 18; refine HLN2.out.mono ?_; rintro e w3 ⟨rfl, hq⟩; obtain rfl : wr = w3 := hq.symm)
            | (at_range; refine wpList_range_own _ rfl (.tmp 122) 55 rfl 9 3 Try.keyS Try.underlying55 heldR mb _ D rfl hD ?_; intro w4 hrg0 hg0 hs0))
          go_frame
          obtain ⟨wa, rfl⟩ : ∃ wa, wa = wr := ⟨wr, rfl⟩
          have HB4 := Lib.hid (show Below wa.heap.size wa w4 from (Below.refl _ _).grown hg0 (Nat.le_refl _) (by rintro q ⟨⟩))
          clear hg0 hs0 hD
          go_loopw [17] (fun _ wq => ∃ left cnt, wq.ranges Try.prog 9 heldR mb wa.heap.size N D left cnt ∧ Below wa.heap.size wa wq) (fun _ wq => wq.rangeLeft mb wa.heap.size)
          case atStart => exact ⟨_, _, hrg0, HB4.out⟩
          case round =>
            clear hrg0 HB4
            obtain ⟨left, cnt, hrg, hbq⟩ := hrel
            have HBQ := Lib.hid hbq
            clear hbq
            go_wp2_with (at_next; refine wpList_next_ranges (α := ByteArray) (β := Value) _ rfl (.tmp 123) rfl 9 Try.keyS heldR Value.string id (fun key kl h => by obtain ⟨s, hs, _⟩ := Go.WideMaps.string_of_keyOf Try.underlying9 h; exact ⟨s, hs⟩) (fun v y _ => ⟨v, rfl⟩) mb _ N D left cnt rfl hrg ?_ ?_)
            · intro _ _
              have HDN := Lib.hid (deliver_none 0 wr (HJ.out.net.below HBQ.out) HPE.out)
              go_wp2_with fail
              refine HDN.out.mono ?_
              rintro e w5 ⟨rfl, hb5⟩
              have HB5 := Lib.hid (HJ.out.up.trans ((HBQ.out.trans (hb5.mono HBQ.out.size)).mono HJ.out.up.size))
              clear hb5 HDN
              go_wp2
              go_ret
              refine ⟨rfl, ?_⟩
              exact HB5.out.trans ((below_alloc _ _).mono HB5.out.size)
            · intro x cv kl y1 y2 w5 cnt1 hkx hlx hv hat hrg1 hlt hg1 hs1 hen
              obtain ⟨s', hs', hkl, _⟩ := Go.WideMaps.string_of_keyOf Try.underlying9 hkx
              injection hs' with hs'
              subst hs' hkl
              unfold heldR at hv
              injection hv with hv
              injection hv with hv _
              have hcv := HZ.out x cv (by rw [hat .nil, ← hv])
              subst hcv
              have HB5 := Lib.hid (HBQ.out.grown hg1 HBQ.out.size (by rintro q ⟨⟩; exact Nat.le_refl _))
              have HR1 := Lib.hid hrg1
              have HLT := Lib.hid hlt
              have HR0 := Lib.hid hrg
              clear hkx hlx hat hrg1 hg1 hs1 hrg hlt hv
              go_wp2
              go_roundw
              case rel => exact ⟨_, _, HR1.out, HB5.out⟩
              case measure => rw [HR1.out.left_eq, HR0.out.left_eq]; exact HLT.out
end Go.Proofs.Ytmmjgpdclodlfaa
