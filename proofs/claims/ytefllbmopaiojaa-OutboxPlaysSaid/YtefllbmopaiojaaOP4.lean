/- OutboxPlays: the walk. -/
import Derived.Test.YtefllbmopaiojaaOP3
import Derived.Deep.DeepCutAuto
import Derived.Deep.CutBlock
import Derived.BigQuiet
import Derived.Deep.QuietTactic
namespace Go.Proofs.Ytefllbmopaiojaa
open Go.RowKit

set_option maxRecDepth 100000 in
set_option maxHeartbeats 4000000 in
theorem oplays_bad (p s : Int) (a : Option Addr) (n k : Nat) (w : World) (h : p < 1 ∨ 1000 < p ∨ s < 1 ∨ 4096 < s) :
    Calls Try.prog 3 #[.int .i64 p, .int .i64 s, .slice a n k] w fun e w' => e = .returned (.bool true) ∧ Below w.heap.size w w' := by
  have H := Lib.hid (fun w => OI.new_bad p s w h)
  have HR := Lib.hid (fun w => rwrong_any p s w)
  simp only [if_pos h] at HR
  clear h
  go_enter Try.func3, Try.ntmps3
  go_wp2_with fail
  refine (awake_any _).mono ?_
  rintro e w1 ⟨rfl, hb⟩
  have HB := Lib.hid hb
  clear hb
  go_wp2_with fail
  refine (H.out w1).mono ?_
  rintro e w2 ⟨rfl, rfl⟩
  go_wp2_with fail
  refine (HR.out _).mono ?_
  rintro e w2 ⟨rfl, rfl⟩
  go_wp2
  go_ret
  exact ⟨rfl, HB.out⟩
theorem op_of {w : World} {g : Nat} {t : TypeId} {x y z : Value} (h : Whole w g t #[x, y, z]) : w.cell? ⟨g, 0, none⟩ = some x ∧ w.cell? ⟨g, 1, none⟩ = some y ∧ w.cell? ⟨g, 2, none⟩ = some z := by
  refine ⟨?_, ?_, ?_⟩ <;> rw [h.cell] <;> rfl
set_option maxRecDepth 100000 in
set_option maxHeartbeats 16000000 in
theorem oplays_good (p s : Nat) (a : Option Addr) (n c : Nat) (w : World) (h1 : 1 ≤ p) (h2 : p ≤ 1000) (h3 : 1 ≤ s) (h4 : s ≤ 4096) (ho : OpsIn w a n) (hn : n ≤ 140737488355328) :
    Calls Try.prog 3 #[.int .i64 (p : Int), .int .i64 (s : Int), .slice a n c] w fun e w' => e = .returned (.bool true) ∧ Below w.heap.size w w' := by
  have H := Lib.hid (fun W hW => OI.new_good w.heap.size p s W h1 h2 h3 h4 hW)
  have HR := Lib.hid (fun w => rwrong_any (p : Int) (s : Int) w)
  simp only [if_neg (show ¬ ((p : Int) < 1 ∨ 1000 < (p : Int) ∨ (s : Int) < 1 ∨ 4096 < (s : Int)) by omega)] at HR
  have HO := Lib.hid ho
  clear ho
  go_enter Try.func3, Try.ntmps3
  go_wp2_with fail
  refine (awake_any _).mono ?_
  rintro e w1 ⟨rfl, hb⟩
  have HB := Lib.hid hb
  have HN := Lib.hid (H.out w1 hb.size)
  clear hb
  go_wp2_with fail
  refine HN.out.mono ?_
  rintro e w2 ⟨rfl, hO, hb⟩
  have hbw := bell_up HB.out hb
  have HO2 := Lib.hid hO
  have HB2 := Lib.hid hbw
  clear hO hb hbw HN HB H
  generalize w1.heap.size + 1 = g at *
  generalize w1.heap.size = b at *
  go_wp2_with fail
  refine (HR.out _).mono ?_
  rintro e w3 ⟨rfl, rfl⟩
  have HJ0 := Lib.hid (show OJ w (w2.alloc (.cells #[.slice none 0 0, .int .i64 0, .int .i64 (p : Int), .int .i64 (s : Int)] 31)) g b w2.heap.size p s (.slice none 0 0) [] none 0 [] 0 from
    ⟨HO2.out.below (below_alloc _ _), Is.none _ _, heap_alloc_new _ _, trivial, HB2.out.size, bell_up HB2.out (below_alloc _ _)⟩)
  go_wp2_with fail
  generalize w2.heap.size = x at *
  go_loopw [56] (fun t56 wr => ∃ (i : Nat) (row : Value) (es : List OI.En) (a' : Option Addr) (c' : Nat) (l : List It) (now : Nat), i ≤ n ∧ now ≤ i ∧ t56 = .int .i64 i ∧ OJ w wr g b x p s row es a' c' l now) (fun t56 _ => n - (intOf t56).toNat)
  case atStart => exact ⟨0, _, _, _, _, _, 0, by omega, by omega, rfl, HJ0.out⟩
  case round =>
    clear HJ0 HO2 HB2
    obtain ⟨i, row, es, a', c', l, now, hi, hnow, rfl, hJ⟩ := hrel
    by_cases hin : i < n
    · obtain ⟨b0, off, rfl, hbl, hop⟩ := HO.out.resolve_left (by omega)
      obtain ⟨K, V, S, c0, c1, c2, hS⟩ := hop i hin
      have d0 := (hJ.up.cell (p := ⟨b0, off + i * 3, none⟩) hbl).trans c0
      have d1 := (hJ.up.cell (p := ⟨b0, off + i * 3 + 1, none⟩) hbl).trans c1
      have d2 := (hJ.up.cell (p := ⟨b0, off + i * 3 + 2, none⟩) hbl).trans c2
      obtain ⟨w4, hw4⟩ : ∃ w4, w4 = wr.alloc (.cells #[.int .i64 K, .int .i64 V, .string S] 33) := ⟨_, rfl⟩
      have hb4 : Below wr.heap.size wr w4 := by rw [hw4]; exact below_alloc _ _
      have hx4 : Whole w4 wr.heap.size 33 #[.int .i64 K, .int .i64 V, .string S] := by rw [hw4]; exact heap_alloc_new _ _
      have HJ4 := Lib.hid (hJ.below hb4)
      have HX4 := Lib.hid hx4
      clear hop c0 c1 c2 hJ hb4 hx4
      go_upto_block 2 with fail
      rw [← hw4]
      clear hw4 d0 d1 d2
      generalize wr.heap.size = q at *
      obtain ⟨d0, d1, d2⟩ := op_of HX4.out
      go_cut [] (fun wx => ∃ (row : Value) (es : List OI.En) (a' : Option Addr) (c' : Nat) (l : List It) (now : Nat), now ≤ i + 1 ∧ OJ w wx g b x p s row es a' c' l now)
      case first J KK hJR hMK =>
        have HJ0 := Lib.hid (show ∃ (row : Value) (es : List OI.En) (a' : Option Addr) (c' : Nat) (l : List It) (now : Nat), now ≤ i + 1 ∧ OJ w w4 g b x p s row es a' c' l now from ⟨_, _, _, _, _, _, by omega, HJ4.out⟩)
        by_cases hK0 : K = 0
        · subst hK0
          have hql := HX4.out.lt
          have hxl := HJ4.out.own.lt
          have hqx : q ≠ x := whole_ne HX4.out HJ4.out.own (by decide)
          obtain ⟨x0, x1, x2, x3, f0, f1, f2, f3⟩ := four_of HJ4.out.own
          have hll : l.length ≤ 4096 := by have := HJ4.out.mt.len; have := HJ4.out.box.len; omega
          have HP := Lib.hid (rput_any S V (now : Int) (p : Int) s w4 HJ4.out.doc hll HJ4.out.up.size)
          go_wp2_with fail
          refine HP.out.mono ?_
          rintro e w5 ⟨a5, c5, l5, code5, rfl, hI5, hb5, hput⟩
          have hx5 := HX4.out.kept (hb5.block _ HX4.out.lt)
          have ho5 := HJ4.out.own.kept (hb5.block _ HJ4.out.own.lt)
          have hbx := HJ4.out.box.below hb5
          have hxl5 := ho5.lt
          have hql5 := hx5.lt
          obtain ⟨ws, hws⟩ : ∃ ws, ws = ((((w5.setCell ⟨x, 0, none⟩ (.slice a5 l5.length c5)).setCell ⟨x, 1, none⟩ (.int .i64 (now : Int))).setCell ⟨x, 2, none⟩ (.int .i64 (p : Int))).setCell ⟨x, 3, none⟩ (.int .i64 (s : Int))) := ⟨_, rfl⟩
          obtain ⟨w6, hw6⟩ : ∃ w6, w6 = ws.alloc (.cells #[.slice a5 l5.length c5, .int .i64 (now : Int), .int .i64 (p : Int), .int .i64 (s : Int)] 31) := ⟨_, rfl⟩
          have hba : Below ws.heap.size ws w6 := by rw [hw6]; exact below_alloc _ _
          have hos : Whole ws x 31 #[.slice a5 l5.length c5, .int .i64 (now : Int), .int .i64 (p : Int), .int .i64 (s : Int)] := by rw [hws]; exact ho5.store4 _ _ _ _
          have hxs : Whole ws q 33 #[.int .i64 0, .int .i64 V, .string S] := by
            rw [hws]
            exact hx5.kept ((((Below.heap_setCell _ ⟨x, 3, none⟩ _ q hqx).trans (Below.heap_setCell _ ⟨x, 2, none⟩ _ q hqx)).trans (Below.heap_setCell _ ⟨x, 1, none⟩ _ q hqx)).trans (Below.heap_setCell _ ⟨x, 0, none⟩ _ q hqx))
          have HBX6 := Lib.hid (show OI.OAt w6 w.heap.size g b p s row es from OI.OAt.below (by rw [hws]; exact hbx.set4 ho5 _ _ _ _) hba)
          have HI6 := Lib.hid (show Is w6 w.heap.size a5 c5 l5 from Is.below (by rw [hws]; exact hI5.set4 ho5 _ _ _ _) hba)
          have HO6 := Lib.hid (hos.kept (hba.block _ hos.lt))
          have HX6 := Lib.hid (hxs.kept (hba.block _ hxs.lt))
          have hus : Below w.heap.size w ws := by rw [hws]; exact below_set4 (bell_up HJ4.out.up hb5) HJ4.out.gex _ _ _ _
          have HU6 := Lib.hid (bell_up hus hba)
          rw [hws] at hw6
          clear hws hba hos hxs hus
          clear x0 x1 x2 x3 f0 f1 f2 f3 d0 d1 d2
          obtain ⟨x0, x1, x2, x3, f0, f1, f2, f3⟩ := four_of ho5
          obtain ⟨d0, d1, d2⟩ := op_of hx5
          have hxn : x ≠ w5.heap.size := by omega
          have hqn : q ≠ w5.heap.size := by omega
          have HPUT := Lib.hid hput
          have HOP := Lib.hid (OI.put_any S V w6 HBX6.out hS HU6.out.size)
          clear hx5 ho5 hbx hI5 hb5 hput HP
          go_wp2_with fail
          rw [← hw6]
          clear hw6
          refine HOP.out.mono ?_
          rintro e w7 ⟨code, row7, es7, rfl, hO7, hp7, hc7⟩
          obtain ⟨hcode, hmt⟩ := put_match HJ4.out.mt HJ4.out.box.keys hp7 HPUT.out
          subst hcode
          have HN := Lib.hid (show OJ w w7 g b x p s row7 es7 a5 c5 l5 now from ⟨hO7, doc_far HBX6.out HI6.out hc7, whole_far HBX6.out HO6.out hc7, hmt, HJ4.out.gex, OI.up HBX6.out HU6.out hc7⟩)
          clear hO7 hp7 hc7 hmt x0 x1 x2 x3 f0 f1 f2 f3 d0 d1 d2
          go_wp2_with fail
          go_meet
          exact ⟨_, _, _, _, _, _, by omega, HN.out⟩
        · by_cases hK1 : K = 1
          · subst hK1
            have hql := HX4.out.lt
            have hxl := HJ4.out.own.lt
            have hqx : q ≠ x := whole_ne HX4.out HJ4.out.own (by decide)
            obtain ⟨x0, x1, x2, x3, f0, f1, f2, f3⟩ := four_of HJ4.out.own
            have hll : l.length ≤ 4096 := by have := HJ4.out.mt.len; have := HJ4.out.box.len; omega
            have HP := Lib.hid (rack_any S (now : Int) (p : Int) (s : Int) w4 HJ4.out.doc hll)
            go_wp2_with fail
            refine HP.out.mono ?_
            rintro e w5 ⟨a5, c5, rfl, hI5, hb5⟩
            obtain ⟨l5, hl5⟩ : ∃ l5, l5 = keepK S l := ⟨_, rfl⟩
            rw [← hl5] at hI5 ⊢
            have HL5 := Lib.hid hl5
            have hI5 := hI5.mono (show w.heap.size ≤ w4.heap.size from HJ4.out.up.size)
            obtain ⟨wasB, hwas⟩ : ∃ wasB, wasB = decide (l5.length < l.length) := ⟨_, rfl⟩
            rw [← hwas]
            have HWAS := Lib.hid hwas
            clear hl5 hwas
            have hx5 := HX4.out.kept (hb5.block _ HX4.out.lt)
            have ho5 := HJ4.out.own.kept (hb5.block _ HJ4.out.own.lt)
            have hbx := HJ4.out.box.below hb5
            have hxl5 := ho5.lt
            have hql5 := hx5.lt
            obtain ⟨ws, hws⟩ : ∃ ws, ws = ((((w5.setCell ⟨x, 0, none⟩ (.slice a5 l5.length c5)).setCell ⟨x, 1, none⟩ (.int .i64 (now : Int))).setCell ⟨x, 2, none⟩ (.int .i64 (p : Int))).setCell ⟨x, 3, none⟩ (.int .i64 (s : Int))) := ⟨_, rfl⟩
            obtain ⟨w6, hw6⟩ : ∃ w6, w6 = ws.alloc (.cells #[.slice a5 l5.length c5, .int .i64 (now : Int), .int .i64 (p : Int), .int .i64 (s : Int)] 31) := ⟨_, rfl⟩
            have hba : Below ws.heap.size ws w6 := by rw [hw6]; exact below_alloc _ _
            have hos : Whole ws x 31 #[.slice a5 l5.length c5, .int .i64 (now : Int), .int .i64 (p : Int), .int .i64 (s : Int)] := by rw [hws]; exact ho5.store4 _ _ _ _
            have hxs : Whole ws q 33 #[.int .i64 1, .int .i64 V, .string S] := by
              rw [hws]
              exact hx5.kept ((((Below.heap_setCell _ ⟨x, 3, none⟩ _ q hqx).trans (Below.heap_setCell _ ⟨x, 2, none⟩ _ q hqx)).trans (Below.heap_setCell _ ⟨x, 1, none⟩ _ q hqx)).trans (Below.heap_setCell _ ⟨x, 0, none⟩ _ q hqx))
            have HBX6 := Lib.hid (show OI.OAt w6 w.heap.size g b p s row es from OI.OAt.below (by rw [hws]; exact hbx.set4 ho5 _ _ _ _) hba)
            have HI6 := Lib.hid (show Is w6 w.heap.size a5 c5 l5 from Is.below (by rw [hws]; exact hI5.set4 ho5 _ _ _ _) hba)
            have HO6 := Lib.hid (hos.kept (hba.block _ hos.lt))
            have HX6 := Lib.hid (hxs.kept (hba.block _ hxs.lt))
            have hus : Below w.heap.size w ws := by rw [hws]; exact below_set4 (bell_up HJ4.out.up hb5) HJ4.out.gex _ _ _ _
            have HU6 := Lib.hid (bell_up hus hba)
            rw [hws] at hw6
            clear hws hba hos hxs hus
            clear x0 x1 x2 x3 f0 f1 f2 f3 d0 d1 d2
            obtain ⟨x0, x1, x2, x3, f0, f1, f2, f3⟩ := four_of ho5
            obtain ⟨d0, d1, d2⟩ := op_of hx5
            have hxn : x ≠ w5.heap.size := by omega
            have hqn : q ≠ w5.heap.size := by omega
            have HOP := Lib.hid (OI.ack_any S w6 HBX6.out hS)
            clear hx5 ho5 hbx hI5 hb5 HP
            go_wp2_with fail
            rw [← hw6]
            clear hw6
            refine HOP.out.mono ?_
            rintro e w7 ⟨rfl, row7, hO7, hc7⟩
            have hmatch := ack_match HJ4.out.mt S
            rw [hmatch, ← HL5.out, ← HWAS.out]
            have HN := Lib.hid (show OJ w w7 g b x p s row7 _ a5 c5 l5 now from ⟨hO7, doc_far HBX6.out HI6.out hc7, whole_far HBX6.out HO6.out hc7, by rw [HL5.out]; exact HJ4.out.mt.filter S, HJ4.out.gex, OI.up HBX6.out HU6.out hc7⟩)
            clear hO7 hc7 hmatch x0 x1 x2 x3 f0 f1 f2 f3 d0 d1 d2
            cases wasB
            all_goals
              go_wp2_with fail
              go_meet
              exact ⟨_, _, _, _, _, _, by omega, HN.out⟩
          · by_cases hK2 : K = 2
            · subst hK2
              have hql := HX4.out.lt
              have hxl := HJ4.out.own.lt
              have hqx : q ≠ x := whole_ne HX4.out HJ4.out.own (by decide)
              obtain ⟨x0, x1, x2, x3, f0, f1, f2, f3⟩ := four_of HJ4.out.own
              have hll : l.length ≤ 4096 := by have := HJ4.out.mt.len; have := HJ4.out.box.len; omega
              have HP := Lib.hid (rtick_any (s : Int) w4 HJ4.out.doc hll h1 h2 (by omega) HJ4.out.mt.since)
              have HDUE := Lib.hid (HJ4.out.mt.due HJ4.out.box.tr)
              have HDL := Lib.hid (show (dueR (now : Int) (p : Int) l).length ≤ 4096 from Nat.le_trans (dueR_len _ _ _) hll)
              go_wp2_with fail
              refine HP.out.mono ?_
              rintro e w5 ⟨wv, rfl, hwv, hb5⟩
              obtain ⟨wa, wc0, rfl, _, _⟩ := owned_any hwv
              have hx5 := HX4.out.kept (hb5.block _ HX4.out.lt)
              have ho5 := HJ4.out.own.kept (hb5.block _ HJ4.out.own.lt)
              have hbx := HJ4.out.box.below hb5
              have hI5 := HJ4.out.doc.below hb5
              have hxl5 := ho5.lt
              obtain ⟨ws, hws⟩ : ∃ ws, ws = ((((w5.setCell ⟨x, 0, none⟩ (.slice a' l.length c')).setCell ⟨x, 1, none⟩ (.int .i64 ((now : Int) + 1))).setCell ⟨x, 2, none⟩ (.int .i64 (p : Int))).setCell ⟨x, 3, none⟩ (.int .i64 (s : Int))) := ⟨_, rfl⟩
              obtain ⟨w6, hw6⟩ : ∃ w6, w6 = ws.alloc (.cells #[.slice a' l.length c', .int .i64 ((now : Int) + 1), .int .i64 (p : Int), .int .i64 (s : Int)] 31) := ⟨_, rfl⟩
              have hba : Below ws.heap.size ws w6 := by rw [hw6]; exact below_alloc _ _
              have hos : Whole ws x 31 #[.slice a' l.length c', .int .i64 ((now : Int) + 1), .int .i64 (p : Int), .int .i64 (s : Int)] := by rw [hws]; exact ho5.store4 _ _ _ _
              have hwx : (Value.slice wa (dueR (now : Int) (p : Int) l).length wc0).ownBlock ≠ some x := whole_apart ho5 (by decide) hwv
              have HWV6 := Lib.hid (show w6.ownsRow w4.heap.size 3 1 (.slice wa (dueR (now : Int) (p : Int) l).length wc0) (dueR (now : Int) (p : Int) l).length ((dueR (now : Int) (p : Int) l).map fun x => .int .i64 x) by
                have h5 := owns_far (owns_far (owns_far (owns_far hwv x 0 hwx (.slice a' l.length c')) x 1 hwx (.int .i64 ((now : Int) + 1))) x 2 hwx (.int .i64 (p : Int))) x 3 hwx (.int .i64 (s : Int))
                rw [← hws] at h5
                exact owns_kept h5 (fun k hk => hba.block k (h5.lt k hk).2))
              have HBX6 := Lib.hid (show OI.OAt w6 w.heap.size g b p s row es from OI.OAt.below (by rw [hws]; exact hbx.set4 ho5 _ _ _ _) hba)
              have HI6 := Lib.hid (show Is w6 w.heap.size a' c' l from Is.below (by rw [hws]; exact hI5.set4 ho5 _ _ _ _) hba)
              have HO6 := Lib.hid (hos.kept (hba.block _ hos.lt))
              have hus : Below w.heap.size w ws := by rw [hws]; exact below_set4 (bell_up HJ4.out.up hb5) HJ4.out.gex _ _ _ _
              have HU6 := Lib.hid (bell_up hus hba)
              rw [hws] at hw6
              clear hws hba hos hus x0 x1 x2 x3 f0 f1 f2 f3 d0 d1 d2
              obtain ⟨x0, x1, x2, x3, f0, f1, f2, f3⟩ := four_of ho5
              have hxn : x ≠ w5.heap.size := by omega
              have HOP := Lib.hid (OI.tick_any w6 HBX6.out)
              clear hx5 ho5 hbx hI5 hb5 hwv HP
              go_wp2_with fail
              rw [← hw6]
              clear hw6
              refine HOP.out.mono ?_
              rintro e w7 ⟨gv, rfl, hgv, hO7, hc7⟩
              rw [HDUE.out] at hgv
              obtain ⟨ga, gc, rfl, _, _⟩ := owned_any hgv
              have HN := Lib.hid (show OJ w w7 g b x p s row (es.map (OI.tk p)) a' c' l (now + 1) from ⟨hO7, doc_far HBX6.out HI6.out hc7, whole_far HBX6.out HO6.out hc7, HJ4.out.mt.tick h1, HJ4.out.gex, OI.up HBX6.out HU6.out hc7⟩)
              have HWV7 := Lib.hid (ints_stay HBX6.out HWV6.out hc7)
              have HGV7 := Lib.hid (show w7.ownsRow w6.heap.size 3 1 (.slice ga (dueR (now : Int) (p : Int) l).length gc) (dueR (now : Int) (p : Int) l).length ((dueR (now : Int) (p : Int) l).map fun x => .int .i64 x) from hgv)
              clear hgv hO7 hc7 x0 x1 x2 x3 f0 f1 f2 f3 HWV6 hwx
              generalize dueR (now : Int) (p : Int) l = ds at *
              have hdl := HDL.out
              go_wp2_with fail
              go_loopw [115] (fun t115 wr => ∃ j : Nat, j ≤ ds.length ∧ t115 = .int .i64 j ∧ Below w7.heap.size w7 wr) (fun t115 _ => ds.length - (intOf t115).toNat)
              case atStart => exact ⟨0, by omega, rfl, Below.refl _ _⟩
              case round =>
                obtain ⟨j, hj, rfl, hbr⟩ := hrel
                by_cases hjl : j < ds.length
                · obtain ⟨y, hy⟩ : ∃ y, ds[j]? = some y := ⟨_, List.getElem?_eq_getElem hjl⟩
                  obtain ⟨bw, rfl, hbwl, _, cw⟩ := owned_at (i := j) (u := .int .i64 y) HWV7.out (by simp [hy])
                  obtain ⟨bg, rfl, hbgl, _, cg⟩ := owned_at (i := j) (u := .int .i64 y) HGV7.out (by simp [hy])
                  have ew := (hbr.cell (p := ⟨bw, j, none⟩) hbwl).trans cw
                  have eg := (hbr.cell (p := ⟨bg, j, none⟩) hbgl).trans cg
                  have HBR := Lib.hid (fun nq => hbr.trans ((below_drewN wr nq).mono hbr.size))
                  clear hy cw cg hbr
                  go_wp2_with fail
                  go_quiet (fail)
                  go_wp2_with fail
                  go_roundw
                  case rel => exact ⟨j + 1, by omega, by go_num, HBR.out _⟩
                  case measure => simp [intOf]; omega
                · obtain rfl : j = ds.length := by omega
                  have HN2 := Lib.hid (HN.out.below hbr)
                  clear hbr
                  go_wp2_with fail
                  go_meet
                  exact ⟨_, _, _, _, _, _, by omega, HN2.out⟩
            · clear d1 d2
              go_wp2_with fail
              go_meet
              exact HJ0.out
      case rest =>
        clear HJ4 HX4 d0 d1 d2
        obtain ⟨row, es, a', c', l, now, hnow2, hJ⟩ := hcut
        have hlen := hJ.mt.len
        have hkeys := hJ.mt.keys
        have hll : l.length ≤ 4096 := by have := hJ.box.len; omega
        have HKY := Lib.hid (OI.keys_any wc hJ.box)
        have HJ5 := Lib.hid hJ
        have HLEN := Lib.hid hlen
        have HKEYS := Lib.hid hkeys
        clear hJ hlen hkeys
        go_wp2_with fail
        refine HKY.out.mono ?_
        rintro e w6 ⟨kv, rfl, hkv, hb6⟩
        have HJ6 := Lib.hid (HJ5.out.below hb6)
        rw [HLEN.out] at hkv
        obtain ⟨ka, kc, rfl, _, _⟩ := owned_any hkv
        have HKV := Lib.hid (show w6.ownsRow wc.heap.size 9 1 (.slice ka l.length kc) l.length (l.map fun y => Value.string y.1) by
          have e := congrArg (List.map Value.string) HKEYS.out
          rw [List.map_map, List.map_map] at e
          rw [show (l.map fun y => Value.string y.1) = es.map fun x => Value.string x.k from e.symm]
          exact hkv)
        have HLN := Lib.hid (show ∀ nq, Calls Try.prog 17 #[.pointer (some ⟨g, 0, none⟩)] (w6.drewN nq) (fun e w' => e = Ending.returned (.int .i64 (l.length : Int)) ∧ w' = w6.drewN nq) from fun nq => (OI.len_any (w6.drewN nq) (HJ6.out.box.below (below_drewN w6 nq))).mono fun e w' h => ⟨by rw [h.1, HLEN.out], h.2.symm⟩)
        obtain ⟨x0, _, _, _, _, _, _, _⟩ := four_of HJ6.out.own
        clear hkv hb6
        go_wp2_with fail
        go_quiet ((go_at_call 17; exact Calls.quiet_of_same (HLN.out _)))
        go_wp2_with fail
        clear x0
        go_loopw [146] (fun t146 wr => ∃ j : Nat, j ≤ l.length ∧ t146 = .int .i64 j ∧ Below w6.heap.size w6 wr) (fun t146 _ => l.length - (intOf t146).toNat)
        case atStart => exact ⟨0, by omega, rfl, below_drewN _ _⟩
        case round =>
          obtain ⟨j, hj, rfl, hbr⟩ := hrel
          by_cases hjl : j < l.length
          · obtain ⟨y, hy⟩ : ∃ y, l[j]? = some y := ⟨_, List.getElem?_eq_getElem hjl⟩
            obtain ⟨bk, rfl, hbkl, _, ck⟩ := owned_at (i := j) (u := .string y.1) HKV.out (by simp [hy])
            obtain ⟨bi, offi, rfl, hbil, ci, _, _⟩ := HJ6.out.doc.cells hy
            obtain ⟨x0, _, _, _, _, _, _, _⟩ := four_of HJ6.out.own
            have ek := (hbr.cell (p := ⟨bk, j, none⟩) hbkl).trans ck
            have ei := (hbr.cell (p := ⟨bi, offi + j * 3, none⟩) hbil).trans ci
            have ex := (hbr.cell (p := ⟨x, 0, none⟩) HJ6.out.own.lt).trans x0
            have heq : (y.1.toList == y.1.toList) = true := by simp
            have HBR := Lib.hid (fun nq => hbr.trans ((below_drewN wr nq).mono hbr.size))
            clear hy ck ci x0 hbr
            generalize y.1 = yk at *
            go_wp2_with fail
            go_quiet (fail)
            go_wp2_with fail
            go_roundw
            case rel => exact ⟨j + 1, by omega, by go_num, HBR.out _⟩
            case measure => simp [intOf]; omega
          · obtain rfl : j = l.length := by omega
            have HN2 := Lib.hid (HJ6.out.below hbr)
            clear hbr
            go_wp2_with fail
            go_roundw
            case rel => exact ⟨i + 1, _, _, _, _, _, now, by omega, hnow2, by go_num, HN2.out⟩
            case measure => simp [intOf]; omega
    · obtain rfl : i = n := by omega
      have HU := Lib.hid hJ.up
      clear hJ
      go_wp2
      go_ret
      exact ⟨rfl, HU.out⟩
end Go.Proofs.Ytefllbmopaiojaa
