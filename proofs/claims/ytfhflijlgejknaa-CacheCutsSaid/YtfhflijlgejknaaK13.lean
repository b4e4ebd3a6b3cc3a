/- CacheCuts: the law. -/
import Derived.Test.YtfhflijlgejknaaK12
import Derived.BigQuiet
namespace Go.Proofs.Ytfhflijlgejknaa
open Go.RowKit
open Go.Maps (Keyed)

/-- Numbers that came in. -/
def Ints (w : World) (a : Option Addr) (n : Nat) (l : List Int) : Prop :=
  l.length = n ∧ (n = 0 ∨ ∃ b off, a = some ⟨b, off, none⟩ ∧ b < w.heap.size ∧ ∀ i x, l[i]? = some x → w.cell? ⟨b, off + i, none⟩ = some (.int .i64 x)) ∧ ∀ x ∈ l, -9223372036854775808 ≤ x ∧ x ≤ 9223372036854775807
theorem cnt_one {es : List KI.En} {p : Nat} {k v : Int} (h : (es.map (·.2.1)).Nodup) (hm : (p, k, v) ∈ es) : cnt es k = 1 := by
  unfold cnt
  induction es with
  | nil => cases hm
  | cons t es ih =>
    rw [List.map_cons] at h
    have h1 := List.nodup_cons.1 h
    rw [List.countP_cons]
    rcases List.mem_cons.1 hm with rfl | hm'
    · have : List.countP (fun t : KI.En => decide (t.2.1 = k)) es = 0 := by
        rw [List.countP_eq_zero]
        intro t ht
        simp
        rintro rfl
        exact h1.1 (List.mem_map.2 ⟨t, ht, rfl⟩)
      simp [this]
    · rw [ih h1.2 hm', if_neg]
      simp
      rintro rfl
      exact h1.1 (List.mem_map.2 ⟨_, hm', rfl⟩)
theorem filter_lens {α : Type} (l : List α) (p : α → Bool) : (l.filter p).length + (l.filter (fun t => !p t)).length = l.length := by
  induction l with
  | nil => rfl
  | cons t l ih =>
    by_cases h : p t <;> simp [h] <;> omega

set_option maxRecDepth 100000 in
set_option maxHeartbeats 4000000 in
theorem cuts_bad (s : Int) (a : Option Addr) (n k : Nat) (cut : Int) (w : World) (h : s < 1 ∨ 4096 < s) :
    Calls Try.prog 5 #[.int .i64 s, .slice a n k, .int .i64 cut] w fun e w' => e = .returned (.bool true) ∧ Below w.heap.size w w' := by
  have H := Lib.hid h
  clear h
  go_enter Try.func5, Try.ntmps5
  go_wp2_with fail
  refine (awake_any _).mono ?_
  rintro e w1 ⟨rfl, hb⟩
  have HB := Lib.hid ((below_alloc _ _).trans (hb.mono (by simp)))
  have HN := Lib.hid (KI.new_bad s w1 H.out)
  clear hb
  go_wp2_with fail
  refine HN.out.mono ?_
  rintro e w2 ⟨rfl, rfl⟩
  go_wp2
  go_ret
  exact ⟨rfl, HB.out⟩
set_option maxRecDepth 100000 in
set_option maxHeartbeats 4000000 in
theorem cuts_out (s : Nat) (a : Option Addr) (n k : Nat) (cut : Int) (w : World) (h1 : 1 ≤ s) (h2 : s ≤ 4096) (h : cut < 1 ∨ 9 < cut) :
    Calls Try.prog 5 #[.int .i64 (s : Int), .slice a n k, .int .i64 cut] w fun e w' => e = .returned (.bool true) ∧ Below w.heap.size w w' := by
  go_enter Try.func5, Try.ntmps5
  go_wp2_with fail
  refine (awake_any _).mono ?_
  rintro e w1 ⟨rfl, hb⟩
  have c0 := (hb.cell (p := ⟨w.heap.size, 0, none⟩) (by simp)).trans (new_cell w #[.int .i64 cut] _ _ 0)
  have hlt := hb.size
  simp at c0 hlt
  have HB := Lib.hid ((below_alloc _ _).trans (hb.mono (by simp)))
  have HN := Lib.hid (KI.new_good w.heap.size s w1 h1 h2 (by omega))
  clear hb
  go_wp2_with fail
  refine HN.out.mono ?_
  rintro e w2 ⟨g, b, rfl, hcat, hg, hb', hb⟩
  have c1 := (hb.cell (p := ⟨w.heap.size, 0, none⟩) (by simp; omega)).trans c0
  have HB2 := Lib.hid (HB.out.trans (hb.mono (by omega)))
  clear hcat hb c0
  rcases h with h | h
  · go_wp2
    go_ret
    exact ⟨rfl, HB2.out⟩
  · have h' : ¬ cut < 1 := by omega
    go_wp2
    go_ret
    exact ⟨rfl, HB2.out⟩

set_option maxRecDepth 100000 in
set_option maxHeartbeats 8000000 in
theorem cuts_good (s : Nat) (a : Option Addr) (n k : Nat) (l : List Int) (cut : Int) (w : World) (h1 : 1 ≤ s) (h2 : s ≤ 4096) (hc1 : 1 ≤ cut) (hc2 : cut ≤ 9) (hl : Ints w a n l) (hn : n ≤ 9223372036854775806) :
    Calls Try.prog 5 #[.int .i64 (s : Int), .slice a n k, .int .i64 cut] w fun e w' => e = .returned (.bool true) ∧ Below w.heap.size w w' := by
  have hd1 : ¬ cut < 1 := by omega
  have hd2 : ¬ 9 < cut := by omega
  have HL := Lib.hid hl
  clear hl
  go_enter Try.func5, Try.ntmps5
  go_wp2_with fail
  refine (awake_any _).mono ?_
  rintro e w1 ⟨rfl, hb⟩
  have hbx : Whole (w.alloc (.cells #[.int .i64 cut] 3)) w.heap.size 3 #[.int .i64 cut] := heap_alloc_new _ _
  have hbx1 := hbx.kept (hb.block w.heap.size (by simp))
  have hlt := hb.size
  simp at hlt
  have HB := Lib.hid ((below_alloc _ _).trans (hb.mono (by simp)))
  have HN := Lib.hid (KI.new_good (w.heap.size + 1) s w1 h1 h2 (by omega))
  clear hb hbx
  go_wp2_with fail
  refine HN.out.mono ?_
  rintro e w2 ⟨g, b, rfl, hcat, hg, hb', hb⟩
  have hbx2 := hbx1.kept (hb.block w.heap.size (by omega))
  have hlt2 := hb.size
  have c1 : w2.cell? ⟨w.heap.size, 0, none⟩ = some (.int .i64 cut) := by rw [hbx2.cell]; rfl
  have HB2 := Lib.hid (HB.out.trans (hb.mono (by omega)))
  have HBX := Lib.hid hbx2
  have HCAT := Lib.hid hcat
  clear hcat hb hbx1 hbx2
  go_wp2_with fail
  clear c1
  go_loopw [38] (fun iv wr => ∃ i : Nat, i ≤ n ∧ iv = .int .i64 i ∧ (∃ es, KI.CAt wr (w.heap.size + 1) g b s es 0 0) ∧ Below (w.heap.size + 1) w2 wr) (fun iv _ => n - (intOf iv).toNat)
  case atStart => exact ⟨0, by omega, rfl, ⟨_, HCAT.out⟩, Below.refl _ _⟩
  case round =>
    obtain ⟨i, hin, rfl, ⟨es, hcat⟩, hbe⟩ := hrel
    by_cases hil : i < n
    · obtain ⟨x, hx⟩ : ∃ x, l[i]? = some x := ⟨_, List.getElem?_eq_getElem (by rw [HL.out.1]; exact hil)⟩
      obtain ⟨hll, hrow, hrg⟩ := HL.out
      rcases hrow with h0 | ⟨ab, off, rfl, hab, hcell⟩
      · omega
      have c0 := (hbe.cell (p := ⟨ab, off + i, none⟩) (by show ab < _; omega)).trans ((HB2.out.cell (p := ⟨ab, off + i, none⟩) hab).trans (hcell i x hx))
      have HP := Lib.hid (KI.Put_any x x wr hcat (hrg x (List.mem_of_getElem? hx)) (by have := hbe.size; omega))
      have HE := Lib.hid hbe
      have HC := Lib.hid hcat
      clear hcat hbe hrg hcell
      go_wp2_with fail
      refine HP.out.mono ?_
      rintro e w3 ⟨rfl, es', hcat, _, hc⟩
      have HE3 := Lib.hid (HE.out.trans (hc.below (fun q hq => by
        rcases hq with h1 | h1 | h1
        · rw [h1]; exact HC.out.geg
        · rw [h1]; exact HC.out.geb
        · exact HC.out.gep q h1) (by have := HE.out.size; omega)))
      have HC3 := Lib.hid hcat
      clear hcat hc
      go_wp2
      go_roundw
      case rel => exact ⟨i + 1, by omega, by go_num, ⟨_, HC3.out⟩, HE3.out⟩
      case measure => simp [intOf]; omega
    · have HK := Lib.hid (KI.Keys_any wr hcat)
      have HBW := Lib.hid (HB2.out.trans (hbe.mono (Nat.le_succ _)))
      have HBX3 := Lib.hid (HBX.out.kept (hbe.block w.heap.size (by omega)))
      have HCAT3 := Lib.hid hcat
      have HOLD := Lib.hid hcat.old
      have hlt3 : w.heap.size < wr.heap.size := by have := hbe.size; omega
      have hmk := @run_makeMap Try.prog
      have hesl : es.length ≤ 4096 := Nat.le_trans hcat.len h2
      clear hcat hbe HCAT HB2 HBX HB
      go_wp2_with fail
      refine HK.out.mono ?_
      rintro e w4 ⟨was, rfl, hown, hb⟩
      obtain ⟨wa, wc, rfl, _, _⟩ := owned_any hown
      have HCAT4 := Lib.hid (HCAT3.out.below hb)
      have HBX4 := Lib.hid (HBX3.out.kept (hb.block w.heap.size hlt3))
      have HBW4 := Lib.hid (HBW.out.trans (hb.mono (by omega)))
      have HOWN := Lib.hid hown
      have hlt4 := hb.size
      clear hown hb HBW HBX3
      go_wp2_with fail
      have hb5 : Below w4.heap.size w4 ((w4.alloc (.map #[] 0)).alloc (.cells #[.map (some w4.heap.size)] 58)) := (below_alloc w4 _).trans ((below_alloc _ _).mono (by simp))
      have hz5 : ((w4.alloc (.map #[] 0)).alloc (.cells #[.map (some w4.heap.size)] 58)).heap.size = w4.heap.size + 2 := by simp
      have hm5 : MapAt ((w4.alloc (.map #[] 0)).alloc (.cells #[.map (some w4.heap.size)] 58)) Try.prog 3 w4.heap.size (fun _ => none) 0 := (MapAt.made w4 Try.prog 3).below (below_alloc _ _)
      have hx5 : Whole ((w4.alloc (.map #[] 0)).alloc (.cells #[.map (some w4.heap.size)] 58)) (w4.heap.size + 1) 58 #[.map (some w4.heap.size)] := by
        have h := heap_alloc_new (w4.alloc (.map #[] 0)) (.cells #[.map (some w4.heap.size)] 58)
        rw [show (w4.alloc (.map #[] 0)).heap.size = w4.heap.size + 1 by simp] at h
        exact h
      generalize (w4.alloc (.map #[] 0)).alloc (.cells #[.map (some w4.heap.size)] 58) = w5 at *
      have HCAT5 := Lib.hid (HCAT4.out.below hb5)
      have HBX5 := HBX4.out.kept (hb5.block w.heap.size (by omega))
      have HA5 := Lib.hid (show Asked w5 w4.heap.size (w4.heap.size + 1) w.heap.size cut [] ∧ ([] : List KI.En) <+: es from ⟨⟨⟨_, 0, hm5, Nat.zero_le _, fun k _ => rfl⟩, hx5, HBX5⟩, List.nil_prefix⟩)
      have HQ := Lib.hid (question_of HCAT5.out (bm := w4.heap.size) (ba := w4.heap.size + 1) (bc := w.heap.size) (by omega) (by omega) (by omega) (fun h => by have := HOLD.out _ h; omega) (fun h => by have := HOLD.out _ h; omega) (by
        rintro (h1 | h1 | h1)
        · have := HCAT5.out.geg; omega
        · have := HCAT5.out.geb; omega
        · have := HCAT5.out.gep _ h1; omega) hc1 hc2)
      have HCUT := Lib.hid (KI.Cut_any w5 HCAT5.out HQ.out HA5.out)
      have HBW5 := Lib.hid (HBW4.out.trans (hb5.mono (by omega)))
      have HWA := Lib.hid HOWN.out.lt
      have HOWN5 := Lib.hid (owns_kept HOWN.out (fun q hq => hb5.block q (HWA.out q hq).2))
      clear hb5 hm5 hx5 HBX5 HBX4 HBW4 HOWN HQ HA5 hmk
      refine HCUT.out.mono ?_
      rintro x w6 ⟨rfl, hcat, hI, hc⟩
      have HBW6 := Lib.hid (HBW5.out.trans (hc.below (B := w.heap.size) (by
        rintro q (h1 | h1 | h1 | h1)
        · omega
        · rw [h1]; have := HCAT5.out.geg; omega
        · rw [h1]; have := HCAT5.out.geb; omega
        · have := HCAT5.out.gep _ h1; omega) (by omega)))
      have HOWN6 := Lib.hid (owns_kept HOWN5.out (fun q hq => hc.block q (HOWN5.out.lt q hq).2 (by
        rintro (h1 | h1)
        · have := (HWA.out q hq).2; omega
        · have := HOLD.out q h1; have := (HOWN5.out.lt q hq).1; omega)))
      have HA6 := Lib.hid hI.1
      have HCAT6 := Lib.hid hcat
      have HND := Lib.hid HCAT5.out.keys
      have HKR := Lib.hid HCAT5.out.kr
      have hlt6 := hc.size
      clear hcat hI hc HCAT3 HCAT4 HCAT5 HBW5 HOWN5 HCUT
      go_wp2_with fail
      obtain ⟨i0, hi, hz0, hz1, hz2⟩ := KI.info_of KI.Try.infoK
      have hc0 : cut ≠ 0 := by omega
      go_loopw [14, 55] (fun tv iv wx => ∃ i : Nat, i ≤ es.length ∧ iv = .int .i64 i ∧ wx.ownsRow w6.heap.size 3 1 tv ((es.take i).filter (fun t => !prC cut t.2.1)).length (((es.take i).filter (fun t => !prC cut t.2.1)).map fun t => Value.int .i64 t.2.1) ∧ Below w6.heap.size w6 wx) (fun _ iv _ => es.length - (intOf iv).toNat)
      case atStart => exact ⟨0, by omega, rfl, World.ownsRow_nil _ _ _ _, Below.refl _ _⟩
      case round =>
        obtain ⟨i, hin, rfl, hoc, hbe⟩ := hrel
        obtain ⟨ta, tc, rfl, _, _⟩ := owned_any hoc
        by_cases hil : i < es.length
        · obtain ⟨⟨p, q, v⟩, ht⟩ : ∃ t, es[i]? = some t := ⟨_, List.getElem?_eq_getElem hil⟩
          have hwas := owns_kept HOWN6.out (fun q hq => hbe.block q (HOWN6.out.lt q hq).2)
          obtain ⟨be, rfl, hbl, hbb, ce0⟩ := KI.owned_at (i := i) (u := .int .i64 q) hwas (by simp [ht])
          have hmem := List.mem_of_getElem? ht
          have hqr := HKR.out p q v hmem
          have hA := HA6.out.keep (KI.Chg.ofBelow (fun _ => False) hbe) id id id
          have cb : wr.cell? ⟨w4.heap.size + 1, 0, none⟩ = some (.map (some w4.heap.size)) := by rw [hA.box.cell]; rfl
          have cn : wr.cell? ⟨w.heap.size, 0, none⟩ = some (.int .i64 cut) := by rw [hA.num.cell]; rfl
          obtain ⟨m, N, hm, _, hf⟩ := hA.map
          have hlk := hm.look KI.Try.keyed Try.underlying58 (Try.zeroI wr) false (KI.key_of q hqr)
          have hg : (m (.int .i64 q)).getD (.int .i64 0) = .int .i64 1 := by
            rw [hf q hqr, cnt_one HND.out hmem]
            rfl
          simp only [Bool.false_eq_true, if_false, hg] at hlk
          have htk : es.take (i + 1) = es.take i ++ [(p, q, v)] := by
            obtain ⟨hi', he⟩ := List.getElem?_eq_some_iff.1 ht
            rw [← he]
            exact (List.take_append_getElem hi').symm
          have HTK := Lib.hid htk
          have HOC := Lib.hid hoc
          have HBE := Lib.hid hbe
          clear hwas hmem hA hm hf hg htk hoc hbe ht
          by_cases hq : q.tmod cut = 0
          · have hC1 : (es.take (i + 1)).filter (fun t => !prC cut t.2.1) = (es.take i).filter (fun t => !prC cut t.2.1) := by
              rw [HTK.out, List.filter_append]
              simp [prC, hq]
            have HC1 := Lib.hid hC1
            clear hC1
            go_wp2
            go_roundw
            case rel => exact ⟨i + 1, by omega, by go_num, by rw [HC1.out]; exact HOC.out, HBE.out⟩
            case measure => simp [intOf]; omega
          · obtain ⟨C, hC⟩ : ∃ C, C = (es.take i).filter (fun t => !prC cut t.2.1) := ⟨_, rfl⟩
            have hC1 : (es.take (i + 1)).filter (fun t => !prC cut t.2.1) = C ++ [(p, q, v)] := by
              rw [HTK.out, List.filter_append, ← hC]
              simp [prC, hq]
            have hCl : C.length ≤ 4096 := by
              have h1 := List.length_filter_le (fun t : KI.En => !prC cut t.2.1) (es.take i)
              have h2 : (es.take i).length ≤ es.length := by simp; omega
              rw [hC]
              omega
            have hoc := HOC.out
            rw [← hC] at hoc
            have HOC4 := Lib.hid hoc
            have HC1 := Lib.hid hC1
            have hsz := HBE.out.size
            rw [← hC]
            clear hoc hC hC1
            go_wp2_with (
              at_builtin
              (refine wpList_append_at_any _ rfl _ _ 53 rfl w6.heap.size 3 i0 (.int .i64 0) 1 8 Try.underlying53 hi hz0 hz1 hz2 rfl (by decide) _ C.length _ rfl (HOC4.out.alloc _) (some ⟨wr.heap.size, 0, none⟩) 1 1 [.int .i64 q] rfl rfl (by intro h; cases h) (by rintro ad he; injection he with he; subst he; exact cell_one_new _ _ _) (by intro z hz; simp at hz; subst hz; rfl) (by unfold maxLen; omega) (by omega) (by simp; omega) ?_)
              intro v2 w7 hown3 hgrow3 hat3)
            have hb7 : Below w6.heap.size wr w7 := ((below_alloc wr _).mono hsz).trans ⟨hgrow3.os, hgrow3.tape, hgrow3.output, hgrow3.size, fun z hz => hgrow3.block z (by simp; omega) (by intro e; have := ((HOC4.out.alloc (.cells #[.int .i64 q] 3)).lt z e.symm).1; omega)⟩
            have HR1 := Lib.hid (HBE.out.trans hb7)
            have HR2 := Lib.hid (show w7.ownsRow w6.heap.size 3 1 v2 ((es.take (i + 1)).filter (fun t => !prC cut t.2.1)).length (((es.take (i + 1)).filter (fun t => !prC cut t.2.1)).map fun t => Value.int .i64 t.2.1) by
              rw [HC1.out, List.length_append, List.map_append]
              exact hown3)
            clear hown3 hgrow3 hat3 hb7
            go_roundw
            case rel => exact ⟨i + 1, by omega, by go_num, HR2.out, HR1.out⟩
            case measure => simp [intOf]; omega
        · obtain rfl : i = es.length := by omega
          rw [List.take_length] at hoc
          rw [List.take_length]
          obtain ⟨L, hL⟩ : ∃ L, L = es.filter (fun t => !prC cut t.2.1) := ⟨_, rfl⟩
          have hlens := filter_lens es (fun t => prC cut t.2.1)
          obtain ⟨A, hA⟩ : ∃ A, A = (es.filter (fun t => prC cut t.2.1)).length := ⟨_, rfl⟩
          have HCAT7 := Lib.hid (HCAT6.out.below hbe)
          rw [← hL] at hoc hlens HCAT7 ⊢
          rw [← hA] at hlens ⊢
          have HK2 := Lib.hid (KI.Keys_any wr HCAT7.out)
          have HOC := Lib.hid hoc
          have HBE := Lib.hid hbe
          clear hoc hbe hL hA
          go_wp2_with fail
          refine HK2.out.mono ?_
          rintro x w8 ⟨now, rfl, hown, hb⟩
          obtain ⟨na, nc, rfl, _, _⟩ := owned_any hown
          have HCAT8 := Lib.hid (HCAT7.out.below hb)
          have HLEN := Lib.hid (KI.len_any w8 HCAT8.out)
          have HROW := Lib.hid hown
          have HLEFT := Lib.hid (owns_kept HOC.out (fun q hq => hb.block q (HOC.out.lt q hq).2))
          have HBF := Lib.hid (HBW6.out.trans ((HBE.out.mono (by omega)).trans (hb.mono (by have := HBE.out.size; omega))))
          clear hown hb HCAT7 HCAT8 HOC
          have hsub : IntKind.i64.wrap ((es.length : Int) - (L.length : Int)) = (A : Int) := by rw [IntWalk.i64_in _ (by omega)]; omega
          go_wp2_with fail
          refine HLEN.out.mono ?_
          rintro x w9 ⟨rfl, rfl⟩
          go_wp2_with fail
          go_loopw [97] (fun iv wr => ∃ j : Nat, j ≤ L.length ∧ iv = .int .i64 j ∧ Below w8.heap.size w8 wr) (fun iv _ => L.length - (intOf iv).toNat)
          case atStart => exact ⟨0, by omega, rfl, Below.refl _ _⟩
          case round =>
            obtain ⟨j, hjn, rfl, hb9⟩ := hrel
            have HR9 := Lib.hid hb9
            by_cases hjl : j < L.length
            · obtain ⟨⟨p, q, v⟩, ht⟩ : ∃ t, L[j]? = some t := ⟨_, List.getElem?_eq_getElem hjl⟩
              obtain ⟨b1, rfl, _, _, ce1⟩ := KI.owned_at (i := j) (u := .int .i64 q) (owns_kept HROW.out (fun q hq => hb9.block q (HROW.out.lt q hq).2)) (by simp [ht])
              obtain ⟨b2, rfl, _, _, ce2⟩ := KI.owned_at (i := j) (u := .int .i64 q) (owns_kept HLEFT.out (fun q hq => hb9.block q (HLEFT.out.lt q hq).2)) (by simp [ht])
              clear ht hb9
              go_wp2_with fail
              go_quiet (fail)
              go_wp2
              go_roundw
              case rel => exact ⟨j + 1, by omega, by go_num, HR9.out.trans ((below_drewN _ _).mono HR9.out.size)⟩
              case measure => simp [intOf]; omega
            · obtain rfl : j = L.length := by omega
              go_wp2
              go_ret
              exact ⟨rfl, HBF.out.trans (HR9.out.mono (by have := HBF.out.size; omega))⟩
end Go.Proofs.Ytfhflijlgejknaa
