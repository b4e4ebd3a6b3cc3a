/- QueuePlays: the walk. -/
import Derived.Test.YtmnbpgigdobehaaQPL
import Derived.Deep.RegionHeld3
import Derived.BigQuiet
namespace Go.Proofs.Ytmnbpgigdobehaa
open Go.RowKit Go.Conc

theorem JPD.same {w W : World} {gq gw : Nat} {S D D' : Nat → Side} (h : JPD w W gq gw S D) (hd : ∀ i, (D' i).xs = (D i).xs ∧ (D' i).a = (D i).a ∧ (D' i).k = (D i).k ∧ (D' i).L = (D i).L ∧ (D' i).cap = (D i).cap) : JPD w W gq gw S D' := by
  obtain ⟨a1, a2, a3, a4, a5⟩ := hd 0
  obtain ⟨b1, b2, b3, b4, b5⟩ := hd 1
  refine ⟨h.q, fun i hi => ?_, h.tq, by rw [a1, a2, a3, a4, a5, b1, b2, b3, b4, b5]; exact h.tw, h.ng, h.ncc, h.b, h.geq, h.gew⟩
  obtain ⟨c1, c2, c3, c4, c5⟩ := hd i
  have := h.d i hi
  exact ⟨by rw [c1, c2]; exact this.st, by rw [c1, c2, c3]; exact this.nil, by rw [c1, c3]; exact this.nc, by rw [c4]; exact this.lr, by rw [c1, c5]; exact this.top, by rw [c5]; exact this.cp⟩
theorem JPD.clear {w W : World} {gq gw i : Nat} {S D : Nat → Side} (h : JPD w W gq gw S D) (hi : i < 2) :
    JPD w (W.setCell ⟨gw, i * 3, none⟩ (.slice none 0 0)) gq gw S (side D i ⟨(D i).g, (D i).c, (D i).cap, (D i).L, [], [], none, 0⟩) := by
  have w1 := h.tw.store (i * 3) (.slice none 0 0)
  have ne := whole_ne h.tq h.tw (by decide)
  refine ⟨fun k hk => ?_, fun k hk => ?_, ?_, ?_, h.ng, h.ncc, h.b.setCell (p := ⟨gw, _, none⟩) h.gew _, h.geq, h.gew⟩
  · exact QS.QAt.far (h.q k hk) h.tw (by decide) (by decide) _ _
  · by_cases e : k = i
    · subst e
      rw [side_same]
      exact ⟨Strs.nil _ _ _, fun _ => ⟨rfl, rfl⟩, Nat.le_refl _, (h.d k hk).lr, Nat.zero_le _, (h.d k hk).cp⟩
    · rw [side_other _ _ e]; exact (h.d k hk).far h.tw h.gew (by decide) _ _
  · exact h.tq.kept (Below.heap_setCell _ ⟨gw, _, none⟩ _ _ ne)
  · rcases two_cases hi with rfl | rfl
    · rw [side_same, side_other _ _ (show (1 : Nat) ≠ 0 by omega)]
      simpa using w1
    · rw [side_same, side_other _ _ (show (0 : Nat) ≠ 1 by omega)]
      simpa using w1
/-- Both sides turned alike. -/
theorem JPD.both {w W : World} {gq gw i : Nat} {S : Nat → Side} {s d : Side} (h : JPD w W gq gw (side S i s) (side S i d)) (h1 : s.xs = d.xs) (h2 : s.a = d.a) (h3 : s.k = d.k) (h4 : s.L = d.L) (h5 : s.cap = d.cap) : JP w W gq gw (side S i s) := by
  refine h.same fun k => ?_
  by_cases e : k = i
  · subst e
    rw [side_same, side_same]
    exact ⟨h1, h2, h3, h4, h5⟩
  · rw [side_other _ _ e, side_other _ _ e]
    exact ⟨rfl, rfl, rfl, rfl, rfl⟩
/-- While the queues are made. -/
def Making (w W : World) (gs gq gw : Nat) (s0 s1 : Int) (i : Nat) : Prop :=
  Whole W gs 22 #[.int .i64 s0, .int .i64 s1] ∧ w.heap.size ≤ gs ∧
  ((i = 0 ∧ Whole W gq 26 #[.pointer none, .pointer none] ∧ Whole W gw 30 #[.slice none 0 0, .int .i64 0, .int .i64 0, .slice none 0 0, .int .i64 0, .int .i64 0] ∧ Below w.heap.size w W ∧ w.heap.size ≤ gq ∧ w.heap.size ≤ gw) ∨
   (i = 1 ∧ ∃ g c cap : Nat, s0 = (cap : Int) ∧ QS.QAt W w.heap.size g c cap 0 [] [] ∧ Whole W gq 26 #[.pointer (some ⟨g, 0, none⟩), .pointer none] ∧ Whole W gw 30 #[.slice none 0 0, .int .i64 (cap : Int), .int .i64 0, .slice none 0 0, .int .i64 0, .int .i64 0] ∧ Below w.heap.size w W ∧ w.heap.size ≤ gq ∧ w.heap.size ≤ gw) ∨
   (i = 2 ∧ ∃ S, JP w W gq gw S))

/-- A pair's cells. -/
theorem pair_cells {W : World} {gs : Nat} {t : TypeId} {a b : Value} (h : Whole W gs t #[a, b]) : W.cell? ⟨gs, 0, none⟩ = some a ∧ W.cell? ⟨gs, 1, none⟩ = some b ∧ W.frozen? ⟨gs, 0, none⟩ = false ∧ W.frozen? ⟨gs, 1, none⟩ = false := ⟨by rw [h.cell]; rfl, by rw [h.cell]; rfl, h.free 0, h.free 1⟩
theorem six_cells {W : World} {gs : Nat} {t : TypeId} {a b c d e f : Value} (h : Whole W gs t #[a, b, c, d, e, f]) : W.cell? ⟨gs, 1, none⟩ = some b ∧ W.cell? ⟨gs, 4, none⟩ = some e ∧ W.frozen? ⟨gs, 1, none⟩ = false ∧ W.frozen? ⟨gs, 4, none⟩ = false := ⟨by rw [h.cell]; rfl, by rw [h.cell]; rfl, h.free 1, h.free 4⟩

theorem Whole.drewQ {w : World} {g : Nat} {t : TypeId} {cs : Array Value} (h : Whole w g t cs) : Whole w.drew g t cs := h
theorem making_one {w W : World} {gs gq gw g c m : Nat} {s1 : Int} (hs : Whole W gs 22 #[.int .i64 (m : Int), .int .i64 s1]) (hq : Whole W gq 26 #[.pointer none, .pointer none]) (hw : Whole W gw 30 #[.slice none 0 0, .int .i64 0, .int .i64 0, .slice none 0 0, .int .i64 0, .int .i64 0])
    (hqa : QS.QAt W w.heap.size g c m 0 [] []) (hb : Below w.heap.size w W) (h1 : w.heap.size ≤ gs) (h2 : w.heap.size ≤ gq) (h3 : w.heap.size ≤ gw) :
    Making w ((W.setCell ⟨gq, 0, none⟩ (.pointer (some ⟨g, 0, none⟩))).setCell ⟨gw, 1, none⟩ (.int .i64 (m : Int))).drew gs gq gw (m : Int) s1 1 := by
  have ne1 : gs ≠ gq := whole_ne hs hq (by decide)
  have ne2 : gs ≠ gw := whole_ne hs hw (by decide)
  have ne3 : gq ≠ gw := whole_ne hq hw (by decide)
  have hw1 := hw.kept (Below.heap_setCell W ⟨gq, 0, none⟩ (.pointer (some ⟨g, 0, none⟩)) gw ne3.symm)
  have hq1 := hq.store 0 (.pointer (some ⟨g, 0, none⟩))
  refine ⟨?_, h1, .inr (.inl ⟨rfl, g, c, m, rfl, ?_, ?_, ?_, below_drewQ ((hb.setCell (p := ⟨gq, 0, none⟩) h2 _).setCell (p := ⟨gw, 1, none⟩) h3 _), h2, h3⟩)⟩
  · exact (hs.kept (Below.heap_setCell _ ⟨gq, 0, none⟩ _ _ ne1)).kept (Below.heap_setCell _ ⟨gw, 1, none⟩ _ _ ne2)
  · exact (((hqa.far hq (by decide) (by decide) 0 _).far hw1 (by decide) (by decide) 1 _).drewN 1)
  · have := hq1.kept (Below.heap_setCell _ ⟨gw, 1, none⟩ (.int .i64 (m : Int)) gq ne3)
    exact Whole.drewQ (by simpa using this)
  · have := hw1.store 1 (.int .i64 (m : Int))
    exact Whole.drewQ (by simpa using this)
theorem making_two {w W : World} {gs gq gw g c cap g2 c2 m : Nat} {s1 : Int} (hs : Whole W gs 22 #[.int .i64 (cap : Int), .int .i64 s1]) (hq : Whole W gq 26 #[.pointer (some ⟨g, 0, none⟩), .pointer none]) (hw : Whole W gw 30 #[.slice none 0 0, .int .i64 (cap : Int), .int .i64 0, .slice none 0 0, .int .i64 0, .int .i64 0])
    (hqa : QS.QAt W w.heap.size g c cap 0 [] []) (hqb : QS.QAt W w.heap.size g2 c2 m 0 [] []) (hg : g ≠ g2) (hc : c ≠ c2) (hb : Below w.heap.size w W) (h1 : w.heap.size ≤ gs) (h2 : w.heap.size ≤ gq) (h3 : w.heap.size ≤ gw) :
    Making w ((W.setCell ⟨gq, 1, none⟩ (.pointer (some ⟨g2, 0, none⟩))).setCell ⟨gw, 4, none⟩ (.int .i64 (m : Int))).drew gs gq gw (cap : Int) s1 2 := by
  have ne1 : gs ≠ gq := whole_ne hs hq (by decide)
  have ne2 : gs ≠ gw := whole_ne hs hw (by decide)
  have ne3 : gq ≠ gw := whole_ne hq hw (by decide)
  have hw1 := hw.kept (Below.heap_setCell W ⟨gq, 1, none⟩ (.pointer (some ⟨g2, 0, none⟩)) gw ne3.symm)
  have hq1 := hq.store 1 (.pointer (some ⟨g2, 0, none⟩))
  refine ⟨?_, h1, .inr (.inr ⟨rfl, fun i => if i = 0 then ⟨g, c, cap, 0, [], [], none, 0⟩ else ⟨g2, c2, m, 0, [], [], none, 0⟩, ?_⟩)⟩
  · exact (hs.kept (Below.heap_setCell _ ⟨gq, 1, none⟩ _ _ ne1)).kept (Below.heap_setCell _ ⟨gw, 4, none⟩ _ _ ne2)
  refine ⟨fun i hi => ?_, fun i hi => ?_, ?_, ?_, hg, hc, below_drewQ ((hb.setCell (p := ⟨gq, 1, none⟩) h2 _).setCell (p := ⟨gw, 4, none⟩) h3 _), h2, h3⟩
  · rcases two_cases hi with rfl | rfl
    · exact (((hqa.far hq (by decide) (by decide) 1 _).far hw1 (by decide) (by decide) 4 _).drewN 1)
    · exact (((hqb.far hq (by decide) (by decide) 1 _).far hw1 (by decide) (by decide) 4 _).drewN 1)
  · rcases two_cases hi with rfl | rfl
    · exact ⟨Strs.nil _ _ _, fun _ => ⟨rfl, rfl⟩, Nat.le_refl _, ⟨by show (-9223372036854775808 : Int) ≤ 0; omega, by show (0 : Int) ≤ 9223372036854775807; omega⟩, Nat.zero_le _, hqa.hi⟩
    · exact ⟨Strs.nil _ _ _, fun _ => ⟨rfl, rfl⟩, Nat.le_refl _, ⟨by show (-9223372036854775808 : Int) ≤ 0; omega, by show (0 : Int) ≤ 9223372036854775807; omega⟩, Nat.zero_le _, hqb.hi⟩
  · have := hq1.kept (Below.heap_setCell _ ⟨gw, 4, none⟩ (.int .i64 (m : Int)) gq ne3)
    exact Whole.drewQ (by simpa using this)
  · have := hw1.store 4 (.int .i64 (m : Int))
    exact Whole.drewQ (by simpa using this)

set_option maxRecDepth 100000 in
set_option maxHeartbeats 40000000 in
theorem plays_walk (s0 s1 : Int) (a : Option Addr) (n k : Nat) (w : World) (hops : OpsIn w a n) (hn : n ≤ 9223372036854775806) :
    Calls Try.prog 3 #[.agg #[.int .i64 s0, .int .i64 s1], .slice a n k] w fun e w' => e = .returned (.bool true) ∧ Below w.heap.size w w' := by
  have HOPS := Lib.hid hops
  clear hops
  go_enter Try.func3, Try.ntmps3
  go_wp2_with fail
  refine (awake_any _).mono ?_
  rintro e w1 ⟨rfl, hb⟩
  have hs0 : Whole (w.alloc (.cells #[.int .i64 s0, .int .i64 s1] 22)) w.heap.size 22 #[.int .i64 s0, .int .i64 s1] := heap_alloc_new w _
  have hs1 := hs0.kept (hb.block _ hs0.lt)
  have hb1 := (below_alloc w (.cells #[.int .i64 s0, .int .i64 s1] 22)).trans (hb.mono (by simp))
  have HM0 := Lib.hid (show Making w ((w1.alloc (.cells #[.pointer none, .pointer none] 26)).alloc (.cells #[.slice none 0 0, .int .i64 0, .int .i64 0, .slice none 0 0, .int .i64 0, .int .i64 0] 30)) w.heap.size w1.heap.size (w1.heap.size + 1) s0 s1 0 from by
    have h1 := below_alloc w1 (.cells #[.pointer none, .pointer none] 26)
    have h2 := below_alloc (w1.alloc (.cells #[.pointer none, .pointer none] 26)) (.cells #[.slice none 0 0, .int .i64 0, .int .i64 0, .slice none 0 0, .int .i64 0, .int .i64 0] 30)
    have q1 : Whole (w1.alloc (.cells #[.pointer none, .pointer none] 26)) w1.heap.size 26 #[.pointer none, .pointer none] := heap_alloc_new w1 _
    have hsz := hb1.size
    refine ⟨?_, Nat.le_refl _, .inl ⟨rfl, q1.kept (h2.block _ q1.lt), ?_, ?_, by omega, by omega⟩⟩
    · have := hs1.kept (h1.block _ hs1.lt)
      exact this.kept (h2.block _ this.lt)
    · have := heap_alloc_new (w1.alloc (.cells #[.pointer none, .pointer none] 26)) (.cells #[.slice none 0 0, .int .i64 0, .int .i64 0, .slice none 0 0, .int .i64 0, .int .i64 0] 30)
      simpa [Whole] using this
    · exact (hb1.alloc hb1.size _).alloc (by simp; omega) _)
  clear hb hs0 hs1 hb1
  go_wp2_with fail
  generalize w1.heap.size + 1 = gw at *
  generalize (w1.alloc (.cells #[.pointer none, .pointer none] 26)).alloc (.cells #[.slice none 0 0, .int .i64 0, .int .i64 0, .slice none 0 0, .int .i64 0, .int .i64 0] 30) = W0 at *
  generalize w1.heap.size = gq at *
  go_loopw [27] (fun t27 wr => ∃ i : Nat, t27 = .int .i64 i ∧ i ≤ 2 ∧ Making w wr w.heap.size gq gw s0 s1 i) (fun t27 _ => 2 - (intOf t27).toNat)
  case atStart => exact ⟨0, rfl, by omega, HM0.out⟩
  case round =>
    obtain ⟨i, rfl, hi2, hs, _, hm⟩ := hrel
    rcases hm with ⟨rfl, hq, hw, hb, hge, hgw⟩ | ⟨rfl, g, c, cap, rfl, hqa, hq, hw, hb, hge, hgw⟩ | ⟨rfl, S, hp⟩
    · obtain ⟨z0, _, _, _⟩ := pair_cells hs
      have HWR := Lib.hid (wrong_any s0 wr)
      have HS := Lib.hid hs
      have HQ := Lib.hid hq
      have HW := Lib.hid hw
      have HB := Lib.hid hb
      clear hs hq hw hb
      by_cases hbad : s0 < 1 ∨ 4096 < s0
      · have HN := Lib.hid (QS.new_bad s0 wr hbad)
        rw [if_pos hbad] at HWR
        clear hbad
        go_wp2_with fail
        refine HN.out.mono ?_
        rintro e w2 ⟨rfl, rfl⟩
        go_wp2_with fail
        refine HWR.out.mono ?_
        rintro e w2 ⟨rfl, rfl⟩
        go_wp2
        go_ret
        exact ⟨rfl, HB.out⟩
      · rw [if_neg hbad] at HWR
        obtain ⟨m, rfl⟩ : ∃ m : Nat, s0 = (m : Int) := ⟨s0.toNat, by omega⟩
        have HN := Lib.hid (QS.new_good w.heap.size m wr (by omega) (by omega) HB.out.size)
        have hbnd : 1 ≤ m ∧ m ≤ 4096 := by omega
        clear hbad
        go_wp2_with fail
        refine HN.out.mono ?_
        rintro e w2 ⟨rfl, hqa, hb2⟩
        have z0' := (HS.out.kept (hb2.block _ HS.out.lt)).cell 0
        have HWR2 := Lib.hid (wrong_any (m : Int) w2)
        rw [if_neg (by omega)] at HWR2
        have HQA := Lib.hid hqa
        have HB2 := Lib.hid hb2
        clear hqa hb2 z0
        go_wp2_with fail
        refine HWR2.out.mono ?_
        rintro e w3 ⟨rfl, rfl⟩
        have hs2 := HS.out.kept (HB2.out.block _ HS.out.lt)
        have hq2 := HQ.out.kept (HB2.out.block _ HQ.out.lt)
        have hw2 := HW.out.kept (HB2.out.block _ HW.out.lt)
        obtain ⟨y0, _, _, _⟩ := pair_cells hs2
        obtain ⟨x0, _, f0, _⟩ := pair_cells hq2
        obtain ⟨v1, _, f1, _⟩ := six_cells hw2
        have ne1 : w.heap.size ≠ gq := whole_ne hs2 hq2 (by decide)
        have ne2 : w.heap.size ≠ gw := whole_ne hs2 hw2 (by decide)
        have ne3 : gq ≠ gw := whole_ne hq2 hw2 (by decide)
        have ne1' := ne1.symm
        have ne2' := ne2.symm
        have ne3' := ne3.symm
        have HS2 := Lib.hid hs2
        have HQ2 := Lib.hid hq2
        have HW2 := Lib.hid hw2
        clear hs2 hq2 hw2 z0'
        go_wp2
        go_region
        all_goals
          go_wp2
          have hqa2 := HQA.out
          refine ⟨⟨1, rfl, by omega, making_one HS2.out HQ2.out HW2.out hqa2 (HB.out.trans (HB2.out.mono HB.out.size)) (Nat.le_refl _) hge hgw⟩, by simp [intOf]⟩
    · obtain ⟨_, z1, _, _⟩ := pair_cells hs
      have HWR := Lib.hid (wrong_any s1 wr)
      have HS := Lib.hid hs
      have HQ := Lib.hid hq
      have HW := Lib.hid hw
      have HB := Lib.hid hb
      have HQA := Lib.hid hqa
      clear hs hq hw hb hqa
      by_cases hbad : s1 < 1 ∨ 4096 < s1
      · have HN := Lib.hid (QS.new_bad s1 wr hbad)
        rw [if_pos hbad] at HWR
        clear hbad
        go_wp2_with fail
        refine HN.out.mono ?_
        rintro e w2 ⟨rfl, rfl⟩
        go_wp2_with fail
        refine HWR.out.mono ?_
        rintro e w2 ⟨rfl, rfl⟩
        go_wp2
        go_ret
        exact ⟨rfl, HB.out⟩
      · rw [if_neg hbad] at HWR
        obtain ⟨m, rfl⟩ : ∃ m : Nat, s1 = (m : Int) := ⟨s1.toNat, by omega⟩
        have HN := Lib.hid (QS.new_good w.heap.size m wr (by omega) (by omega) HB.out.size)
        have hbnd : 1 ≤ m ∧ m ≤ 4096 := by omega
        clear hbad
        go_wp2_with fail
        refine HN.out.mono ?_
        rintro e w2 ⟨rfl, hqb, hb2⟩
        have z1' := (HS.out.kept (hb2.block _ HS.out.lt)).cell 1
        have HWR2 := Lib.hid (wrong_any (m : Int) w2)
        rw [if_neg (by omega)] at HWR2
        have HQB := Lib.hid hqb
        have HB2 := Lib.hid hb2
        clear hqb hb2 z1
        go_wp2_with fail
        refine HWR2.out.mono ?_
        rintro e w3 ⟨rfl, rfl⟩
        have hs2 := HS.out.kept (HB2.out.block _ HS.out.lt)
        have hq2 := HQ.out.kept (HB2.out.block _ HQ.out.lt)
        have hw2 := HW.out.kept (HB2.out.block _ HW.out.lt)
        obtain ⟨_, y0, _, _⟩ := pair_cells hs2
        obtain ⟨_, x0, _, f0⟩ := pair_cells hq2
        obtain ⟨_, v1, _, f1⟩ := six_cells hw2
        have ne1 : w.heap.size ≠ gq := whole_ne hs2 hq2 (by decide)
        have ne2 : w.heap.size ≠ gw := whole_ne hs2 hw2 (by decide)
        have ne3 : gq ≠ gw := whole_ne hq2 hw2 (by decide)
        have ne1' := ne1.symm
        have ne2' := ne2.symm
        have ne3' := ne3.symm
        have HS2 := Lib.hid hs2
        have HQ2 := Lib.hid hq2
        have HW2 := Lib.hid hw2
        have hgl := HQA.out.blk.lt
        have hcl := HQA.out.ch.lt
        clear hs2 hq2 hw2 z1'
        go_wp2
        go_region
        all_goals
          go_wp2
          have hqb2 := HQB.out
          refine ⟨⟨2, rfl, by omega, making_two HS2.out HQ2.out HW2.out (HQA.out.below HB2.out) hqb2 (by omega) (by omega) (HB.out.trans (HB2.out.mono HB.out.size)) (Nat.le_refl _) hge hgw⟩, by simp [intOf]⟩
    · have HP := Lib.hid hp
      clear hp hs
      go_wp2_with fail
      go_loopw [70] (fun t70 wr => ∃ (i : Nat) (S : Nat → Side), i ≤ n ∧ t70 = .int .i64 i ∧ JP w wr gq gw S) (fun t70 _ => n - (intOf t70).toNat)
      case atStart => exact ⟨0, S, by omega, rfl, HP.out⟩
      case round =>
        obtain ⟨i, S, hin, rfl, hp⟩ := hrel
        have HP := Lib.hid hp
        by_cases hil : i < n
        · obtain ⟨b, off, rfl, hbl, hcc⟩ := HOPS.out.resolve_left (by omega)
          obtain ⟨kd, sec, la, ln, lc, ls, z0, z1, z2, hls, hlnm⟩ := hcc i hil
          have c0 := (hp.b.cell (p := ⟨b, off + i * 3, none⟩) hbl).trans z0
          have c1 := (hp.b.cell (p := ⟨b, off + i * 3 + 1, none⟩) hbl).trans z1
          have c2 := (hp.b.cell (p := ⟨b, off + i * 3 + 2, none⟩) hbl).trans z2
          have HLS := Lib.hid (hls.below hp.b)
          have hpw := hp.below (below_alloc wr (.cells #[.int .i64 kd, .bool sec, .slice la ln lc] 36))
          have HPW := Lib.hid hpw
          have hob : Whole (wr.alloc (.cells #[.int .i64 kd, .bool sec, .slice la ln lc] 36)) wr.heap.size 36 #[.int .i64 kd, .bool sec, .slice la ln lc] := heap_alloc_new _ _
          have HOB := Lib.hid hob
          clear hcc z0 z1 z2 hls hp hpw hob
          go_upto_if 75 with fail
          go_cut [13] (fun v wx => ∃ s : Nat, s < 2 ∧ v = .int .i64 s ∧ wr.alloc (.cells #[.int .i64 kd, .bool sec, .slice la ln lc] 36) = wx)
          case first =>
            cases sec
            · go_wp2_with fail
              go_meet
              exact ⟨0, by omega, rfl, rfl⟩
            · go_wp2_with fail
              go_meet
              exact ⟨1, by omega, rfl, rfl⟩
          case rest =>
            obtain ⟨s, hs2, rfl, rfl⟩ := hcut
            go_upto_block 4 with fail
            have HLS2 := Lib.hid (HLS.out.below (below_alloc wr (.cells #[.int .i64 kd, .bool sec, .slice la ln lc] 36)))
            have hol := HOB.out.lt
            generalize wr.alloc (.cells #[.int .i64 kd, .bool sec, .slice la ln lc] 36) = wo at *
            generalize wr.heap.size = o at *
            go_cut [] (fun wx => ∃ S', JP w wx gq gw S')
            case first =>
              obtain ⟨e0, e1, e2, _, _, _⟩ := three_of HOB.out
              have hqc := HPW.out.qcell hs2
              obtain ⟨d0, d1, d2, f0, f1, f2⟩ := HPW.out.wcell hs2
              have hque := HPW.out.q s hs2
              have hdoc := HPW.out.d s hs2
              have hgwl := HPW.out.tw.lt
              have hgql := HPW.out.tq.lt
              have hwl := HPW.out.b.size
              rcases hSs : S s with ⟨sg, sc, scap, sL, sps, sxs, sa, sk⟩
              rw [hSs] at hqc d0 d1 d2 hque hdoc
              have HSS := Lib.hid hSs
              simp only at hqc d0 d1 d2
              have htop := hdoc.top
              have hcp := hdoc.cp
              simp only at htop hcp
              have HQU := Lib.hid hque
              have HDO := Lib.hid hdoc
              clear hSs hque hdoc c0 c1 c2
              have hsi0 : (0 : Int) ≤ (s : Int) := by omega
              have hsi2 : (s : Int) < 2 := by omega
              by_cases k0 : kd = 0
              · subst k0
                have hput := fun (W : World) (hb : Below wo.heap.size wo W) => rput_any (B := w.heap.size) sa sk sxs la lc ls sL W (HDO.out.st.below hb) (HLS2.out.below hb) HDO.out.nil HDO.out.nc (Nat.le_trans hwl hb.size) hcp htop (by omega) HDO.out.lr
                have HPUT := Lib.hid hput
                clear hput
                obtain ⟨kk, hkk⟩ : ∃ kk, kk = min ln (scap - sxs.length) := ⟨_, rfl⟩
                obtain ⟨LL, hLL⟩ : ∃ LL, LL = lostAt sL (scap - sxs.length) ln := ⟨_, rfl⟩
                obtain ⟨nn, hnn⟩ : ∃ nn, nn = sxs.length + kk := ⟨_, rfl⟩
                have HKK := Lib.hid hkk
                have HLL := Lib.hid hLL
                have HNN := Lib.hid hnn
                clear hkk hLL hnn
                go_upto_region 22 with fail
                go_cut [14, 15] (fun p nv wx => ∃ (bq : Nat) (a' : Option Addr) (c' : Nat), p = .pointer (some ⟨bq, 0, none⟩) ∧ nv = .int .i64 (kk : Int) ∧ Whole wx bq 29 #[.slice a' nn c', .int .i64 (scap : Int), .int .i64 LL] ∧ wo.heap.size ≤ bq ∧ Below wo.heap.size wo wx ∧ DocAt w wx ⟨sg, sc, scap, LL, sps, sxs ++ ls.take (scap - sxs.length), a', c'⟩ ∧ (sxs ++ ls.take (scap - sxs.length)).length = nn)
                case first =>
                  as_aux_lemma =>
                    have HFIN := Lib.hid (fun W a' c' (hs : Strs W w.heap.size a' nn (sxs ++ ls.take (scap - sxs.length))) (hn : a' = none → nn = 0 ∧ c' = 0) (hc : nn ≤ c') => (show DocAt w W ⟨sg, sc, scap, LL, sps, sxs ++ ls.take (scap - sxs.length), a', c'⟩ ∧ (sxs ++ ls.take (scap - sxs.length)).length = nn from by
                      have hl := hs.1
                      refine ⟨⟨by simp only; rw [hl]; exact hs, by simp only; rw [hl]; exact hn, by simp only; rw [hl]; exact hc, by simp only; rw [HLL.out]; exact lostAt_in _ _ _ HDO.out.lr, by simp only; rw [hl, HNN.out, HKK.out]; omega, hcp⟩, hl⟩))
                    have HSK := Lib.hid (fun W (hb : Below wo.heap.size wo W) => (show (W.cell? ⟨gw, s * 3, none⟩ = some (.slice sa sxs.length sk) ∧ W.cell? ⟨gw, s * 3 + 1, none⟩ = some (.int .i64 (scap : Int)) ∧ W.cell? ⟨gw, s * 3 + 2, none⟩ = some (.int .i64 sL) ∧ W.cell? ⟨o, 2, none⟩ = some (.slice la ln lc)) from ⟨(hb.cell (p := ⟨gw, s * 3, none⟩) hgwl).trans d0, (hb.cell (p := ⟨gw, s * 3 + 1, none⟩) hgwl).trans d1, (hb.cell (p := ⟨gw, s * 3 + 2, none⟩) hgwl).trans d2, (hb.cell (p := ⟨o, 2, none⟩) hol).trans e2⟩))
                    go_region_held3 (fun W : World => W.cell? ⟨gw, s * 3, none⟩ = some (.slice sa sxs.length sk) ∧ W.cell? ⟨gw, s * 3 + 1, none⟩ = some (.int .i64 (scap : Int)) ∧ W.cell? ⟨gw, s * 3 + 2, none⟩ = some (.int .i64 sL) ∧ W.cell? ⟨o, 2, none⟩ = some (.slice la ln lc)) (first | exact HSK.out _ (below_drewN _ 1) | exact HSK.out _ (below_drewQ (below_alloc _ _)) | exact HSK.out _ HB4.out | exact HSK.out _ (HB4.out.alloc (Nat.le_trans (Nat.le_refl _) HB4.out.size) _) | exact HSK.out _ (((HB4.out.setCell (Nat.le_refl _) _).setCell (Nat.le_refl _) _).setCell (Nat.le_refl _) _) | trace_state) (first
                      | (go_at_call 9
                         refine (HPUT.out (wo.alloc (.cells #[.slice none 0 0, .int .i64 0, .int .i64 0] 29)).drew (below_drewQ (below_alloc _ _))).mono ?_
                         rintro e w4 ⟨a', c', rfl, hs4, hn4, hc4, hb4⟩
                         rw [← HKK.out, ← HNN.out, ← HLL.out]
                         rw [← HKK.out, ← HNN.out] at hs4 hn4 hc4
                         have hb5 := below_drew hb4
                         have hz0 : Whole (wo.alloc (.cells #[.slice none 0 0, .int .i64 0, .int .i64 0] 29)) wo.heap.size 29 #[.slice none 0 0, .int .i64 0, .int .i64 0] := heap_alloc_new wo _
                         have hz := hz0.kept (hb5.block _ hz0.lt)
                         obtain ⟨y0, y1, y2, p0, p1, p2⟩ := three_of hz
                         have HZ := Lib.hid hz
                         have HS4 := Lib.hid hs4
                         have HN4 := Lib.hid hn4
                         have HC4 := Lib.hid hc4
                         have HB4 := Lib.hid ((below_alloc wo (.cells #[.slice none 0 0, .int .i64 0, .int .i64 0] 29)).trans (hb5.mono (by simp)))
                         clear hs4 hn4 hc4 hb4 hb5 hz0 hz)
                      | (go_at_call 9
                         refine (HPUT.out wo.drew (below_drewN _ 1)).mono ?_
                         rintro e w4 ⟨a', c', rfl, hs4, hn4, hc4, hb4⟩
                         rw [← HKK.out, ← HNN.out, ← HLL.out]
                         rw [← HKK.out, ← HNN.out] at hs4 hn4 hc4
                         have hb5 := below_drew hb4
                         have HS4 := Lib.hid hs4
                         have HN4 := Lib.hid hn4
                         have HC4 := Lib.hid hc4
                         have HB4 := Lib.hid hb5
                         clear hs4 hn4 hc4 hb4 hb5))
                    · go_wp2_with fail
                      go_meet
                      have hbn := below_alloc w4 (.cells #[.slice a' nn c', .int .i64 (scap : Int), .int .i64 LL] 29)
                      obtain ⟨f1, f2⟩ := HFIN.out _ a' c' (HS4.out.below hbn) HN4.out HC4.out
                      exact ⟨_, a', c', rfl, rfl, heap_alloc_new _ _, HB4.out.size, HB4.out.trans (hbn.mono HB4.out.size), f1, f2⟩
                    · go_wp2_with fail
                      go_meet
                      have z1 := HZ.out.store 0 (.slice a' nn c')
                      have z2 := z1.store 1 (.int .i64 (scap : Int))
                      have z3 := z2.store 2 (.int .i64 LL)
                      obtain ⟨f1, f2⟩ := HFIN.out _ a' c' (((HS4.out.setCell HZ.out (by decide) hwl 0 _).setCell z1 (by decide) hwl 1 _).setCell z2 (by decide) hwl 2 _) HN4.out HC4.out
                      exact ⟨_, a', c', rfl, rfl, by simpa using z3, Nat.le_refl _, ((HB4.out.setCell (p := ⟨wo.heap.size, 0, none⟩) (Nat.le_refl _) _).setCell (p := ⟨wo.heap.size, 1, none⟩) (Nat.le_refl _) _).setCell (p := ⟨wo.heap.size, 2, none⟩) (Nat.le_refl _) _, f1, f2⟩
                case rest =>
                  obtain ⟨bq, a', c', rfl, rfl, hbq, hbqo, hbx, hdoc, hlen⟩ := hcut
                  have hJ := HPW.out.below hbx
                  obtain ⟨x0, x1, x2, _, _, _⟩ := three_of hbq
                  have hSo := HSS.out
                  have hwr := hJ.write hs2 hdoc hlen (by rw [hSo])
                  rw [hSo] at hwr
                  simp only at hwr
                  obtain ⟨d0', d1', d2', f0', f1', f2'⟩ := hJ.wcell hs2
                  have hx2 := hbx.cell (p := ⟨o, 2, none⟩) hol
                  rw [e2] at hx2
                  have hgwn : gw ≠ bq := by omega
                  have HWR := Lib.hid hwr
                  have tw0 := hJ.tw
                  have tw1 := tw0.store (s * 3) (.slice a' nn c')
                  have tw2 := tw1.store (s * 3 + 1) (.int .i64 (scap : Int))
                  have hox := HOB.out.kept (hbx.block _ hol)
                  have hogw : o ≠ gw := whole_ne hox tw0 (by decide)
                  have HOX := Lib.hid (((hox.kept (Below.heap_setCell _ ⟨gw, s * 3, none⟩ (.slice a' nn c') o hogw)).kept (Below.heap_setCell _ ⟨gw, s * 3 + 1, none⟩ (.int .i64 (scap : Int)) o hogw)).kept (Below.heap_setCell _ ⟨gw, s * 3 + 2, none⟩ (.int .i64 LL) o hogw))
                  have HLX := Lib.hid ((((HLS2.out.below hbx).setCell tw0 (by decide) hJ.gew (s * 3) (.slice a' nn c')).setCell tw1 (by decide) hJ.gew (s * 3 + 1) (.int .i64 (scap : Int))).setCell tw2 (by decide) hJ.gew (s * 3 + 2) (.int .i64 LL))
                  have hgwl2 := hJ.tw.lt
                  clear hwr hdoc hbq hSo hJ d0 d1 d2 f0 f1 f2 e0 e1 e2 hqc hbx tw0 tw1 tw2 hox hx2
                  go_upto_region 24 with fail
                  generalize ((wc.setCell ⟨gw, s * 3, none⟩ (.slice a' nn c')).setCell ⟨gw, s * 3 + 1, none⟩ (.int .i64 (scap : Int))).setCell ⟨gw, s * 3 + 2, none⟩ (.int .i64 LL) = ws at *
                  have hq5 := HWR.out.q s hs2
                  rw [HSS.out] at hq5
                  have hq6 : QS.QAt ws w.heap.size sg sc scap sL sps sxs := hq5
                  have HQ5 := Lib.hid hq6
                  have kq := HWR.out.qcell hs2
                  rw [HSS.out] at kq
                  simp only at kq
                  obtain ⟨_, _, ko, _, _, _⟩ := three_of HOX.out
                  have HKQ := Lib.hid (fun W (ht : Turned ws.drew W sg (some sc)) => (show W.cell? ⟨gq, s, none⟩ = some (.pointer (some ⟨sg, 0, none⟩)) ∧ W.cell? ⟨o, 2, none⟩ = some (.slice la ln lc) from by
                    have h1 := HWR.out.tq
                    have h2 := HOX.out
                    exact ⟨(QS.Turned.at ht h1.lt (whole_ne h1 hq6.blk (by decide)) (by have := hq6.ch.no h1; simpa using this) s).trans kq, (QS.Turned.at ht h2.lt (whole_ne h2 hq6.blk (by decide)) (by have := hq6.ch.no h2; simpa using this) 2).trans ko⟩))
                  clear hq5 hq6 x0 x1 x2 d0' d1' d2' f0' f1' f2'
                  go_region_held3 (fun W : World => W.cell? ⟨gq, s, none⟩ = some (.pointer (some ⟨sg, 0, none⟩)) ∧ W.cell? ⟨o, 2, none⟩ = some (.slice la ln lc)) (first | exact ⟨kq, ko⟩ | exact HKQ.out _ HT6.out) (first
                    | (go_at_call 10
                       refine (QS.Put_any la ln lc ls _ ws.drew (HQ5.out.drewN 1) ((HLX.out.drewQ).row (HQ5.out.drewN 1)) (by omega) rfl).mono ?_
                       rintro e w6 ⟨rfl, hq6, ht6⟩
                       rw [← HKK.out]
                       have HT6 := Lib.hid ht6
                       have HQ6 := Lib.hid hq6
                       clear hq6 ht6))
                  go_wp2_with fail
                  go_meet
                  obtain ⟨ps', hq7⟩ := HQ6.out
                  have hLL : LL = if ln ≤ scap - sxs.length then sL else IntKind.i64.wrap (sL + ((ln : Int) - ((scap - sxs.length : Nat) : Int))) := HLL.out
                  rw [← hLL] at hq7
                  have hsi := HSS.out
                  have ht7 : Turned ws.drew w6 (S s).g (some (S s).c) := by rw [hsi]; exact HT6.out
                  have hj7 := (HWR.out.below (below_drewN ws 1)).turned hs2 ht7 (s := ⟨sg, sc, scap, LL, ps', sxs ++ ls.take (scap - sxs.length), a', c'⟩) (by rw [hsi]) (by rw [hsi]) hq7
                  exact ⟨_, hj7.both rfl rfl rfl rfl rfl⟩
              · by_cases k1 : kd = 1
                · subst k1
                  clear k0
                  have hTK : ∃ (ok : Bool) (y : ByteArray) (xs' : List ByteArray) (a' : Option Addr) (k' : Nat), (∀ W, Below wo.heap.size wo W → Calls Try.prog 11 #[.agg #[.slice sa sxs.length sk, .int .i64 (scap : Int), .int .i64 sL]] W fun e w' => e = .returned (.tuple #[.agg #[.slice a' xs'.length k', .int .i64 (scap : Int), .int .i64 sL], .string y, .bool ok]) ∧ Below W.heap.size W w') ∧ (∀ W, Below wo.heap.size wo W → DocAt w W ⟨sg, sc, scap, sL, sps, xs', a', k'⟩) ∧
                      (∀ W, QS.QAt W w.heap.size sg sc scap sL sps sxs → Calls Try.prog 12 #[.pointer (some ⟨sg, 0, none⟩)] W fun e w' => e = .returned (.tuple #[.string y, .bool ok]) ∧ ∃ ps', QS.QAt w' w.heap.size sg sc scap sL ps' xs' ∧ Turned W w' sg (some sc)) := by
                    have hque := HQU.out
                    have hps : sps.length = sxs.length := QS.Things.len (show QS.Things wo sps sxs from hque.th)
                    cases sxs with
                    | nil =>
                      have hp0 : sps = [] := by simpa using hps
                      subst hp0
                      exact ⟨false, ⟨#[]⟩, [], sa, sk, fun W _ => rtake_none sa sk _ _ W, fun W hb => HDO.out.below hb, fun W hq => (QS.Take_none W hq).mono fun e w' ⟨h1, h2, h3⟩ => ⟨h1, [], h2, Turned.ofBelow _ _ h3⟩⟩
                    | cons y xs' =>
                      obtain ⟨p, ps', rfl⟩ : ∃ p ps', sps = p :: ps' := by
                        cases sps with
                        | nil => simp at hps
                        | cons p ps' => exact ⟨p, ps', rfl⟩
                      have htop2 : xs'.length + 1 ≤ scap := by simpa using htop
                      refine ⟨true, y, xs', tailAt sa sk 1, sk - 1, fun W hb => ?_, fun W hb => ?_, fun W hq => (QS.Take_some W hq).mono fun e w' ⟨h1, h2, h3⟩ => ⟨h1, ps', h2, h3⟩⟩
                      · have := rtake_some sa (y :: xs').length sk (scap : Int) sL y xs' W (HDO.out.st.below hb) (by simp; omega)
                        simpa using this
                      · have hd := HDO.out
                        have hnc := hd.nc
                        have hst := (hd.st.below hb).tail (m := 1) (by simp) hnc
                        exact ⟨by simpa using hst, fun h => by have := tailAt_none hd.nil h; simpa using this, by simp only; simp only [List.length_cons] at hnc; omega, hd.lr, by simp only; omega, hcp⟩
                  obtain ⟨ok, y, xs', a', k', hr, hd, hq⟩ := hTK
                  have HRT := Lib.hid (hr wo (Below.refl _ _))
                  have HD := Lib.hid hd
                  have HTQ := Lib.hid hq
                  clear hr hd hq
                  go_wp2_with fail
                  refine HRT.out.mono ?_
                  rintro e w5 ⟨rfl, hb5⟩
                  have hbc := below_alloc w5 (.cells #[.slice a' xs'.length k', .int .i64 (scap : Int), .int .i64 sL] 29)
                  have hbx : Below wo.heap.size wo (w5.alloc (.cells #[.slice a' xs'.length k', .int .i64 (scap : Int), .int .i64 sL] 29)) := hb5.trans (hbc.mono hb5.size)
                  have hbq : Whole (w5.alloc (.cells #[.slice a' xs'.length k', .int .i64 (scap : Int), .int .i64 sL] 29)) w5.heap.size 29 #[.slice a' xs'.length k', .int .i64 (scap : Int), .int .i64 sL] := heap_alloc_new _ _
                  have hbqo : wo.heap.size ≤ w5.heap.size := hb5.size
                  clear hb5 hbc d0 d1 d2 f0 f1 f2 e0 e1 hqc HRT
                  go_upto_region 28 with fail
                  generalize w5.alloc (.cells #[.slice a' xs'.length k', .int .i64 (scap : Int), .int .i64 sL] 29) = wc at *
                  generalize w5.heap.size = bq at *
                  have hJ := HPW.out.below hbx
                  obtain ⟨x0, x1, x2, _, _, _⟩ := three_of hbq
                  have hSo := HSS.out
                  have hwr := hJ.write hs2 (HD.out wc hbx) rfl (by rw [hSo])
                  rw [hSo] at hwr
                  simp only at hwr
                  obtain ⟨d0', d1', d2', f0', f1', f2'⟩ := hJ.wcell hs2
                  have hgwn : gw ≠ bq := by omega
                  have HWR := Lib.hid hwr
                  have hgwl2 := hJ.tw.lt
                  clear hwr hbq hSo hJ e2 hbx
                  go_upto_region 29 with fail
                  generalize ((wc.setCell ⟨gw, s * 3, none⟩ (.slice a' xs'.length k')).setCell ⟨gw, s * 3 + 1, none⟩ (.int .i64 (scap : Int))).setCell ⟨gw, s * 3 + 2, none⟩ (.int .i64 sL) = ws at *
                  have hq5 := HWR.out.q s hs2
                  rw [HSS.out] at hq5
                  have hq6 : QS.QAt ws w.heap.size sg sc scap sL sps sxs := hq5
                  have HQ5 := Lib.hid (HTQ.out ws hq6)
                  have kq := HWR.out.qcell hs2
                  rw [HSS.out] at kq
                  simp only at kq
                  clear hq5 hq6 x0 x1 x2 d0' d1' d2' f0' f1' f2' HTQ
                  go_wp2_with fail
                  refine HQ5.out.mono ?_
                  rintro e w6 ⟨rfl, ps', hq7, ht6⟩
                  have hsi := HSS.out
                  have ht7 : Turned ws w6 (S s).g (some (S s).c) := by rw [hsi]; exact ht6
                  have hj7 := HWR.out.turned hs2 ht7 (s := ⟨sg, sc, scap, sL, ps', xs', a', k'⟩) (by rw [hsi]) (by rw [hsi]) hq7
                  have HJ7 := Lib.hid (hj7.both rfl rfl rfl rfl rfl)
                  clear hq7 ht6 hsi ht7 hj7
                  go_wp2_with fail
                  go_meet
                  exact ⟨_, HJ7.out⟩
                · by_cases k2 : kd = 2
                  · subst k2
                    clear k0 k1
                    have hquo : QS.QAt wo w.heap.size sg sc scap sL sps sxs := HQU.out
                    have HAL := Lib.hid (QS.All_any wo.drew (hquo.drewN 1))
                    have HKQ := Lib.hid (fun W (ht : Turned wo.drew W sg (some sc)) => (show W.cell? ⟨gq, s, none⟩ = some (.pointer (some ⟨sg, 0, none⟩)) ∧ W.cell? ⟨gw, s * 3, none⟩ = some (.slice sa sxs.length sk) from by
                      have h1 := HPW.out.tq
                      have h2 := HPW.out.tw
                      exact ⟨(QS.Turned.at ht h1.lt (whole_ne h1 hquo.blk (by decide)) (by have := hquo.ch.no h1; simpa using this) s).trans hqc, (QS.Turned.at ht h2.lt (whole_ne h2 hquo.blk (by decide)) (by have := hquo.ch.no h2; simpa using this) (s * 3)).trans d0⟩))
                    have HST := Lib.hid (fun W (ht : Turned wo.drew W sg (some sc)) => (show Strs W w.heap.size sa sxs.length sxs from Strs.turned (w := wo.drew) HDO.out.st.drewQ (hquo.drewN 1) ht))
                    have hxl : sxs.length ≤ 4096 := by omega
                    clear hquo
                    go_upto_region 33 with fail
                    go_region_held3 (fun W : World => W.cell? ⟨gq, s, none⟩ = some (.pointer (some ⟨sg, 0, none⟩)) ∧ W.cell? ⟨gw, s * 3, none⟩ = some (.slice sa sxs.length sk)) (first | exact ⟨hqc, d0⟩ | exact HKQ.out _ HT7.out | exact HKQ.out _ HT6.out) (first
                      | (go_at_call 14
                         refine HAL.out.mono ?_
                         rintro e w6 ⟨v, rfl, hown, hq6, ht6⟩
                         obtain ⟨va, vc, rfl, hst6, _⟩ := Strs.owned (B := 0) hown
                         have HT6 := Lib.hid ht6
                         have HQ6 := Lib.hid hq6
                         have HS6 := Lib.hid hst6
                         clear hown hq6 ht6 hst6)
                      | (go_at_call 13
                         refine (texts_any va sxs.length vc sxs sa sxs.length sk w6 HS6.out (HST.out _ HT6.out) (by omega)).mono ?_
                         rintro e w7 ⟨rfl, hb7⟩
                         have HT7 := Lib.hid (QS.Turned.below_right HT6.out hb7)
                         have HQ7 := Lib.hid (HQ6.out.below hb7)
                         clear hb7))
                    have hsi := HSS.out
                    have ht7 : Turned wo.drew w7 (S s).g (some (S s).c) := by rw [hsi]; exact HT7.out
                    have hj7 := (HPW.out.below (below_drewN wo 1)).turned hs2 ht7 (s := ⟨sg, sc, scap, sL, [], [], none, 0⟩) (by rw [hsi]) (by rw [hsi]) HQ7.out
                    obtain ⟨_, _, _, y0, _, _⟩ := hj7.wcell hs2
                    have hgw7 := hj7.tw.lt
                    have yc := (hj7.wcell hs2).1
                    have hj8 := hj7.clear hs2
                    have HJ8 := Lib.hid (hj8.both rfl rfl rfl (by rw [hsi]) (by rw [hsi]))
                    clear hsi ht7 hj7 hj8 d0 d1 d2 f0 f1 f2 hqc
                    go_wp2_with fail
                    go_meet
                    exact ⟨_, HJ8.out⟩
                  · by_cases k3 : kd = 3
                    · subst k3
                      clear k0 k1 k2
                      obtain ⟨r, hsr, hr2, hrs⟩ : ∃ r : Nat, (1 : Int) - (s : Int) = (r : Int) ∧ r < 2 ∧ r ≠ s := ⟨1 - s, by omega, by omega, by omega⟩
                      have hsw : IntKind.i64.wrap (1 - (s : Int)) = (r : Int) := by rw [IntWalk.i64_in _ (by omega)]; exact hsr
                      have hsw2 : IntKind.i64.wrap (r : Int) = (r : Int) := IntWalk.i64_in _ (by omega)
                      clear hsr
                      have hri0 : (0 : Int) ≤ (r : Int) := by omega
                      have hri2 : (r : Int) < 2 := by omega
                      have hqr := HPW.out.qcell hr2
                      obtain ⟨b0, b1, b2, _, _, _⟩ := HPW.out.wcell hr2
                      have hqur := HPW.out.q r hr2
                      have hdor := HPW.out.d r hr2
                      rcases hSr : S r with ⟨rg, rc, rcap, rL, rps, rxs, ra, rk⟩
                      rw [hSr] at hqr b0 b1 b2 hqur hdor
                      have HSR := Lib.hid hSr
                      simp only at hqr b0 b1 b2
                      have hrtop := hdor.top
                      have hrcp := hdor.cp
                      simp only at hrtop hrcp
                      have HQR := Lib.hid hqur
                      have HDR := Lib.hid hdor
                      clear hSr hqur hdor
                      obtain ⟨kk, hkk⟩ : ∃ kk, kk = min sxs.length (rcap - rxs.length) := ⟨_, rfl⟩
                      obtain ⟨n1, hn1⟩ : ∃ n1, n1 = sxs.length - kk := ⟨_, rfl⟩
                      obtain ⟨n2, hn2⟩ : ∃ n2, n2 = rxs.length + kk := ⟨_, rfl⟩
                      have hpo := fun (W : World) (hb : Below wo.heap.size wo W) => rpour_any (B := w.heap.size) (n := sxs.length) (n2 := rxs.length) (cap := scap) (cap2 := rcap) sa sk sxs ra rk rxs sL rL W (HDO.out.st.below hb) HDO.out.nil HDO.out.nc (HDR.out.st.below hb) HDR.out.nil HDR.out.nc (Nat.le_trans hwl hb.size) hrcp hrtop (by omega) HDR.out.lr
                      unfold RPourPost at hpo
                      rw [← hkk, ← hn1, ← hn2] at hpo
                      have HPO := Lib.hid hpo
                      have hl1 : (sxs.drop (rcap - rxs.length)).length = n1 := by rw [List.length_drop]; omega
                      have hl2 : (rxs ++ sxs.take (rcap - rxs.length)).length = n2 := by rw [List.length_append, List.length_take]; omega
                      have hl3 : n1 ≤ scap ∧ n2 ≤ rcap := by omega
                      have HKK := Lib.hid hkk
                      have HL1 := Lib.hid hl1
                      have HL2 := Lib.hid hl2
                      have HL3 := Lib.hid hl3
                      clear hpo hkk hn1 hn2 hl1 hl2 hl3
                      go_upto_region 37 with fail
                      go_cut [21, 22, 23] (fun p1 p2 nv wx => ∃ (b1 b2 : Nat) (a1 : Option Addr) (c1 : Nat) (a2 : Option Addr) (c2 : Nat), p1 = .pointer (some ⟨b1, 0, none⟩) ∧ p2 = .pointer (some ⟨b2, 0, none⟩) ∧ nv = .int .i64 (kk : Int) ∧ Whole wx b1 29 #[.slice a1 n1 c1, .int .i64 (scap : Int), .int .i64 sL] ∧ Whole wx b2 29 #[.slice a2 n2 c2, .int .i64 (rcap : Int), .int .i64 rL] ∧ wo.heap.size ≤ b1 ∧ wo.heap.size ≤ b2 ∧ Below wo.heap.size wo wx ∧ DocAt w wx ⟨sg, sc, scap, sL, sps, sxs.drop (rcap - rxs.length), a1, c1⟩ ∧ DocAt w wx ⟨rg, rc, rcap, rL, rps, rxs ++ sxs.take (rcap - rxs.length), a2, c2⟩)
                      case first =>
                        as_aux_lemma =>
                          have HF1 := Lib.hid (fun W a' c' (hs : Strs W w.heap.size a' n1 (sxs.drop (rcap - rxs.length))) (hn : a' = none → n1 = 0 ∧ c' = 0) (hc : n1 ≤ c') => (show DocAt w W ⟨sg, sc, scap, sL, sps, sxs.drop (rcap - rxs.length), a', c'⟩ from by
                            have hl := HL1.out
                            exact ⟨by simp only; rw [hl]; exact hs, by simp only; rw [hl]; exact hn, by simp only; rw [hl]; exact hc, HDO.out.lr, by simp only; rw [hl]; exact HL3.out.1, hcp⟩))
                          have HF2 := Lib.hid (fun W a' c' (hs : Strs W w.heap.size a' n2 (rxs ++ sxs.take (rcap - rxs.length))) (hn : a' = none → n2 = 0 ∧ c' = 0) (hc : n2 ≤ c') => (show DocAt w W ⟨rg, rc, rcap, rL, rps, rxs ++ sxs.take (rcap - rxs.length), a', c'⟩ from by
                            have hl := HL2.out
                            exact ⟨by simp only; rw [hl]; exact hs, by simp only; rw [hl]; exact hn, by simp only; rw [hl]; exact hc, HDR.out.lr, by simp only; rw [hl]; exact HL3.out.2, hrcp⟩))
                          have HSK := Lib.hid (fun W (hb : Below wo.heap.size wo W) => (show (W.cell? ⟨gw, s * 3, none⟩ = some (.slice sa sxs.length sk) ∧ W.cell? ⟨gw, s * 3 + 1, none⟩ = some (.int .i64 (scap : Int)) ∧ W.cell? ⟨gw, s * 3 + 2, none⟩ = some (.int .i64 sL) ∧ W.cell? ⟨gw, r * 3, none⟩ = some (.slice ra rxs.length rk) ∧ W.cell? ⟨gw, r * 3 + 1, none⟩ = some (.int .i64 (rcap : Int)) ∧ W.cell? ⟨gw, r * 3 + 2, none⟩ = some (.int .i64 rL)) from ⟨(hb.cell (p := ⟨gw, s * 3, none⟩) hgwl).trans d0, (hb.cell (p := ⟨gw, s * 3 + 1, none⟩) hgwl).trans d1, (hb.cell (p := ⟨gw, s * 3 + 2, none⟩) hgwl).trans d2, (hb.cell (p := ⟨gw, r * 3, none⟩) hgwl).trans b0, (hb.cell (p := ⟨gw, r * 3 + 1, none⟩) hgwl).trans b1, (hb.cell (p := ⟨gw, r * 3 + 2, none⟩) hgwl).trans b2⟩))
                          go_region_held3 (fun W : World => W.cell? ⟨gw, s * 3, none⟩ = some (.slice sa sxs.length sk) ∧ W.cell? ⟨gw, s * 3 + 1, none⟩ = some (.int .i64 (scap : Int)) ∧ W.cell? ⟨gw, s * 3 + 2, none⟩ = some (.int .i64 sL) ∧ W.cell? ⟨gw, r * 3, none⟩ = some (.slice ra rxs.length rk) ∧ W.cell? ⟨gw, r * 3 + 1, none⟩ = some (.int .i64 (rcap : Int)) ∧ W.cell? ⟨gw, r * 3 + 2, none⟩ = some (.int .i64 rL)) ((refine HSK.out _ ?_; repeat' (first | with_reducible (exact HB4.out) | with_reducible (exact Below.refl _ _) | with_reducible (refine Below.alloc ?_ ?_ _) | with_reducible (refine Below.setCell ?_ ?_ _) | with_reducible (refine below_drewQ ?_) | with_reducible (exact below_drewN _ 1) | omega | (simp; done) | (simp; omega)))) (first
                            | (go_at_call 15
                               have hbase : Below wo.heap.size wo wo.drew := below_drewN _ 1
                               refine (HPO.out wo.drew hbase).mono ?_
                               rintro e w4 ⟨a1, c1, a2, c2, rfl, hs4, hn4, hc4, hs5, hn5, hc5, hb4⟩
                               have HB4 := Lib.hid (below_drew hb4)
                               have hsz4 := HB4.out.size
                               have HS4 := Lib.hid hs4
                               have HN4 := Lib.hid hn4
                               have HC4 := Lib.hid hc4
                               have HS5 := Lib.hid hs5
                               have HN5 := Lib.hid hn5
                               have HC5 := Lib.hid hc5
                               clear hs4 hn4 hc4 hs5 hn5 hc5 hb4 hbase)
                            | (go_at_call 15
                               have hbase : Below wo.heap.size wo (wo.alloc (.cells #[.slice none 0 0, .int .i64 0, .int .i64 0] 29)).drew := below_drewQ (below_alloc _ _)
                               refine (HPO.out (wo.alloc (.cells #[.slice none 0 0, .int .i64 0, .int .i64 0] 29)).drew hbase).mono ?_
                               rintro e w4 ⟨a1, c1, a2, c2, rfl, hs4, hn4, hc4, hs5, hn5, hc5, hb4⟩
                               have hb5 := below_drew hb4
                               have hz0 : Whole (wo.alloc (.cells #[.slice none 0 0, .int .i64 0, .int .i64 0] 29)) wo.heap.size 29 #[.slice none 0 0, .int .i64 0, .int .i64 0] := heap_alloc_new wo _
                               have hz := hz0.kept (hb5.block _ hz0.lt)
                               have HZ1 := Lib.hid hz
                               obtain ⟨y0, y1, y2, p0, p1, p2⟩ := three_of hz
                               have HB4 := Lib.hid ((below_alloc wo (.cells #[.slice none 0 0, .int .i64 0, .int .i64 0] 29)).trans (hb5.mono (by simp)))
                               have hsz4 : wo.heap.size + 1 ≤ w4.heap.size := by have := hb5.size; simpa using this
                               have ln0 := fun o => (late_one hz o).1
                               have ln1 := fun o => (late_one hz o).2.1
                               have ln2 := fun o => (late_one hz o).2.2.1
                               have ln3 := fun o => (late_one hz o).2.2.2.1
                               have ln4 := fun o => (late_one hz o).2.2.2.2.1
                               have ln5 := fun o => (late_one hz o).2.2.2.2.2
                               clear hz0 hz hb5
                               have HS4 := Lib.hid hs4
                               have HN4 := Lib.hid hn4
                               have HC4 := Lib.hid hc4
                               have HS5 := Lib.hid hs5
                               have HN5 := Lib.hid hn5
                               have HC5 := Lib.hid hc5
                               clear hs4 hn4 hc4 hs5 hn5 hc5 hb4 hbase)
                            | (go_at_call 15
                               have hbase : Below wo.heap.size wo ((wo.alloc (.cells #[.slice none 0 0, .int .i64 0, .int .i64 0] 29)).alloc (.cells #[.slice none 0 0, .int .i64 0, .int .i64 0] 29)).drew := below_drewQ ((below_alloc _ _).alloc (by simp) _)
                               refine (HPO.out ((wo.alloc (.cells #[.slice none 0 0, .int .i64 0, .int .i64 0] 29)).alloc (.cells #[.slice none 0 0, .int .i64 0, .int .i64 0] 29)).drew hbase).mono ?_
                               rintro e w4 ⟨a1, c1, a2, c2, rfl, hs4, hn4, hc4, hs5, hn5, hc5, hb4⟩
                               have hb5 := below_drew hb4
                               obtain ⟨hz1, hz2⟩ := box_new hb5
                               have HZ1 := Lib.hid hz1
                               have HZ2 := Lib.hid hz2
                               obtain ⟨y0, y1, y2, p0, p1, p2⟩ := three_of hz1
                               obtain ⟨x0, x1, x2, o0, o1, o2⟩ := three_of hz2
                               have HB4 := Lib.hid (((below_alloc wo (.cells #[.slice none 0 0, .int .i64 0, .int .i64 0] 29)).alloc (by simp) (.cells #[.slice none 0 0, .int .i64 0, .int .i64 0] 29)).trans (hb5.mono (by simp; omega)))
                               have hsz4 : wo.heap.size + 1 + 1 ≤ w4.heap.size := by have := hb5.size; simpa using this
                               clear hz1 hz2 hb5
                               have HS4 := Lib.hid hs4
                               have HN4 := Lib.hid hn4
                               have HC4 := Lib.hid hc4
                               have HS5 := Lib.hid hs5
                               have HN5 := Lib.hid hn5
                               have HC5 := Lib.hid hc5
                               clear hs4 hn4 hc4 hs5 hn5 hc5 hb4 hbase))
                          · go_wp2_with fail
                            go_meet
                            obtain ⟨k1, k2, kb⟩ := two_new w4 29 #[(.slice a1 n1 c1), (.int .i64 (scap : Int)), (.int .i64 sL)] #[(.slice a2 n2 c2), (.int .i64 (rcap : Int)), (.int .i64 rL)]
                            have hz4 := HB4.out.size
                            exact ⟨_, _, a1, c1, a2, c2, rfl, rfl, rfl, k1, k2, hz4, by omega, HB4.out.trans (kb.mono hz4), HF1.out _ a1 c1 (HS4.out.below kb) HN4.out HC4.out, HF2.out _ a2 c2 (HS5.out.below kb) HN5.out HC5.out⟩
                          · go_wp2_with fail
                            go_meet
                            obtain ⟨k2, k1, kb⟩ := two_new w4 29 #[(.slice a2 n2 c2), (.int .i64 (rcap : Int)), (.int .i64 rL)] #[(.slice a1 n1 c1), (.int .i64 (scap : Int)), (.int .i64 sL)]
                            have hz4 := HB4.out.size
                            exact ⟨_, _, a1, c1, a2, c2, rfl, rfl, rfl, k1, k2, by omega, hz4, HB4.out.trans (kb.mono hz4), HF1.out _ a1 c1 (HS4.out.below kb) HN4.out HC4.out, HF2.out _ a2 c2 (HS5.out.below kb) HN5.out HC5.out⟩
                          · go_wp2_with fail
                            go_meet
                            have hz4 := HB4.out.size
                            have b0 := below_alloc w4 (.cells #[.slice none 0 0, .int .i64 0, .int .i64 0] 29)
                            have z1 := HZ1.out.kept (b0.block _ HZ1.out.lt)
                            have z2 : Whole (w4.alloc (.cells #[.slice none 0 0, .int .i64 0, .int .i64 0] 29)) w4.heap.size 29 #[.slice none 0 0, .int .i64 0, .int .i64 0] := heap_alloc_new w4 _
                            have hne : w4.heap.size ≠ wo.heap.size := by omega
                            have k1 := set3_whole z1 (.slice a1 n1 c1) (.int .i64 (scap : Int)) (.int .i64 sL)
                            have k2 := set3_other z2 hne (.slice a1 n1 c1) (.int .i64 (scap : Int)) (.int .i64 sL)
                            have k1' := set3_other k1 hne.symm (.slice a2 n2 c2) (.int .i64 (rcap : Int)) (.int .i64 rL)
                            have k2' := set3_whole k2 (.slice a2 n2 c2) (.int .i64 (rcap : Int)) (.int .i64 rL)
                            have kb := set3_below (set3_below (HB4.out.trans (b0.mono hz4)) (Nat.le_refl _) (.slice a1 n1 c1) (.int .i64 (scap : Int)) (.int .i64 sL)) hz4 (.slice a2 n2 c2) (.int .i64 (rcap : Int)) (.int .i64 rL)
                            have s1 := set3_strs k2 (set3_strs z1 (HS4.out.below b0) hwl (.slice a1 n1 c1) (.int .i64 (scap : Int)) (.int .i64 sL)) (by omega) (.slice a2 n2 c2) (.int .i64 (rcap : Int)) (.int .i64 rL)
                            have s2 := set3_strs k2 (set3_strs z1 (HS5.out.below b0) hwl (.slice a1 n1 c1) (.int .i64 (scap : Int)) (.int .i64 sL)) (by omega) (.slice a2 n2 c2) (.int .i64 (rcap : Int)) (.int .i64 rL)
                            exact ⟨_, _, a1, c1, a2, c2, rfl, rfl, rfl, k1', k2', Nat.le_refl _, hz4, kb, HF1.out _ a1 c1 s1 HN4.out HC4.out, HF2.out _ a2 c2 s2 HN5.out HC5.out⟩
                          · go_wp2_with fail
                            go_meet
                            have z1 := HZ1.out
                            have z2 := HZ2.out
                            have hne : wo.heap.size + 1 ≠ wo.heap.size := by omega
                            have k1 := set3_whole z1 (.slice a1 n1 c1) (.int .i64 (scap : Int)) (.int .i64 sL)
                            have k2 := set3_other z2 hne (.slice a1 n1 c1) (.int .i64 (scap : Int)) (.int .i64 sL)
                            have k1' := set3_other k1 hne.symm (.slice a2 n2 c2) (.int .i64 (rcap : Int)) (.int .i64 rL)
                            have k2' := set3_whole k2 (.slice a2 n2 c2) (.int .i64 (rcap : Int)) (.int .i64 rL)
                            have kb := set3_below (set3_below HB4.out (Nat.le_refl _) (.slice a1 n1 c1) (.int .i64 (scap : Int)) (.int .i64 sL)) (Nat.le_succ _) (.slice a2 n2 c2) (.int .i64 (rcap : Int)) (.int .i64 rL)
                            have s1 := set3_strs k2 (set3_strs z1 HS4.out hwl (.slice a1 n1 c1) (.int .i64 (scap : Int)) (.int .i64 sL)) (by omega) (.slice a2 n2 c2) (.int .i64 (rcap : Int)) (.int .i64 rL)
                            have s2 := set3_strs k2 (set3_strs z1 HS5.out hwl (.slice a1 n1 c1) (.int .i64 (scap : Int)) (.int .i64 sL)) (by omega) (.slice a2 n2 c2) (.int .i64 (rcap : Int)) (.int .i64 rL)
                            exact ⟨_, _, a1, c1, a2, c2, rfl, rfl, rfl, k1', k2', Nat.le_refl _, Nat.le_succ _, kb, HF1.out _ a1 c1 s1 HN4.out HC4.out, HF2.out _ a2 c2 s2 HN5.out HC5.out⟩
                          · go_wp2_with fail
                            go_meet
                            have hz4 := HB4.out.size
                            have b0 := below_alloc w4 (.cells #[(.slice a1 n1 c1), (.int .i64 (scap : Int)), (.int .i64 sL)] 29)
                            have z2 := HZ1.out.kept (b0.block _ HZ1.out.lt)
                            have z1 : Whole (w4.alloc (.cells #[(.slice a1 n1 c1), (.int .i64 (scap : Int)), (.int .i64 sL)] 29)) w4.heap.size 29 #[(.slice a1 n1 c1), (.int .i64 (scap : Int)), (.int .i64 sL)] := heap_alloc_new w4 _
                            have hne : w4.heap.size ≠ wo.heap.size := by omega
                            have k1 := set3_other z1 hne (.slice a2 n2 c2) (.int .i64 (rcap : Int)) (.int .i64 rL)
                            have k2 := set3_whole z2 (.slice a2 n2 c2) (.int .i64 (rcap : Int)) (.int .i64 rL)
                            have kb := set3_below (HB4.out.trans (b0.mono hz4)) (Nat.le_refl _) (.slice a2 n2 c2) (.int .i64 (rcap : Int)) (.int .i64 rL)
                            have s1 := set3_strs z2 (HS4.out.below b0) hwl (.slice a2 n2 c2) (.int .i64 (rcap : Int)) (.int .i64 rL)
                            have s2 := set3_strs z2 (HS5.out.below b0) hwl (.slice a2 n2 c2) (.int .i64 (rcap : Int)) (.int .i64 rL)
                            exact ⟨_, _, a1, c1, a2, c2, rfl, rfl, rfl, k1, k2, hz4, Nat.le_refl _, kb, HF1.out _ a1 c1 s1 HN4.out HC4.out, HF2.out _ a2 c2 s2 HN5.out HC5.out⟩
                          · go_wp2_with fail
                            go_meet
                            have z2 := HZ1.out
                            have z1 := HZ2.out
                            have hne : wo.heap.size + 1 ≠ wo.heap.size := by omega
                            have k1 := set3_whole z1 (.slice a1 n1 c1) (.int .i64 (scap : Int)) (.int .i64 sL)
                            have k2 := set3_other z2 hne.symm (.slice a1 n1 c1) (.int .i64 (scap : Int)) (.int .i64 sL)
                            have k1' := set3_other k1 hne (.slice a2 n2 c2) (.int .i64 (rcap : Int)) (.int .i64 rL)
                            have k2' := set3_whole k2 (.slice a2 n2 c2) (.int .i64 (rcap : Int)) (.int .i64 rL)
                            have kb := set3_below (set3_below HB4.out (Nat.le_succ _) (.slice a1 n1 c1) (.int .i64 (scap : Int)) (.int .i64 sL)) (Nat.le_refl _) (.slice a2 n2 c2) (.int .i64 (rcap : Int)) (.int .i64 rL)
                            have s1 := set3_strs k2 (set3_strs z1 HS4.out (by omega) (.slice a1 n1 c1) (.int .i64 (scap : Int)) (.int .i64 sL)) hwl (.slice a2 n2 c2) (.int .i64 (rcap : Int)) (.int .i64 rL)
                            have s2 := set3_strs k2 (set3_strs z1 HS5.out (by omega) (.slice a1 n1 c1) (.int .i64 (scap : Int)) (.int .i64 sL)) hwl (.slice a2 n2 c2) (.int .i64 (rcap : Int)) (.int .i64 rL)
                            exact ⟨_, _, a1, c1, a2, c2, rfl, rfl, rfl, k1', k2', Nat.le_succ _, Nat.le_refl _, kb, HF1.out _ a1 c1 s1 HN4.out HC4.out, HF2.out _ a2 c2 s2 HN5.out HC5.out⟩
                      case rest =>
                        obtain ⟨x1, x2, a1, c1, a2, c2, rfl, rfl, rfl, hq1, hq2, hx1, hx2, hbx, hd1, hd2⟩ := hcut
                        have hJ := HPW.out.below hbx
                        obtain ⟨y0, y1, y2, _, _, _⟩ := three_of hq1
                        obtain ⟨z0, z1, z2, _, _, _⟩ := three_of hq2
                        have hw1 := hJ.write hs2 hd1 HL1.out (by rw [HSS.out])
                        rw [HSS.out] at hw1
                        simp only at hw1
                        have hd2' : DocAt w (((wc.setCell ⟨gw, s * 3, none⟩ (.slice a1 n1 c1)).setCell ⟨gw, s * 3 + 1, none⟩ (.int .i64 (scap : Int))).setCell ⟨gw, s * 3 + 2, none⟩ (.int .i64 sL)) ⟨rg, rc, rcap, rL, rps, rxs ++ sxs.take (rcap - rxs.length), a2, c2⟩ := by
                          have tw0 := hJ.tw
                          have tw1 := tw0.store (s * 3) (.slice a1 n1 c1)
                          have tw2 := tw1.store (s * 3 + 1) (.int .i64 (scap : Int))
                          exact ((hd2.far tw0 hJ.gew (by decide) _ _).far tw1 hJ.gew (by decide) _ _).far tw2 hJ.gew (by decide) _ _
                        have hw2 := hw1.write hr2 hd2' HL2.out (by rw [side_other _ _ hrs, HSR.out])
                        rw [side_other _ _ hrs, HSR.out] at hw2
                        simp only at hw2
                        obtain ⟨d0', d1', d2', f0', f1', f2'⟩ := hJ.wcell hs2
                        obtain ⟨e0', e1', e2', g0', g1', g2'⟩ := hJ.wcell hr2
                        have hgw1 : gw ≠ x1 := by omega
                        have hgw2 : gw ≠ x2 := by omega
                        have hgw1' := hgw1.symm
                        have hgw2' := hgw2.symm
                        have HW2 := Lib.hid hw2
                        have hgwl2 := hJ.tw.lt
                        clear hw1 hw2 hd1 hd2 hd2' hq1 hq2 hJ d0 d1 d2 f0 f1 f2 e0 e1 e2 hqc hqr hbx b0 b1 b2 HPO
                        go_upto_region 38 with fail
                        go_region
                        go_upto_region 39 with fail
                        generalize (((((wc.setCell ⟨gw, s * 3, none⟩ (.slice a1 n1 c1)).setCell ⟨gw, s * 3 + 1, none⟩ (.int .i64 (scap : Int))).setCell ⟨gw, s * 3 + 2, none⟩ (.int .i64 sL)).setCell ⟨gw, r * 3, none⟩ (.slice a2 n2 c2)).setCell ⟨gw, r * 3 + 1, none⟩ (.int .i64 (rcap : Int))).setCell ⟨gw, r * 3 + 2, none⟩ (.int .i64 rL) = ws at *
                        have hw3 : JPD w ws.drew gq gw S _ := HW2.out.below (below_drewN ws 1)
                        generalize ws.drew = wd at *
                        have HW3 := Lib.hid hw3
                        have hj := HW3.out
                        clear hw3 HW2
                        have kq := hj.qcell hs2
                        rw [HSS.out] at kq
                        simp only at kq
                        have kr := hj.qcell hr2
                        rw [HSR.out] at kr
                        simp only at kr
                        have hqs : QS.QAt wd w.heap.size sg sc scap sL sps sxs := by
                          have := hj.q s hs2
                          rw [HSS.out] at this
                          exact this
                        have hqr : QS.QAt wd w.heap.size rg rc rcap rL rps rxs := by
                          have := hj.q r hr2
                          rw [HSR.out] at this
                          exact this
                        obtain ⟨ng, nc⟩ := two_sides_ne hj hs2 hr2 hrs
                        rw [HSS.out, HSR.out] at ng nc
                        simp only at ng nc
                        have HPR := Lib.hid (QS.Pour_any wd.drew (hqs.drewN 1) (hqr.drewN 1) ng nc)
                        have HKQ := Lib.hid (fun W (ht : QS.Below2 wd.drew W sg sc rg rc) => (show W.cell? ⟨gq, s, none⟩ = some (.pointer (some ⟨sg, 0, none⟩)) ∧ W.cell? ⟨gq, r, none⟩ = some (.pointer (some ⟨rg, 0, none⟩)) from by
                          have h1 := HW3.out.tq
                          exact ⟨(QS.Below2.at ht h1.lt (whole_ne h1 hqs.blk (by decide)) (hqs.ch.no h1) (whole_ne h1 hqr.blk (by decide)) (hqr.ch.no h1) s).trans kq, (QS.Below2.at ht h1.lt (whole_ne h1 hqs.blk (by decide)) (hqs.ch.no h1) (whole_ne h1 hqr.blk (by decide)) (hqr.ch.no h1) r).trans kr⟩))
                        clear hj hqs hqr ng nc y0 y1 y2 z0 z1 z2 d0' d1' d2' f0' f1' f2' e0' e1' e2' g0' g1' g2'
                        go_region_held3 (fun W : World => W.cell? ⟨gq, s, none⟩ = some (.pointer (some ⟨sg, 0, none⟩)) ∧ W.cell? ⟨gq, r, none⟩ = some (.pointer (some ⟨rg, 0, none⟩))) (first | exact ⟨kq, kr⟩ | exact HKQ.out _ HT6.out) (first
                          | (go_at_call 16
                             refine HPR.out.mono ?_
                             rintro e w6 ⟨rfl, hq6, hr6, ht6⟩
                             rw [← HKK.out]
                             have HT6 := Lib.hid ht6
                             have HQ6 := Lib.hid hq6
                             have HR6 := Lib.hid hr6
                             clear hq6 hr6 ht6))
                        go_wp2_with fail
                        go_meet
                        obtain ⟨ps1, hq7⟩ := HQ6.out
                        obtain ⟨ps2, hr7⟩ := HR6.out
                        have ht7 : QS.Below2 wd.drew w6 (S s).g (S s).c (S r).g (S r).c := by rw [HSS.out, HSR.out]; exact HT6.out
                        have hj7 := (HW3.out.below (below_drewN wd 1)).poured hs2 hr2 hrs ht7 (s1 := ⟨sg, sc, scap, sL, ps1, sxs.drop (rcap - rxs.length), a1, c1⟩) (s2 := ⟨rg, rc, rcap, rL, ps2, rxs ++ sxs.take (rcap - rxs.length), a2, c2⟩) (by rw [HSS.out]) (by rw [HSS.out]) (by rw [HSR.out]) (by rw [HSR.out]) hq7 hr7
                        refine ⟨_, hj7.same fun k => ?_⟩
                        by_cases e1 : k = r
                        · subst e1
                          rw [side_same, side_same]
                          exact ⟨rfl, rfl, rfl, rfl, rfl⟩
                        · rw [side_other _ _ e1, side_other _ _ e1]
                          by_cases e2 : k = s
                          · subst e2
                            rw [side_same, side_same]
                            exact ⟨rfl, rfl, rfl, rfl, rfl⟩
                          · rw [side_other _ _ e2, side_other _ _ e2]
                            exact ⟨rfl, rfl, rfl, rfl, rfl⟩
                    · have g0 : (kd == 0) = false := by simpa using k0
                      have g1 : (kd == 1) = false := by simpa using k1
                      have g2 : (kd == 2) = false := by simpa using k2
                      have g3 : (kd == 3) = false := by simpa using k3
                      go_wp2_with fail
                      go_meet
                      exact ⟨_, HPW.out⟩
            case rest =>
              obtain ⟨S', hp⟩ := hcut
              clear HPW HLS HLS2 HOB hol c0 c1 c2
              have HP2 := Lib.hid hp
              clear hp
              go_wp2_with fail
              go_loopw [174] (fun tv ws => ∃ kx : Nat, kx ≤ 2 ∧ tv = .int .i64 kx ∧ JP w ws gq gw S') (fun tv _ => 2 - (intOf tv).toNat)
              case atStart => exact ⟨0, by omega, rfl, HP2.out⟩
              case round =>
                clear HP2
                obtain ⟨kx, hk2, rfl, hp⟩ := hrel
                by_cases hkl : kx < 2
                · have hqc := hp.qcell hkl
                  obtain ⟨d0, _, d2, _, _, _⟩ := hp.wcell hkl
                  have hque := hp.q kx hkl
                  have hdk := hp.d kx hkl
                  rcases hSs : S' kx with ⟨sg, sc, scap, sL, sps, sxs, sa, sk⟩
                  rw [hSs] at hqc d0 d2 hque hdk
                  simp only at hqc d0 d2
                  have hx1 := hdk.top
                  have hx2 := hdk.cp
                  simp only at hx1 hx2
                  have hqq : QS.QAt wr w.heap.size sg sc scap sL sps sxs := hque
                  have HLN := Lib.hid (fun m => (QS.len_any (wr.drewN m) (hqq.drewN m)).mono fun _ _ h => (show _ ∧ ∃ j, _ = (wr.drewN m).drewN j from ⟨h.1, 0, h.2.symm⟩))
                  have HLO := Lib.hid (fun m => (QS.lost_any (wr.drewN m) (hqq.drewN m)).mono fun _ _ h => (show _ ∧ ∃ j, _ = (wr.drewN m).drewN j from ⟨h.1, 0, h.2.symm⟩))
                  have HP3 := Lib.hid hp
                  have hki0 : (0 : Int) ≤ (kx : Int) := by omega
                  have hki2 : (kx : Int) < 2 := by omega
                  clear hque hdk hqq hp hSs
                  go_wp2_with fail
                  go_quiet ((first | (go_at_call 17; exact Calls.quiet_of (HLN.out _)) | (go_at_call 18; exact Calls.quiet_of (HLO.out _))))
                  go_wp2_with fail
                  exact ⟨⟨kx + 1, by omega, by go_num, HP3.out.below (below_drewN _ _)⟩, by simp [intOf]; omega⟩
                · have HP3 := Lib.hid hp
                  clear hp
                  obtain rfl : kx = 2 := by omega
                  go_wp2_with fail
                  exact ⟨⟨i + 1, S', by omega, by go_num, HP3.out⟩, by simp [intOf]; omega⟩
        · obtain rfl : i = n := by omega
          have hp := HP.out
          have hq0 : QS.QAt wr w.heap.size (S 0).g (S 0).c (S 0).cap (S 0).L (S 0).ps (S 0).xs := hp.q 0 (by omega)
          have hd0 := hp.d 0 (by omega)
          have hd1 := hp.d 1 (by omega)
          have ht0 := hd0.top
          have hc0 := hd0.cp
          have ht1 := hd1.top
          have hc1 := hd1.cp
          have HAL0 := Lib.hid (QS.All_any wr.drew (hq0.drewN 1))
          have HC0 := Lib.hid (hp.four rfl rfl)
          have HJ0 := Lib.hid (hp.below (below_drewN wr 1))
          clear hp hq0 hd0 hd1
          go_upto_region 48 with fail
          go_region_held3 (fun W : World => W.cell? ⟨gq, 0, none⟩ = some (.pointer (some ⟨(S 0).g, 0, none⟩)) ∧ W.cell? ⟨gw, 0, none⟩ = some (.slice (S 0).a (S 0).xs.length (S 0).k) ∧ W.cell? ⟨gq, 1, none⟩ = some (.pointer (some ⟨(S 1).g, 0, none⟩)) ∧ W.cell? ⟨gw, 3, none⟩ = some (.slice (S 1).a (S 1).xs.length (S 1).k)) (first | exact HC9.out | exact HC8.out | exact HC7.out | exact HC6.out | exact HC0.out) (first
            | (go_at_call 13
               refine (texts_any vb (S 1).xs.length vd (S 1).xs (S 1).a (S 1).xs.length (S 1).k w8 HS8.out (HJ8.out.d 1 (by omega)).st (by omega)).mono ?_
               rintro e w9 ⟨rfl, hb9⟩
               have HJ9 := Lib.hid (HJ8.out.below hb9)
               have HC9 := Lib.hid (HJ9.out.four (by rw [side_other _ _ (by omega), side_same]) (by rw [side_same]))
               clear hb9)
            | (go_at_call 14
               refine HAL1.out.mono ?_
               rintro e w8 ⟨v, rfl, hown, hq8, ht8⟩
               obtain ⟨vb, vd, rfl, hst8, _⟩ := Strs.owned (B := 0) hown
               have HS8 := Lib.hid hst8
               have HJ8 := Lib.hid (HJ7.out.turned (i := 1) (by omega) (show Turned w7 w8 (side S 0 ⟨(S 0).g, (S 0).c, (S 0).cap, (S 0).L, [], [], none, 0⟩ 1).g (some (side S 0 ⟨(S 0).g, (S 0).c, (S 0).cap, (S 0).L, [], [], none, 0⟩ 1).c) from by rw [side_other _ _ (by omega)]; exact ht8) (s := ⟨(S 1).g, (S 1).c, (S 1).cap, (S 1).L, [], [], none, 0⟩) (by rw [side_other _ _ (by omega)]) (by rw [side_other _ _ (by omega)]) hq8)
               have HC8 := Lib.hid (HJ8.out.four (by rw [side_other _ _ (by omega), side_same]) (by rw [side_same]))
               clear hown hq8 ht8 hst8)
            | (go_at_call 13
               refine (texts_any va (S 0).xs.length vc (S 0).xs (S 0).a (S 0).xs.length (S 0).k w6 HS6.out (HJ6.out.d 0 (by omega)).st (by omega)).mono ?_
               rintro e w7 ⟨rfl, hb7⟩
               have HJ7 := Lib.hid (HJ6.out.below hb7)
               have HC7 := Lib.hid (HJ7.out.four (by rw [side_same]) (by rw [side_other _ _ (by omega)]))
               have hq1 : QS.QAt w7 w.heap.size (S 1).g (S 1).c (S 1).cap (S 1).L (S 1).ps (S 1).xs := by
                 have := HJ7.out.q 1 (by omega)
                 rw [side_other _ _ (by omega)] at this
                 exact this
               have HAL1 := Lib.hid (QS.All_any w7 hq1)
               clear hb7 hq1)
            | (go_at_call 14
               refine HAL0.out.mono ?_
               rintro e w6 ⟨v, rfl, hown, hq6, ht6⟩
               obtain ⟨va, vc, rfl, hst6, _⟩ := Strs.owned (B := 0) hown
               have HS6 := Lib.hid hst6
               have HJ6 := Lib.hid (HJ0.out.turned (i := 0) (by omega) ht6 (s := ⟨(S 0).g, (S 0).c, (S 0).cap, (S 0).L, [], [], none, 0⟩) rfl rfl hq6)
               have HC6 := Lib.hid (HJ6.out.four (by rw [side_same]) (by rw [side_other _ _ (by omega)]))
               clear hown hq6 ht6 hst6))
          go_wp2
          go_ret
          exact ⟨rfl, HJ9.out.b⟩
end Go.Proofs.Ytmnbpgigdobehaa
