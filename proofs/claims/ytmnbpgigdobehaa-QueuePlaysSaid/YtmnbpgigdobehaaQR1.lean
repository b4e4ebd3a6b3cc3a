/- The document's queue: Put. -/
import Derived.Test.YtmnbpgigdobehaaQR0
namespace Go.Proofs.Ytmnbpgigdobehaa
open Go.RowKit Go.Conc

theorem Try.infoS : (Try.prog.info? 9).map (fun i => (i.zero, i.size, i.bytes)) = some (some (.string ⟨#[]⟩), 1, 16) := by kernel_rfl
/-- How many found no room. -/
def lostAt (L : Int) (r i : Nat) : Int := if i ≤ r then L else IntKind.i64.wrap (L + ((i : Int) - (r : Int)))
theorem lostAt_step (L : Int) (r i : Nat) (h : r ≤ i) : IntKind.i64.wrap (lostAt L r i + 1) = lostAt L r (i + 1) := by
  unfold lostAt
  rw [if_neg (by omega : ¬ i + 1 ≤ r)]
  split
  · obtain rfl : i = r := by omega
    congr 1
    omega
  · rw [IntKind.wrap_i64, IntKind.wrap_i64, IntKind.wrap_i64]
    omega
theorem lostAt_in (L : Int) (r i : Nat) (h : -9223372036854775808 ≤ L ∧ L ≤ 9223372036854775807) : -9223372036854775808 ≤ lostAt L r i ∧ lostAt L r i ≤ 9223372036854775807 := by
  unfold lostAt
  split
  · exact h
  · rw [IntKind.wrap_i64]
    omega
theorem box_new {w w1 : World} {t : TypeId} {a b c x y z : Value} (hb : Below ((w.alloc (.cells #[a, b, c] t)).alloc (.cells #[x, y, z] t)).heap.size ((w.alloc (.cells #[a, b, c] t)).alloc (.cells #[x, y, z] t)) w1) :
    Whole w1 w.heap.size t #[a, b, c] ∧ Whole w1 (w.heap.size + 1) t #[x, y, z] := by
  have hz : (w.alloc (.cells #[a, b, c] t)).heap.size = w.heap.size + 1 := by simp
  have h0 : Whole (w.alloc (.cells #[a, b, c] t)) w.heap.size t #[a, b, c] := heap_alloc_new w _
  have h1 : Whole ((w.alloc (.cells #[a, b, c] t)).alloc (.cells #[x, y, z] t)) (w.heap.size + 1) t #[x, y, z] := by rw [← hz]; exact heap_alloc_new _ _
  have h2 : Whole ((w.alloc (.cells #[a, b, c] t)).alloc (.cells #[x, y, z] t)) w.heap.size t #[a, b, c] := h0.kept ((below_alloc _ _).block _ h0.lt)
  exact ⟨h2.kept (hb.block _ h2.lt), h1.kept (hb.block _ h1.lt)⟩
theorem three_of {W : World} {gw : Nat} {t : TypeId} {a b c : Value} (h : Whole W gw t #[a, b, c]) : W.cell? ⟨gw, 0, none⟩ = some a ∧ W.cell? ⟨gw, 1, none⟩ = some b ∧ W.cell? ⟨gw, 2, none⟩ = some c ∧ W.frozen? ⟨gw, 0, none⟩ = false ∧ W.frozen? ⟨gw, 1, none⟩ = false ∧ W.frozen? ⟨gw, 2, none⟩ = false :=
  ⟨by rw [h.cell]; rfl, by rw [h.cell]; rfl, by rw [h.cell]; rfl, h.free 0, h.free 1, h.free 2⟩
/-- What a call of the document's Put keeps in its loop. -/
structure RPut (w wr : World) (B : Nat) (cap : Nat) (L : Int) (xs l : List ByteArray) (n r i : Nat) (a : Option Addr) (c : Nat) : Prop where
  q : Whole wr w.heap.size 29 #[.slice a (n + min i r) c, .int .i64 (cap : Int), .int .i64 (lostAt L r i)]
  o : Whole wr (w.heap.size + 1) 29 #[.slice none 0 0, .int .i64 0, .int .i64 0]
  s : Strs wr B a (n + min i r) (xs ++ l.take (min i r))
  nil : a = none → n + min i r = 0 ∧ c = 0
  nc : n + min i r ≤ c
  b : Below w.heap.size w wr

def RPutPost (w : World) (B cap n n2 : Nat) (L : Int) (xs l : List ByteArray) (e : Ending) (w' : World) : Prop :=
  ∃ a' c', e = .returned (.tuple #[.agg #[.slice a' (n + min n2 (cap - n)) c', .int .i64 (cap : Int), .int .i64 (lostAt L (cap - n) n2)], .int .i64 ((min n2 (cap - n) : Nat) : Int)]) ∧ Strs w' B a' (n + min n2 (cap - n)) (xs ++ l.take (cap - n)) ∧ (a' = none → n + min n2 (cap - n) = 0 ∧ c' = 0) ∧ n + min n2 (cap - n) ≤ c' ∧ Below w.heap.size w w'
set_option maxRecDepth 100000 in
set_option maxHeartbeats 4000000 in
theorem rput_any {B cap n n2 : Nat} (a : Option Addr) (c : Nat) (xs : List ByteArray) (a2 : Option Addr) (c2 : Nat) (l : List ByteArray) (L : Int) (w : World) (h : Strs w B a n xs) (h2 : Strs w B a2 n2 l) (hnil : a = none → n = 0 ∧ c = 0) (hnc : n ≤ c) (hB : B ≤ w.heap.size) (hcap : cap ≤ 4096) (hn : n ≤ cap) (hn2 : n2 ≤ 9223372036854775806) (hL : -9223372036854775808 ≤ L ∧ L ≤ 9223372036854775807) :
    Calls Try.prog 9 #[.agg #[.slice a n c, .int .i64 (cap : Int), .int .i64 L], .slice a2 n2 c2] w fun e w' => RPutPost w B cap n n2 L xs l e w' := by
  obtain ⟨i0, hi, hz0, hz1, hz2⟩ := QS.info_of Try.infoS
  obtain ⟨r, hr⟩ : ∃ r, r = cap - n := ⟨_, rfl⟩
  have HR := Lib.hid hr
  clear hr
  have hb0 := ((Below.refl w.heap.size w).alloc (Nat.le_refl _) (.cells #[.slice a n c, .int .i64 (cap : Int), .int .i64 L] 29)).alloc (by simp) (.cells #[.slice none 0 0, .int .i64 0, .int .i64 0] 29)
  obtain ⟨hq0, ho0⟩ := box_new (w := w) (t := 29) (a := .slice a n c) (b := .int .i64 (cap : Int)) (c := .int .i64 L) (x := .slice none 0 0) (y := .int .i64 0) (z := .int .i64 0) (Below.refl _ _)
  have hP0 : RPut w ((w.alloc (.cells #[.slice a n c, .int .i64 (cap : Int), .int .i64 L] 29)).alloc (.cells #[.slice none 0 0, .int .i64 0, .int .i64 0] 29)) B cap L xs l n r 0 a c :=
    ⟨by simpa [lostAt] using hq0, ho0, by simpa using h.below hb0, by simpa using hnil, by simpa using hnc, hb0⟩
  have HP0 := Lib.hid hP0
  have HA2 := Lib.hid h2
  clear hb0 hq0 ho0 hP0 h h2 hnil hnc
  go_enter Try.func9, Try.ntmps9
  go_wp2
  go_loopw [6, 7] (fun t6 t7 wr => ∃ (i : Nat) (a' : Option Addr) (c' : Nat), i ≤ n2 ∧ t7 = .int .i64 i ∧ t6 = .int .i64 ((min i r : Nat) : Int) ∧ RPut w wr B cap L xs l n r i a' c') (fun _ t7 _ => n2 - (intOf t7).toNat)
  case atStart => exact ⟨0, a, c, by omega, rfl, by simp, HP0.out⟩
  case round =>
    obtain ⟨i, a', c', hin, rfl, rfl, hp⟩ := hrel
    obtain ⟨q0, q1, q2, f0, f1, f2⟩ := three_of hp.q
    have hwl := hp.b.size
    have hql := hp.q.lt
    have hol := hp.o.lt
    have HP := Lib.hid hp
    clear hp
    by_cases hil : i < n2
    · by_cases hir : i < r
      · have hmin : min i r = i := by omega
        have hp := HP.out
        rw [hmin] at q0 
        obtain ⟨x, hx⟩ : ∃ x, l[i]? = some x := ⟨_, List.getElem?_eq_getElem (show i < l.length by rw [HA2.out.1]; exact hil)⟩
        obtain ⟨b2, off2, rfl, hbl2, hloc2, hc2⟩ := HA2.out.2.resolve_left (by omega)
        have cx := (hp.b.cell (p := ⟨b2, off2 + i, none⟩) hbl2).trans (hc2 i x hx)
        have hbw : b2 < wr.heap.size := Nat.lt_of_lt_of_le hbl2 hwl
        have hnm : n + i < cap := by have := HR.out; omega
        have hs := hp.s
        have hnil := hp.nil
        have hnc := hp.nc
        rw [hmin] at hs hnil hnc
        obtain ⟨X, hX⟩ : ∃ X, X = xs ++ l.take i := ⟨_, rfl⟩
        rw [← hX] at hs
        obtain ⟨m, hm⟩ : ∃ m, m = n + i := ⟨_, rfl⟩
        rw [← hm] at hs hnil hnc hnm q0
        have HM := Lib.hid hm
        have HXX := Lib.hid hX
        have HMIN := Lib.hid hmin
        have HS := Lib.hid hs
        have HNIL := Lib.hid hnil
        have HX := Lib.hid hx
        have hmc : (m : Int) < (cap : Int) := by omega
        clear hp hs hnil hm hX hc2 hx hnc hloc2
        go_wp2_with (first
          | (at_builtin; (refine wpList_append_at_any _ rfl (.tmp 21) (.tmp 23) 27 rfl wr.heap.size 9 i0 (.string ⟨#[]⟩) 1 16 Try.underlying27 hi hz0 hz1 hz2 rfl (by decide) _ 0 [] rfl (World.ownsRow_made _ _ 0 (Nat.le_refl _) (by simp [maxLen]) rfl) a' m c' (X.map Value.string) rfl (by simp [HS.out.1]) HNIL.out (HS.out.below (below_alloc _ _)).news (oneCell_strs X) (by unfold maxLen; omega) (by omega) (by simp) ?_); intro v2 w2 hown2 hgrow2 hat2; have hown2' : w2.ownsRow wr.heap.size 9 1 v2 m (X.map Value.string) := by simpa using hown2
             have hB2 : Below wr.heap.size wr w2 := (below_alloc wr _).grown hgrow2 (by simp) (by rintro q ⟨⟩; exact Nat.le_refl _)
             have cx2 := (hB2.cell (p := ⟨b2, off2 + i, none⟩) hbw).trans cx
             obtain ⟨av, cv, rfl, _, _⟩ := owned_any hown2'
             have HO2 := Lib.hid hown2'; have HB2 := Lib.hid hB2; have hz2' := hB2.size; clear hown2 hgrow2 hat2 hown2' hB2 cx q0 q1 q2 f0 f1 f2)
          | (at_builtin; (refine wpList_append_at_any _ rfl (.tmp 25) (.tmp 30) 27 rfl wr.heap.size 9 i0 (.string ⟨#[]⟩) 1 16 Try.underlying27 hi hz0 hz1 hz2 rfl (by decide) _ m (X.map Value.string) rfl (HO2.out.alloc _) (some ⟨w2.heap.size, 0, none⟩) 1 1 [.string x] rfl rfl (by intro h; cases h) (by rintro ad he; injection he with he; subst he; exact cell_one_new _ _ _) (by intro q hq; simp at hq; subst hq; rfl) (by unfold maxLen; omega) (by omega) (by simp; omega) ?_); intro v3 w3 hown3 hgrow3 hat3; have hB3 : Below wr.heap.size wr w3 := (HB2.out.alloc hz2' _).grown hgrow3 (by simp; omega) (fun q hq => ((HO2.out.alloc (.cells #[.string x] 9)).lt q hq).1)
             have hW3 := HP.out.q.kept (hB3.block _ hql)
             have hO3 := HP.out.o.kept (hB3.block _ hol)
             obtain ⟨g0, g1, g2, f0, f1, f2⟩ := three_of hW3
             rw [show X.map Value.string ++ [Value.string x] = (X ++ [x]).map Value.string by simp] at hown3
             obtain ⟨a3, c3, rfl, hs3, hn3, hnc3, _⟩ := Strs.owned (B := B) hown3
             have HS3 := Lib.hid hs3; have HN3 := Lib.hid hn3; have HNC3 := Lib.hid hnc3
             have HW3 := Lib.hid hW3; have HOO := Lib.hid hO3; have HB3 := Lib.hid hB3; have hz3 := hB3.size; clear hB3 hW3 hO3 hown3 hgrow3 hat3 hs3 hn3 hnc3))
        go_roundw
        case rel =>
          refine ⟨i + 1, a3, c3, by omega, by go_num, by rw [show min (i + 1) r = i + 1 by omega]; go_num, ?_⟩
          have e1 : min (i + 1) r = i + 1 := by omega
          have e2 : lostAt L r (i + 1) = lostAt L r i := by unfold lostAt; rw [if_pos (by omega), if_pos (by omega)]
          have e3 : n + (i + 1) = m + 1 := by rw [HM.out]; omega
          have e4 : xs ++ l.take (i + 1) = X ++ [x] := by rw [HXX.out, List.append_assoc, QS.take_snoc' HX.out]
          refine ⟨?_, ?_, ?_, ?_, ?_, ?_⟩
          · rw [e1, e2, e3]
            have := HW3.out.store 0 (.slice a3 (m + 1) c3)
            simpa using this
          · exact HOO.out.kept (Below.heap_setCell _ _ _ _ (by simp))
          · rw [e1, e3, e4]
            exact HS3.out.setCell HW3.out (by decide) hB 0 _
          · rw [e1, e3]
            exact HN3.out
          · rw [e1, e3]
            exact HNC3.out
          · exact (HP.out.b.trans (HB3.out.mono hwl)).setCell (p := ⟨w.heap.size, 0, none⟩) (Nat.le_refl _) _
        case measure => simp [intOf]; omega
      · have hmin : min i r = r := by omega
        have hnr : n + r = cap := by have := HR.out; omega
        rw [hmin, hnr] at q0
        rw [hmin]
        have hst := lostAt_step L r i (by omega)
        have hli := lostAt_in L r i hL
        have hli2 := lostAt_in L r (i + 1) hL
        obtain ⟨Li, hLi⟩ : ∃ x, x = lostAt L r i := ⟨_, rfl⟩
        obtain ⟨Lj, hLj⟩ : ∃ x, x = lostAt L r (i + 1) := ⟨_, rfl⟩
        rw [← hLi] at q2 hst hli
        rw [← hLj] at hst hli2
        have HLJ := Lib.hid hLj
        have HMIN := Lib.hid hmin
        have HNR := Lib.hid hnr
        clear hmin hnr hLi hLj
        go_wp2_with fail
        go_roundw
        case rel =>
          have e1 : min i r = r := HMIN.out
          have e2 : min (i + 1) r = r := by omega
          have hp := HP.out
          refine ⟨i + 1, a', c', by omega, by go_num, by rw [e2], ?_⟩
          refine ⟨?_, ?_, ?_, ?_, ?_, ?_⟩
          · rw [e2, ← HLJ.out]
            have := hp.q.store 2 (.int .i64 Lj)
            rw [e1] at this
            simpa using this
          · exact hp.o.kept (Below.heap_setCell _ _ _ _ (by simp))
          · rw [e2]
            have := hp.s.setCell hp.q (by decide) hB 2 (.int .i64 Lj)
            rwa [e1] at this
          · rw [e2]; have := hp.nil; rwa [e1] at this
          · rw [e2]; have := hp.nc; rwa [e1] at this
          · exact hp.b.setCell (p := ⟨w.heap.size, 2, none⟩) (Nat.le_refl _) _
        case measure => simp [intOf]; omega
    · obtain rfl : i = n2 := by omega
      obtain ⟨o0, o1, o2, p0, p1, p2⟩ := three_of HP.out.o
      obtain ⟨k, hk⟩ : ∃ k, k = min i r := ⟨_, rfl⟩
      obtain ⟨m, hm⟩ : ∃ m, m = n + k := ⟨_, rfl⟩
      obtain ⟨Li, hLi⟩ : ∃ x, x = lostAt L r i := ⟨_, rfl⟩
      rw [← hk, ← hm] at q0
      rw [← hLi] at q2
      rw [← hk]
      have hs := HP.out.s
      have hnil := HP.out.nil
      have hnc := HP.out.nc
      have hbb := HP.out.b
      rw [← hk, ← hm] at hs hnil hnc
      have hl : l.take k = l.take r := by
        rw [hk]
        rcases Nat.le_total i r with h1 | h1
        · rw [Nat.min_eq_left h1, List.take_of_length_le (by rw [HA2.out.1]; exact Nat.le_refl _), List.take_of_length_le (by rw [HA2.out.1]; exact h1)]
        · rw [Nat.min_eq_right h1]
      rw [hl] at hs
      have HO := Lib.hid HP.out.o
      have HQQ := Lib.hid HP.out.q
      have HS := Lib.hid hs
      have HNIL := Lib.hid hnil
      have HNC := Lib.hid hnc
      have HBB := Lib.hid hbb
      have HK := Lib.hid hk
      have HM := Lib.hid hm
      have HLI := Lib.hid hLi
      clear hs hnil hnc hbb hl hm hk hLi HP
      go_wp2
      refine bodyPost_ret (v := .tuple #[.agg #[.slice a' m c', .int .i64 (cap : Int), .int .i64 Li], .int .i64 (k : Int)]) (by simp [results, Try.results9, go_sem, o0, o1, o2]) rfl ?_
      rw [HM.out, HK.out, HLI.out, HR.out]
      refine ⟨a', c', rfl, ?_, ?_, ?_, ?_⟩
      · have := HS.out
        rw [HM.out, HK.out, HR.out] at this
        exact ((this.setCell HO.out (by decide) (by omega) 0 _).setCell (HO.out.store 0 _) (by decide) (by omega) 1 _).setCell ((HO.out.store 0 _).store 1 _) (by decide) (by omega) 2 _
      · have := HNIL.out
        rwa [HM.out, HK.out, HR.out] at this
      · have := HNC.out
        rwa [HM.out, HK.out, HR.out] at this
      · repeat (refine Below.setCell ?_ (by simp) _)
        exact HBB.out
end Go.Proofs.Ytmnbpgigdobehaa
