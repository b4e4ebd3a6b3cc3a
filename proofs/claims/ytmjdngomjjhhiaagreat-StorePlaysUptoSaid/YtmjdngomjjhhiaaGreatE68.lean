/- The document's tuples with one more. -/
import Derived.Test.YtmjdngomjjhhiaaGreatE67
namespace Go.Proofs.YtmjdngomjjhhiaaGreat
open Go.RowKit
open Go.Maps (Keyed)

theorem rthere_any (x : Rw) (rev : Int) (w : World) :
    Calls Tryz.prog 76 #[rwV x, .int .i64 rev] w fun e w' => e = .returned (.bool (alive rev x)) ∧ Below w.heap.size w w' := by
  have HB := Lib.hid (show Below w.heap.size w (w.alloc (.cells #[.string x.t.o, .string x.t.r, .string x.t.u, .int .i64 x.s, .int .i64 x.u] 46)) from below_alloc _ _)
  obtain ⟨t, s, u⟩ := x
  have hac : (¬ s ≤ rev ∧ alive rev ⟨t, s, u⟩ = false) ∨ (s ≤ rev ∧ u = 0 ∧ alive rev ⟨t, s, u⟩ = true) ∨ (s ≤ rev ∧ u ≠ 0 ∧ rev < u ∧ alive rev ⟨t, s, u⟩ = true) ∨ (s ≤ rev ∧ u ≠ 0 ∧ ¬ rev < u ∧ alive rev ⟨t, s, u⟩ = false) := by
    by_cases h1 : s ≤ rev
    · by_cases h2 : u = 0
      · exact .inr (.inl ⟨h1, h2, alive_open h1 h2⟩)
      · by_cases h3 : rev < u
        · exact .inr (.inr (.inl ⟨h1, h2, h3, alive_late h1 h3⟩))
        · exact .inr (.inr (.inr ⟨h1, h2, h3, alive_over h2 (show u ≤ rev by omega)⟩))
    · exact .inl ⟨h1, alive_no1 h1⟩
  rcases hac with ⟨h1, h⟩ | ⟨h1, h2, h⟩ | ⟨h1, h2, h3, h⟩ | ⟨h1, h2, h3, h⟩
  case' inr.inl => subst h2
  case' inr.inr.inl => have hz : (u == 0) = false := by simp [h2]
  case' inr.inr.inr => have hz : (u == 0) = false := by simp [h2]
  all_goals
    rw [h]
    clear h
    go_enter Tryz.func76, Tryz.ntmps76
    go_wp2
    go_ret
    exact ⟨rfl, HB.out⟩
/-- What With has written behind some tuples. -/
def insG (t : Tp) (l : List Tp) : List Tp := if l.any (ltT t) = true then insT ltT t l else l
theorem insT_snoc (t x : Tp) : ∀ l : List Tp, l.any (ltT t) = true → insT ltT t (l ++ [x]) = insT ltT t l ++ [x] := by
  intro l
  induction l with
  | nil => intro h; simp at h
  | cons y l ih =>
    intro h
    by_cases hy : ltT t y = true
    · show (if ltT t y then t :: y :: (l ++ [x]) else y :: insT ltT t (l ++ [x])) = (if ltT t y then t :: y :: l else y :: insT ltT t l) ++ [x]
      rw [if_pos hy, if_pos hy]; rfl
    · have h2 : l.any (ltT t) = true := by
        rw [List.any_cons] at h
        simpa [hy] using h
      show (if ltT t y then t :: y :: (l ++ [x]) else y :: insT ltT t (l ++ [x])) = (if ltT t y then t :: y :: l else y :: insT ltT t l) ++ [x]
      rw [if_neg hy, if_neg hy, ih h2]; rfl
theorem insT_none (t : Tp) (m : List Tp) : ∀ l : List Tp, l.any (ltT t) = false → insT ltT t (l ++ m) = l ++ insT ltT t m := by
  intro l
  induction l with
  | nil => intro _; rfl
  | cons y l ih =>
    intro h
    rw [List.any_cons, Bool.or_eq_false_iff] at h
    show (if ltT t y then t :: y :: (l ++ m) else y :: insT ltT t (l ++ m)) = y :: (l ++ insT ltT t m)
    rw [if_neg (by simp [h.1]), ih h.2]
theorem insG_done {t x : Tp} {l : List Tp} (h : l.any (ltT t) = true) : insG t (l ++ [x]) = insG t l ++ [x] ∧ (l ++ [x]).any (ltT t) = true := by
  have h2 : (l ++ [x]).any (ltT t) = true := by rw [List.any_append, h]; rfl
  unfold insG
  rw [if_pos h, if_pos h2, insT_snoc t x l h]
  exact ⟨rfl, h2⟩
theorem insG_here {t x : Tp} {l : List Tp} (h : l.any (ltT t) = false) (hx : ltT t x = true) : insG t (l ++ [x]) = (insG t l ++ [t]) ++ [x] ∧ (l ++ [x]).any (ltT t) = true := by
  have h2 : (l ++ [x]).any (ltT t) = true := by rw [List.any_append, h]; simp [hx]
  unfold insG
  rw [h, if_neg Bool.false_ne_true, if_pos h2, insT_none t [x] l h]
  refine ⟨?_, h2⟩
  show l ++ (if ltT t x then [t, x] else _) = _
  rw [if_pos hx]; simp
theorem insG_past {t x : Tp} {l : List Tp} (h : l.any (ltT t) = false) (hx : ltT t x = false) : insG t (l ++ [x]) = insG t l ++ [x] ∧ (l ++ [x]).any (ltT t) = false := by
  have h2 : (l ++ [x]).any (ltT t) = false := by rw [List.any_append, h]; simp [hx]
  unfold insG
  rw [h, h2, if_neg Bool.false_ne_true, if_neg Bool.false_ne_true]
  exact ⟨rfl, rfl⟩
theorem insG_end (t : Tp) (l : List Tp) : insT ltT t l = if l.any (ltT t) = true then insG t l else insG t l ++ [t] := by
  unfold insG
  cases h : l.any (ltT t) with
  | true => simp
  | false =>
    have := insT_none t [] l h
    rw [List.append_nil] at this
    simp only [Bool.false_eq_true, if_false]
    rw [this]; rfl
theorem insG_len (t : Tp) (l : List Tp) : (insG t l).length ≤ l.length + 1 := by
  unfold insG
  split
  · have : ∀ l : List Tp, (insT ltT t l).length = l.length + 1 := by
      intro l
      induction l with
      | nil => rfl
      | cons y l ih =>
        show (if ltT t y then t :: y :: l else y :: insT ltT t l).length = _
        split <;> simp [ih]
    rw [this]; exact Nat.le_refl _
  · omega
/-- Tuples that a call writes. -/
structure OutT (w wr : World) (v : Value) (L : List Tp) : Prop where
  below : Below w.heap.size w wr
  row : wr.ownsRow w.heap.size 32 3 v L.length (L.flatMap tc)
theorem OutT.up {w wr w' : World} {v : Value} {L : List Tp} (h : OutT w wr v L) (hb : Below wr.heap.size wr w') : OutT w w' v L :=
  ⟨bell_up h.below hb, owns_keptN h.row (fun k hk => hb.block k (h.row.lt k hk).2)⟩
theorem OutT.next {w wr w' : World} {v v' : Value} {L : List Tp} (h : OutT w wr v L) (t : Tp) (hg : wr.grownBy w' v.ownBlock) (hown : w'.ownsRow w.heap.size 32 3 v' (L.length + 1) (L.flatMap tc ++ [.string t.o, .string t.r, .string t.u])) : OutT w w' v' (L ++ [t]) := by
  refine ⟨h.below.grown hg h.below.size (fun k e => (h.row.lt k e).1), ?_⟩
  rw [List.length_append, List.flatMap_append]
  exact hown
theorem lenAT (L : List Tp) (t : Tp) (h : L.length ≤ 1099511627800) : (L ++ [t]).length + 1 ≤ maxLen := by
  rw [List.length_append, List.length_singleton]; unfold maxLen; omega
theorem lenBT (L : List Tp) (t : Tp) (h : L.length ≤ 1099511627800) : ((L ++ [t]).length + 1) * 48 ≤ 140737488355328 := by
  rw [List.length_append, List.length_singleton]; omega
set_option maxHeartbeats 8000000 in
set_option maxRecDepth 100000 in
theorem twith_any {B : Nat} {v : Value} {R : List Tp} {w : World} (hR : w.ownsRow B 32 3 v R.length (R.flatMap tc)) (hB : B ≤ w.heap.size) (hn : R.length ≤ 1099511627776) (t : Tp) :
    Calls Tryz.prog 77 #[v, tpV t] w fun e w' => ∃ v', e = .returned v' ∧ w'.ownsRow B 32 3 v' (withT ltT R t).length ((withT ltT R t).flatMap tc) ∧ Below w.heap.size w w' := by
  obtain ⟨a, c, rfl, _, _⟩ := owned_anyE hR
  obtain ⟨j0, hj0, jz0, jz1, jz2⟩ := info_parts infoTp
  obtain ⟨w1, hw1⟩ : ∃ w1, w1 = w.alloc (.cells #[.string t.o, .string t.r, .string t.u] 32) := ⟨_, rfl⟩
  have hb1 : Below w.heap.size w w1 := by rw [hw1]; exact below_alloc _ _
  have hs1 : w1.heap.size = w.heap.size + 1 := by rw [hw1]; simp
  have hX1 : Whole w1 w.heap.size 32 #[.string t.o, .string t.r, .string t.u] := by rw [hw1]; exact heap_alloc_new _ _
  obtain ⟨q, hq⟩ : ∃ q, q = w.heap.size := ⟨_, rfl⟩
  rw [← hq] at hX1
  have HX := Lib.hid hX1
  have HR := Lib.hid (show w1.ownsRow B 32 3 (.slice a R.length c) R.length (R.flatMap tc) from owns_keptN hR (fun k hk => hb1.block k (hR.lt k hk).2))
  have HB1 := Lib.hid hb1
  have HU1 := Lib.hid (show OutT w1 w1 nilS (insG t (R.take 0)) from ⟨Below.refl _ _, World.ownsRow_nil w1 w1.heap.size 32 3⟩)
  have HRB := Lib.hid (fun x w => rless_any t x w)
  have HS1 := Lib.hid hs1
  have HBB := Lib.hid hB
  clear hR hb1 hX1 hs1 hB
  go_enter Tryz.func77, Tryz.ntmps77
  go_upto_region 4 with fail
  rw [← hw1, ← hq]
  clear hw1 hq
  go_loopw [5, 6, 7] (fun ov dv iv wr => ∃ i : Nat, i ≤ R.length ∧ iv = .int .i64 i ∧ dv = .bool ((R.take i).any (ltT t)) ∧ t ∉ R.take i ∧ OutT w1 wr ov (insG t (R.take i))) (fun _ _ iv _ => R.length - (intOf iv).toNat)
  case atStart => exact ⟨0, by omega, rfl, by simp, by simp, HU1.out⟩
  case round =>
    clear HU1
    obtain ⟨i, hin, rfl, rfl, hni, hS⟩ := hrel
    obtain ⟨va, vc, rfl, _, _⟩ := owned_anyE hS.row
    by_cases hil : i < R.length
    · obtain ⟨x, hx⟩ : ∃ x, R[i]? = some x := ⟨_, List.getElem?_eq_getElem hil⟩
      obtain ⟨b, rfl, hbB, hcc⟩ := tcs_at HR.out (by omega)
      obtain ⟨k0, k1, k2⟩ := hcc i x hx
      rw [Nat.zero_add] at k0 k1 k2
      have HCC := Lib.hid (show ∀ W : World, Below w1.heap.size w1 W → W.cell? ⟨b, i * 3, none⟩ = some (.string x.o) ∧ W.cell? ⟨b, i * 3 + 1, none⟩ = some (.string x.r) ∧ W.cell? ⟨b, i * 3 + 2, none⟩ = some (.string x.u) from fun W hW =>
        ⟨(hW.cell (p := ⟨b, i * 3, none⟩) hbB).trans k0, (hW.cell (p := ⟨b, i * 3 + 1, none⟩) hbB).trans k1, (hW.cell (p := ⟨b, i * 3 + 2, none⟩) hbB).trans k2⟩)
      have htk : R.take (i + 1) = R.take i ++ [x] := by rw [List.take_add_one, hx]; rfl
      have HTK := Lib.hid htk
      have hln := insG_len t (R.take i)
      rw [List.length_take] at hln
      have hil2 : (i : Int) < (R.length : Int) := by omega
      have hi4 : i ≤ 1099511627776 := by omega
      have HNI := Lib.hid hni
      have HXR := Lib.hid (List.mem_of_getElem? hx)
      obtain ⟨L, hL⟩ : ∃ L, L = insG t (R.take i) := ⟨_, rfl⟩
      rw [← hL] at hS hln ⊢
      have HL := Lib.hid hL
      have hn1 : L.length + 1 ≤ maxLen := by unfold maxLen; omega
      have hn2 : (L.length + 1) * 48 ≤ 140737488355328 := by omega
      have HL8 := Lib.hid (show L.length ≤ 1099511627800 by omega)
      have hx1 := HX.out.kept (hS.below.block _ HX.out.lt)
      have z0 : wr.cell? ⟨q, 0, none⟩ = some (.string t.o) := by rw [hx1.cell]; rfl
      have z1 : wr.cell? ⟨q, 1, none⟩ = some (.string t.r) := by rw [hx1.cell]; rfl
      have z2 : wr.cell? ⟨q, 2, none⟩ = some (.string t.u) := by rw [hx1.cell]; rfl
      obtain ⟨y0, y1, y2⟩ := HCC.out wr hS.below
      have HS := Lib.hid hS
      have HTC := Lib.hid (tp_cases x t)
      clear hL htk k0 k1 k2 hx hS hbB hcc hx1 hni hln
      rcases HTC.out with ⟨he, h1, h2, h3⟩ | hne
      · have HW := Lib.hid (show withT ltT R t = R from if_pos (by rw [← he]; exact HXR.out))
        clear HTC he
        go_wp2_with fail
        go_quiet (fail)
        have HBE := Lib.hid (HB1.out.trans (((HS.out.below).trans ((below_drewN wr nq).mono HS.out.below.size)).mono (by have := HS1.out; omega)))
        have HRE := Lib.hid (owns_keptN HR.out (fun k hk => ((HS.out.below).trans ((below_drewN wr nq).mono HS.out.below.size)).block k (HR.out.lt k hk).2))
        go_wp2
        go_ret
        exact ⟨_, rfl, by rw [HW.out]; exact HRE.out, HBE.out⟩
      · have HNX := Lib.hid (show t ∉ R.take (i + 1) by
          rw [HTK.out, List.mem_append, List.mem_singleton]
          exact fun e => e.elim HNI.out (fun e => hne.elim (fun h => h.1 e.symm) fun h => h.elim (fun h => h.1 e.symm) fun h => h.1 e.symm))
        clear HTC
        rcases hne with ⟨hne, h1⟩ | ⟨hne, h1, h2⟩ | ⟨hne, h1, h2, h3⟩
        all_goals
          clear hne
          go_upto_region 6 with fail
          go_quiet (fail)
          have HS := Lib.hid (HS.out.up (below_drewN wr nq))
          generalize wr.drewN nq = wq at *
          clear z0 z1 z2 y0 y1 y2
          obtain ⟨y0, y1, y2⟩ := HCC.out wq HS.out.below
          have hxq := HX.out.kept (HS.out.below.block _ HX.out.lt)
          have z0 : wq.cell? ⟨q, 0, none⟩ = some (.string t.o) := by rw [hxq.cell]; rfl
          have z1 : wq.cell? ⟨q, 1, none⟩ = some (.string t.r) := by rw [hxq.cell]; rfl
          have z2 : wq.cell? ⟨q, 2, none⟩ = some (.string t.u) := by rw [hxq.cell]; rfl
          clear hxq
          clear h1
          have HBS := Lib.hid (show w1.heap.size ≤ wq.heap.size from HS.out.below.size)
          cases hd : (R.take i).any (ltT t) with
          | true =>
            obtain ⟨g1, g2⟩ := insG_done (x := x) hd
            have HG := Lib.hid g1
            have HG2 := Lib.hid g2
            clear g1 g2 hd
            go_upto_region 8 with fail
            go_quiet (fail)
            have HS := Lib.hid (HS.out.up (below_drewN wq nq))
            go_wp2_with (at_builtin; refine wpList_append_own_at _ rfl (.tmp 35) (.tmp 40) 49 rfl w1.heap.size 32 j0 (.agg #[.string ⟨#[]⟩, .string ⟨#[]⟩, .string ⟨#[]⟩]) 3 48 Tryz.underlying49 hj0 jz0 jz1 jz2 rfl (by decide) (.slice va L.length vc) L.length (L.flatMap tc) rfl (HS.out.row.alloc _) ⟨(wq.drewN nq).heap.size, 0, none⟩ 1 1 [.string x.o, .string x.r, .string x.u] rfl rfl (three_newT (wq.drewN nq) _ _ _ 32) (by simp [Value.oneCell']) hn1 hn2 (by have := HBS.out; simp; omega) ?_; intro v' w6 hown6 hgr6 _ _
                         have HN := Lib.hid (show OutT w1 w6 v' (insG t (R.take (i + 1))) from by
                           rw [HTK.out, HG.out, ← HL.out]
                           exact (HS.out.up (below_alloc _ _)).next x hgr6 hown6)
                         clear hown6 hgr6)
            go_roundw
            case rel => exact ⟨i + 1, by omega, by go_num, by rw [HTK.out, HG2.out], HNX.out, HN.out⟩
            case measure => simp [intOf]; omega
          | false =>
            have hp0 : ∀ W : World, Below w1.heap.size w1 W → ((W.cell? ⟨q, 0, none⟩ = some (.string t.o) ∧ W.cell? ⟨q, 1, none⟩ = some (.string t.r) ∧ W.cell? ⟨q, 2, none⟩ = some (.string t.u)) ∧ (W.cell? ⟨b, i * 3, none⟩ = some (.string x.o) ∧ W.cell? ⟨b, i * 3 + 1, none⟩ = some (.string x.r) ∧ W.cell? ⟨b, i * 3 + 2, none⟩ = some (.string x.u))) := fun W hW => by
              have hx1 := HX.out.kept (hW.block _ HX.out.lt)
              exact ⟨⟨by rw [hx1.cell]; rfl, by rw [hx1.cell]; rfl, by rw [hx1.cell]; rfl⟩, HCC.out W hW⟩
            have HKK := Lib.hid hp0
            have hbf := HRB.out x
            have hp1 := hp0 wq HS.out.below
            have hp2 := hp0 wq.drew (bell_up HS.out.below (below_drew1 wq))
            clear hp0 y0 y1 y2 z0 z1 z2
            cases hrx : ltT t x with
            | false =>
              rw [hrx] at hbf
              have HBF := Lib.hid hbf
              obtain ⟨g1, g2⟩ := insG_past hd hrx
              have HG := Lib.hid g1
              have HG2 := Lib.hid g2
              clear g1 g2 hd hbf hrx
              go_upto_region 8 with fail
              go_region_held3 (fun W : World => ((W.cell? ⟨q, 0, none⟩ = some (.string t.o) ∧ W.cell? ⟨q, 1, none⟩ = some (.string t.r) ∧ W.cell? ⟨q, 2, none⟩ = some (.string t.u)) ∧ (W.cell? ⟨b, i * 3, none⟩ = some (.string x.o) ∧ W.cell? ⟨b, i * 3 + 1, none⟩ = some (.string x.r) ∧ W.cell? ⟨b, i * 3 + 2, none⟩ = some (.string x.u)))) (first | assumption | with_reducible exact HKK.out _ (bell_up HS.out.below (below_drewN _ 1)) | exact HKK.out _ (bell_up HS.out.below (below_drew1 _))) (first
                | (go_at_call 106; (with_reducible refine (HBF.out _).mono ?_); rintro e w5 ⟨rfl, hb5⟩
                   have HS2 := Lib.hid (HS.out.up (bell_up (below_drew1 wq) hb5))
                   have hk5 := HKK.out w5 HS2.out.below
                   clear hb5))
              all_goals
                have HBS := Lib.hid (show w1.heap.size ≤ w5.heap.size from HS2.out.below.size)
                obtain ⟨⟨z0, z1, z2⟩, y0, y1, y2⟩ := hk5
                clear hp1 hp2
                go_wp2_with (at_builtin; refine wpList_append_own_at _ rfl (.tmp 35) (.tmp 40) 49 rfl w1.heap.size 32 j0 (.agg #[.string ⟨#[]⟩, .string ⟨#[]⟩, .string ⟨#[]⟩]) 3 48 Tryz.underlying49 hj0 jz0 jz1 jz2 rfl (by decide) (.slice va L.length vc) L.length (L.flatMap tc) rfl (HS2.out.row.alloc _) ⟨w5.heap.size, 0, none⟩ 1 1 [.string x.o, .string x.r, .string x.u] rfl rfl (three_newT w5 _ _ _ 32) (by simp [Value.oneCell']) hn1 hn2 (by have := HBS.out; simp; omega) ?_; intro v' w6 hown6 hgr6 _ _
                             have HN := Lib.hid (show OutT w1 w6 v' (insG t (R.take (i + 1))) from by
                               rw [HTK.out, HG.out, ← HL.out]
                               exact (HS2.out.up (below_alloc _ _)).next x hgr6 hown6)
                             clear hown6 hgr6)
                go_roundw
                case rel => exact ⟨i + 1, by omega, by go_num, by rw [HTK.out, HG2.out], HNX.out, HN.out⟩
                case measure => simp [intOf]; omega
            | true =>
              rw [hrx] at hbf
              have HBF := Lib.hid hbf
              obtain ⟨g1, g2⟩ := insG_here hd hrx
              have HG := Lib.hid g1
              have HG2 := Lib.hid g2
              have HN3 := Lib.hid (lenAT L t HL8.out)
              have HN4 := Lib.hid (lenBT L t HL8.out)
              clear g1 g2 hd hbf hrx
              go_upto_region 8 with fail
              go_region_held3 (fun W : World => ((W.cell? ⟨q, 0, none⟩ = some (.string t.o) ∧ W.cell? ⟨q, 1, none⟩ = some (.string t.r) ∧ W.cell? ⟨q, 2, none⟩ = some (.string t.u)) ∧ (W.cell? ⟨b, i * 3, none⟩ = some (.string x.o) ∧ W.cell? ⟨b, i * 3 + 1, none⟩ = some (.string x.r) ∧ W.cell? ⟨b, i * 3 + 2, none⟩ = some (.string x.u)))) (first | assumption | with_reducible exact HKK.out _ (bell_up HS.out.below (below_drewN _ 1)) | exact HKK.out _ (bell_up HS.out.below (below_drew1 _))) (first
                | (go_at_call 106; (with_reducible refine (HBF.out _).mono ?_); rintro e w5 ⟨rfl, hb5⟩
                   have HS2 := Lib.hid (HS.out.up (bell_up (below_drew1 wq) hb5))
                   have hk5 := HKK.out w5 HS2.out.below
                   clear hb5))
              all_goals
                have HBS := Lib.hid (show w1.heap.size ≤ w5.heap.size from HS2.out.below.size)
                obtain ⟨⟨z0, z1, z2⟩, y0, y1, y2⟩ := hk5
                clear hp1 hp2
                go_wp2_with (first
                  | (at_builtin; refine wpList_append_own_at _ rfl (.tmp 31) (.tmp 33) 49 rfl w1.heap.size 32 j0 (.agg #[.string ⟨#[]⟩, .string ⟨#[]⟩, .string ⟨#[]⟩]) 3 48 Tryz.underlying49 hj0 jz0 jz1 jz2 rfl (by decide) (.slice va L.length vc) L.length (L.flatMap tc) rfl (HS2.out.row.alloc _) ⟨w5.heap.size, 0, none⟩ 1 1 [.string t.o, .string t.r, .string t.u] rfl rfl (three_newT w5 _ _ _ 32) (by simp [Value.oneCell']) hn1 hn2 (by have := HBS.out; simp; omega) ?_; intro v' w6 hown6 hgr6 _ _
                     have HS3 := Lib.hid ((HS2.out.up (below_alloc _ _)).next t hgr6 hown6)
                     obtain ⟨a3, c3, rfl, _, _⟩ := owned_anyE hown6
                     have HR3 := Lib.hid (show OutT w1 w6 (.slice a3 (L.length + 1) c3) (L ++ [t]) from HS3.out)
                     have hk6 := HKK.out w6 HS3.out.below
                     have HBS := Lib.hid (show w1.heap.size ≤ w6.heap.size from HS3.out.below.size)
                     clear hown6 hgr6
                     obtain ⟨_, y0, y1, y2⟩ := hk6)
                  | (at_builtin; refine wpList_append_own_at _ rfl (.tmp 35) (.tmp 40) 49 rfl w1.heap.size 32 j0 (.agg #[.string ⟨#[]⟩, .string ⟨#[]⟩, .string ⟨#[]⟩]) 3 48 Tryz.underlying49 hj0 jz0 jz1 jz2 rfl (by decide) (.slice a3 (L.length + 1) c3) (L ++ [t]).length ((L ++ [t]).flatMap tc) rfl (HR3.out.row.alloc _) ⟨w6.heap.size, 0, none⟩ 1 1 [.string x.o, .string x.r, .string x.u] rfl rfl (three_newT w6 _ _ _ 32) (by simp [Value.oneCell']) HN3.out HN4.out (by have := HBS.out; simp; omega) ?_; intro v' w7 hown7 hgr7 _ _
                     have HN := Lib.hid (show OutT w1 w7 v' (insG t (R.take (i + 1))) from by
                       rw [HTK.out, HG.out, ← HL.out]
                       exact (HS3.out.up (below_alloc _ _)).next x hgr7 hown7)
                     clear hown7 hgr7))
                go_roundw
                case rel => exact ⟨i + 1, by omega, by go_num, by rw [HTK.out, HG2.out], HNX.out, HN.out⟩
                case measure => simp [intOf]; omega
    · obtain rfl : i = R.length := by omega
      have htn : R.take R.length = R := List.take_length
      rw [htn] at hS hni ⊢
      have HW := Lib.hid (show withT ltT R t = insT ltT t R from if_neg hni)
      have hend := insG_end t R
      have HLE := Lib.hid (insG_len t R)
      obtain ⟨L, hL⟩ : ∃ L, L = insG t R := ⟨_, rfl⟩
      have hll : L.length ≤ 1099511627800 := by
        have := HLE.out
        rw [hL]; omega
      rw [← hL] at hend hS ⊢
      have HS := Lib.hid hS
      have hn1 : L.length + 1 ≤ maxLen := by unfold maxLen; omega
      have hn2 : (L.length + 1) * 48 ≤ 140737488355328 := by omega
      have HBS := Lib.hid (show w1.heap.size ≤ wr.heap.size from hS.below.size)
      have HLO := Lib.hid (show ∀ (W : World) (v : Value) (l : List Tp), OutT w1 W v l → W.ownsRow B 32 3 v l.length (l.flatMap tc) ∧ Below w.heap.size w W from fun W v l h => ⟨own_lower h.row (by have := HS1.out; have := HBB.out; omega), HB1.out.trans (h.below.mono (by have := HS1.out; omega))⟩)
      have hx1 := HX.out.kept (hS.below.block _ HX.out.lt)
      have z0 : wr.cell? ⟨q, 0, none⟩ = some (.string t.o) := by rw [hx1.cell]; rfl
      have z1 : wr.cell? ⟨q, 1, none⟩ = some (.string t.r) := by rw [hx1.cell]; rfl
      have z2 : wr.cell? ⟨q, 2, none⟩ = some (.string t.u) := by rw [hx1.cell]; rfl
      clear hS hL hll hx1 HLE htn hni
      cases hd : R.any (ltT t) with
      | true =>
        rw [if_pos hd] at hend
        have HE := Lib.hid hend
        clear hend hd
        go_wp2
        go_ret
        exact ⟨_, rfl, by rw [HW.out, HE.out]; exact HLO.out _ _ _ HS.out⟩
      | false =>
        rw [if_neg (by rw [hd]; exact Bool.false_ne_true)] at hend
        have HE := Lib.hid hend
        clear hend hd
        go_wp2_with (at_builtin; refine wpList_append_own_at _ rfl (.tmp 44) (.tmp 46) 49 rfl w1.heap.size 32 j0 (.agg #[.string ⟨#[]⟩, .string ⟨#[]⟩, .string ⟨#[]⟩]) 3 48 Tryz.underlying49 hj0 jz0 jz1 jz2 rfl (by decide) (.slice va L.length vc) L.length (L.flatMap tc) rfl (HS.out.row.alloc _) ⟨wr.heap.size, 0, none⟩ 1 1 [.string t.o, .string t.r, .string t.u] rfl rfl (three_newT wr _ _ _ 32) (by simp [Value.oneCell']) hn1 hn2 (by have := HBS.out; simp; omega) ?_; intro v' w6 hown6 hgr6 _ _
                     have HN := Lib.hid ((HS.out.up (below_alloc _ _)).next t hgr6 hown6)
                     clear hown6 hgr6)
        go_ret
        exact ⟨_, rfl, by rw [HW.out, HE.out]; exact HLO.out _ _ _ HN.out⟩
end Go.Proofs.YtmjdngomjjhhiaaGreat
