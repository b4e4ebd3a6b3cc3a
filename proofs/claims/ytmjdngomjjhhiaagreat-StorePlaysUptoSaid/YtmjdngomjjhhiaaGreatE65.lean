/- The document's rows with one more. -/
import Derived.Test.YtmjdngomjjhhiaaGreatE64
import Derived.Deep.DeepCutAuto
import Derived.Deep.CutBlock
import Derived.BigQuiet
import Derived.Deep.RegionHeld3
namespace Go.Proofs.YtmjdngomjjhhiaaGreat
open Go.RowKit
open Go.Maps (Keyed)

theorem own_lower {w : World} {B B' n s : Nat} {v : Value} {e : TypeId} {l : List Value} (h : w.ownsRow B e s v n l) (hb : B' ≤ B) : w.ownsRow B' e s v n l :=
  ⟨h.1, h.2.imp_right fun ⟨g, cap, cur, h1, h2, h3⟩ => ⟨g, cap, cur, h1, Nat.le_trans hb h2, h3⟩⟩
/-- What With has written behind some rows. -/
def withG (r : Rw) (l : List Rw) : List Rw := if l.any (rlt ltT r) = true then withR ltT r l else l
theorem withR_snoc (r x : Rw) : ∀ l : List Rw, l.any (rlt ltT r) = true → withR ltT r (l ++ [x]) = withR ltT r l ++ [x] := by
  intro l
  induction l with
  | nil => intro h; simp at h
  | cons y l ih =>
    intro h
    by_cases hy : rlt ltT r y = true
    · show (if rlt ltT r y then r :: y :: (l ++ [x]) else y :: withR ltT r (l ++ [x])) = (if rlt ltT r y then r :: y :: l else y :: withR ltT r l) ++ [x]
      rw [if_pos hy, if_pos hy]; rfl
    · have h2 : l.any (rlt ltT r) = true := by
        rw [List.any_cons] at h
        simpa [hy] using h
      show (if rlt ltT r y then r :: y :: (l ++ [x]) else y :: withR ltT r (l ++ [x])) = (if rlt ltT r y then r :: y :: l else y :: withR ltT r l) ++ [x]
      rw [if_neg hy, if_neg hy, ih h2]; rfl
theorem withR_none (r : Rw) (m : List Rw) : ∀ l : List Rw, l.any (rlt ltT r) = false → withR ltT r (l ++ m) = l ++ withR ltT r m := by
  intro l
  induction l with
  | nil => intro _; rfl
  | cons y l ih =>
    intro h
    rw [List.any_cons, Bool.or_eq_false_iff] at h
    show (if rlt ltT r y then r :: y :: (l ++ m) else y :: withR ltT r (l ++ m)) = y :: (l ++ withR ltT r m)
    rw [if_neg (by simp [h.1]), ih h.2]
theorem withG_done {r x : Rw} {l : List Rw} (h : l.any (rlt ltT r) = true) : withG r (l ++ [x]) = withG r l ++ [x] ∧ (l ++ [x]).any (rlt ltT r) = true := by
  have h2 : (l ++ [x]).any (rlt ltT r) = true := by rw [List.any_append, h]; rfl
  unfold withG
  rw [if_pos h, if_pos h2, withR_snoc r x l h]
  exact ⟨rfl, h2⟩
theorem withG_here {r x : Rw} {l : List Rw} (h : l.any (rlt ltT r) = false) (hx : rlt ltT r x = true) : withG r (l ++ [x]) = (withG r l ++ [r]) ++ [x] ∧ (l ++ [x]).any (rlt ltT r) = true := by
  have h2 : (l ++ [x]).any (rlt ltT r) = true := by rw [List.any_append, h]; simp [hx]
  unfold withG
  rw [h, if_neg Bool.false_ne_true, if_pos h2, withR_none r [x] l h]
  refine ⟨?_, h2⟩
  show l ++ (if rlt ltT r x then [r, x] else _) = _
  rw [if_pos hx]; simp
theorem withG_past {r x : Rw} {l : List Rw} (h : l.any (rlt ltT r) = false) (hx : rlt ltT r x = false) : withG r (l ++ [x]) = withG r l ++ [x] ∧ (l ++ [x]).any (rlt ltT r) = false := by
  have h2 : (l ++ [x]).any (rlt ltT r) = false := by rw [List.any_append, h]; simp [hx]
  unfold withG
  rw [h, h2, if_neg Bool.false_ne_true, if_neg Bool.false_ne_true]
  exact ⟨rfl, rfl⟩
theorem withG_end (r : Rw) (l : List Rw) : withR ltT r l = if l.any (rlt ltT r) = true then withG r l else withG r l ++ [r] := by
  unfold withG
  cases h : l.any (rlt ltT r) with
  | true => simp
  | false =>
    have := withR_none r [] l h
    rw [List.append_nil] at this
    simp only [Bool.false_eq_true, if_false]
    rw [this]; rfl
theorem withG_len (r : Rw) (l : List Rw) : (withG r l).length ≤ l.length + 1 := by
  unfold withG
  split
  · have : ∀ l : List Rw, (withR ltT r l).length = l.length + 1 := by
      intro l
      induction l with
      | nil => rfl
      | cons y l ih =>
        show (if rlt ltT r y then r :: y :: l else y :: withR ltT r l).length = _
        split <;> simp [ih]
    rw [this]; exact Nat.le_refl _
  · omega
theorem withR_length (r : Rw) : ∀ l : List Rw, (withR ltT r l).length = l.length + 1 := by
  intro l
  induction l with
  | nil => rfl
  | cons y l ih =>
    show (if rlt ltT r y then r :: y :: l else y :: withR ltT r l).length = _
    split <;> simp [ih]
/-- Rows that a call writes. -/
structure OutR (w wr : World) (v : Value) (L : List Rw) : Prop where
  below : Below w.heap.size w wr
  row : wr.ownsRow w.heap.size 46 5 v L.length (rwc L)
theorem OutR.up {w wr w' : World} {v : Value} {L : List Rw} (h : OutR w wr v L) (hb : Below wr.heap.size wr w') : OutR w w' v L :=
  ⟨bell_up h.below hb, owns_keptN h.row (fun k hk => hb.block k (h.row.lt k hk).2)⟩
theorem OutR.next {w wr w' : World} {v v' : Value} {L : List Rw} (h : OutR w wr v L) (r : Rw) (hg : wr.grownBy w' v.ownBlock) (hown : w'.ownsRow w.heap.size 46 5 v' (L.length + 1) (rwc L ++ [.string r.t.o, .string r.t.r, .string r.t.u, .int .i64 r.s, .int .i64 r.u])) : OutR w w' v' (L ++ [r]) := by
  refine ⟨h.below.grown hg h.below.size (fun k e => (h.row.lt k e).1), ?_⟩
  rw [List.length_append, rwc_append]
  exact hown
theorem lenA (L : List Rw) (r : Rw) (h : L.length ≤ 1099511627800) : (L ++ [r]).length + 1 ≤ maxLen := by
  rw [List.length_append, List.length_singleton]; unfold maxLen; omega
theorem lenB (L : List Rw) (r : Rw) (h : L.length ≤ 1099511627800) : ((L ++ [r]).length + 1) * 64 ≤ 140737488355328 := by
  rw [List.length_append, List.length_singleton]; omega
set_option maxHeartbeats 8000000 in
set_option maxRecDepth 100000 in
theorem rwith_any {a : Option Addr} {n c : Nat} {R : List Rw} {w : World} (hR : RowsAt w a n R) (hn : n ≤ 1099511627776) (r : Rw) :
    Calls Tryz.prog 43 #[.slice a n c, rwV r] w fun e w' => ∃ v, e = .returned v ∧ OutR w w' v (withR ltT r R) := by
  obtain ⟨j0, hj0, jz0, jz1, jz2⟩ := info_parts infoR
  obtain ⟨w1, hw1⟩ : ∃ w1, w1 = w.alloc (.cells #[.string r.t.o, .string r.t.r, .string r.t.u, .int .i64 r.s, .int .i64 r.u] 46) := ⟨_, rfl⟩
  have hb1 : Below w.heap.size w w1 := by rw [hw1]; exact below_alloc _ _
  have hs1 : w1.heap.size = w.heap.size + 1 := by rw [hw1]; simp
  have hX1 : Whole w1 w.heap.size 46 #[.string r.t.o, .string r.t.r, .string r.t.u, .int .i64 r.s, .int .i64 r.u] := by rw [hw1]; exact heap_alloc_new _ _
  obtain ⟨q, hq⟩ : ∃ q, q = w.heap.size := ⟨_, rfl⟩
  rw [← hq] at hX1
  have HX := Lib.hid hX1
  have HR := Lib.hid (hR.below hb1)
  have HB1 := Lib.hid hb1
  have HU1 := Lib.hid (show OutR w1 w1 nilS (withG r (R.take 0)) from ⟨Below.refl _ _, World.ownsRow_nil w1 w1.heap.size 46 5⟩)
  have HLN := Lib.hid hR.len
  have HRB := Lib.hid (fun x w => rbefore_any r x w)
  clear hR hb1 hX1
  go_enter Tryz.func43, Tryz.ntmps43
  go_upto_region 4 with fail
  rw [← hw1, ← hq]
  have HS1 := Lib.hid hs1
  clear hw1 hq hs1
  go_loopw [5, 6, 7] (fun v dv iv wr => ∃ i : Nat, i ≤ n ∧ iv = .int .i64 i ∧ dv = .bool ((R.take i).any (rlt ltT r)) ∧ OutR w1 wr v (withG r (R.take i))) (fun _ _ iv _ => n - (intOf iv).toNat)
  case atStart => exact ⟨0, by omega, rfl, by simp, HU1.out⟩
  case round =>
    clear HU1
    obtain ⟨i, hin, rfl, rfl, hS⟩ := hrel
    obtain ⟨va, vc, rfl, _, _⟩ := owned_anyE hS.row
    by_cases hil : i < n
    · obtain ⟨x, hx⟩ : ∃ x, R[i]? = some x := ⟨_, List.getElem?_eq_getElem (by rw [HLN.out]; exact hil)⟩
      obtain ⟨b, off, rfl, hbB, k0, k1, k2, k3, k4⟩ := HR.out.cells hx
      have y0 := (hS.below.cell (p := ⟨b, off + i * 5, none⟩) hbB).trans k0
      have y1 := (hS.below.cell (p := ⟨b, off + i * 5 + 1, none⟩) hbB).trans k1
      have y2 := (hS.below.cell (p := ⟨b, off + i * 5 + 2, none⟩) hbB).trans k2
      have y3 := (hS.below.cell (p := ⟨b, off + i * 5 + 3, none⟩) hbB).trans k3
      have y4 := (hS.below.cell (p := ⟨b, off + i * 5 + 4, none⟩) hbB).trans k4
      have htk : R.take (i + 1) = R.take i ++ [x] := by rw [List.take_add_one, hx]; rfl
      have HTK := Lib.hid htk
      have hln := withG_len r (R.take i)
      rw [List.length_take] at hln
      have hil2 : (i : Int) < (n : Int) := by omega
      have hi4 : i ≤ 1099511627776 := by omega
      obtain ⟨L, hL⟩ : ∃ L, L = withG r (R.take i) := ⟨_, rfl⟩
      rw [← hL] at hS hln ⊢
      have HL := Lib.hid hL
      have HS := Lib.hid hS
      have hn1 : L.length + 1 ≤ maxLen := by unfold maxLen; omega
      have hn2 : (L.length + 1) * 64 ≤ 140737488355328 := by omega
      have HBS := Lib.hid (show w1.heap.size ≤ wr.heap.size from hS.below.size)
      have HXI := Lib.hid hx
      clear hL htk k0 k1 k2 k3 k4 hx hS hbB
      cases hd : (R.take i).any (rlt ltT r) with
      | true =>
        obtain ⟨g1, g2⟩ := withG_done (x := x) hd
        have HG := Lib.hid g1
        have HG2 := Lib.hid g2
        clear g1 g2 hd
        go_upto_region 6 with fail
        go_quiet (fail)
        have HS2 := Lib.hid (HS.out.up (below_drewN wr nq))
        go_wp2_with (at_builtin; refine wpList_append_own_at _ rfl (.tmp 28) (.tmp 33) 26 rfl w1.heap.size 46 j0 (.agg #[.string ⟨#[]⟩, .string ⟨#[]⟩, .string ⟨#[]⟩, .int .i64 0, .int .i64 0]) 5 64 Tryz.underlying26 hj0 jz0 jz1 jz2 rfl (by decide) (.slice va L.length vc) L.length (rwc L) rfl (HS2.out.row.alloc _) ⟨(wr.drewN nq).heap.size, 0, none⟩ 1 1 [.string x.t.o, .string x.t.r, .string x.t.u, .int .i64 x.s, .int .i64 x.u] rfl rfl (five_new (wr.drewN nq) _ _ _ _ _ 46) (by simp [Value.oneCell']) hn1 hn2 (by have := HBS.out; simp; omega) ?_; intro v' w6 hown6 hgr6 _ _
                     have HN := Lib.hid (show OutR w1 w6 v' (withG r (R.take (i + 1))) from by
                       rw [HTK.out, HG.out, ← HL.out]
                       exact (HS2.out.up (below_alloc _ _)).next x hgr6 hown6)
                     clear hown6 hgr6)
        go_roundw
        case rel => exact ⟨i + 1, by omega, by go_num, by rw [HTK.out, HG2.out], HN.out⟩
        case measure => simp [intOf]; omega
      | false =>
        have hp0 : ∀ W : World, Below w1.heap.size w1 W → ((W.cell? ⟨q, 0, none⟩ = some (.string r.t.o) ∧ W.cell? ⟨q, 1, none⟩ = some (.string r.t.r) ∧ W.cell? ⟨q, 2, none⟩ = some (.string r.t.u) ∧ W.cell? ⟨q, 3, none⟩ = some (.int .i64 r.s) ∧ W.cell? ⟨q, 4, none⟩ = some (.int .i64 r.u)) ∧ (W.cell? ⟨b, off + i * 5, none⟩ = some (.string x.t.o) ∧ W.cell? ⟨b, off + i * 5 + 1, none⟩ = some (.string x.t.r) ∧ W.cell? ⟨b, off + i * 5 + 2, none⟩ = some (.string x.t.u) ∧ W.cell? ⟨b, off + i * 5 + 3, none⟩ = some (.int .i64 x.s) ∧ W.cell? ⟨b, off + i * 5 + 4, none⟩ = some (.int .i64 x.u))) := fun W hW => by
          have hx1 := HX.out.kept (hW.block _ HX.out.lt)
          have hr1 := (HR.out.below hW).cells HXI.out
          obtain ⟨b', off', e, _, k⟩ := hr1
          injection e with e
          injection e with e1 e2 _
          rw [← e1, ← e2] at k
          exact ⟨⟨by rw [hx1.cell]; rfl, by rw [hx1.cell]; rfl, by rw [hx1.cell]; rfl, by rw [hx1.cell]; rfl, by rw [hx1.cell]; rfl⟩, k⟩
        have HKK := Lib.hid hp0
        have hbf := HRB.out x
        have hp1 := hp0 wr HS.out.below
        have hp2 := hp0 wr.drew (bell_up HS.out.below (below_drew1 wr))
        clear hp0 y0 y1 y2 y3 y4
        cases hrx : rlt ltT r x with
        | false =>
          rw [hrx] at hbf
          have HBF := Lib.hid hbf
          obtain ⟨g1, g2⟩ := withG_past hd hrx
          have HG := Lib.hid g1
          have HG2 := Lib.hid g2
          clear g1 g2 hd hbf hrx
          go_upto_region 6 with fail
          go_region_held3 (fun W : World => ((W.cell? ⟨q, 0, none⟩ = some (.string r.t.o) ∧ W.cell? ⟨q, 1, none⟩ = some (.string r.t.r) ∧ W.cell? ⟨q, 2, none⟩ = some (.string r.t.u) ∧ W.cell? ⟨q, 3, none⟩ = some (.int .i64 r.s) ∧ W.cell? ⟨q, 4, none⟩ = some (.int .i64 r.u)) ∧ (W.cell? ⟨b, off + i * 5, none⟩ = some (.string x.t.o) ∧ W.cell? ⟨b, off + i * 5 + 1, none⟩ = some (.string x.t.r) ∧ W.cell? ⟨b, off + i * 5 + 2, none⟩ = some (.string x.t.u) ∧ W.cell? ⟨b, off + i * 5 + 3, none⟩ = some (.int .i64 x.s) ∧ W.cell? ⟨b, off + i * 5 + 4, none⟩ = some (.int .i64 x.u)))) (first | assumption | with_reducible exact HKK.out _ (bell_up HS.out.below (below_drewN _ 1)) | exact HKK.out _ (bell_up HS.out.below (below_drew1 _))) (first
            | (go_at_call 66; (with_reducible refine (HBF.out _).mono ?_); rintro e w5 ⟨rfl, hb5⟩
               have HS2 := Lib.hid (HS.out.up (bell_up (below_drew1 wr) hb5))
               have hk5 := HKK.out w5 HS2.out.below
               clear hb5))
          all_goals
            have HBS := Lib.hid (show w1.heap.size ≤ w5.heap.size from HS2.out.below.size)
            obtain ⟨⟨z0, z1, z2, z3, z4⟩, y0, y1, y2, y3, y4⟩ := hk5
            clear hp1 hp2
            go_wp2_with (at_builtin; refine wpList_append_own_at _ rfl (.tmp 28) (.tmp 33) 26 rfl w1.heap.size 46 j0 (.agg #[.string ⟨#[]⟩, .string ⟨#[]⟩, .string ⟨#[]⟩, .int .i64 0, .int .i64 0]) 5 64 Tryz.underlying26 hj0 jz0 jz1 jz2 rfl (by decide) (.slice va L.length vc) L.length (rwc L) rfl (HS2.out.row.alloc _) ⟨w5.heap.size, 0, none⟩ 1 1 [.string x.t.o, .string x.t.r, .string x.t.u, .int .i64 x.s, .int .i64 x.u] rfl rfl (five_new w5 _ _ _ _ _ 46) (by simp [Value.oneCell']) hn1 hn2 (by have := HBS.out; simp; omega) ?_; intro v' w6 hown6 hgr6 _ _
                         have HN := Lib.hid (show OutR w1 w6 v' (withG r (R.take (i + 1))) from by
                           rw [HTK.out, HG.out, ← HL.out]
                           exact (HS2.out.up (below_alloc _ _)).next x hgr6 hown6)
                         clear hown6 hgr6)
            go_roundw
            case rel => exact ⟨i + 1, by omega, by go_num, by rw [HTK.out, HG2.out], HN.out⟩
            case measure => simp [intOf]; omega
        | true =>
          rw [hrx] at hbf
          have HBF := Lib.hid hbf
          obtain ⟨g1, g2⟩ := withG_here hd hrx
          have HG := Lib.hid g1
          have HG2 := Lib.hid g2
          have HN3 := Lib.hid (show (L ++ [r]).length + 1 ≤ maxLen from lenA L r (by have := hln; omega))
          have HN4 := Lib.hid (show ((L ++ [r]).length + 1) * 64 ≤ 140737488355328 from lenB L r (by have := hln; omega))
          clear g1 g2 hd hbf hrx
          go_upto_region 6 with fail
          go_region_held3 (fun W : World => ((W.cell? ⟨q, 0, none⟩ = some (.string r.t.o) ∧ W.cell? ⟨q, 1, none⟩ = some (.string r.t.r) ∧ W.cell? ⟨q, 2, none⟩ = some (.string r.t.u) ∧ W.cell? ⟨q, 3, none⟩ = some (.int .i64 r.s) ∧ W.cell? ⟨q, 4, none⟩ = some (.int .i64 r.u)) ∧ (W.cell? ⟨b, off + i * 5, none⟩ = some (.string x.t.o) ∧ W.cell? ⟨b, off + i * 5 + 1, none⟩ = some (.string x.t.r) ∧ W.cell? ⟨b, off + i * 5 + 2, none⟩ = some (.string x.t.u) ∧ W.cell? ⟨b, off + i * 5 + 3, none⟩ = some (.int .i64 x.s) ∧ W.cell? ⟨b, off + i * 5 + 4, none⟩ = some (.int .i64 x.u)))) (first | assumption | with_reducible exact HKK.out _ (bell_up HS.out.below (below_drewN _ 1)) | exact HKK.out _ (bell_up HS.out.below (below_drew1 _))) (first
            | (go_at_call 66; (with_reducible refine (HBF.out _).mono ?_); rintro e w5 ⟨rfl, hb5⟩
               have HS2 := Lib.hid (HS.out.up (bell_up (below_drew1 wr) hb5))
               have hk5 := HKK.out w5 HS2.out.below
               clear hb5))
          all_goals
            have HBS := Lib.hid (show w1.heap.size ≤ w5.heap.size from HS2.out.below.size)
            obtain ⟨⟨z0, z1, z2, z3, z4⟩, y0, y1, y2, y3, y4⟩ := hk5
            clear hp1 hp2
            go_wp2_with (first
              | (at_builtin; refine wpList_append_own_at _ rfl (.tmp 24) (.tmp 26) 26 rfl w1.heap.size 46 j0 (.agg #[.string ⟨#[]⟩, .string ⟨#[]⟩, .string ⟨#[]⟩, .int .i64 0, .int .i64 0]) 5 64 Tryz.underlying26 hj0 jz0 jz1 jz2 rfl (by decide) (.slice va L.length vc) L.length (rwc L) rfl (HS2.out.row.alloc _) ⟨w5.heap.size, 0, none⟩ 1 1 [.string r.t.o, .string r.t.r, .string r.t.u, .int .i64 r.s, .int .i64 r.u] rfl rfl (five_new w5 _ _ _ _ _ 46) (by simp [Value.oneCell']) hn1 hn2 (by have := HBS.out; simp; omega) ?_; intro v' w6 hown6 hgr6 _ _
                 have HS3 := Lib.hid ((HS2.out.up (below_alloc _ _)).next r hgr6 hown6)
                 obtain ⟨a3, c3, rfl, _, _⟩ := owned_anyE hown6
                 have HR3 := Lib.hid (show OutR w1 w6 (.slice a3 (L.length + 1) c3) (L ++ [r]) from HS3.out)
                 have hk6 := HKK.out w6 HS3.out.below
                 have HBS := Lib.hid (show w1.heap.size ≤ w6.heap.size from HS3.out.below.size)
                 clear hown6 hgr6
                 obtain ⟨_, y0, y1, y2, y3, y4⟩ := hk6)
              | (at_builtin; refine wpList_append_own_at _ rfl (.tmp 28) (.tmp 33) 26 rfl w1.heap.size 46 j0 (.agg #[.string ⟨#[]⟩, .string ⟨#[]⟩, .string ⟨#[]⟩, .int .i64 0, .int .i64 0]) 5 64 Tryz.underlying26 hj0 jz0 jz1 jz2 rfl (by decide) (.slice a3 (L.length + 1) c3) (L ++ [r]).length (rwc (L ++ [r])) rfl (HR3.out.row.alloc _) ⟨w6.heap.size, 0, none⟩ 1 1 [.string x.t.o, .string x.t.r, .string x.t.u, .int .i64 x.s, .int .i64 x.u] rfl rfl (five_new w6 _ _ _ _ _ 46) (by simp [Value.oneCell']) HN3.out HN4.out (by have := HBS.out; simp; omega) ?_; intro v' w7 hown7 hgr7 _ _
                 have HN := Lib.hid (show OutR w1 w7 v' (withG r (R.take (i + 1))) from by
                   rw [HTK.out, HG.out, ← HL.out]
                   exact (HS3.out.up (below_alloc _ _)).next x hgr7 hown7)
                 clear hown7 hgr7))
            go_roundw
            case rel => exact ⟨i + 1, by omega, by go_num, by rw [HTK.out, HG2.out], HN.out⟩
            case measure => simp [intOf]; omega
    · obtain rfl : i = n := by omega
      have htn : R.take i = R := by rw [← HLN.out, List.take_length]
      rw [htn] at hS ⊢
      have hend := withG_end r R
      have HLE := Lib.hid (withG_len r R)
      have HS := Lib.hid hS
      clear hS htn
      obtain ⟨L, hL⟩ : ∃ L, L = withG r R := ⟨_, rfl⟩
      have hll : L.length ≤ 1099511627800 := by
        have := HLE.out
        have := HLN.out
        rw [hL]; omega
      have hS := HS.out
      rw [← hL] at hend hS ⊢
      have HS := Lib.hid hS
      have hn1 : L.length + 1 ≤ maxLen := by unfold maxLen; omega
      have hn2 : (L.length + 1) * 64 ≤ 140737488355328 := by omega
      have HBS := Lib.hid (show w1.heap.size ≤ wr.heap.size from hS.below.size)
      have HLO := Lib.hid (show ∀ (W : World) (v : Value) (l : List Rw), OutR w1 W v l → OutR w W v l from fun W v l h => ⟨HB1.out.trans (h.below.mono (by have := HS1.out; omega)), own_lower h.row (by have := HS1.out; omega)⟩)
      have hx1 := HX.out.kept (hS.below.block _ HX.out.lt)
      have z0 : wr.cell? ⟨q, 0, none⟩ = some (.string r.t.o) := by rw [hx1.cell]; rfl
      have z1 : wr.cell? ⟨q, 1, none⟩ = some (.string r.t.r) := by rw [hx1.cell]; rfl
      have z2 : wr.cell? ⟨q, 2, none⟩ = some (.string r.t.u) := by rw [hx1.cell]; rfl
      have z3 : wr.cell? ⟨q, 3, none⟩ = some (.int .i64 r.s) := by rw [hx1.cell]; rfl
      have z4 : wr.cell? ⟨q, 4, none⟩ = some (.int .i64 r.u) := by rw [hx1.cell]; rfl
      clear hS hL hll hx1 HLE
      cases hd : R.any (rlt ltT r) with
      | true =>
        rw [if_pos hd] at hend
        have HE := Lib.hid hend
        clear hend hd
        go_wp2
        go_ret
        exact ⟨_, rfl, by rw [HE.out]; exact HLO.out _ _ _ HS.out⟩
      | false =>
        rw [if_neg (by rw [hd]; exact Bool.false_ne_true)] at hend
        have HE := Lib.hid hend
        clear hend hd
        go_wp2_with (at_builtin; refine wpList_append_own_at _ rfl (.tmp 37) (.tmp 39) 26 rfl w1.heap.size 46 j0 (.agg #[.string ⟨#[]⟩, .string ⟨#[]⟩, .string ⟨#[]⟩, .int .i64 0, .int .i64 0]) 5 64 Tryz.underlying26 hj0 jz0 jz1 jz2 rfl (by decide) (.slice va L.length vc) L.length (rwc L) rfl (HS.out.row.alloc _) ⟨wr.heap.size, 0, none⟩ 1 1 [.string r.t.o, .string r.t.r, .string r.t.u, .int .i64 r.s, .int .i64 r.u] rfl rfl (five_new wr _ _ _ _ _ 46) (by simp [Value.oneCell']) hn1 hn2 (by have := HBS.out; simp; omega) ?_; intro v' w6 hown6 hgr6 _ _
                     have HN := Lib.hid ((HS.out.up (below_alloc _ _)).next r hgr6 hown6)
                     clear hown6 hgr6)
        go_ret
        exact ⟨_, rfl, by rw [HE.out]; exact HLO.out _ _ _ HN.out⟩
end Go.Proofs.YtmjdngomjjhhiaaGreat
