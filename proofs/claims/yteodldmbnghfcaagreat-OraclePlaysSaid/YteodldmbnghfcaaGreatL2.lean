/- log: the record with which some bytes begin. log: all records with which some bytes begin. -/
import Derived.Test.YteodldmbnghfcaaGreatCInv
import Derived.Test.YteodldmbnghfcaaGreatFacts
import Derived.Test.YteodldmbnghfcaaGreatD5
namespace Go.Proofs.YteodldmbnghfcaaGreat
open Go.RowKit

/-- The message of the record with which these bytes begin, and how many bytes it has. -/
def unp (xs : List Int) : Option (MsgR × Nat) := if Fr.err xs = 0 then match dec (Fr.pay xs) with
  | .ok m => some (m, 8 + Fr.wd xs 4)
  | .error _ => none
  else none
theorem unp_no {xs : List Int} (h : Fr.err xs ≠ 0) : unp xs = none := by rw [unp, if_neg h]
theorem unp_bad {xs : List Int} {c : Int} (h : Fr.err xs = 0) (hd : dec (Fr.pay xs) = .error c) : unp xs = none := by rw [unp, if_pos h, hd]
theorem unp_ok {xs : List Int} {m : MsgR} (h : Fr.err xs = 0) (hd : dec (Fr.pay xs) = .ok m) : unp xs = some (m, 8 + Fr.wd xs 4) := by rw [unp, if_pos h, hd]
theorem pay_byt {xs : List Int} (h : Byt xs) : Byt (Fr.pay xs) := fun x hx => h x (List.mem_of_mem_drop (List.mem_of_mem_take hx))
/-- What a call of unpack comes to. -/
def UDone (w : World) (xs : List Int) (e : Ending) (w' : World) : Prop :=
  (∃ m k v8 v9 v10 v11, unp xs = some (m, k) ∧ e = .returned (.tuple #[.agg (msgC m v8 v9 v10 v11), .int .i64 (k : Nat), .int .i64 0]) ∧ MOwn w' (w.heap.size + 1) m v8 v9 v10 v11 ∧ m.fine ∧ Below w.heap.size w w') ∨
  (∃ c, unp xs = none ∧ c ≠ 0 ∧ e = .returned (.tuple #[.agg MsgZ, .int .i64 0, .int .i64 c]) ∧ Below w.heap.size w w')
theorem results_row_two {P : Program} {fn : Func} {p q r : Tmp} {ty : TypeId} (h : fn.results = #[.cell p ty, .tmp q, .tmp r]) (tmps : Array Value) (w : World) (g : Nat) (t : TypeId) (cs : Array Value) (fr : Nat × Nat) (d : TypeDesc)
    (hp : tmps.getD p undef = .pointer (some ⟨g, 0, none⟩)) (hg : w.heap[g]? = some (.cells cs t fr))
    (hu : P.underlying ty = some d) (hd : (match d with | .struct _ | .array _ _ => true | _ => false) = true) (hi : (P.info? ty).map (·.size) = some cs.size)
    (v2 v3 : Value) (hq : tmps.getD q undef = v2) (hr : tmps.getD r undef = v3) :
    (results fn tmps).run P w = .ok (.tuple #[.agg cs, v2, v3]) w := by
  simp only [results, h]
  have hp' : tmps[p]?.getD undef = .pointer (some ⟨g, 0, none⟩) := by simpa using hp
  have hq' : tmps[q]?.getD undef = v2 := by simpa using hq
  have hr' : tmps[r]?.getD undef = v3 := by simpa using hr
  simp [asAddr, Result.andThen, run_loadVar_row w g t ty cs fr d hg hu hd hi, hp', hq', hr']
theorem slice_nil {a : Option Addr} {n c : Nat} (h : Value.slice a n c = .slice none 0 0) : n = 0 := by injection h
theorem MOwn.below {w w' : World} {base : Nat} {m : MsgR} {v8 v9 v10 v11 : Value} (h : MOwn w base m v8 v9 v10 v11) (hb : Below w.heap.size w w') : MOwn w' base m v8 v9 v10 v11 :=
  ⟨owns_below h.nodes hb, owns_below h.muts hb, owns_below h.pre hb, owns_below h.rows hb⟩
theorem MOwn.lower {w : World} {base base' : Nat} {m : MsgR} {v8 v9 v10 v11 : Value} (h : MOwn w base m v8 v9 v10 v11) (hb : base' ≤ base) : MOwn w base' m v8 v9 v10 v11 :=
  ⟨owns_lower h.nodes hb, owns_lower h.muts hb, owns_lower h.pre hb, owns_lower h.rows hb⟩
theorem own_sliceL {w : World} {base n s : Nat} {e : TypeId} {v : Value} {l : List Value} (h : w.ownsRow base e s v n l) : ∃ a k c, v = .slice a k c := by
  rcases own_cases h with ⟨rfl, _⟩ | ⟨g, c, rfl, _⟩
  · exact ⟨_, _, _, rfl⟩
  · exact ⟨_, _, _, rfl⟩

theorem MOwn.twelve {w : World} {base b : Nat} {m : MsgR} {v8 v9 v10 v11 : Value} (h : MOwn w base m v8 v9 v10 v11) (hb : b < base) (y0 y1 y2 y3 y4 y5 y6 y7 y8 y9 y10 y11 : Value) : MOwn ((((((((((((w.setCell ⟨b, 0, none⟩ (y0)).setCell ⟨b, 1, none⟩ (y1)).setCell ⟨b, 2, none⟩ (y2)).setCell ⟨b, 3, none⟩ (y3)).setCell ⟨b, 4, none⟩ (y4)).setCell ⟨b, 5, none⟩ (y5)).setCell ⟨b, 6, none⟩ (y6)).setCell ⟨b, 7, none⟩ (y7)).setCell ⟨b, 8, none⟩ (y8)).setCell ⟨b, 9, none⟩ (y9)).setCell ⟨b, 10, none⟩ (y10)).setCell ⟨b, 11, none⟩ (y11)) base m v8 v9 v10 v11 :=
  ⟨twelve_owns h.nodes hb y0 y1 y2 y3 y4 y5 y6 y7 y8 y9 y10 y11, twelve_owns h.muts hb y0 y1 y2 y3 y4 y5 y6 y7 y8 y9 y10 y11, twelve_owns h.pre hb y0 y1 y2 y3 y4 y5 y6 y7 y8 y9 y10 y11, twelve_owns h.rows hb y0 y1 y2 y3 y4 y5 y6 y7 y8 y9 y10 y11⟩
theorem alloc_box (w : World) (cs : Array Value) : ∃ X, X = w.alloc (.cells cs 43) ∧ Whole X w.heap.size 43 cs ∧ Below w.heap.size w X := ⟨_, rfl, heap_alloc_new w _, below_alloc w _⟩

set_option maxRecDepth 100000 in
set_option maxHeartbeats 4000000 in
theorem unpack_any (a : Option Addr) (n c : Nat) (xs : List Int) (w : World) (hx : IsB w a n xs) (hnc : n ≤ c) (hc : c ≤ maxLen) :
    Calls Tryz.prog 48 #[.slice a n c] w (UDone w xs) := by
  obtain ⟨W0, hW0, hw0, hb0⟩ := alloc_box w MsgZ
  have HB0 := Lib.hid hb0
  have HZ0 := Lib.hid hw0
  have HX := Lib.hid hx
  have HE := Lib.hid (Fr.open_any a n c xs W0 (Nat.le_trans hnc hc) hnc hc (hx.below hb0))
  have hsz : w.heap.size < W0.heap.size := hw0.lt
  clear hx hb0 hw0
  go_enter Tryz.func48, Tryz.ntmps48
  go_wp2_with fail
  rw [← hW0]
  clear hW0
  refine HE.out.mono ?_
  rintro e w1 ⟨hb1, ⟨he0, v, rfl, hown⟩ | ⟨he0, rfl⟩⟩
  rotate_left
  · have hz1 := HZ0.out.kept (hb1.block _ HZ0.out.lt)
    have HU := Lib.hid (unp_no he0)
    have HE0 := Lib.hid he0
    have hce : ((Fr.err xs : Int) != 0) = true := by simp; exact he0
    have HB1 := Lib.hid (HB0.out.trans (hb1.mono HB0.out.size))
    have k0 := hz1.cell 0
    have f0 := hz1.free 0
    have k1 := hz1.cell 1
    have f1 := hz1.free 1
    have k2 := hz1.cell 2
    have f2 := hz1.free 2
    have k3 := hz1.cell 3
    have f3 := hz1.free 3
    have k4 := hz1.cell 4
    have f4 := hz1.free 4
    have k5 := hz1.cell 5
    have f5 := hz1.free 5
    have k6 := hz1.cell 6
    have f6 := hz1.free 6
    have k7 := hz1.cell 7
    have f7 := hz1.free 7
    have k8 := hz1.cell 8
    have f8 := hz1.free 8
    have k9 := hz1.cell 9
    have f9 := hz1.free 9
    have k10 := hz1.cell 10
    have f10 := hz1.free 10
    have k11 := hz1.cell 11
    have f11 := hz1.free 11
    have HZ1 := Lib.hid hz1
    clear hb1 hz1 HE HB0 he0
    go_wp2
    have hWW := twelve_store HZ1.out (.int .i64 0) (.int .i64 0) (.int .i64 0) (.int .i64 0) (.int .i64 0) (.int .i64 0) (.int .i64 0) (.bool false) (.slice none 0 0) (.slice none 0 0) (.slice none 0 0) (.slice none 0 0)
    have hBB := twelve_below HB1.out (Nat.le_refl _) (.int .i64 0) (.int .i64 0) (.int .i64 0) (.int .i64 0) (.int .i64 0) (.int .i64 0) (.int .i64 0) (.bool false) (.slice none 0 0) (.slice none 0 0) (.slice none 0 0) (.slice none 0 0)
    refine ⟨rfl, .tuple #[.agg MsgZ, .int .i64 0, .int .i64 (Fr.err xs : Nat)], results_row_two rfl _ _ w.heap.size _ _ _ _ rfl hWW Tryz.underlying43 rfl (by kernel_rfl) _ _ rfl rfl, ?_⟩
    exact .inr ⟨_, HU.out, by have := HE0.out; omega, rfl, hBB⟩
  obtain ⟨pa, pc, rfl, _, _⟩ := owned_any hown
  have hlp : (Fr.pay xs).length = Fr.wd xs 4 := by have := hown.1; simpa using this
  have hpb := pay_byt HX.out.2.1
  have HD := Lib.hid (decode_own hown hpb)
  have HF := Lib.hid (fun m hm => (dec_inv (m := m) hpb hm).2.1)
  have HB1 := Lib.hid (HB0.out.trans (hb1.mono HB0.out.size))
  have HZ1 := Lib.hid (HZ0.out.kept (hb1.block _ HZ0.out.lt))
  have HSZ := Lib.hid (show w.heap.size < w1.heap.size from Nat.lt_of_lt_of_le hsz hb1.size)
  have HE0 := Lib.hid he0
  obtain ⟨K, hK⟩ : ∃ K : Nat, K = 8 + Fr.wd xs 4 := ⟨_, rfl⟩
  rw [← hK]
  have HK := Lib.hid hK
  clear hb1 HE HB0 HZ0 hown hlp hpb he0 hK hsz
  go_wp2_with fail
  refine HD.out.mono ?_
  rintro e w2 (⟨m, v8, v9, v10, v11, hm, rfl, hO, hb2⟩ | ⟨cd, hm, rfl, hb2⟩)
  rotate_left
  · have hz2 := HZ1.out.kept (hb2.block _ HZ1.out.lt)
    obtain ⟨X2, hX2, hw2, hbx2⟩ := alloc_box w2 MsgZ
    have hz3 := hz2.kept (hbx2.block _ hz2.lt)
    have HU := Lib.hid (unp_bad HE0.out hm)
    have hcn := dec_err hm
    have HCN := Lib.hid hcn
    have hce : (cd != 0) = true := by simpa using hcn
    have HB2 := Lib.hid (HB1.out.trans ((hb2.trans (hbx2.mono hb2.size)).mono HB1.out.size))
    go_upto_region 5 with fail
    rw [← hX2]
    have k0 := hz3.cell 0
    have f0 := hz3.free 0
    have k1 := hz3.cell 1
    have f1 := hz3.free 1
    have k2 := hz3.cell 2
    have f2 := hz3.free 2
    have k3 := hz3.cell 3
    have f3 := hz3.free 3
    have k4 := hz3.cell 4
    have f4 := hz3.free 4
    have k5 := hz3.cell 5
    have f5 := hz3.free 5
    have k6 := hz3.cell 6
    have f6 := hz3.free 6
    have k7 := hz3.cell 7
    have f7 := hz3.free 7
    have k8 := hz3.cell 8
    have f8 := hz3.free 8
    have k9 := hz3.cell 9
    have f9 := hz3.free 9
    have k10 := hz3.cell 10
    have f10 := hz3.free 10
    have k11 := hz3.cell 11
    have f11 := hz3.free 11
    have HZ3 := Lib.hid hz3
    clear hb2 hz2 hz3 hw2 hbx2 hX2 HD hcn hm
    go_wp2
    have hWW := twelve_store HZ3.out (.int .i64 0) (.int .i64 0) (.int .i64 0) (.int .i64 0) (.int .i64 0) (.int .i64 0) (.int .i64 0) (.bool false) (.slice none 0 0) (.slice none 0 0) (.slice none 0 0) (.slice none 0 0)
    have hBB := twelve_below HB2.out (Nat.le_refl _) (.int .i64 0) (.int .i64 0) (.int .i64 0) (.int .i64 0) (.int .i64 0) (.int .i64 0) (.int .i64 0) (.bool false) (.slice none 0 0) (.slice none 0 0) (.slice none 0 0) (.slice none 0 0)
    refine ⟨rfl, .tuple #[.agg MsgZ, .int .i64 0, .int .i64 cd], results_row_two rfl _ _ w.heap.size _ _ _ _ rfl hWW Tryz.underlying43 rfl (by kernel_rfl) _ _ rfl rfl, ?_⟩
    exact .inr ⟨_, HU.out, HCN.out, rfl, hBB⟩
  · obtain ⟨a8, n8, c8, rfl⟩ := own_sliceL hO.nodes
    obtain ⟨a9, n9, c9, rfl⟩ := own_sliceL hO.muts
    obtain ⟨a10, n10, c10, rfl⟩ := own_sliceL hO.pre
    obtain ⟨a11, n11, c11, rfl⟩ := own_sliceL hO.rows
    have hz2 := HZ1.out.kept (hb2.block _ HZ1.out.lt)
    obtain ⟨X2, hX2, hw2, hbx2⟩ := alloc_box w2 (msgC m (.slice a8 n8 c8) (.slice a9 n9 c9) (.slice a10 n10 c10) (.slice a11 n11 c11))
    have hz3 := hz2.kept (hbx2.block _ hz2.lt)
    have HU := Lib.hid (unp_ok HE0.out hm)
    have HM := Lib.hid (HF.out m hm)
    have HO := Lib.hid (hO.below hbx2)
    have HB2 := Lib.hid (HB1.out.trans ((hb2.trans (hbx2.mono hb2.size)).mono HB1.out.size))
    unfold msgC at hX2 hw2 ⊢
    go_upto_region 5 with fail
    rw [← hX2]
    have k0 := hz3.cell 0
    have f0 := hz3.free 0
    have j0 := hw2.cell 0
    have k1 := hz3.cell 1
    have f1 := hz3.free 1
    have j1 := hw2.cell 1
    have k2 := hz3.cell 2
    have f2 := hz3.free 2
    have j2 := hw2.cell 2
    have k3 := hz3.cell 3
    have f3 := hz3.free 3
    have j3 := hw2.cell 3
    have k4 := hz3.cell 4
    have f4 := hz3.free 4
    have j4 := hw2.cell 4
    have k5 := hz3.cell 5
    have f5 := hz3.free 5
    have j5 := hw2.cell 5
    have k6 := hz3.cell 6
    have f6 := hz3.free 6
    have j6 := hw2.cell 6
    have k7 := hz3.cell 7
    have f7 := hz3.free 7
    have j7 := hw2.cell 7
    have k8 := hz3.cell 8
    have f8 := hz3.free 8
    have j8 := hw2.cell 8
    have k9 := hz3.cell 9
    have f9 := hz3.free 9
    have j9 := hw2.cell 9
    have k10 := hz3.cell 10
    have f10 := hz3.free 10
    have j10 := hw2.cell 10
    have k11 := hz3.cell 11
    have f11 := hz3.free 11
    have j11 := hw2.cell 11
    have HZ3 := Lib.hid hz3
    clear hb2 hz2 hz3 hw2 hbx2 hX2 HD hm hO HF
    go_wp2
    have hWW := twelve_store HZ3.out (.int .i64 m.kind) (.int .i64 m.frm) (.int .i64 m.too) (.int .i64 m.id) (.int .i64 m.rev) (.int .i64 m.epoch) (.int .i64 m.slot) (.bool m.flag) (.slice a8 n8 c8) (.slice a9 n9 c9) (.slice a10 n10 c10) (.slice a11 n11 c11)
    have hBB := twelve_below HB2.out (Nat.le_refl _) (.int .i64 m.kind) (.int .i64 m.frm) (.int .i64 m.too) (.int .i64 m.id) (.int .i64 m.rev) (.int .i64 m.epoch) (.int .i64 m.slot) (.bool m.flag) (.slice a8 n8 c8) (.slice a9 n9 c9) (.slice a10 n10 c10) (.slice a11 n11 c11)
    have hOO := HO.out.twelve HSZ.out (.int .i64 m.kind) (.int .i64 m.frm) (.int .i64 m.too) (.int .i64 m.id) (.int .i64 m.rev) (.int .i64 m.epoch) (.int .i64 m.slot) (.bool m.flag) (.slice a8 n8 c8) (.slice a9 n9 c9) (.slice a10 n10 c10) (.slice a11 n11 c11)
    refine ⟨rfl, .tuple #[.agg #[.int .i64 m.kind, .int .i64 m.frm, .int .i64 m.too, .int .i64 m.id, .int .i64 m.rev, .int .i64 m.epoch, .int .i64 m.slot, .bool m.flag, .slice a8 n8 c8, .slice a9 n9 c9, .slice a10 n10 c10, .slice a11 n11 c11], .int .i64 (K : Nat), .int .i64 0], results_row_two rfl _ _ w.heap.size _ _ _ _ rfl hWW Tryz.underlying43 rfl (by kernel_rfl) _ _ rfl rfl, ?_⟩
    exact .inl ⟨m, K, _, _, _, _, by rw [HU.out, HK.out], rfl, hOO.lower HSZ.out, HM.out, hBB⟩
end Go.Proofs.YteodldmbnghfcaaGreat

namespace Go.Proofs.YteodldmbnghfcaaGreat
open Go.RowKit

theorem unp_range {xs : List Int} {m : MsgR} {k : Nat} (h : unp xs = some (m, k)) : 8 ≤ k ∧ k ≤ xs.length := by
  rw [unp] at h
  split at h
  · rename_i he
    split at h
    · injection h with h
      injection h with _ h
      rw [Fr.err] at he
      split at he
      · omega
      split at he
      · omega
      split at he
      · omega
      · omega
    · cases h
  · cases h
def fnd : Nat → List Int → List MsgR × Nat
  | 0, _ => ([], 0)
  | f + 1, xs => match unp xs with
    | none => ([], 0)
    | some (m, k) => (m :: (fnd f (xs.drop k)).1, k + (fnd f (xs.drop k)).2)
theorem unp_nil : unp [] = none := unp_no (by decide)
theorem fnd_fuel : ∀ (f g : Nat) (xs : List Int), xs.length ≤ f → xs.length ≤ g → fnd f xs = fnd g xs
  | 0, 0, _, _, _ => rfl
  | 0, g + 1, xs, h, _ => by
    obtain rfl : xs = [] := List.eq_nil_of_length_eq_zero (by omega)
    simp only [fnd, unp_nil]
  | f + 1, 0, xs, _, h => by
    obtain rfl : xs = [] := List.eq_nil_of_length_eq_zero (by omega)
    simp only [fnd, unp_nil]
  | f + 1, g + 1, xs, h1, h2 => by
    simp only [fnd]
    cases hu : unp xs with
    | none => rfl
    | some q =>
      obtain ⟨m, k⟩ := q
      obtain ⟨h3, h4⟩ := unp_range hu
      have e := fnd_fuel f g (xs.drop k) (by rw [List.length_drop]; omega) (by rw [List.length_drop]; omega)
      simp only [e]
/-- The messages of all records with which these bytes begin, and how many bytes these have. -/
def recs (xs : List Int) : List MsgR × Nat := fnd xs.length xs
theorem recs_end {xs : List Int} (h : unp xs = none) : recs xs = ([], 0) := by
  rw [recs, fnd_fuel xs.length (xs.length + 1) xs (Nat.le_refl _) (by omega), fnd, h]
theorem recs_step {xs : List Int} {m : MsgR} {k : Nat} (h : unp xs = some (m, k)) : recs xs = (m :: (recs (xs.drop k)).1, k + (recs (xs.drop k)).2) := by
  obtain ⟨h3, h4⟩ := unp_range h
  rw [recs, fnd_fuel xs.length (xs.length + 1) xs (Nat.le_refl _) (by omega), fnd, h]
  simp only [recs]
  rw [fnd_fuel xs.length (xs.drop k).length (xs.drop k) (by rw [List.length_drop]; omega) (Nat.le_refl _)]
theorem recs_le : ∀ (f : Nat) (xs : List Int), xs.length ≤ f → (recs xs).2 ≤ xs.length ∧ (recs xs).1.length * 8 ≤ (recs xs).2 ∧ ∀ m ∈ (recs xs).1, Byt xs → m.fine
  | 0, xs, h => by
    obtain rfl : xs = [] := List.eq_nil_of_length_eq_zero (by omega)
    rw [recs_end unp_nil]
    exact ⟨Nat.le_refl _, Nat.le_refl _, by simp⟩
  | f + 1, xs, h => by
    cases hu : unp xs with
    | none =>
      rw [recs_end hu]
      exact ⟨Nat.zero_le _, Nat.le_refl _, by simp⟩
    | some q =>
      obtain ⟨m, k⟩ := q
      obtain ⟨h3, h4⟩ := unp_range hu
      rw [recs_step hu]
      obtain ⟨g1, g2, g3⟩ := recs_le f (xs.drop k) (by rw [List.length_drop]; omega)
      rw [List.length_drop] at g1
      refine ⟨by simp only; omega, by simp only [List.length_cons]; omega, ?_⟩
      intro x hx hb
      rcases List.mem_cons.1 hx with rfl | hx
      · rw [unp] at hu
        split at hu
        · split at hu
          · rename_i hd
            injection hu with hu
            injection hu with hu _
            subst hu
            exact (dec_inv (pay_byt hb) hd).2.1
          · cases hu
        · cases hu
      · exact g3 x hx fun y hy => hb y (List.mem_of_mem_drop hy)

theorem Tryz.infoG : (Tryz.prog.info? 43).map (fun i => (i.zero, i.size, i.bytes)) = some (some (.agg MsgZ), 12, 160) := by kernel_rfl
abbrev QR := MsgR × Value × Value × Value × Value
def qC (q : QR) : List Value := (msgC q.1 q.2.1 q.2.2.1 q.2.2.2.1 q.2.2.2.2).toList
/-- A row of the call's own with messages that were read. -/
def RowsOwn (w : World) (base : Nat) (v : Value) (ms : List MsgR) : Prop :=
  ∃ qs : List QR, qs.map (·.1) = ms ∧ w.ownsRow base 43 12 v ms.length (qs.flatMap qC) ∧ ∀ q ∈ qs, MOwn w base q.1 q.2.1 q.2.2.1 q.2.2.2.1 q.2.2.2.2 ∧ q.1.fine
theorem owns_keep {w w' : World} {base n s : Nat} {v : Value} {e : TypeId} {l : List Value} (h : w.ownsRow base e s v n l) (hb : ∀ k, v.ownBlock = some k → w'.heap[k]? = w.heap[k]?) : w'.ownsRow base e s v n l := by
  refine ⟨h.1, ?_⟩
  rcases h.2 with h2 | ⟨q, cap, cur, rfl, h3, h4, r⟩
  · exact .inl h2
  · exact .inr ⟨q, cap, cur, rfl, h3, (hb q rfl).trans h4, r⟩
theorem owns_apart {w : World} {base base' n n' s s' : Nat} {v v' : Value} {e e' : TypeId} {l l' : List Value} (h : w.ownsRow base e s v n l) (h' : w.ownsRow base' e' s' v' n' l') (he : e ≠ e') {k : Nat} (hk : v.ownBlock = some k) : v'.ownBlock ≠ some k := by
  intro hk'
  rcases h.2 with ⟨rfl, _⟩ | ⟨q, cap, cur, rfl, _, h4, _⟩
  · cases hk
  rcases h'.2 with ⟨rfl, _⟩ | ⟨q', cap', cur', rfl, _, h4', _⟩
  · cases hk'
  have e1 : q = k := by simpa [Value.ownBlock] using hk
  have e2 : q' = k := by simpa [Value.ownBlock] using hk'
  subst e1 e2
  rw [h4] at h4'
  injection h4' with h4'
  injection h4' with _ h4'
  exact he h4'
theorem owns_grown {a b : World} {base base' n n' s s' : Nat} {v v' : Value} {e e' : TypeId} {l l' : List Value} (h : a.ownsRow base e s v n l) (h' : a.ownsRow base' e' s' v' n' l') (he : e ≠ e') (hg : a.grownBy b v'.ownBlock) : b.ownsRow base e s v n l :=
  owns_keep h fun k hk => hg.block k (h.lt k hk).2 (fun e => owns_apart h h' he hk e.symm)
theorem MOwn.grown {a b : World} {base base' n : Nat} {m : MsgR} {v8 v9 v10 v11 v : Value} {l : List Value} (h : MOwn a base m v8 v9 v10 v11) (h' : a.ownsRow base' 43 12 v n l) (hg : a.grownBy b v.ownBlock) : MOwn b base m v8 v9 v10 v11 :=
  ⟨owns_grown h.nodes h' (by decide) hg, owns_grown h.muts h' (by decide) hg, owns_grown h.pre h' (by decide) hg, owns_grown h.rows h' (by decide) hg⟩
theorem RowsOwn.below {w w' : World} {base : Nat} {v : Value} {ms : List MsgR} (h : RowsOwn w base v ms) (hb : Below w.heap.size w w') : RowsOwn w' base v ms := by
  obtain ⟨qs, h1, h2, h3⟩ := h
  exact ⟨qs, h1, owns_below h2 hb, fun q hq => ⟨(h3 q hq).1.below hb, (h3 q hq).2⟩⟩
theorem RowsOwn.slice {w : World} {base : Nat} {v : Value} {ms : List MsgR} (h : RowsOwn w base v ms) : ∃ a c, v = .slice a ms.length c ∧ ms.length ≤ c ∧ c ≤ maxLen := by
  obtain ⟨qs, h1, h2, h3⟩ := h
  exact owned_some h2
/-- What a call of find comes to. -/
def FDone (w : World) (xs : List Int) (e : Ending) (w' : World) : Prop :=
  ∃ v, e = .returned (.tuple #[v, .int .i64 ((recs xs).2 : Nat)]) ∧ RowsOwn w' w.heap.size v (recs xs).1 ∧ Below w.heap.size w w'
/-- How far find has come. -/
def Far (w wr : World) (xs : List Int) (v : Value) (k n : Nat) : Prop :=
  ∃ acc : List MsgR, acc.length = n ∧ RowsOwn wr w.heap.size v acc ∧ Below w.heap.size w wr ∧ n * 8 ≤ k ∧ recs xs = (acc ++ (recs (xs.drop k)).1, k + (recs (xs.drop k)).2)
theorem Far.done {w wr w' : World} {xs : List Int} {v : Value} {k n : Nat} (h : Far w wr xs v k n) (hu : unp (xs.drop k) = none) (hb : Below wr.heap.size wr w') : FDone w xs (.returned (.tuple #[v, .int .i64 (k : Nat)])) w' := by
  obtain ⟨acc, _, h1, h2, _, h3⟩ := h
  rw [recs_end hu] at h3
  refine ⟨v, by rw [h3]; simp, by rw [h3]; simpa using h1.below hb, h2.trans (hb.mono h2.size)⟩
theorem Far.step {w wr w2 w3 : World} {xs : List Int} {v v' : Value} {k kk n : Nat} {m : MsgR} {v8 v9 v10 v11 : Value} (h : Far w wr xs v k n) (hu : unp (xs.drop k) = some (m, kk)) (hb : Below wr.heap.size wr w2) (hO : MOwn w2 (w.heap.size) m v8 v9 v10 v11) (hf : m.fine)
    (hrow : ∀ l, wr.ownsRow w.heap.size 43 12 v n l → w3.ownsRow w.heap.size 43 12 v' (n + 1) (l ++ qC (m, v8, v9, v10, v11))) (hg : w2.grownBy w3 v.ownBlock) : Far w w3 xs v' (k + kk) (n + 1) := by
  obtain ⟨acc, hn, ⟨qs, h1, h2, h3⟩, h4, h5, h6⟩ := h
  subst hn
  have hq2 := owns_below h2 hb
  have hlt : ∀ j, v.ownBlock = some j → w.heap.size ≤ j := fun j hj => (h2.lt j hj).1
  have hb2 := h4.trans (hb.mono h4.size)
  refine ⟨acc ++ [m], by simp, ⟨qs ++ [(m, v8, v9, v10, v11)], by simp [h1], ?_, ?_⟩, hb2.grown hg hb2.size hlt, by have := (unp_range hu).1; omega, ?_⟩
  · have := hrow _ h2
    simpa using this
  · intro q hq
    rcases List.mem_append.1 hq with hq | hq
    · exact ⟨((h3 q hq).1.below hb).grown hq2 hg, (h3 q hq).2⟩
    · obtain rfl : q = (m, v8, v9, v10, v11) := by simpa using hq
      exact ⟨hO.grown hq2 hg, hf⟩
  · rw [h6, recs_step hu, List.drop_drop]
    simp
    omega

set_option maxRecDepth 100000 in
set_option maxHeartbeats 4000000 in
theorem find_any (a : Option Addr) (n c : Nat) (xs : List Int) (w : World) (hx : IsB w a n xs) (hnc : n ≤ c) (hc : c ≤ maxLen) (hn : n ≤ 1048576) :
    Calls Tryz.prog 33 #[.slice a n c] w (FDone w xs) := by
  obtain ⟨i0, hi, hz0, hz1, hz2⟩ := info_parts Tryz.infoG
  have HX := Lib.hid hx
  have HC := Lib.hid hc
  clear hx hc
  go_enter Tryz.func33, Tryz.ntmps33
  go_wp2_with fail
  go_loopw [4, 5] (fun rv iv wr => ∃ (k q : Nat) (ra : Option Addr) (rc : Nat), k ≤ n ∧ iv = .int .i64 k ∧ rv = .slice ra q rc ∧ Far w wr xs (.slice ra q rc) k q) (fun _ iv _ => n - (intOf iv).toNat)
  case atStart => exact ⟨0, 0, none, 0, by omega, rfl, rfl, [], rfl, ⟨[], rfl, ⟨rfl, .inl ⟨rfl, rfl⟩⟩, by simp⟩, Below.refl _ _, by omega, by simp⟩
  case round =>
    obtain ⟨k, q, ra, rc, hk, rfl, rfl, hfar⟩ := hrel
    have hq8 : q * 8 ≤ k := by obtain ⟨_, _, _, _, h, _⟩ := hfar; exact h
    have HFAR := Lib.hid hfar
    have hbr : Below w.heap.size w wr := by obtain ⟨_, _, _, h, _, _⟩ := hfar; exact h
    have HBR := Lib.hid hbr
    by_cases hkn : k < n
    · have hst := fun w => slice_tail a n c k hk w
      have HU := Lib.hid (unpack_any (tailAt a c k) (n - k) (c - k) (xs.drop k) wr ((HX.out.below hbr).tail c k hk hnc) (by omega) (by have := HC.out; omega))
      clear hbr hfar
      go_wp2_with fail
      refine HU.out.mono ?_
      rintro e w2 (⟨m, kk, v8, v9, v10, v11, hu, rfl, hO, hfine, hb2⟩ | ⟨cd, hu, hcd, rfl, hb2⟩)
      · obtain ⟨a8, n8, c8, rfl⟩ := own_sliceL hO.nodes
        obtain ⟨a9, n9, c9, rfl⟩ := own_sliceL hO.muts
        obtain ⟨a10, n10, c10, rfl⟩ := own_sliceL hO.pre
        obtain ⟨a11, n11, c11, rfl⟩ := own_sliceL hO.rows
        obtain ⟨X2, hX2, hw2, hbx2⟩ := alloc_box w2 (msgC m (.slice a8 n8 c8) (.slice a9 n9 c9) (.slice a10 n10 c10) (.slice a11 n11 c11))
        have hkk : kk + k ≤ n ∧ 8 ≤ kk := by
          have h1 := unp_range hu
          rw [List.length_drop, HX.out.1] at h1
          omega
        obtain ⟨hkk, hk8⟩ := hkk
        have hbw := hb2.trans (hbx2.mono hb2.size)
        obtain ⟨acc, hacc, ⟨qs, hqs, hown, hall⟩, _⟩ := HFAR.out
        rw [hacc] at hown
        have hownX := owns_below hown hbw
        have HOW := Lib.hid hownX
        have HO := Lib.hid ((hO.below hbx2).lower (Nat.le_trans HBR.out.size (by omega)))
        have HFI := Lib.hid hfine
        have HUU := Lib.hid hu
        have HBW := Lib.hid hbw
        have HSZ := Lib.hid (show w.heap.size ≤ X2.heap.size from Nat.le_trans HBR.out.size hbw.size)
        have HNR := Lib.hid (show ∀ l : List Value, wr.ownsRow w.heap.size 43 12 (.slice ra q rc) q l → l = qs.flatMap qC from fun l hl => by
          rcases hl.2 with ⟨_, h0⟩ | ⟨g1, cap1, cur1, e1, _, h1, _, _, _, h2⟩
          · have h3 : l = [] := List.eq_nil_of_length_eq_zero (by have := hl.1; omega)
            have h4 : qs.flatMap qC = [] := List.eq_nil_of_length_eq_zero (by have := hown.1; omega)
            rw [h3, h4]
          · rcases hown.2 with ⟨e2, _⟩ | ⟨g2, cap2, cur2, e2, _, h3, _, _, _, h4⟩
            · rw [e1] at e2; cases e2
            · rw [e1] at e2
              injection e2 with e2 _ _
              injection e2 with e2
              injection e2 with e2 _ _
              subst e2
              rw [h1] at h3
              injection h3 with h3
              injection h3 with h3
              subst h3
              rw [← h2, ← h4])
        unfold msgC at hX2 hw2 ⊢
        go_upto_region 5 with fail
        rw [← hX2]
        have j0 := hw2.cell 0
        have j1 := hw2.cell 1
        have j2 := hw2.cell 2
        have j3 := hw2.cell 3
        have j4 := hw2.cell 4
        have j5 := hw2.cell 5
        have j6 := hw2.cell 6
        have j7 := hw2.cell 7
        have j8 := hw2.cell 8
        have j9 := hw2.cell 9
        have j10 := hw2.cell 10
        have j11 := hw2.cell 11
        have hw1 : IntKind.i64.wrap ((k : Int) + (kk : Int)) = (k : Int) + (kk : Int) := IntWalk.i64_in _ (by omega)
        clear hb2 hw2 hbx2 hX2 hO hfine hu hbw hown hownX hall hqs hacc
        go_wp2_with (at_builtin; refine wpList_append_at_any _ rfl _ _ 33 rfl w.heap.size 43 i0 (.agg MsgZ) 12 160 Tryz.underlying33 hi hz0 hz1 hz2 rfl (by decide) _ q _ rfl (HOW.out.alloc _) (some ⟨X2.heap.size, 0, none⟩) 1 1 [.int .i64 m.kind, .int .i64 m.frm, .int .i64 m.too, .int .i64 m.id, .int .i64 m.rev, .int .i64 m.epoch, .int .i64 m.slot, .bool m.flag, .slice a8 n8 c8, .slice a9 n9 c9, .slice a10 n10 c10, .slice a11 n11 c11] rfl rfl (by intro h; cases h) (by rintro ad he; injection he with he; subst he; exact cells_new _ [.int .i64 m.kind, .int .i64 m.frm, .int .i64 m.too, .int .i64 m.id, .int .i64 m.rev, .int .i64 m.epoch, .int .i64 m.slot, .bool m.flag, .slice a8 n8 c8, .slice a9 n9 c9, .slice a10 n10 c10, .slice a11 n11 c11] _) (by intro q hq; simp at hq; rcases hq with rfl | rfl | rfl | rfl | rfl | rfl | rfl | rfl | rfl | rfl | rfl | rfl <;> rfl) (by unfold maxLen; omega) (by omega) (by have := HSZ.out; simp; omega) ?_; intro v2 w3 hown3 hgrow3 hat3)
        have HF3 := Lib.hid (HFAR.out.step (w2 := X2.alloc (.cells #[.int .i64 m.kind, .int .i64 m.frm, .int .i64 m.too, .int .i64 m.id, .int .i64 m.rev, .int .i64 m.epoch, .int .i64 m.slot, .bool m.flag, .slice a8 n8 c8, .slice a9 n9 c9, .slice a10 n10 c10, .slice a11 n11 c11] 43)) (w3 := w3) (v' := v2) HUU.out (HBW.out.alloc HBW.out.size _) (HO.out.below (below_alloc _ _)) HFI.out (fun l hl => by rw [HNR.out l hl]; exact hown3) hgrow3)
        obtain ⟨ra3, rc3, rfl, _, _⟩ := owned_some hown3
        clear hown3 hgrow3 hat3
        go_roundw
        case rel => exact ⟨k + kk, q + 1, ra3, rc3, by omega, by go_num, rfl, HF3.out⟩
        case measure => simp [intOf]; omega
      · have HCD := Lib.hid hcd
        have hce : (cd != 0) = true := by simpa using hcd
        have hdone := Lib.hid (HFAR.out.done hu (hb2.trans ((below_alloc w2 (.cells MsgZ 43)).mono hb2.size)))
        clear hcd hb2 hu
        go_wp2_with (go_ret2)
        exact hdone.out
    · obtain rfl : k = n := by omega
      have hdone := Lib.hid (HFAR.out.done (w' := wr) (by rw [List.drop_of_length_le (by rw [HX.out.1]; exact Nat.le_refl _)]; exact unp_nil) (Below.refl _ _))
      clear hbr hfar
      go_wp2
      go_ret2
      exact hdone.out
end Go.Proofs.YteodldmbnghfcaaGreat
