/- Several texts in one. -/
import Derived.Test.YteimgebfbnmdcaaHX
import Derived.Test.YteimgebfbnmdcaaHZ
import Derived.Test.YteimgebfbnmdcaaK1
/- The document's Play. -/
namespace Go.Proofs.Yteimgebfbnmdcaa
open Go.RowKit Go.Shelf
open Go.Maps (Keyed)

theorem lies_own {w : World} {T : TypeId} {k B n c : Nat} {a : Option Addr} {cs : List Value} (h : w.ownsRow B T k (.slice a n c) n cs) : Lies w T k B a n c cs := by
  obtain ⟨a', c', e, h⟩ := Lies.owned h
  injection e with e1 _ e2
  subst e1
  subst e2
  exact h
theorem OutE.lowerW {α : Type} {T : TypeId} {k : Nat} {enc : α → List Value} {w w1 wr : World} {v : Value} {L : List α} (h : OutE T k enc w1 wr v L) (hb : Below w.heap.size w w1) : OutE T k enc w wr v L :=
  ⟨bell_up hb h.below, own_lower h.row hb.size⟩
set_option maxRecDepth 100000 in
set_option maxHeartbeats 8000000 in
theorem rin_any {w : World} {a : Option Addr} {n c B : Nat} {l : List Tp} (hl : Lies w 47 3 B a n c (l.flatMap tc)) (hln : l.length = n) (hn : n ≤ 1099511627776) (t : Tp) :
    Calls Try.prog 44 #[.slice a n c, tpV t] w fun e w' => e = .returned (.bool (decide (t ∈ l))) ∧ Below w.heap.size w w' := by
  obtain ⟨q, hq⟩ : ∃ q, q = w.heap.size := ⟨_, rfl⟩
  obtain ⟨w1, hw1⟩ : ∃ w1, w1 = w.alloc (.cells #[.string t.o, .string t.r, .string t.u] 47) := ⟨_, rfl⟩
  have hb1 : Below w.heap.size w w1 := by rw [hw1]; exact below_alloc _ _
  have hX : Whole w1 q 47 #[.string t.o, .string t.r, .string t.u] := by rw [hw1, hq]; exact heap_alloc_new _ _
  have HX := Lib.hid hX
  have HB1 := Lib.hid hb1
  have HL := Lib.hid (hl.below hb1)
  have HLN := Lib.hid hln
  clear hl hb1 hX hln
  go_enter Try.func44, Try.ntmps44
  go_upto_region 1 with fail
  rw [← hw1, ← hq]
  clear hw1 hq
  go_wp2_with fail
  go_loopw [5] (fun iv wr => ∃ i : Nat, i ≤ n ∧ iv = .int .i64 (i : Int) ∧ Hid (t ∉ l.take i) ∧ Below w1.heap.size w1 wr) (fun iv _ => n - (intOf iv).toNat)
  case atStart => exact ⟨0, by omega, rfl, Lib.hid (by simp), Below.refl _ _⟩
  case round =>
    obtain ⟨i, hin, rfl, HNI, hbr⟩ := hrel
    by_cases hil : i < n
    · obtain ⟨x, hx⟩ : ∃ x, l[i]? = some x := ⟨_, List.getElem?_eq_getElem (show i < l.length by rw [HLN.out]; exact hil)⟩
      obtain ⟨b, off, rfl, hbb, hcc⟩ := lies_cells tc_len (by decide) HL.out hx
      have y0 := (hbr.cell (p := ⟨b, off + i * 3, none⟩) hbb).trans (hcc 0 _ rfl)
      have y1 := (hbr.cell (p := ⟨b, off + i * 3 + 1, none⟩) hbb).trans (hcc 1 _ rfl)
      have y2 := (hbr.cell (p := ⟨b, off + i * 3 + 2, none⟩) hbb).trans (hcc 2 _ rfl)
      have hx1 := HX.out.kept (hbr.block _ HX.out.lt)
      have z0 : wr.cell? ⟨q, 0, none⟩ = some (.string t.o) := by rw [hx1.cell]; rfl
      have z1 : wr.cell? ⟨q, 1, none⟩ = some (.string t.r) := by rw [hx1.cell]; rfl
      have z2 : wr.cell? ⟨q, 2, none⟩ = some (.string t.u) := by rw [hx1.cell]; rfl
      have hil2 : (i : Int) < (n : Int) := by omega
      have HXM := Lib.hid (List.mem_of_getElem? hx)
      have HTK := Lib.hid (show l.take (i + 1) = l.take i ++ [x] by rw [List.take_add_one, hx]; rfl)
      have HBR := Lib.hid hbr
      have HTC := Lib.hid (tp_cases x t)
      clear hcc hbb hx1 hbr hx
      rcases HTC.out with ⟨he, h1, h2, h3⟩ | hne
      · have HY := Lib.hid (show decide (t ∈ l) = true by rw [← he]; exact decide_eq_true HXM.out)
        clear HTC he
        go_wp2_with fail
        go_quiet (fail)
        have HBQ := Lib.hid (bell_up HB1.out (bell_up HBR.out (below_drewN wr nq)))
        go_wp2
        go_ret
        exact ⟨by rw [HY.out]; rfl, HBQ.out⟩
      · have HNX := Lib.hid (show t ∉ l.take (i + 1) by
          rw [HTK.out, List.mem_append, List.mem_singleton]
          exact fun e => e.elim HNI.out (fun e => hne.elim (fun h => h.1 e.symm) fun h => h.elim (fun h => h.1 e.symm) fun h => h.1 e.symm))
        clear HTC
        rcases hne with ⟨hne, h1⟩ | ⟨hne, h1, h2⟩ | ⟨hne, h1, h2, h3⟩
        all_goals
          clear hne
          go_wp2_with fail
          go_quiet (fail)
          have HBQ := Lib.hid (bell_up HBR.out (below_drewN wr nq))
          go_wp2
          go_roundw
          case rel => exact ⟨i + 1, by omega, by go_num, HNX, HBQ.out⟩
          case measure => simp [intOf]; omega
    · obtain rfl : i = n := by omega
      have HY := Lib.hid (show decide (t ∈ l) = false by
        have := HNI.out
        rw [List.take_of_length_le (by rw [HLN.out]; exact Nat.le_refl _)] at this
        exact decide_eq_false this)
      have HBQ := Lib.hid (bell_up HB1.out hbr)
      clear hbr
      go_wp2
      go_ret
      exact ⟨by rw [HY.out]; rfl, HBQ.out⟩
/-- What a change makes of tuples in order. -/
def rplO (R : List Tp) (c : Ch) : List Tp := if c.del then R.filter (fun x => decide (x ≠ c.t)) else withT ltT R c.t
def rplS (R : List Tp) (l : List Ch) : List Tp := l.foldl rplO R
def withS (A : List Tp) : List Tp := A.foldl (withT ltT) []
theorem withF {A R S : List Tp} (hs : TSorted ltT R) (hm : ∀ x, x ∈ R ↔ x ∈ S) : TSorted ltT (A.foldl (withT ltT) R) ∧ ∀ x, x ∈ A.foldl (withT ltT) R ↔ x ∈ A.foldl addS S := by
  induction A generalizing R S with
  | nil => exact ⟨hs, hm⟩
  | cons t A ih =>
    refine ih (withT_sorted ordT hs t) (fun x => ?_)
    rw [withT_mem, mem_addS, hm]
    exact ⟨fun h => h.elim .inr .inl, fun h => h.elim .inr .inl⟩
theorem withS_sorted (A : List Tp) : TSorted ltT (withS A) := (withF (by simp [TSorted]) (fun _ => Iff.rfl)).1
theorem withS_mem (A : List Tp) (x : Tp) : x ∈ withS A ↔ x ∈ A := by
  rw [show (x ∈ withS A ↔ x ∈ A.foldl addS []) from (withF (by simp [TSorted]) (fun _ => Iff.rfl)).2 x, mem_adds]; simp
theorem rplF {l : List Ch} {R S : List Tp} (hs : TSorted ltT R) (hm : ∀ x, x ∈ R ↔ x ∈ S) : TSorted ltT (rplS R l) ∧ ∀ x, x ∈ rplS R l ↔ x ∈ playS S l := by
  induction l generalizing R S with
  | nil => exact ⟨hs, hm⟩
  | cons c l ih =>
    refine ih (R := rplO R c) (S := playO S c) ?_ (fun x => ?_)
    · unfold rplO
      split
      · exact List.Pairwise.filter _ hs
      · exact withT_sorted ordT hs _
    · unfold rplO playO
      split
      · rw [List.mem_filter, List.mem_filter, hm]
      · rw [withT_mem, mem_addS, hm]
        exact ⟨fun h => h.elim .inr .inl, fun h => h.elim .inr .inl⟩
theorem rplay_ord (A : List Tp) (l : List Ch) : Ord (· ∈ playS (A.foldl addS []) l) (rplS (withS A) l) := by
  have h1 := withF (A := A) (R := []) (S := []) (by simp [TSorted]) (fun _ => Iff.rfl)
  have h2 := rplF (l := l) h1.1 h1.2
  exact ⟨h2.1, h2.2⟩
theorem withT_le (l : List Tp) (t : Tp) : (withT ltT l t).length ≤ l.length + 1 := withT_len l t
theorem fold_len (A R : List Tp) : (A.foldl (withT ltT) R).length ≤ R.length + A.length := by
  induction A generalizing R with
  | nil => simp
  | cons t A ih =>
    rw [List.foldl_cons, List.length_cons]
    have := ih (withT ltT R t)
    have := withT_len R t
    omega
theorem rplS_len (R : List Tp) (l : List Ch) : (rplS R l).length ≤ R.length + l.length := by
  unfold rplS
  induction l generalizing R with
  | nil => simp
  | cons c l ih =>
    rw [List.foldl_cons, List.length_cons]
    have h1 := ih (rplO R c)
    have h2 : (rplO R c).length ≤ R.length + 1 := by
      unfold rplO
      split
      · exact Nat.le_succ_of_le (List.length_filter_le _ _)
      · exact withT_len R c.t
    omega
theorem twithO {w w0 : World} {v : Value} {R : List Tp} (h : OutE 47 3 tc w0 w v R) (hn : R.length ≤ 1099511627776) (t : Tp) :
    Calls Try.prog 36 #[v, tpV t] w fun e w' => ∃ v', e = .returned v' ∧ OutE 47 3 tc w0 w' v' (withT ltT R t) ∧ Below w.heap.size w w' := by
  refine (twith_any h.row h.below.size hn t).mono ?_
  rintro _ w' ⟨v', rfl, hown, hb⟩
  exact ⟨v', rfl, ⟨bell_up h.below hb, hown⟩, hb⟩
theorem filter_next {α : Type} {p : α → Bool} {R : List α} {k : Nat} {x : α} (h : R[k]? = some x) : (R.take (k + 1)).filter p = (R.take k).filter p ++ (if p x then [x] else []) := by
  rw [List.take_add_one, h, List.filter_append]
  congr 1
  show List.filter p [x] = _
  cases hp : p x <;> simp [hp]
set_option maxRecDepth 100000 in
set_option maxHeartbeats 16000000 in
theorem rplay_any {w : World} {a0 a : Option Addr} {n0 c0 n c B0 B : Nat} {A : List Tp} {l : List Ch} (hA : Lies w 47 3 B0 a0 n0 c0 (A.flatMap tc)) (hAn : A.length = n0) (hn0 : n0 ≤ 1099511000) (hl : Lies w 59 5 B a n c (l.flatMap chc)) (hln : l.length = n) (hn : n ≤ 1099511000) :
    Calls Try.prog 16 #[.slice a0 n0 c0, .slice a n c] w fun e w' => ∃ v, e = .returned v ∧ OutE 47 3 tc w w' v (rplS (withS A) l) := by
  obtain ⟨j0, hj0, jz0, jz1, jz2⟩ := info_parts infoTp
  have HA := Lib.hid hA
  have HAN := Lib.hid hAn
  have HL := Lib.hid hl
  have HLN := Lib.hid hln
  have HU1 := Lib.hid (show OutE 47 3 tc w w (.slice none 0 0) ((A.take 0).foldl (withT ltT) []) from ⟨Below.refl _ _, World.ownsRow_nil _ _ _ _⟩)
  clear hA hAn hl hln
  go_enter Try.func16, Try.ntmps16
  go_wp2_with fail
  go_loopw [5, 6] (fun v iv wr => ∃ i : Nat, i ≤ n0 ∧ iv = .int .i64 (i : Int) ∧ OutE 47 3 tc w wr v ((A.take i).foldl (withT ltT) [])) (fun _ iv _ => n0 - (intOf iv).toNat)
  case atStart => exact ⟨0, by omega, rfl, HU1.out⟩
  case round =>
    clear HU1
    obtain ⟨i, hin, rfl, hS⟩ := hrel
    by_cases hil : i < n0
    · obtain ⟨x, hx⟩ : ∃ x, A[i]? = some x := ⟨_, List.getElem?_eq_getElem (show i < A.length by rw [HAN.out]; exact hil)⟩
      obtain ⟨b, off, rfl, hbb, hcc⟩ := lies_cells tc_len (by decide) HA.out hx
      have y0 := (hS.below.cell (p := ⟨b, off + i * 3, none⟩) hbb).trans (hcc 0 _ rfl)
      have y1 := (hS.below.cell (p := ⟨b, off + i * 3 + 1, none⟩) hbb).trans (hcc 1 _ rfl)
      have y2 := (hS.below.cell (p := ⟨b, off + i * 3 + 2, none⟩) hbb).trans (hcc 2 _ rfl)
      have hil2 : (i : Int) < (n0 : Int) := by omega
      have HFO := Lib.hid (foldl_take (withT ltT) [] hx)
      have hlen := fold_len (A.take i) []
      rw [List.length_take] at hlen
      generalize (A.take i).foldl (withT ltT) [] = R at hS hlen HFO
      have HTW := Lib.hid (twithO hS (by simp at hlen; omega) x)
      clear hcc hbb hx hS hlen
      go_wp2_with fail
      refine HTW.out.mono ?_
      rintro _ w2 ⟨v2, rfl, ho2, hb2⟩
      have HN := Lib.hid (show OutE 47 3 tc w w2 v2 ((A.take (i + 1)).foldl (withT ltT) []) from by rw [HFO.out]; exact ho2)
      clear ho2 hb2 HTW
      go_wp2
      go_roundw
      case rel => exact ⟨i + 1, by omega, by go_num, HN.out⟩
      case measure => simp [intOf]; omega
    · obtain rfl : i = n0 := by omega
      rw [List.take_of_length_le (by rw [HAN.out]; exact Nat.le_refl _)] at hS
      have hS2 : OutE 47 3 tc w wr _ (rplS (withS A) (l.take 0)) := hS
      have HU2 := Lib.hid hS2
      clear hS hS2
      go_wp2_with fail
      go_loopw [5, 7] (fun v iv wr => ∃ j : Nat, j ≤ n ∧ iv = .int .i64 (j : Int) ∧ OutE 47 3 tc w wr v (rplS (withS A) (l.take j))) (fun _ iv _ => n - (intOf iv).toNat)
      case atStart => exact ⟨0, by omega, rfl, HU2.out⟩
      case round =>
        clear HU2
        obtain ⟨wO, rfl⟩ : ∃ W, W = wr := ⟨_, rfl⟩
        obtain ⟨j, hjn, rfl, hS⟩ := hrel
        by_cases hjl : j < n
        · obtain ⟨ch, hx⟩ : ∃ ch, l[j]? = some ch := ⟨_, List.getElem?_eq_getElem (show j < l.length by rw [HLN.out]; exact hjl)⟩
          obtain ⟨bb, off, rfl, hbb, hcc⟩ := lies_cells chc_len (by decide) HL.out hx
          have HFO := Lib.hid (show rplS (withS A) (l.take (j + 1)) = rplO (rplS (withS A) (l.take j)) ch from foldl_take rplO (withS A) hx)
          have hlen := rplS_len (withS A) (l.take j)
          have hlen2 := fold_len A []
          rw [List.length_take] at hlen
          rw [show (A.foldl (withT ltT) []) = withS A from rfl, HAN.out] at hlen2
          generalize rplS (withS A) (l.take j) = R at hS hlen HFO
          have hlr : R.length ≤ 2199022000 := by simp at hlen2; omega
          have HLR := Lib.hid hlr
          have hjl2 : (j : Int) < (n : Int) := by omega
          have HZZ := Lib.hid (show ∀ W : World, Below w.heap.size w W → (W.cell? ⟨bb, off + j * 5 + 1, none⟩ = some (.bool ch.del) ∧ W.cell? ⟨bb, off + j * 5 + 2, none⟩ = some (.string ch.t.o) ∧ W.cell? ⟨bb, off + j * 5 + 2 + 1, none⟩ = some (.string ch.t.r) ∧ W.cell? ⟨bb, off + j * 5 + 2 + 2, none⟩ = some (.string ch.t.u)) from fun W hW =>
            ⟨(hW.cell (p := ⟨bb, off + j * 5 + 1, none⟩) hbb).trans (hcc 1 _ rfl), (hW.cell (p := ⟨bb, off + j * 5 + 2, none⟩) hbb).trans (hcc 2 _ rfl), (hW.cell (p := ⟨bb, off + j * 5 + 2 + 1, none⟩) hbb).trans (hcc 3 _ rfl), (hW.cell (p := ⟨bb, off + j * 5 + 2 + 2, none⟩) hbb).trans (hcc 4 _ rfl)⟩)
          obtain ⟨zd, z0, z1, z2⟩ := HZZ.out _ hS.below
          obtain ⟨va, vc, rfl, _, _⟩ := owned_anyE hS.row
          have HS := Lib.hid hS
          clear hcc hbb hx hlen hlen2 hlr
          cases hd : ch.del with
          | false =>
            rw [hd] at zd
            have HTW := Lib.hid (twithO hS (by have := HLR.out; omega) ch.t)
            have HFO2 := Lib.hid (show rplS (withS A) (l.take (j + 1)) = withT ltT R ch.t from by rw [HFO.out]; unfold rplO; rw [hd]; rfl)
            clear hS hd
            go_wp2_with fail
            refine HTW.out.mono ?_
            rintro _ w2 ⟨v2, rfl, ho2, hb2⟩
            have HN := Lib.hid (show OutE 47 3 tc w w2 v2 (rplS (withS A) (l.take (j + 1))) from by rw [HFO2.out]; exact ho2)
            clear ho2 hb2 HTW
            go_wp2
            go_roundw
            case rel => exact ⟨j + 1, by omega, by go_num, HN.out⟩
            case measure => simp [intOf]; omega
          | true =>
            rw [hd] at zd
            have HFO2 := Lib.hid (show rplS (withS A) (l.take (j + 1)) = R.filter (fun x => decide (x ≠ ch.t)) from by rw [HFO.out]; unfold rplO; rw [hd]; rfl)
            have HU3 := Lib.hid (show OutE 47 3 tc wO wO (.slice none 0 0) ((R.take 0).filter (fun x => decide (x ≠ ch.t))) from ⟨Below.refl _ _, World.ownsRow_nil _ _ _ _⟩)
            have HR := Lib.hid (lies_own hS.row)
            clear hS hd
            go_wp2_with fail
            go_loopw [8, 9] (fun v iv wr => ∃ k : Nat, k ≤ R.length ∧ iv = .int .i64 (k : Int) ∧ OutE 47 3 tc wO wr v ((R.take k).filter (fun x => decide (x ≠ ch.t)))) (fun _ iv _ => R.length - (intOf iv).toNat)
            case atStart => exact ⟨0, by omega, rfl, HU3.out⟩
            case round =>
              clear HU3 zd z0 z1 z2
              obtain ⟨wI, rfl⟩ : ∃ W, W = wr := ⟨_, rfl⟩
              obtain ⟨k, hkn, rfl, hI⟩ := hrel
              by_cases hkl : k < R.length
              · obtain ⟨x, hx⟩ : ∃ x, R[k]? = some x := ⟨_, List.getElem?_eq_getElem hkl⟩
                obtain ⟨b, o5, rfl, hbb, hcc⟩ := lies_cells tc_len (by decide) HR.out hx
                have HFN := Lib.hid (filter_next (p := fun x => decide (x ≠ ch.t)) hx)
                have hlm : ((R.take k).filter (fun x => decide (x ≠ ch.t))).length ≤ k := Nat.le_trans (List.length_filter_le _ _) (by rw [List.length_take]; exact Nat.min_le_left _ _)
                obtain ⟨M, hM⟩ : ∃ M, M = (R.take k).filter (fun x => decide (x ≠ ch.t)) := ⟨_, rfl⟩
                rw [← hM] at hI hlm HFN
                obtain ⟨ma, mc, rfl, _, _⟩ := owned_anyE hI.row
                have HYY := Lib.hid (show ∀ W : World, Below wO.heap.size wO W → (W.cell? ⟨b, o5 + k * 3, none⟩ = some (.string x.o) ∧ W.cell? ⟨b, o5 + k * 3 + 1, none⟩ = some (.string x.r) ∧ W.cell? ⟨b, o5 + k * 3 + 2, none⟩ = some (.string x.u)) from fun W hW =>
                  ⟨(hW.cell (p := ⟨b, o5 + k * 3, none⟩) hbb).trans (hcc 0 _ rfl), (hW.cell (p := ⟨b, o5 + k * 3 + 1, none⟩) hbb).trans (hcc 1 _ rfl), (hW.cell (p := ⟨b, o5 + k * 3 + 2, none⟩) hbb).trans (hcc 2 _ rfl)⟩)
                obtain ⟨y0, y1, y2⟩ := HYY.out _ hI.below
                obtain ⟨_, z0, z1, z2⟩ := HZZ.out _ (bell_up HS.out.below hI.below)
                have hkl2 : (k : Int) < (R.length : Int) := by omega
                have hk9 : k ≤ 2199022000 := by have := HLR.out; omega
                have hn1 : M.length + 1 ≤ maxLen := by have := HLR.out; unfold maxLen; omega
                have hn2 : (M.length + 1) * 48 ≤ 140737488355328 := by have := HLR.out; omega
                have HI := Lib.hid hI
                have HTC := Lib.hid (tp_cases x ch.t)
                clear hcc hbb hx hI hlm hM
                rcases HTC.out with ⟨he, h1, h2, h3⟩ | hne
                · have HFN2 := Lib.hid (show (R.take (k + 1)).filter (fun x => decide (x ≠ ch.t)) = M from by rw [HFN.out, he]; simp)
                  clear HTC he
                  go_wp2_with fail
                  go_quiet (fail)
                  have HN := Lib.hid (HI.out.up (below_drewN wI nq))
                  go_wp2
                  go_roundw
                  case rel => exact ⟨k + 1, by omega, by go_num, by rw [HFN2.out]; exact HN.out⟩
                  case measure => simp [intOf]; omega
                · have HFN2 := Lib.hid (show (R.take (k + 1)).filter (fun x => decide (x ≠ ch.t)) = M ++ [x] from by
                    have hq : x ≠ ch.t := hne.elim (fun h => h.1) fun h => h.elim (fun h => h.1) fun h => h.1
                    rw [HFN.out]; simp [hq])
                  clear HTC
                  rcases hne with ⟨hne, h1⟩ | ⟨hne, h1, h2⟩ | ⟨hne, h1, h2, h3⟩
                  all_goals
                    clear hne
                    go_wp2_with fail
                    go_quiet (fail)
                    have HI2 := Lib.hid (HI.out.up (below_drewN wI nq))
                    generalize wI.drewN nq = wq at *
                    clear y0 y1 y2 z0 z1 z2
                    obtain ⟨y0, y1, y2⟩ := HYY.out wq HI2.out.below
                    have HBS := Lib.hid (show wO.heap.size ≤ wq.heap.size from HI2.out.below.size)
                    go_wp2_with (at_builtin; refine wpList_append_own_at _ rfl (.tmp 49) (.tmp 54) 30 rfl wO.heap.size 47 j0 (.agg #[.string ⟨#[]⟩, .string ⟨#[]⟩, .string ⟨#[]⟩]) 3 48 Try.underlying30 hj0 jz0 jz1 jz2 rfl (by decide) (.slice ma M.length mc) M.length (M.flatMap tc) rfl (HI2.out.row.alloc _) ⟨wq.heap.size, 0, none⟩ 1 1 [.string x.o, .string x.r, .string x.u] rfl rfl (three_newT wq _ _ _ 47) (by simp [Value.oneCell']) hn1 hn2 (by have := HBS.out; simp; omega) ?_; intro v' w6 hown6 hgr6 _ _
                                 have HN := Lib.hid ((HI2.out.up (below_alloc _ _)).next x hgr6 hown6)
                                 clear hown6 hgr6)
                    go_roundw
                    case rel => exact ⟨k + 1, by omega, by go_num, by rw [HFN2.out]; exact HN.out⟩
                    case measure => simp [intOf]; omega
              · obtain rfl : k = R.length := by omega
                rw [List.take_length] at hI
                have HN := Lib.hid (show OutE 47 3 tc w wI _ (rplS (withS A) (l.take (j + 1))) from by rw [HFO2.out]; exact hI.lowerW HS.out.below)
                clear hI
                go_wp2
                go_roundw
                case rel => exact ⟨j + 1, by omega, by go_num, HN.out⟩
                case measure => simp [intOf]; omega
        · obtain rfl : j = n := by omega
          rw [List.take_of_length_le (by rw [HLN.out]; exact Nat.le_refl _)] at hS
          have HE := Lib.hid hS
          clear hS
          go_wp2
          go_ret
          exact ⟨_, rfl, HE.out⟩
end Go.Proofs.Yteimgebfbnmdcaa
/- The document's Net. -/
namespace Go.Proofs.Yteimgebfbnmdcaa
open Go.RowKit Go.Shelf
open Go.Maps (Keyed)

def netR (A B : List Tp) : List Tp := B.foldl (withT ltT) (A.foldl (withT ltT) [])
/-- What of some tuples leads from A to B. -/
def netL (A B R : List Tp) : List Mu := (R.filter fun t => decide (t ∈ A) != decide (t ∈ B)).map fun t => ⟨decide (t ∈ A), t⟩
theorem netL_next (A B : List Tp) {R : List Tp} {k : Nat} {x : Tp} (h : R[k]? = some x) : netL A B (R.take (k + 1)) = netL A B (R.take k) ++ (if decide (x ∈ A) != decide (x ∈ B) then [⟨decide (x ∈ A), x⟩] else []) := by
  unfold netL
  rw [filter_next h, List.map_append]
  congr 1
  split <;> rfl
theorem netL_len (A B R : List Tp) : (netL A B R).length ≤ R.length := by
  unfold netL
  rw [List.length_map]
  exact List.length_filter_le _ _
theorem netR_len (A B : List Tp) : (netR A B).length ≤ A.length + B.length := by
  have h1 := fold_len A []
  have h2 := fold_len B (A.foldl (withT ltT) [])
  unfold netR
  simp at h1
  omega
theorem netR_ord (A B : List Tp) : TSorted ltT (netR A B) ∧ ∀ x, x ∈ netR A B ↔ x ∈ A ∨ x ∈ B := by
  have h1 := withF (A := A) (R := []) (S := []) (by simp [TSorted]) (fun _ => Iff.rfl)
  have h2 := withF (A := B) h1.1 h1.2
  refine ⟨h2.1, fun x => ?_⟩
  rw [show (x ∈ netR A B ↔ _) from h2.2 x, mem_adds, mem_adds]
  simp
theorem netL_ok (A B : List Tp) : NetO A B (netL A B (netR A B)) := by
  obtain ⟨h1, h2⟩ := netR_ord A B
  refine ⟨?_, fun m => ?_⟩
  · unfold netL
    rw [List.map_map]
    show (List.map (fun t => t) _).Pairwise _
    rw [List.map_id']
    exact List.Pairwise.filter _ h1
  · unfold netL netP
    rw [List.mem_map]
    constructor
    · rintro ⟨t, ht, rfl⟩
      rw [List.mem_filter, h2] at ht
      by_cases hA : t ∈ A <;> by_cases hB : t ∈ B <;> simp [hA, hB] at ht ⊢
    · rintro (⟨h3, h4, h5⟩ | ⟨h3, h4, h5⟩)
      · exact ⟨m.t, by rw [List.mem_filter, h2]; simp [h4, h5], by cases m; simp at h3 h4 ⊢; simp [h3, h4]⟩
      · exact ⟨m.t, by rw [List.mem_filter, h2]; simp [h4, h5], by cases m; simp at h3 h5 ⊢; simp [h3, h5]⟩
theorem NetO.unique {A B : List Tp} {l m : List Mu} (h : NetO A B l) (k : NetO A B m) : l = m := by
  refine sset_unique (lt := fun a b => ltT a.t b.t) (fun a => ordT.irr _) (fun a b c => ordT.tr _ _ _) ?_ ?_ (fun x => by rw [h.mem, k.mem])
  · exact List.pairwise_map.1 h.asc
  · exact List.pairwise_map.1 k.asc
set_option maxRecDepth 100000 in
set_option maxHeartbeats 16000000 in
theorem rnet_any {w : World} {a0 a : Option Addr} {n0 c0 n c B0 B1 : Nat} {A B : List Tp} (hA : Lies w 47 3 B0 a0 n0 c0 (A.flatMap tc)) (hAn : A.length = n0) (hn0 : n0 ≤ 1048576) (hB : Lies w 47 3 B1 a n c (B.flatMap tc)) (hBn : B.length = n) (hn : n ≤ 1048576) :
    Calls Try.prog 23 #[.slice a0 n0 c0, .slice a n c] w fun e w' => ∃ v, e = .returned v ∧ OutE 51 4 muc w w' v (netL A B (netR A B)) := by
  obtain ⟨j0, hj0, jz0, jz1, jz2⟩ := info_parts infoMu
  have HA := Lib.hid hA
  have HAN := Lib.hid hAn
  have HB := Lib.hid hB
  have HBN := Lib.hid hBn
  have HU := Lib.hid (show OutE 47 3 tc w w (.slice none 0 0) ((A.take 0).foldl (withT ltT) []) from ⟨Below.refl _ _, World.ownsRow_nil _ _ _ _⟩)
  have HPL := Lib.hid (show ([] : List Tp).length ≤ 1048576 by simp)
  clear hA hAn hB hBn
  go_enter Try.func23, Try.ntmps23
  go_wp2_with fail
  go_loopw [5, 6] (fun v iv wr => ∃ i : Nat, i ≤ n0 ∧ iv = .int .i64 (i : Int) ∧ OutE 47 3 tc w wr v ((A.take i).foldl (withT ltT) [])) (fun _ iv _ => n0 - (intOf iv).toNat)
  case atStart => exact ⟨0, by omega, rfl, HU.out⟩
  case round =>
    clear HU
    obtain ⟨i, hin, rfl, hS⟩ := hrel
    by_cases hil : i < n0
    · obtain ⟨x, hx⟩ : ∃ x, A[i]? = some x := ⟨_, List.getElem?_eq_getElem (show i < A.length by rw [HAN.out]; exact hil)⟩
      obtain ⟨b, off, rfl, hbb, hcc⟩ := lies_cells tc_len (by decide) HA.out hx
      have y0 := (hS.below.cell (p := ⟨b, off + i * 3, none⟩) hbb).trans (hcc 0 _ rfl)
      have y1 := (hS.below.cell (p := ⟨b, off + i * 3 + 1, none⟩) hbb).trans (hcc 1 _ rfl)
      have y2 := (hS.below.cell (p := ⟨b, off + i * 3 + 2, none⟩) hbb).trans (hcc 2 _ rfl)
      have hil2 : (i : Int) < (n0 : Int) := by omega
      have HFO := Lib.hid (foldl_take (withT ltT) [] hx)
      have hlen := fold_len (A.take i) []
      have hpl := HPL.out
      rw [List.length_take] at hlen
      generalize (A.take i).foldl (withT ltT) [] = R at hS hlen HFO
      have HTW := Lib.hid (twithO hS (by omega) x)
      clear hcc hbb hx hS hlen hpl
      go_wp2_with fail
      refine HTW.out.mono ?_
      rintro _ w2 ⟨v2, rfl, ho2, hb2⟩
      have HN := Lib.hid (show OutE 47 3 tc w w2 v2 ((A.take (i + 1)).foldl (withT ltT) []) from by rw [HFO.out]; exact ho2)
      clear ho2 hb2 HTW
      go_wp2
      go_roundw
      case rel => exact ⟨i + 1, by omega, by go_num, HN.out⟩
      case measure => simp [intOf]; omega
    · obtain rfl : i = n0 := by omega
      rw [List.take_of_length_le (by rw [HAN.out]; exact Nat.le_refl _)] at hS
      have HU := Lib.hid hS
      have HPL := Lib.hid (show (A.foldl (withT ltT) []).length ≤ 1048576 by have h := fold_len A []; rw [HAN.out] at h; simp at h; omega)
      clear hS
      go_wp2_with fail
      go_loopw [5, 7] (fun v iv wr => ∃ i : Nat, i ≤ n ∧ iv = .int .i64 (i : Int) ∧ OutE 47 3 tc w wr v ((B.take i).foldl (withT ltT) (A.foldl (withT ltT) []))) (fun _ iv _ => n - (intOf iv).toNat)
      case atStart => exact ⟨0, by omega, rfl, HU.out⟩
      case round =>
        clear HU
        obtain ⟨i, hin, rfl, hS⟩ := hrel
        by_cases hil : i < n
        · obtain ⟨x, hx⟩ : ∃ x, B[i]? = some x := ⟨_, List.getElem?_eq_getElem (show i < B.length by rw [HBN.out]; exact hil)⟩
          obtain ⟨b, off, rfl, hbb, hcc⟩ := lies_cells tc_len (by decide) HB.out hx
          have y0 := (hS.below.cell (p := ⟨b, off + i * 3, none⟩) hbb).trans (hcc 0 _ rfl)
          have y1 := (hS.below.cell (p := ⟨b, off + i * 3 + 1, none⟩) hbb).trans (hcc 1 _ rfl)
          have y2 := (hS.below.cell (p := ⟨b, off + i * 3 + 2, none⟩) hbb).trans (hcc 2 _ rfl)
          have hil2 : (i : Int) < (n : Int) := by omega
          have HFO := Lib.hid (foldl_take (withT ltT) (A.foldl (withT ltT) []) hx)
          have hlen := fold_len (B.take i) (A.foldl (withT ltT) [])
          have hpl := HPL.out
          rw [List.length_take] at hlen
          generalize (B.take i).foldl (withT ltT) (A.foldl (withT ltT) []) = R at hS hlen HFO
          have HTW := Lib.hid (twithO hS (by omega) x)
          clear hcc hbb hx hS hlen hpl
          go_wp2_with fail
          refine HTW.out.mono ?_
          rintro _ w2 ⟨v2, rfl, ho2, hb2⟩
          have HN := Lib.hid (show OutE 47 3 tc w w2 v2 ((B.take (i + 1)).foldl (withT ltT) (A.foldl (withT ltT) [])) from by rw [HFO.out]; exact ho2)
          clear ho2 hb2 HTW
          go_wp2
          go_roundw
          case rel => exact ⟨i + 1, by omega, by go_num, HN.out⟩
          case measure => simp [intOf]; omega
        · obtain rfl : i = n := by omega
          rw [List.take_of_length_le (by rw [HBN.out]; exact Nat.le_refl _)] at hS
          obtain ⟨va, vc, rfl, _, _⟩ := owned_anyE hS.row
          have hS2 : OutE 47 3 tc w wr _ (netR A B) := hS
          obtain ⟨R, hR⟩ : ∃ R, R = netR A B := ⟨_, rfl⟩
          have hRl := netR_len A B
          rw [show (List.foldl (withT ltT) (List.foldl (withT ltT) [] A) B) = netR A B from rfl, ← hR] at hS ⊢
          rw [HAN.out, HBN.out, ← hR] at hRl
          have HRE := Lib.hid hR
          have HRL := Lib.hid hRl
          obtain ⟨wO, rfl⟩ : ∃ W, W = wr := ⟨_, rfl⟩
          have HS := Lib.hid hS
          have HR := Lib.hid (lies_own hS.row)
          have HU4 := Lib.hid (show OutE 51 4 muc wO wO (.slice none 0 0) (netL A B (R.take 0)) from ⟨Below.refl _ _, World.ownsRow_nil _ _ _ _⟩)
          clear hS hS2 hR hRl
          go_wp2_with fail
          go_loopw [8, 9] (fun v iv wr => ∃ k : Nat, k ≤ R.length ∧ iv = .int .i64 (k : Int) ∧ OutE 51 4 muc wO wr v (netL A B (R.take k))) (fun _ iv _ => R.length - (intOf iv).toNat)
          case atStart => exact ⟨0, by omega, rfl, HU4.out⟩
          case round =>
            clear HU4
            obtain ⟨wI, rfl⟩ : ∃ W, W = wr := ⟨_, rfl⟩
            obtain ⟨k, hkn, rfl, hI⟩ := hrel
            by_cases hkl : k < R.length
            · obtain ⟨x, hx⟩ : ∃ x, R[k]? = some x := ⟨_, List.getElem?_eq_getElem hkl⟩
              obtain ⟨b, o5, rfl, hbb, hcc⟩ := lies_cells tc_len (by decide) HR.out hx
              have HFN := Lib.hid (netL_next A B hx)
              have hlm := netL_len A B (R.take k)
              rw [List.length_take] at hlm
              obtain ⟨M, hM⟩ : ∃ M, M = netL A B (R.take k) := ⟨_, rfl⟩
              rw [← hM] at hI hlm HFN
              obtain ⟨ma, mc, rfl, _, _⟩ := owned_anyE hI.row
              have HYY := Lib.hid (show ∀ W : World, Below wO.heap.size wO W → (W.cell? ⟨b, o5 + k * 3, none⟩ = some (.string x.o) ∧ W.cell? ⟨b, o5 + k * 3 + 1, none⟩ = some (.string x.r) ∧ W.cell? ⟨b, o5 + k * 3 + 2, none⟩ = some (.string x.u)) from fun W hW =>
                ⟨(hW.cell (p := ⟨b, o5 + k * 3, none⟩) hbb).trans (hcc 0 _ rfl), (hW.cell (p := ⟨b, o5 + k * 3 + 1, none⟩) hbb).trans (hcc 1 _ rfl), (hW.cell (p := ⟨b, o5 + k * 3 + 2, none⟩) hbb).trans (hcc 2 _ rfl)⟩)
              have hp1 := HYY.out _ hI.below
              have hp2 := HYY.out wI.drew (bell_up hI.below (below_drew1 _))
              have hkl2 : (k : Int) < (R.length : Int) := by omega
              have hk9 : k ≤ 2199022000 := by have := HRL.out; omega
              have hn1 : M.length + 1 ≤ maxLen := by have := HRL.out; unfold maxLen; omega
              have hn2 : (M.length + 1) * 56 ≤ 140737488355328 := by have := HRL.out; omega
              have HI := Lib.hid hI
              have HIA := Lib.hid (fun (W : World) (hW : Below wO.heap.size wO W) => rin_any (HA.out.below (bell_up HS.out.below hW)) HAN.out (by omega) x)
              have HIB := Lib.hid (fun (W : World) (hW : Below wO.heap.size wO W) => rin_any (HB.out.below (bell_up HS.out.below hW)) HBN.out (by omega) x)
              clear hcc hbb hx hI hlm hM
              obtain ⟨dA, hdA⟩ : ∃ d, d = decide (x ∈ A) := ⟨_, rfl⟩
              obtain ⟨dB, hdB⟩ : ∃ d, d = decide (x ∈ B) := ⟨_, rfl⟩
              have HIA := Lib.hid (fun (W : World) (hW : Below wO.heap.size wO W) => by have h := HIA.out W hW; rw [← hdA] at h; exact h)
              have HIB := Lib.hid (fun (W : World) (hW : Below wO.heap.size wO W) => by have h := HIB.out W hW; rw [← hdB] at h; exact h)
              have hfn := HFN.out
              rw [← hdA, ← hdB] at hfn
              have HFN := Lib.hid hfn
              clear hdA hdB hfn
              cases dA
              case false =>
                cases dB
                case false =>
                  go_upto_region 14 with fail
                  go_region_held3 (fun W : World => (W.cell? ⟨b, o5 + k * 3, none⟩ = some (.string x.o) ∧ W.cell? ⟨b, o5 + k * 3 + 1, none⟩ = some (.string x.r) ∧ W.cell? ⟨b, o5 + k * 3 + 2, none⟩ = some (.string x.u))) (first | assumption | with_reducible exact HYY.out _ (bell_up HI.out.below (below_drewN _ 1)) | exact HYY.out _ (bell_up HI.out.below (below_drew1 _)) | exact HYY.out _ (bell_up HB5.out (below_drew1 _))) (first
                    | (go_at_call 44; (with_reducible refine (HIB.out _ HB5.out).mono ?_); rintro e w6 ⟨rfl, hb6⟩
                       have HB6 := Lib.hid (bell_up HB5.out hb6)
                       have HI6 := Lib.hid (HI5.out.up hb6)
                       have hk6 := HYY.out w6 HB6.out
                       clear hb6)
                    | (go_at_call 44; (with_reducible refine (HIA.out _ (bell_up HI.out.below (below_drew1 _))).mono ?_); rintro e w5 ⟨rfl, hb5⟩
                       have HB5 := Lib.hid (bell_up (bell_up HI.out.below (below_drew1 wI)) hb5)
                       have HI5 := Lib.hid (HI.out.up (bell_up (below_drew1 wI) hb5))
                       have hk5 := HYY.out w5 HB5.out
                       clear hb5))
                  all_goals
                    have HFN2 := Lib.hid (show netL A B (R.take (k + 1)) = M from by rw [HFN.out]; simp)
                    go_wp2
                    go_roundw
                    case rel => exact ⟨k + 1, by omega, by go_num, by rw [HFN2.out]; exact HI6.out⟩
                    case measure => simp [intOf]; omega
                case true =>
                  go_upto_region 14 with fail
                  go_region_held3 (fun W : World => (W.cell? ⟨b, o5 + k * 3, none⟩ = some (.string x.o) ∧ W.cell? ⟨b, o5 + k * 3 + 1, none⟩ = some (.string x.r) ∧ W.cell? ⟨b, o5 + k * 3 + 2, none⟩ = some (.string x.u))) (first | assumption | with_reducible exact HYY.out _ (bell_up HI.out.below (below_drewN _ 1)) | exact HYY.out _ (bell_up HI.out.below (below_drew1 _)) | exact HYY.out _ (bell_up HB5.out (below_drew1 _))) (first
                    | (go_at_call 44; (with_reducible refine (HIB.out _ HB5.out).mono ?_); rintro e w6 ⟨rfl, hb6⟩
                       have HB6 := Lib.hid (bell_up HB5.out hb6)
                       have HI6 := Lib.hid (HI5.out.up hb6)
                       have hk6 := HYY.out w6 HB6.out
                       clear hb6)
                    | (go_at_call 44; (with_reducible refine (HIA.out _ (bell_up HI.out.below (below_drew1 _))).mono ?_); rintro e w5 ⟨rfl, hb5⟩
                       have HB5 := Lib.hid (bell_up (bell_up HI.out.below (below_drew1 wI)) hb5)
                       have HI5 := Lib.hid (HI.out.up (bell_up (below_drew1 wI) hb5))
                       have hk5 := HYY.out w5 HB5.out
                       clear hb5))
                  all_goals
                    have HFN2 := Lib.hid (show netL A B (R.take (k + 1)) = M ++ [⟨false, x⟩] from by rw [HFN.out]; simp)
                    have hk6b := HYY.out w6.drew (bell_up HB6.out (below_drew1 _))
                    clear hp1 hp2 hk5
                    go_upto_region 15 with fail
                    go_region_held3 (fun W : World => (W.cell? ⟨b, o5 + k * 3, none⟩ = some (.string x.o) ∧ W.cell? ⟨b, o5 + k * 3 + 1, none⟩ = some (.string x.r) ∧ W.cell? ⟨b, o5 + k * 3 + 2, none⟩ = some (.string x.u))) (first | assumption | with_reducible exact HYY.out _ (bell_up HB6.out (below_drewN _ 1)) | exact HYY.out _ (bell_up HB6.out (below_drew1 _)) | exact HYY.out _ (bell_up HB7.out (below_drew1 _)) | exact HYY.out _ (bell_alloc HB7.out _) | exact HYY.out _ (bell_alloc (bell_up HB7.out (below_drew1 _)) _)) (first
                      | (go_at_call 44; (with_reducible refine (HIA.out _ (bell_up HB6.out (below_drew1 _))).mono ?_); rintro e w7 ⟨rfl, hb7⟩
                         have HB7 := Lib.hid (bell_up (bell_up HB6.out (below_drew1 w6)) hb7)
                         have HI7 := Lib.hid (HI6.out.up (bell_up (below_drew1 w6) hb7))
                         have hk7 := HYY.out w7 HB7.out
                         have hk7b := HYY.out w7.drew (bell_up HB7.out (below_drew1 _))
                         have HBS := Lib.hid (show wO.heap.size ≤ w7.heap.size from HB7.out.size)
                         clear hb7)
                      | (refine step_only 66 rfl ?_; refine step_append_any _ rfl (.tmp 53) (.tmp 65) 43 rfl wO.heap.size 51 j0 (.agg #[.bool false, .string ⟨#[]⟩, .string ⟨#[]⟩, .string ⟨#[]⟩]) 4 56 Try.underlying43 hj0 jz0 jz1 jz2 rfl (by decide) (.slice ma M.length mc) M.length (M.flatMap muc) rfl (HI7.out.row.alloc _) ⟨w7.heap.size, 0, none⟩ 1 1 [.bool false, .string x.o, .string x.r, .string x.u] rfl rfl (fourE_new w7 _ _ _ _ 51) (by simp [Value.oneCell']) hn1 hn2 (by have := HBS.out; simp; omega) ?_; intro v' w8 hown8 hgr8 _
                         have HN := Lib.hid ((HI7.out.up (below_alloc _ _)).next ⟨false, x⟩ hgr8 hown8)
                         have hk8 := HYY.out w8 HN.out.below
                         clear hown8 hgr8))
                    all_goals
                      go_wp2
                      go_roundw
                      case rel => exact ⟨k + 1, by omega, by go_num, by rw [HFN2.out]; exact HN.out⟩
                      case measure => simp [intOf]; omega
              case true =>
                cases dB
                case false =>
                  go_upto_region 14 with fail
                  go_region_held3 (fun W : World => (W.cell? ⟨b, o5 + k * 3, none⟩ = some (.string x.o) ∧ W.cell? ⟨b, o5 + k * 3 + 1, none⟩ = some (.string x.r) ∧ W.cell? ⟨b, o5 + k * 3 + 2, none⟩ = some (.string x.u))) (first | assumption | with_reducible exact HYY.out _ (bell_up HI.out.below (below_drewN _ 1)) | exact HYY.out _ (bell_up HI.out.below (below_drew1 _)) | exact HYY.out _ (bell_up HB5.out (below_drew1 _))) (first
                    | (go_at_call 44; (with_reducible refine (HIB.out _ HB5.out).mono ?_); rintro e w6 ⟨rfl, hb6⟩
                       have HB6 := Lib.hid (bell_up HB5.out hb6)
                       have HI6 := Lib.hid (HI5.out.up hb6)
                       have hk6 := HYY.out w6 HB6.out
                       clear hb6)
                    | (go_at_call 44; (with_reducible refine (HIA.out _ (bell_up HI.out.below (below_drew1 _))).mono ?_); rintro e w5 ⟨rfl, hb5⟩
                       have HB5 := Lib.hid (bell_up (bell_up HI.out.below (below_drew1 wI)) hb5)
                       have HI5 := Lib.hid (HI.out.up (bell_up (below_drew1 wI) hb5))
                       have hk5 := HYY.out w5 HB5.out
                       clear hb5))
                  all_goals
                    have HFN2 := Lib.hid (show netL A B (R.take (k + 1)) = M ++ [⟨true, x⟩] from by rw [HFN.out]; simp)
                    have hk6b := HYY.out w6.drew (bell_up HB6.out (below_drew1 _))
                    clear hp1 hp2 hk5
                    go_upto_region 15 with fail
                    go_region_held3 (fun W : World => (W.cell? ⟨b, o5 + k * 3, none⟩ = some (.string x.o) ∧ W.cell? ⟨b, o5 + k * 3 + 1, none⟩ = some (.string x.r) ∧ W.cell? ⟨b, o5 + k * 3 + 2, none⟩ = some (.string x.u))) (first | assumption | with_reducible exact HYY.out _ (bell_up HB6.out (below_drewN _ 1)) | exact HYY.out _ (bell_up HB6.out (below_drew1 _)) | exact HYY.out _ (bell_up HB7.out (below_drew1 _)) | exact HYY.out _ (bell_alloc HB7.out _) | exact HYY.out _ (bell_alloc (bell_up HB7.out (below_drew1 _)) _)) (first
                      | (go_at_call 44; (with_reducible refine (HIA.out _ (bell_up HB6.out (below_drew1 _))).mono ?_); rintro e w7 ⟨rfl, hb7⟩
                         have HB7 := Lib.hid (bell_up (bell_up HB6.out (below_drew1 w6)) hb7)
                         have HI7 := Lib.hid (HI6.out.up (bell_up (below_drew1 w6) hb7))
                         have hk7 := HYY.out w7 HB7.out
                         have hk7b := HYY.out w7.drew (bell_up HB7.out (below_drew1 _))
                         have HBS := Lib.hid (show wO.heap.size ≤ w7.heap.size from HB7.out.size)
                         clear hb7)
                      | (refine step_only 66 rfl ?_; refine step_append_any _ rfl (.tmp 53) (.tmp 65) 43 rfl wO.heap.size 51 j0 (.agg #[.bool false, .string ⟨#[]⟩, .string ⟨#[]⟩, .string ⟨#[]⟩]) 4 56 Try.underlying43 hj0 jz0 jz1 jz2 rfl (by decide) (.slice ma M.length mc) M.length (M.flatMap muc) rfl (HI7.out.row.alloc _) ⟨w7.heap.size, 0, none⟩ 1 1 [.bool true, .string x.o, .string x.r, .string x.u] rfl rfl (fourE_new w7 _ _ _ _ 51) (by simp [Value.oneCell']) hn1 hn2 (by have := HBS.out; simp; omega) ?_; intro v' w8 hown8 hgr8 _
                         have HN := Lib.hid ((HI7.out.up (below_alloc _ _)).next ⟨true, x⟩ hgr8 hown8)
                         have hk8 := HYY.out w8 HN.out.below
                         clear hown8 hgr8))
                    all_goals
                      go_wp2
                      go_roundw
                      case rel => exact ⟨k + 1, by omega, by go_num, by rw [HFN2.out]; exact HN.out⟩
                      case measure => simp [intOf]; omega
                case true =>
                  go_upto_region 14 with fail
                  go_region_held3 (fun W : World => (W.cell? ⟨b, o5 + k * 3, none⟩ = some (.string x.o) ∧ W.cell? ⟨b, o5 + k * 3 + 1, none⟩ = some (.string x.r) ∧ W.cell? ⟨b, o5 + k * 3 + 2, none⟩ = some (.string x.u))) (first | assumption | with_reducible exact HYY.out _ (bell_up HI.out.below (below_drewN _ 1)) | exact HYY.out _ (bell_up HI.out.below (below_drew1 _)) | exact HYY.out _ (bell_up HB5.out (below_drew1 _))) (first
                    | (go_at_call 44; (with_reducible refine (HIB.out _ HB5.out).mono ?_); rintro e w6 ⟨rfl, hb6⟩
                       have HB6 := Lib.hid (bell_up HB5.out hb6)
                       have HI6 := Lib.hid (HI5.out.up hb6)
                       have hk6 := HYY.out w6 HB6.out
                       clear hb6)
                    | (go_at_call 44; (with_reducible refine (HIA.out _ (bell_up HI.out.below (below_drew1 _))).mono ?_); rintro e w5 ⟨rfl, hb5⟩
                       have HB5 := Lib.hid (bell_up (bell_up HI.out.below (below_drew1 wI)) hb5)
                       have HI5 := Lib.hid (HI.out.up (bell_up (below_drew1 wI) hb5))
                       have hk5 := HYY.out w5 HB5.out
                       clear hb5))
                  all_goals
                    have HFN2 := Lib.hid (show netL A B (R.take (k + 1)) = M from by rw [HFN.out]; simp)
                    go_wp2
                    go_roundw
                    case rel => exact ⟨k + 1, by omega, by go_num, by rw [HFN2.out]; exact HI6.out⟩
                    case measure => simp [intOf]; omega
            · obtain rfl : k = R.length := by omega
              rw [List.take_length] at hI
              have HN := Lib.hid (show OutE 51 4 muc w wI _ (netL A B (netR A B)) from by rw [← HRE.out]; exact hI.lowerW HS.out.below)
              clear hI
              go_wp2
              go_ret
              exact ⟨_, rfl, HN.out⟩
end Go.Proofs.Yteimgebfbnmdcaa
/- The document's Rows. -/
namespace Go.Proofs.Yteimgebfbnmdcaa
open Go.RowKit Go.Shelf
open Go.Maps (Keyed)

theorem rowsF_uq (l : List Ch) : Uq (rowsF l) := by
  have : ∀ (l : List Ch) (R : List Rw), Uq R → Uq (l.foldl rowO R) := by
    intro l
    induction l with
    | nil => exact fun _ h => h
    | cons c l ih => exact fun R h => ih _ (h.step c)
  exact this l [] Uq.nil
/-- The place of the open row among the first k. -/
def opJ (R : List Rw) (t : Tp) (k : Nat) : Int := match opn (R.take k) t with
  | none => -1
  | some i => (i : Int)
theorem opJ_next {R : List Rw} (hu : Uq R) {t : Tp} {k : Nat} {x : Rw} (h : R[k]? = some x) : opJ R t (k + 1) = if opB t x = true then (k : Int) else opJ R t k := by
  have hk := (List.getElem?_eq_some_iff.1 h).1
  have ht : R.take (k + 1) = R.take k ++ [x] := by rw [List.take_add_one, h]; rfl
  unfold opJ
  by_cases hb : opB t x = true
  · rw [if_pos hb]
    have h1 := (opB_iff t x).1 hb
    have hu2 : Uq (R.take (k + 1)) := fun i j x y hx hy => by
      rw [List.getElem?_take] at hx hy
      split at hx
      · split at hy
        · exact hu i j x y hx hy
        · cases hy
      · cases hx
    rw [opn_of hu2 (i := k) (r := x) (by rw [List.getElem?_take, if_pos (by omega)]; exact h) h1.1 h1.2]
  · rw [if_neg hb]
    have : opn (R.take (k + 1)) t = opn (R.take k) t := by
      unfold opn
      rw [ht, List.findIdx?_append]
      simp [hb]
    rw [this]
theorem opJ_end (R : List Rw) (t : Tp) : opJ R t R.length = match opn R t with
  | none => -1
  | some i => (i : Int) := by unfold opJ; rw [List.take_length]
theorem rowO_close {R : List Rw} {c : Ch} {p : Nat} (h : opn R c.t = some p) (hd : c.del = true) : rowO R c = R.modify p (fun r => ⟨r.t, r.s, c.rev⟩) := by
  unfold rowO
  rw [h]
  show (if (c.del && c.rev != 0) = true then _ else R) = _
  by_cases h0 : c.rev = 0
  · rw [if_neg (by simp [h0])]
    obtain ⟨r, hr, _, hr0⟩ := opn_some h
    apply List.ext_getElem?
    intro i
    rw [List.getElem?_modify]
    by_cases e : p = i
    · subst e
      rw [hr]
      simp [h0]
      cases r
      simp at hr0
      simp [hr0]
    · simp [e]
  · rw [if_pos (by simp [hd, h0])]
theorem rlt_at {S : List Rw} {i : Nat} {x : Rw} (h1 : ∀ k (hk : k < S.length), i ≤ k → rlt ltT x S[k] = true) {k : Nat} {y : Rw} (hk : i = k + 1) (hy : S[k]? = some y) (hc : rlt ltT x y = true) : ∀ j (hj : j < S.length), k ≤ j → rlt ltT x S[j] = true := by
  intro j hj hkj
  by_cases he : j = k
  · subst he
    rw [List.getElem?_eq_getElem hj] at hy
    injection hy with hy
    rw [hy]; exact hc
  · exact h1 j hj (by omega)
set_option maxRecDepth 100000 in
set_option maxHeartbeats 16000000 in
theorem rrows_any {w : World} {a : Option Addr} {n c B : Nat} {l : List Ch} (hl : Lies w 59 5 B a n c (l.flatMap chc)) (hln : l.length = n) (hn : n ≤ 1099511000) :
    Calls Try.prog 20 #[.slice a n c] w fun e w' => ∃ v, ∃ out : List Rw, e = .returned v ∧ Stb (rlt ltT) (rowsF l) out ∧ OutE 49 5 rw1 w w' v out := by
  obtain ⟨j0, hj0, jz0, jz1, jz2⟩ := info_parts infoR
  have HL := Lib.hid hl
  have HLN := Lib.hid hln
  have HU := Lib.hid (show OutE 49 5 rw1 w w (.slice none 0 0) (rowsF (l.take 0)) from ⟨Below.refl _ _, World.ownsRow_nil _ _ _ _⟩)
  clear hl hln
  go_enter Try.func20, Try.ntmps20
  go_wp2_with fail
  go_loopw [3, 4] (fun v iv wr => ∃ i : Nat, i ≤ n ∧ iv = .int .i64 (i : Int) ∧ OutE 49 5 rw1 w wr v (rowsF (l.take i))) (fun _ iv _ => n - (intOf iv).toNat)
  case atStart => exact ⟨0, by omega, rfl, HU.out⟩
  case round =>
    clear HU
    obtain ⟨wO, rfl⟩ : ∃ W, W = wr := ⟨_, rfl⟩
    obtain ⟨i, hin, rfl, hS⟩ := hrel
    obtain ⟨va, vc, rfl, _, _⟩ := owned_anyE hS.row
    have hlen := rowsF_len (l.take i)
    rw [List.length_take] at hlen
    by_cases hil : i < n
    · obtain ⟨r, hti⟩ : ∃ r, l[i]? = some r := ⟨_, List.getElem?_eq_getElem (show i < l.length by rw [HLN.out]; exact hil)⟩
      obtain ⟨bb, off, rfl, hbb, hcc⟩ := lies_cells chc_len (by decide) HL.out hti
      have c0 := (hS.below.cell (p := ⟨bb, off + i * 5, none⟩) hbb).trans (hcc 0 _ rfl)
      have c1 := (hS.below.cell (p := ⟨bb, off + i * 5 + 1, none⟩) hbb).trans (hcc 1 _ rfl)
      have c2 := (hS.below.cell (p := ⟨bb, off + i * 5 + 2, none⟩) hbb).trans (hcc 2 _ rfl)
      have c3 := (hS.below.cell (p := ⟨bb, off + i * 5 + 3, none⟩) hbb).trans (hcc 3 _ rfl)
      have c4 := (hS.below.cell (p := ⟨bb, off + i * 5 + 4, none⟩) hbb).trans (hcc 4 _ rfl)
      have hil2 : (i : Int) < (n : Int) := by omega
      have HFO := Lib.hid (show rowsF (l.take (i + 1)) = rowO (rowsF (l.take i)) r from foldl_take rowO [] hti)
      have HUQ := Lib.hid (rowsF_uq (l.take i))
      obtain ⟨q, hq⟩ : ∃ q, q = wO.heap.size := ⟨_, rfl⟩
      obtain ⟨W3, hW3⟩ : ∃ W3, W3 = wO.alloc (.cells (chc r).toArray 59) := ⟨_, rfl⟩
      have hb3 : Below wO.heap.size wO W3 := by rw [hW3]; exact below_alloc _ _
      have hX : Whole W3 q 59 (chc r).toArray := by rw [hW3, hq]; exact heap_alloc_new _ _
      have HX := Lib.hid hX
      generalize rowsF (l.take i) = R at *
      have hRl : R.length ≤ 1099511000 := by omega
      have HRL := Lib.hid hRl
      have HS3 := Lib.hid (hS.up hb3)
      have HR := Lib.hid (lies_own HS3.out.row)
      have hn1 : R.length + 1 ≤ maxLen := by unfold maxLen; omega
      have hn2 : (R.length + 1) * 64 ≤ 140737488355328 := by omega
      unfold chc at hW3
      clear hcc hbb hb3 hX hS hti hlen
      go_upto_region 6 with fail
      rw [← hq, ← hW3]
      clear hq hW3 c0 c1 c2 c3 c4
      go_wp2_with fail
      go_loopw [6, 7] (fun ov kv wr => ∃ k : Nat, k ≤ R.length ∧ kv = .int .i64 (k : Int) ∧ ov = .int .i64 (opJ R r.t k) ∧ Below W3.heap.size W3 wr) (fun _ kv _ => R.length - (intOf kv).toNat)
      case atStart => exact ⟨0, by omega, rfl, rfl, Below.refl _ _⟩
      case round =>
        obtain ⟨wI, rfl⟩ : ∃ W, W = wr := ⟨_, rfl⟩
        obtain ⟨k, hkn, rfl, rfl, hbI⟩ := hrel
        have hx1 := HX.out.kept (hbI.block _ HX.out.lt)
        have e0 : wI.cell? ⟨q, 0, none⟩ = some (.int .i64 r.rev) := hx1.cell 0
        have e1 : wI.cell? ⟨q, 1, none⟩ = some (.bool r.del) := hx1.cell 1
        have e2 : wI.cell? ⟨q, 2, none⟩ = some (.string r.t.o) := hx1.cell 2
        have e3 : wI.cell? ⟨q, 3, none⟩ = some (.string r.t.r) := hx1.cell 3
        have e4 : wI.cell? ⟨q, 4, none⟩ = some (.string r.t.u) := hx1.cell 4
        by_cases hkl : k < R.length
        · obtain ⟨x, hx⟩ : ∃ x, R[k]? = some x := ⟨_, List.getElem?_eq_getElem hkl⟩
          obtain ⟨b, o5, rfl, hbb, hcc⟩ := lies_cells rw1_len (by decide) HR.out hx
          have y0 := (hbI.cell (p := ⟨b, o5 + k * 5, none⟩) hbb).trans (hcc 0 _ rfl)
          have y1 := (hbI.cell (p := ⟨b, o5 + k * 5 + 1, none⟩) hbb).trans (hcc 1 _ rfl)
          have y2 := (hbI.cell (p := ⟨b, o5 + k * 5 + 2, none⟩) hbb).trans (hcc 2 _ rfl)
          have y4 := (hbI.cell (p := ⟨b, o5 + k * 5 + 4, none⟩) hbb).trans (hcc 4 _ rfl)
          have hkl2 : (k : Int) < (R.length : Int) := by omega
          have hk9 : k ≤ 2199022000 := by have := HRL.out; omega
          have HNX := Lib.hid (opJ_next HUQ.out (t := r.t) hx)
          have HTC := Lib.hid (tp_cases x.t r.t)
          have HBI := Lib.hid hbI
          clear hcc hbb hx hx1 hbI e0 e1
          rcases HTC.out with ⟨he, h1, h2, h3⟩ | hne
          · cases hz : x.u == 0 with
            | true =>
              have HN2 := Lib.hid (show opJ R r.t (k + 1) = (k : Int) from by rw [HNX.out, if_pos (by unfold opB; rw [hz, he]; simp)])
              have hz0 : (x.u == 0) = true := hz
              clear HTC he hz
              go_wp2_with fail
              go_quiet (fail)
              have HBQ := Lib.hid (bell_up HBI.out (below_drewN wI nq))
              go_wp2
              go_roundw
              case rel => exact ⟨k + 1, by omega, by go_num, by rw [HN2.out], HBQ.out⟩
              case measure => simp [intOf]; omega
            | false =>
              have HN2 := Lib.hid (show opJ R r.t (k + 1) = opJ R r.t k from by rw [HNX.out, if_neg (by unfold opB; rw [hz]; simp)])
              have hz0 : (x.u == 0) = false := hz
              clear HTC he hz
              go_wp2_with fail
              go_quiet (fail)
              have HBQ := Lib.hid (bell_up HBI.out (below_drewN wI nq))
              go_wp2
              go_roundw
              case rel => exact ⟨k + 1, by omega, by go_num, by rw [HN2.out], HBQ.out⟩
              case measure => simp [intOf]; omega
          · have HN2 := Lib.hid (show opJ R r.t (k + 1) = opJ R r.t k from by
              have hq : x.t ≠ r.t := hne.elim (fun h => h.1) fun h => h.elim (fun h => h.1) fun h => h.1
              rw [HNX.out, if_neg (by unfold opB; simp [hq])])
            clear HTC
            rcases hne with ⟨hne, h1⟩ | ⟨hne, h1, h2⟩ | ⟨hne, h1, h2, h3⟩
            all_goals
              clear hne
              go_wp2_with fail
              go_quiet (fail)
              have HBQ := Lib.hid (bell_up HBI.out (below_drewN wI nq))
              go_wp2
              go_roundw
              case rel => exact ⟨k + 1, by omega, by go_num, by rw [HN2.out], HBQ.out⟩
              case measure => simp [intOf]; omega
        · obtain rfl : k = R.length := by omega
          have HXI := Lib.hid hx1
          have HSI := Lib.hid (HS3.out.up hbI)
          clear hbI hx1
          rw [opJ_end]
          cases hop : opn R r.t with
          | none =>
            cases hd : r.del with
            | true =>
              rw [hd] at e1
              have HN := Lib.hid (show OutE 49 5 rw1 w wI (.slice va R.length vc) (rowsF (l.take (i + 1))) from by
                rw [HFO.out, show rowO R r = R from by unfold rowO; rw [hop]; simp [hd]]
                exact HSI.out)
              clear hop
              go_wp2
              go_roundw
              case rel => exact ⟨i + 1, by omega, by go_num, HN.out⟩
              case measure => simp [intOf]; omega
            | false =>
              rw [hd] at e1
              have HU4 := Lib.hid (show rowO R r = R ++ [⟨r.t, r.rev, 0⟩] from by unfold rowO; rw [hop]; simp [hd])
              have HBS := Lib.hid (show w.heap.size ≤ wI.heap.size from HSI.out.below.size)
              clear hop
              go_wp2_with (at_builtin; refine wpList_append_own_at _ rfl (.tmp 64) (.tmp 70) 22 rfl w.heap.size 49 j0 (.agg #[.string ⟨#[]⟩, .string ⟨#[]⟩, .string ⟨#[]⟩, .int .i64 0, .int .i64 0]) 5 64 Try.underlying22 hj0 jz0 jz1 jz2 rfl (by decide) (.slice va R.length vc) R.length (R.flatMap rw1) rfl (HSI.out.row.alloc _) ⟨wI.heap.size, 0, none⟩ 1 1 [.string r.t.o, .string r.t.r, .string r.t.u, .int .i64 r.rev, .int .i64 0] rfl rfl (fiveE_new wI _ _ _ _ _ 49) (by simp [Value.oneCell']) hn1 hn2 (by have := HBS.out; simp; omega) ?_; intro v' w6 hown6 hgr6 _ _
                           have HN := Lib.hid (show OutE 49 5 rw1 w w6 v' (rowsF (l.take (i + 1))) from by
                             rw [HFO.out, HU4.out]
                             exact (HSI.out.up (below_alloc _ _)).next ⟨r.t, r.rev, 0⟩ hgr6 hown6)
                           clear hown6 hgr6)
              go_roundw
              case rel => exact ⟨i + 1, by omega, by go_num, HN.out⟩
              case measure => simp [intOf]; omega
          | some p =>
            cases hd : r.del with
            | false =>
              rw [hd] at e1
              have HN := Lib.hid (show OutE 49 5 rw1 w wI (.slice va R.length vc) (rowsF (l.take (i + 1))) from by
                rw [HFO.out, show rowO R r = R from by unfold rowO; rw [hop]; simp [hd]]
                exact HSI.out)
              have hp0 : (0 : Int) ≤ (p : Int) := by omega
              clear hop
              go_wp2
              go_roundw
              case rel => exact ⟨i + 1, by omega, by go_num, HN.out⟩
              case measure => simp [intOf]; omega
            | true =>
              rw [hd] at e1
              obtain ⟨x, hx, _, _⟩ := opn_some hop
              have hp := (List.getElem?_eq_some_iff.1 hx).1
              have hp2 : (p : Int) < (R.length : Int) := by omega
              have hp0 : (0 : Int) ≤ (p : Int) := by omega
              obtain ⟨g, gc, he, _, _⟩ := own_cells' HSI.out.row (by omega)
              injection he with he1 _ he2
              subst he1
              subst he2
              obtain ⟨s1, ⟨ov, s2⟩, s3⟩ := own_set HSI.out.row (j := p * 5 + 4) (by omega) (.int .i64 r.rev)
              obtain ⟨W4, hW4⟩ : ∃ W4, W4 = wI.setCell ⟨g, p * 5 + 4, none⟩ (.int .i64 r.rev) := ⟨_, rfl⟩
              have hgq : g ≠ q := fun e => by
                subst e
                obtain ⟨_, cur, hW⟩ := owned_block HSI.out.row rfl
                exact whole_ne HXI.out hW (by decide) rfl
              have hX4 : Whole W4 q 59 (chc r).toArray := by
                rw [hW4]
                exact HXI.out.kept (Below.heap_setCell _ _ _ q (Ne.symm hgq))
              have f1 : W4.cell? ⟨q, 1, none⟩ = some (.bool true) := by rw [← hd]; exact hX4.cell 1
              have hu4 : rowO R r = R.modify p (fun y => ⟨y.t, y.s, r.rev⟩) := rowO_close hop hd
              have hrow4 : W4.ownsRow w.heap.size 49 5 (.slice (some ⟨g, 0, none⟩) R.length vc) (rowO R r).length ((rowO R r).flatMap rw1) := by
                rw [hu4, List.length_modify, fm_modify R p r.rev hp, hW4]
                exact s1
              have hb4 : Below w.heap.size w W4 := by
                rw [hW4]
                exact HSI.out.below.setCell (p := ⟨g, p * 5 + 4, none⟩) (HSI.out.row.lt g rfl).1 _
              have HN := Lib.hid (show OutE 49 5 rw1 w W4 (.slice (some ⟨g, 0, none⟩) R.length vc) (rowsF (l.take (i + 1))) from by
                rw [HFO.out]
                exact ⟨hb4, hrow4⟩)
              clear hop s1 hX4 hu4 hrow4 hb4 hgq hx
              go_upto_region 14 with fail
              rw [← hW4]
              clear hW4 s2 s3
              go_wp2
              go_roundw
              case rel => exact ⟨i + 1, by omega, by go_num, HN.out⟩
              case measure => simp [intOf]; omega
    · obtain rfl : i = n := by omega
      rw [List.take_of_length_le (by rw [HLN.out]; exact Nat.le_refl _)] at hS hlen ⊢
      have hlen : (rowsF l).length ≤ 1099511000 := by omega
      obtain ⟨R, hR⟩ : ∃ R, R = rowsF l := ⟨_, rfl⟩
      rw [← hR] at hS hlen ⊢
      have HRE := Lib.hid hR
      clear hR
      have HS := Lib.hid hS
      have HR := Lib.hid (lies_own hS.row)
      have HRL := Lib.hid hlen
      have HU2 := Lib.hid (show OutE 49 5 rw1 wO wO (.slice none 0 0) [] from ⟨Below.refl _ _, World.ownsRow_nil _ _ _ _⟩)
      clear hS
      go_wp2_with fail
      go_loopw [8, 9] (fun v iv wr => ∃ i2 : Nat, i2 ≤ R.length ∧ iv = .int .i64 (i2 : Int) ∧ ∃ S, Hid (Stb (rlt ltT) (R.take i2) S) ∧ OutE 49 5 rw1 wO wr v S) (fun _ iv _ => R.length - (intOf iv).toNat)
      case atStart => exact ⟨0, by omega, rfl, [], Lib.hid Stb.nil, HU2.out⟩
      case round =>
        clear HU2
        obtain ⟨wS, rfl⟩ : ∃ W, W = wr := ⟨_, rfl⟩
        obtain ⟨i2, hin2, rfl, S, HSB, hT⟩ := hrel
        obtain ⟨sa, sc, rfl, _, _⟩ := owned_anyE hT.row
        by_cases hil2 : i2 < R.length
        · obtain ⟨x, hx⟩ : ∃ x, R[i2]? = some x := ⟨_, List.getElem?_eq_getElem hil2⟩
          obtain ⟨b, o5, rfl, hbb, hcc⟩ := lies_cells rw1_len (by decide) HR.out hx
          have HXX := Lib.hid (show ∀ W : World, Below wO.heap.size wO W → (W.cell? ⟨b, o5 + i2 * 5, none⟩ = some (.string x.t.o) ∧ W.cell? ⟨b, o5 + i2 * 5 + 1, none⟩ = some (.string x.t.r) ∧ W.cell? ⟨b, o5 + i2 * 5 + 2, none⟩ = some (.string x.t.u) ∧ W.cell? ⟨b, o5 + i2 * 5 + 3, none⟩ = some (.int .i64 x.s) ∧ W.cell? ⟨b, o5 + i2 * 5 + 4, none⟩ = some (.int .i64 x.u)) from fun W hW =>
            ⟨(hW.cell (p := ⟨b, o5 + i2 * 5, none⟩) hbb).trans (hcc 0 _ rfl), (hW.cell (p := ⟨b, o5 + i2 * 5 + 1, none⟩) hbb).trans (hcc 1 _ rfl), (hW.cell (p := ⟨b, o5 + i2 * 5 + 2, none⟩) hbb).trans (hcc 2 _ rfl), (hW.cell (p := ⟨b, o5 + i2 * 5 + 3, none⟩) hbb).trans (hcc 3 _ rfl), (hW.cell (p := ⟨b, o5 + i2 * 5 + 4, none⟩) hbb).trans (hcc 4 _ rfl)⟩)
          have hsl : S.length ≤ 1099511000 := by
            have h1 := HSB.out.length
            rw [List.length_take] at h1
            omega
          have HSL := Lib.hid hsl
          have HTK := Lib.hid (show R.take (i2 + 1) = R.take i2 ++ [x] by rw [List.take_add_one, hx]; rfl)
          have hi2b : i2 ≤ 1099511000 := by omega
          have hil3 : (i2 : Int) < (R.length : Int) := by omega
          have HT := Lib.hid hT
          have HLS := Lib.hid (lies_own hT.row)
          have HRB := Lib.hid (fun y w => rbefore_any x y w)
          have hsh : ∀ i : Nat, i ≤ S.length → ∀ w : World, (Instr.slice 22 (.slice sa S.length sc) none (some (.int .i64 (i : Int))) none).run Try.prog w = .ok (.slice sa i sc) w := fun i hi w =>
            slice_headK (k := 5) Try.underlying22 rfl sa S.length sc i (by have := HLS.out.room; omega) w (by kernel_rfl)
          have hst : ∀ i : Nat, i ≤ S.length → ∀ w : World, (Instr.slice 22 (.slice sa S.length sc) (some (.int .i64 (i : Int))) none none).run Try.prog w = .ok (.slice (tailK 5 sa sc i) (S.length - i) (sc - i)) w := fun i hi w =>
            slice_tailK (k := 5) Try.underlying22 rfl sa S.length sc i hi w (by kernel_rfl)
          have HSH := Lib.hid hsh
          have HST := Lib.hid hst
          clear hcc hbb hx hT hsh hst
          go_wp2_with fail
          go_loopw [10] (fun jv wr => ∃ j : Nat, j ≤ S.length ∧ jv = .int .i64 (j : Int) ∧ Hid (∀ k (hk : k < S.length), j ≤ k → rlt ltT x S[k] = true) ∧ Below wS.heap.size wS wr) (fun jv _ => (intOf jv).toNat)
          case atStart => exact ⟨S.length, Nat.le_refl _, rfl, Lib.hid (fun k hk hi => absurd hk (by omega)), Below.refl _ _⟩
          case round =>
            obtain ⟨wI, rfl⟩ : ∃ W, W = wr := ⟨_, rfl⟩
            obtain ⟨j, hjn, rfl, HI, hbr⟩ := hrel
            by_cases hj0 : j = 0
            · subst hj0
              have HEX := Lib.hid (show ∀ y, S[0 - 1]? = some y → 0 < 0 → rlt ltT x y = false from fun _ _ h => absurd h (Nat.lt_irrefl _))
              go_upto_region 21 with fail
              go_quiet (fail)
              have HBQ := Lib.hid (bell_up hbr (below_drewN wI nq))
              clear hbr
              generalize wI.drewN nq = wq at *
              obtain ⟨M, hM⟩ : ∃ M, M = S.take 0 := ⟨_, rfl⟩
              have hli : M.length = 0 := by rw [hM, List.length_take]; exact Nat.min_eq_left (by omega)
              have HM := Lib.hid hM
              have HLI := Lib.hid hli
              have HIN := Lib.hid hjn
              have HE := Lib.hid (OutE.empty (T := 49) (k := 5) (enc := rw1) HBQ.out)
              have HH := Lib.hid ((HLS.out.below (bell_alloc HBQ.out (.cells #[] 49))).head (m := 0) hjn)
              rw [fm_take rw1_len, ← hM] at HH
              have HT5 := Lib.hid (HLS.out.tail (m := 0) hjn)
              rw [fm_drop rw1_len] at HT5
              have hsh : ∀ w : World, (Instr.slice 22 (.slice sa S.length sc) none (some (.int .i64 (0))) none).run Try.prog w = .ok (.slice sa 0 sc) w := HSH.out 0 hjn
              have hst : ∀ w : World, (Instr.slice 22 (.slice sa S.length sc) (some (.int .i64 (0))) none none).run Try.prog w = .ok (.slice (tailK 5 sa sc 0) (S.length - 0) (sc - 0)) w := HST.out 0 hjn
              have HLD := Lib.hid (show (S.drop 0).length = S.length - 0 by rw [List.length_drop])
              have HNI := Lib.hid (show 0 + 1 + (S.length - 0) = S.length + 1 by omega)
              generalize tailK 5 sa sc 0 = ta at hst HT5
              generalize S.length - 0 = tm at hst HT5 HLD HNI
              generalize sc - 0 = tcc at hst HT5
              have hn1 : M.length + 1 ≤ maxLen := by rw [hli]; have := HSL.out; unfold maxLen; omega
              have hn2 : (M.length + 1) * 64 ≤ 140737488355328 := by rw [hli]; have := HSL.out; omega
              have hn3 : (M ++ [x]).length + tm ≤ maxLen := by rw [List.length_append, hli]; have := HNI.out; have := HSL.out; simp; unfold maxLen; omega
              have hn4 : ((M ++ [x]).length + tm) * 64 ≤ 140737488355328 := by rw [List.length_append, hli]; have := HNI.out; have := HSL.out; simp; omega
              clear hli hM
              go_wp2_with (first
                | (at_builtin; refine wpList_append_at_any _ rfl (.tmp 96) (.tmp 99) 22 rfl wS.heap.size 49 j0 (.agg #[.string ⟨#[]⟩, .string ⟨#[]⟩, .string ⟨#[]⟩, .int .i64 0, .int .i64 0]) 5 64 Try.underlying22 hj0 jz0 jz1 jz2 rfl (by decide) (.slice (some ⟨wq.heap.size, 0, none⟩) 0 0) 0 [] rfl HE.out.row sa 0 sc (M.flatMap rw1) rfl HH.out.len HH.out.nil HH.out.news (fm_one rw1_one _) (by unfold maxLen; have := HIN.out; have := HSL.out; omega) (by have := HIN.out; have := HSL.out; omega) (by have := HBQ.out.size; simp; omega) ?_; intro v4 w4 hown4 hgr4 _
                   have HS4 := Lib.hid (show OutE 49 5 rw1 wS w4 v4 M from HE.out.more M hgr4 (by rw [HLI.out]; exact hown4))
                   obtain ⟨a4, c4, rfl, _, _⟩ := owned_anyE HS4.out.row
                   obtain ⟨z0, z1, z2, z3, z4⟩ := HXX.out w4 (bell_up HT.out.below HS4.out.below)
                   have HBS := Lib.hid (show wS.heap.size ≤ w4.heap.size from HS4.out.below.size)
                   clear hown4 hgr4)
                | (at_builtin; refine wpList_append_own_at _ rfl (.tmp 101) (.tmp 106) 22 rfl wS.heap.size 49 j0 (.agg #[.string ⟨#[]⟩, .string ⟨#[]⟩, .string ⟨#[]⟩, .int .i64 0, .int .i64 0]) 5 64 Try.underlying22 hj0 jz0 jz1 jz2 rfl (by decide) (.slice a4 M.length c4) M.length (M.flatMap rw1) rfl (HS4.out.row.alloc _) ⟨w4.heap.size, 0, none⟩ 1 1 [.string x.t.o, .string x.t.r, .string x.t.u, .int .i64 x.s, .int .i64 x.u] rfl rfl (fiveE_new w4 _ _ _ _ _ 49) (by simp [Value.oneCell']) hn1 hn2 (by have := HBS.out; simp; omega) ?_; intro v5 w5 hown5 hgr5 _ _
                   have HS5 := Lib.hid ((HS4.out.up (below_alloc _ _)).next x hgr5 hown5)
                   obtain ⟨a5, c5, rfl, _, _⟩ := owned_anyE hown5
                   have HT6 := Lib.hid (HT5.out.below HS5.out.below)
                   have HBS := Lib.hid (show wS.heap.size ≤ w5.heap.size from HS5.out.below.size)
                   clear hown5 hgr5)
                | (at_builtin; refine wpList_append_at_any _ rfl (.tmp 108) (.tmp 111) 22 rfl wS.heap.size 49 j0 (.agg #[.string ⟨#[]⟩, .string ⟨#[]⟩, .string ⟨#[]⟩, .int .i64 0, .int .i64 0]) 5 64 Try.underlying22 hj0 jz0 jz1 jz2 rfl (by decide) (.slice a5 (M.length + 1) c5) (M ++ [x]).length ((M ++ [x]).flatMap rw1) rfl HS5.out.row ta tm tcc ((S.drop 0).flatMap rw1) rfl HT6.out.len HT6.out.nil HT6.out.news (fm_one rw1_one _) hn3 hn4 HBS.out ?_; intro v6 w6 hown6 hgr6 _
                   have HS6 := Lib.hid (show OutE 49 5 rw1 wS w6 v6 ((M ++ [x]) ++ S.drop 0) from HS5.out.more (S.drop 0) hgr6 (by rw [HLD.out]; exact hown6))
                   have HSN := Lib.hid (show Stb (rlt ltT) (R.take (i2 + 1)) ((M ++ [x]) ++ S.drop 0) from by
                     rw [HTK.out, HM.out]
                     exact Stb.put swoR HSB.out x HIN.out HI.out (fun h0 => HEX.out _ (List.getElem?_eq_getElem (by have := HIN.out; omega)) h0))
                   clear hown6 hgr6))
              go_roundw
              case rel => exact ⟨i2 + 1, by omega, by go_num, _, HSN, HS6.out.lower HT.out.below⟩
              case measure => simp [intOf] <;> omega
            · obtain ⟨k, rfl⟩ : ∃ k, j = k + 1 := ⟨j - 1, by omega⟩
              obtain ⟨y, hy⟩ : ∃ y, S[k]? = some y := ⟨_, List.getElem?_eq_getElem (by omega)⟩
              have HY := Lib.hid hy
              obtain ⟨bs, os, rfl, hbb, hcc⟩ := lies_cells rw1_len (by decide) HLS.out hy
              have hF : ∀ W : World, Below wS.heap.size wS W → ((W.cell? ⟨b, o5 + i2 * 5, none⟩ = some (.string x.t.o) ∧ W.cell? ⟨b, o5 + i2 * 5 + 1, none⟩ = some (.string x.t.r) ∧ W.cell? ⟨b, o5 + i2 * 5 + 2, none⟩ = some (.string x.t.u) ∧ W.cell? ⟨b, o5 + i2 * 5 + 3, none⟩ = some (.int .i64 x.s) ∧ W.cell? ⟨b, o5 + i2 * 5 + 4, none⟩ = some (.int .i64 x.u)) ∧ (W.cell? ⟨bs, os + k * 5, none⟩ = some (.string y.t.o) ∧ W.cell? ⟨bs, os + k * 5 + 1, none⟩ = some (.string y.t.r) ∧ W.cell? ⟨bs, os + k * 5 + 2, none⟩ = some (.string y.t.u) ∧ W.cell? ⟨bs, os + k * 5 + 3, none⟩ = some (.int .i64 y.s) ∧ W.cell? ⟨bs, os + k * 5 + 4, none⟩ = some (.int .i64 y.u))) := fun W hW =>
                ⟨HXX.out W (bell_up HT.out.below hW), (hW.cell (p := ⟨bs, os + k * 5, none⟩) hbb).trans (hcc 0 _ rfl), (hW.cell (p := ⟨bs, os + k * 5 + 1, none⟩) hbb).trans (hcc 1 _ rfl), (hW.cell (p := ⟨bs, os + k * 5 + 2, none⟩) hbb).trans (hcc 2 _ rfl), (hW.cell (p := ⟨bs, os + k * 5 + 3, none⟩) hbb).trans (hcc 3 _ rfl), (hW.cell (p := ⟨bs, os + k * 5 + 4, none⟩) hbb).trans (hcc 4 _ rfl)⟩
              have HKK := Lib.hid hF
              have hp1 := hF wI hbr
              have hp2 := hF wI.drew (bell_up hbr (below_drew1 wI))
              have HBR := Lib.hid hbr
              have hi1 : ((k + 1 : Nat) : Int) = (k : Int) + 1 := rfl
              have hkn : (k : Int) < (S.length : Int) := by omega
              have hkn2 : (k : Int) ≤ (S.length : Int) := by omega
              have hk0 : (0 : Int) ≤ (k : Int) := by omega
              have hkw : IntKind.i64.wrap (k : Int) = (k : Int) := IntWalk.i64_in _ (by omega)
              have hkw2 : IntKind.i64.wrap ((k : Int) + 1 - 1) = (k : Int) := by rw [Int.add_sub_cancel]; exact hkw
              have hi20 : (0 : Int) ≤ (i2 : Int) := by omega
              rw [hi1]
              have hbf := HRB.out y
              clear hF hcc hy hbr hi1 hj0 hbb
              cases hr : rlt ltT x y with
              | true =>
                have HC := Lib.hid (rlt_at HI.out rfl HY.out hr)
                have HBF := Lib.hid (fun w => by have := hbf w; rw [hr] at this; exact this)
                clear hbf hr
                go_upto_region 21 with fail
                go_region_held3 (fun W : World => ((W.cell? ⟨b, o5 + i2 * 5, none⟩ = some (.string x.t.o) ∧ W.cell? ⟨b, o5 + i2 * 5 + 1, none⟩ = some (.string x.t.r) ∧ W.cell? ⟨b, o5 + i2 * 5 + 2, none⟩ = some (.string x.t.u) ∧ W.cell? ⟨b, o5 + i2 * 5 + 3, none⟩ = some (.int .i64 x.s) ∧ W.cell? ⟨b, o5 + i2 * 5 + 4, none⟩ = some (.int .i64 x.u)) ∧ (W.cell? ⟨bs, os + k * 5, none⟩ = some (.string y.t.o) ∧ W.cell? ⟨bs, os + k * 5 + 1, none⟩ = some (.string y.t.r) ∧ W.cell? ⟨bs, os + k * 5 + 2, none⟩ = some (.string y.t.u) ∧ W.cell? ⟨bs, os + k * 5 + 3, none⟩ = some (.int .i64 y.s) ∧ W.cell? ⟨bs, os + k * 5 + 4, none⟩ = some (.int .i64 y.u)))) (first | assumption | with_reducible exact HKK.out _ (bell_up HBR.out (below_drewN _ 1)) | exact HKK.out _ (bell_up HBR.out (below_drew1 _))) (first
                  | (go_at_call 40; (with_reducible refine (HBF.out _).mono ?_); rintro e w5 ⟨rfl, hb5⟩
                     have HBQ := Lib.hid (bell_up (bell_up HBR.out (below_drew1 wI)) hb5)
                     have hk5 := HKK.out w5 HBQ.out
                     clear hb5))
                all_goals
                  go_wp2
                  go_roundw
                  case rel => exact ⟨k, by omega, by first | (simp; done) | go_num, HC, HBQ.out⟩
                  case measure => simp [intOf] <;> omega
              | false =>
                have HEX := Lib.hid (show ∀ y', S[k + 1 - 1]? = some y' → 0 < k + 1 → rlt ltT x y' = false from fun y' h _ => by
                  rw [Nat.add_sub_cancel, HY.out] at h
                  injection h with h
                  rw [← h, hr])
                have HBF := Lib.hid (fun w => by have := hbf w; rw [hr] at this; exact this)
                clear hbf hr
                go_upto_region 21 with fail
                go_region_held3 (fun W : World => ((W.cell? ⟨b, o5 + i2 * 5, none⟩ = some (.string x.t.o) ∧ W.cell? ⟨b, o5 + i2 * 5 + 1, none⟩ = some (.string x.t.r) ∧ W.cell? ⟨b, o5 + i2 * 5 + 2, none⟩ = some (.string x.t.u) ∧ W.cell? ⟨b, o5 + i2 * 5 + 3, none⟩ = some (.int .i64 x.s) ∧ W.cell? ⟨b, o5 + i2 * 5 + 4, none⟩ = some (.int .i64 x.u)) ∧ (W.cell? ⟨bs, os + k * 5, none⟩ = some (.string y.t.o) ∧ W.cell? ⟨bs, os + k * 5 + 1, none⟩ = some (.string y.t.r) ∧ W.cell? ⟨bs, os + k * 5 + 2, none⟩ = some (.string y.t.u) ∧ W.cell? ⟨bs, os + k * 5 + 3, none⟩ = some (.int .i64 y.s) ∧ W.cell? ⟨bs, os + k * 5 + 4, none⟩ = some (.int .i64 y.u)))) (first | assumption | with_reducible exact HKK.out _ (bell_up HBR.out (below_drewN _ 1)) | exact HKK.out _ (bell_up HBR.out (below_drew1 _))) (first
                  | (go_at_call 40; (with_reducible refine (HBF.out _).mono ?_); rintro e w5 ⟨rfl, hb5⟩
                     have HBQ := Lib.hid (bell_up (bell_up HBR.out (below_drew1 wI)) hb5)
                     have hk5 := HKK.out w5 HBQ.out
                     clear hb5))
                all_goals
                  clear hp1 hp2 hk5
                  generalize w5 = wq at *
                  obtain ⟨M, hM⟩ : ∃ M, M = S.take (k + 1) := ⟨_, rfl⟩
                  have hli : M.length = (k + 1) := by rw [hM, List.length_take]; exact Nat.min_eq_left (by omega)
                  have HM := Lib.hid hM
                  have HLI := Lib.hid hli
                  have HIN := Lib.hid hjn
                  have HE := Lib.hid (OutE.empty (T := 49) (k := 5) (enc := rw1) HBQ.out)
                  have HH := Lib.hid ((HLS.out.below (bell_alloc HBQ.out (.cells #[] 49))).head (m := (k + 1)) hjn)
                  rw [fm_take rw1_len, ← hM] at HH
                  have HT5 := Lib.hid (HLS.out.tail (m := (k + 1)) hjn)
                  rw [fm_drop rw1_len] at HT5
                  have hsh : ∀ w : World, (Instr.slice 22 (.slice (some ⟨bs, os, none⟩) S.length sc) none (some (.int .i64 ((k : Int) + 1))) none).run Try.prog w = .ok (.slice (some ⟨bs, os, none⟩) (k + 1) sc) w := HSH.out (k + 1) hjn
                  have hst : ∀ w : World, (Instr.slice 22 (.slice (some ⟨bs, os, none⟩) S.length sc) (some (.int .i64 ((k : Int) + 1))) none none).run Try.prog w = .ok (.slice (tailK 5 (some ⟨bs, os, none⟩) sc (k + 1)) (S.length - (k + 1)) (sc - (k + 1))) w := HST.out (k + 1) hjn
                  have HLD := Lib.hid (show (S.drop (k + 1)).length = S.length - (k + 1) by rw [List.length_drop])
                  have HNI := Lib.hid (show (k + 1) + 1 + (S.length - (k + 1)) = S.length + 1 by omega)
                  generalize tailK 5 (some ⟨bs, os, none⟩) sc (k + 1) = ta at hst HT5
                  generalize S.length - (k + 1) = tm at hst HT5 HLD HNI
                  generalize sc - (k + 1) = tcc at hst HT5
                  have hn1 : M.length + 1 ≤ maxLen := by rw [hli]; have := HSL.out; unfold maxLen; omega
                  have hn2 : (M.length + 1) * 64 ≤ 140737488355328 := by rw [hli]; have := HSL.out; omega
                  have hn3 : (M ++ [x]).length + tm ≤ maxLen := by rw [List.length_append, hli]; have := HNI.out; have := HSL.out; simp; unfold maxLen; omega
                  have hn4 : ((M ++ [x]).length + tm) * 64 ≤ 140737488355328 := by rw [List.length_append, hli]; have := HNI.out; have := HSL.out; simp; omega
                  clear hli hM
                  go_wp2_with (first
                    | (at_builtin; refine wpList_append_at_any _ rfl (.tmp 96) (.tmp 99) 22 rfl wS.heap.size 49 j0 (.agg #[.string ⟨#[]⟩, .string ⟨#[]⟩, .string ⟨#[]⟩, .int .i64 0, .int .i64 0]) 5 64 Try.underlying22 hj0 jz0 jz1 jz2 rfl (by decide) (.slice (some ⟨wq.heap.size, 0, none⟩) 0 0) 0 [] rfl HE.out.row (some ⟨bs, os, none⟩) (k + 1) sc (M.flatMap rw1) rfl HH.out.len HH.out.nil HH.out.news (fm_one rw1_one _) (by unfold maxLen; have := HIN.out; have := HSL.out; omega) (by have := HIN.out; have := HSL.out; omega) (by have := HBQ.out.size; simp; omega) ?_; intro v4 w4 hown4 hgr4 _
                       have HS4 := Lib.hid (show OutE 49 5 rw1 wS w4 v4 M from HE.out.more M hgr4 (by rw [HLI.out]; exact hown4))
                       obtain ⟨a4, c4, rfl, _, _⟩ := owned_anyE HS4.out.row
                       obtain ⟨z0, z1, z2, z3, z4⟩ := HXX.out w4 (bell_up HT.out.below HS4.out.below)
                       have HBS := Lib.hid (show wS.heap.size ≤ w4.heap.size from HS4.out.below.size)
                       clear hown4 hgr4)
                    | (at_builtin; refine wpList_append_own_at _ rfl (.tmp 101) (.tmp 106) 22 rfl wS.heap.size 49 j0 (.agg #[.string ⟨#[]⟩, .string ⟨#[]⟩, .string ⟨#[]⟩, .int .i64 0, .int .i64 0]) 5 64 Try.underlying22 hj0 jz0 jz1 jz2 rfl (by decide) (.slice a4 M.length c4) M.length (M.flatMap rw1) rfl (HS4.out.row.alloc _) ⟨w4.heap.size, 0, none⟩ 1 1 [.string x.t.o, .string x.t.r, .string x.t.u, .int .i64 x.s, .int .i64 x.u] rfl rfl (fiveE_new w4 _ _ _ _ _ 49) (by simp [Value.oneCell']) hn1 hn2 (by have := HBS.out; simp; omega) ?_; intro v5 w5 hown5 hgr5 _ _
                       have HS5 := Lib.hid ((HS4.out.up (below_alloc _ _)).next x hgr5 hown5)
                       obtain ⟨a5, c5, rfl, _, _⟩ := owned_anyE hown5
                       have HT6 := Lib.hid (HT5.out.below HS5.out.below)
                       have HBS := Lib.hid (show wS.heap.size ≤ w5.heap.size from HS5.out.below.size)
                       clear hown5 hgr5)
                    | (at_builtin; refine wpList_append_at_any _ rfl (.tmp 108) (.tmp 111) 22 rfl wS.heap.size 49 j0 (.agg #[.string ⟨#[]⟩, .string ⟨#[]⟩, .string ⟨#[]⟩, .int .i64 0, .int .i64 0]) 5 64 Try.underlying22 hj0 jz0 jz1 jz2 rfl (by decide) (.slice a5 (M.length + 1) c5) (M ++ [x]).length ((M ++ [x]).flatMap rw1) rfl HS5.out.row ta tm tcc ((S.drop (k + 1)).flatMap rw1) rfl HT6.out.len HT6.out.nil HT6.out.news (fm_one rw1_one _) hn3 hn4 HBS.out ?_; intro v6 w6 hown6 hgr6 _
                       have HS6 := Lib.hid (show OutE 49 5 rw1 wS w6 v6 ((M ++ [x]) ++ S.drop (k + 1)) from HS5.out.more (S.drop (k + 1)) hgr6 (by rw [HLD.out]; exact hown6))
                       have HSN := Lib.hid (show Stb (rlt ltT) (R.take (i2 + 1)) ((M ++ [x]) ++ S.drop (k + 1)) from by
                         rw [HTK.out, HM.out]
                         exact Stb.put swoR HSB.out x HIN.out HI.out (fun h0 => HEX.out _ (List.getElem?_eq_getElem (by have := HIN.out; omega)) h0))
                       clear hown6 hgr6))
                  go_roundw
                  case rel => exact ⟨i2 + 1, by omega, by go_num, _, HSN, HS6.out.lower HT.out.below⟩
                  case measure => simp [intOf] <;> omega
        · obtain rfl : i2 = R.length := by omega
          have HSE := Lib.hid (show Stb (rlt ltT) R S from by have := HSB.out; rwa [List.take_length] at this)
          have HE := Lib.hid (hT.lower HS.out.below)
          clear hT
          go_wp2
          go_ret
          exact ⟨_, _, rfl, by rw [← HRE.out]; exact HSE.out, HE.out⟩
end Go.Proofs.Yteimgebfbnmdcaa
/- WatchDoes. -/
namespace Go.Proofs.Yteimgebfbnmdcaa
open Go.RowKit Go.Shelf
open Go.Maps (Keyed)

set_option maxRecDepth 100000 in
set_option maxHeartbeats 8000000 in
theorem does_walk (a0 : Option Addr) (n0 c0 : Nat) (a1 : Option Addr) (n1 c1 : Nat) (a2 : Option Addr) (n2 c2 : Nat) (w : World) (hA : ∃ l, InL 47 3 tc (fun t => t) w a0 n0 c0 l) (hB : ∃ l, InL 47 3 tc (fun t => t) w a1 n1 c1 l) (hL : ∃ l, InL 53 5 chc Ch.t w a2 n2 c2 l) (h0 : n0 ≤ 1048576) (h1 : n1 ≤ 1048576) (h2 : n2 ≤ 1048576) :
    Calls Try.prog 4 #[.slice a0 n0 c0, .slice a1 n1 c1, .slice a2 n2 c2] w fun e w' => e = .returned (.bool true) ∧ Below w.heap.size w w' := by
  obtain ⟨A, hA⟩ := hA
  obtain ⟨B, hB⟩ := hB
  obtain ⟨l, hL⟩ := hL
  have IA := Lib.hid hA
  have IB := Lib.hid hB
  have IL := Lib.hid hL
  clear hA hB hL
  go_enter Try.func4, Try.ntmps4
  go_wp2_with fail
  refine (awake_any w).mono ?_
  rintro _ w1 ⟨rfl, hb1⟩
  have HB1 := Lib.hid hb1
  have HP := Lib.hid (play_any (IA.out.below hb1).lies IA.out.len IA.out.fits h0 (IL.out.below hb1).lies IL.out.len IL.out.fits (by omega))
  clear hb1
  go_wp2_with fail
  refine HP.out.mono ?_
  rintro _ w2 ⟨_, ts, rfl, hts, hown, hb2⟩
  obtain ⟨a3, c3, rfl, hL3⟩ := Lies.owned hown
  have HL3 := Lib.hid hL3
  have HTS := Lib.hid (hts.unique (rplay_ord A l))
  have HB2 := Lib.hid (bell_up HB1.out hb2)
  have HQ := Lib.hid (plain_any (IL.out.below HB2.out).lies IL.out.len (by omega))
  clear hts hown hb2 hL3 HP
  go_wp2_with fail
  refine HQ.out.mono ?_
  rintro _ w3 ⟨_, rfl, hO3⟩
  obtain ⟨a4, c4, rfl, hL4⟩ := hO3.lies
  have HL4 := Lib.hid hL4
  have HL3 := Lib.hid (HL3.out.below hO3.below)
  have HB3 := Lib.hid (bell_up HB2.out hO3.below)
  have HR := Lib.hid (rplay_any (IA.out.below HB3.out).lies IA.out.len (by omega) HL4.out rfl (by have := IL.out.len; omega))
  clear hO3 hL4 HQ
  go_wp2_with fail
  refine HR.out.mono ?_
  rintro _ w4 ⟨_, rfl, hO4⟩
  rw [← HTS.out] at hO4
  obtain ⟨a5, c5, rfl, hL5⟩ := hO4.lies
  have HB4 := Lib.hid (bell_up HB3.out hO4.below)
  have hle : ts.length ≤ 1099511627776 := by
    rw [HTS.out]
    have h1 := rplS_len (withS A) l
    have h2 := fold_len A []
    rw [show A.foldl (withT ltT) [] = withS A from rfl] at h2
    have := IA.out.len
    have := IL.out.len
    simp at h2
    omega
  have HE := Lib.hid (tuples_eq (HL3.out.below hO4.below) hL5 rfl hle)
  clear hO4 hL5 hle HR HL4
  go_wp2_with fail
  refine HE.out.mono ?_
  rintro _ w5 ⟨rfl, hb5⟩
  have HB5 := Lib.hid (bell_up HB4.out hb5)
  have HW := Lib.hid (rows_ch_any (IL.out.below HB5.out).lies IL.out.len IL.out.fits (by omega))
  clear hb5 HE HL3
  go_wp2_with fail
  refine HW.out.mono ?_
  rintro _ w6 ⟨_, out, rfl, hst, hO6⟩
  obtain ⟨a6, c6, rfl, hL6⟩ := hO6.lies
  have HL6 := Lib.hid hL6
  have HST := Lib.hid hst
  have HB6 := Lib.hid (bell_up HB5.out hO6.below)
  have HQ := Lib.hid (plain_any (IL.out.below HB6.out).lies IL.out.len (by omega))
  clear hst hO6 hL6 HW
  go_wp2_with fail
  refine HQ.out.mono ?_
  rintro _ w7 ⟨_, rfl, hO7⟩
  obtain ⟨a7, c7, rfl, hL7⟩ := hO7.lies
  have HL6 := Lib.hid (HL6.out.below hO7.below)
  have HB7 := Lib.hid (bell_up HB6.out hO7.below)
  have HR := Lib.hid (rrows_any hL7 rfl (by have := IL.out.len; omega))
  clear hO7 hL7 HQ
  go_wp2_with fail
  refine HR.out.mono ?_
  rintro _ w8 ⟨_, out8, rfl, hst8, hO8⟩
  obtain rfl := hst8.unique swoR HST.out
  obtain ⟨a8, c8, rfl, hL8⟩ := hO8.lies
  have HB8 := Lib.hid (bell_up HB7.out hO8.below)
  have hle : out8.length ≤ 1099511627776 := by
    rw [hst8.length]
    have h1 := rowsF_len l
    have := IL.out.len
    omega
  have HE := Lib.hid (rows_eq (HL6.out.below hO8.below) hL8 rfl hle)
  clear hst8 hO8 hL8 hle HR HST
  go_wp2_with fail
  refine HE.out.mono ?_
  rintro _ w9 ⟨rfl, hb9⟩
  have HB9 := Lib.hid (bell_up HB8.out hb9)
  have HN := Lib.hid (net_any (IA.out.below HB9.out).lies IA.out.len IA.out.fits (by omega) (IB.out.below HB9.out).lies IB.out.len IB.out.fits h1 h0)
  clear hb9 HE HL6
  go_wp2_with fail
  refine HN.out.mono ?_
  rintro _ w10 ⟨_, ms, rfl, hms, hO10⟩
  obtain ⟨a10, c10, rfl, hL10⟩ := hO10.lies
  have HL10 := Lib.hid hL10
  have HMS := Lib.hid (hms.unique (netL_ok A B))
  have HB10 := Lib.hid (bell_up HB9.out hO10.below)
  have HR := Lib.hid (rnet_any (IA.out.below HB10.out).lies IA.out.len h0 (IB.out.below HB10.out).lies IB.out.len h1)
  clear hms hO10 hL10 HN
  go_wp2_with fail
  refine HR.out.mono ?_
  rintro _ w11 ⟨_, rfl, hO11⟩
  rw [← HMS.out] at hO11
  obtain ⟨a11, c11, rfl, hL11⟩ := hO11.lies
  have HB11 := Lib.hid (bell_up HB10.out hO11.below)
  have hle : ms.length ≤ 1099511627776 := by
    rw [HMS.out]
    have h1 := netL_len A B (netR A B)
    have h2 := netR_len A B
    have := IA.out.len
    have := IB.out.len
    omega
  have HE := Lib.hid (muts_eq (HL10.out.below hO11.below) hL11 rfl hle)
  clear hO11 hL11 hle HR
  go_wp2_with fail
  refine HE.out.mono ?_
  rintro _ w12 ⟨rfl, hb12⟩
  have HB12 := Lib.hid (bell_up HB11.out hb12)
  clear hb12
  go_wp2
  go_ret
  exact ⟨rfl, HB12.out⟩
end Go.Proofs.Yteimgebfbnmdcaa
