/- Layer 23: a text is read as a token; the later token: the program's walks. -/
import Derived.Test.YtpiohfjmfehnoaaTk3
namespace Go.Proofs.Ytpiohfjmfehnoaa
open Go.RowKit

def mid (ps : List Nat) : List Nat := (ps.drop 1).take (ps.length - 1 - 1)
/-- What signs that are right are read as, or what is wrong with that. -/
def qE (ps : List Nat) : Int := if jP ps = 0 then (if ps.getD 0 0 < 8 ∧ vl 0 (mid ps) ≤ 1125899906842624 then 0 else 1) else jP ps
def pE (S : ByteArray) : Int := if jE S = 0 then qE (P S) else jE S
def pN (S : ByteArray) : Int := if pE S = 0 then ((P S).getD 0 0 : Nat) else 0
def pR (S : ByteArray) : Int := if pE S = 0 then (vl 0 (mid (P S)) : Nat) else 0
theorem jE_zero {S : ByteArray} (h : jE S = 0) : Sg S ∧ S.size ≤ 16 ∧ jP (P S) = 0 ∧ 2 ≤ (P S).length := by
  unfold jE at h
  split at h
  · cases h
  · split at h
    · rename_i h1 h2
      refine ⟨sgB_Sg h2, by omega, h, ?_⟩
      unfold jP at h
      split at h
      · cases h
      · omega
    · cases h
theorem two_set {B g : Nat} {w w' : World} (h : Below B w w') (hg : B ≤ g) (x y : Value) : Below B w ((w'.setCell ⟨g, 0, none⟩ x).setCell ⟨g, 1, none⟩ y) := by
  have s : ∀ (W : World) (i : Nat) (u : Value), Below B w W → Below B w (W.setCell ⟨g, i, none⟩ u) := fun W i u h =>
    ⟨h.os, h.tape, h.output, by simpa using h.size, fun k hk => (Below.heap_setCell W ⟨g, i, none⟩ u k (show k ≠ g by omega)).trans (h.block k hk)⟩
  exact s _ _ _ (s _ _ _ h)
theorem two_whole {w : World} {g : Nat} {t : TypeId} {p q : Value} (h : Whole w g t #[p, q]) (x y : Value) : Whole ((w.setCell ⟨g, 0, none⟩ x).setCell ⟨g, 1, none⟩ y) g t #[x, y] := (h.store 0 x).store 1 y
theorem res_two {P : Program} {fn : Func} {p u : Tmp} {ty : TypeId} (h : fn.results = #[.cell p ty, .tmp u]) (tmps : Array Value) (w : World) (g : Nat) (t : TypeId) (cs : Array Value) (d : TypeDesc) (v : Value)
    (hp : tmps.getD p undef = .pointer (some ⟨g, 0, none⟩)) (hq : tmps.getD u undef = v) (hg : Whole w g t cs)
    (hu : P.underlying ty = some d) (hd : (match d with | .struct _ | .array _ _ => true | _ => false) = true) (hi : (P.info? ty).map (·.size) = some cs.size) :
    (results fn tmps).run P w = .ok (.tuple #[.agg cs, v]) w := by
  rw [results_cell_tmp h, hp, hq]
  simp [asAddr, run_loadVar_row w g t ty cs (0, 0) d hg hu hd hi, Result.andThen]

theorem keep_alloc {V w : World} {g B : Nat} {t : TypeId} {cs : Array Value} (h : Whole V g t cs ∧ Below B w V) (hB : B ≤ V.heap.size) (o : Obj) : Whole (V.alloc o) g t cs ∧ Below B w (V.alloc o) :=
  ⟨h.1.kept ((below_alloc V o).block _ h.1.lt), h.2.alloc hB o⟩

theorem alloc_size1 (w : World) (o : Obj) : (w.alloc o).heap.size = w.heap.size + 1 := by simp
theorem keep_draw {V w : World} {g B : Nat} {t : TypeId} {cs : Array Value} (h : Whole V g t cs ∧ Below B w V) : Whole V.drew g t cs ∧ Below B w V.drew :=
  ⟨h.1, ⟨h.2.os, h.2.tape, h.2.output, h.2.size, h.2.block⟩⟩

set_option maxHeartbeats 4000000 in
set_option maxRecDepth 100000 in
theorem parse_any (S : ByteArray) (hS : S.size ≤ 140737488351232) (w : World) :
    Calls Try.prog 11 #[.string S] w fun e w' => e = .returned (.tuple #[TokV (pN S) (pR S), .int .i64 (pE S)]) ∧ Below w.heap.size w w' := by
  have HJ := Lib.hid (fun w => judge_any S hS w)
  have hw0 : Whole (w.alloc (.cells (TokC 0 0) 23)) w.heap.size 23 (TokC 0 0) := heap_alloc_new w _
  have HW := Lib.hid hw0
  have HB := Lib.hid (below_alloc w (.cells (TokC 0 0) 23))
  clear hw0
  by_cases hj : jE S = 0
  · obtain ⟨hsg, hsz, hjp, hlen⟩ := jE_zero hj
    have hTP := T_P hsg
    have hP := P_ok S
    have hPl := P_len S
    have he : pE S = qE (P S) := by rw [pE, if_pos hj]
    have hn : pN S = if pE S = 0 then (((P S).getD 0 0 : Nat) : Int) else 0 := rfl
    have hr : pR S = if pE S = 0 then ((vl 0 (mid (P S)) : Nat) : Int) else 0 := rfl
    rw [he] at hn hr
    rw [he]
    rw [hj] at HJ
    generalize pN S = n at *
    generalize pR S = r at *
    generalize P S = ps at *
    rw [qE, if_pos hjp] at *
    have hm : ok31 (mid ps) := fun x hx => hP x (List.mem_of_mem_drop (List.mem_of_mem_take hx))
    have hml : (mid ps).length ≤ 100 := by rw [mid, List.length_take, List.length_drop]; omega
    have HV := Lib.hid (fun w => value_any (mid ps) hm hml w)
    have hsl : S.extract 1 (S.size - 1) = T (mid ps) := by rw [← hTP, T_extract, mid, T_size]
    have hpos : 0 < S.size := by omega
    have hg := at_get S 0 hpos
    rw [show at_ S 0 = at_ (T ps) 0 by rw [hTP], T_at ps hP 0 (by omega)] at hg
    have hgd : ps.getD 0 0 = ps[0] := by rw [List.getD_eq_getElem?_getD, List.getElem?_eq_getElem (by omega)]; rfl
    rw [hgd] at hn hr
    rw [hgd]
    have hp31 := hP _ (List.getElem_mem (h := (by omega : 0 < ps.length)))
    have hq := (sgn_facts hp31).2.2.1
    generalize ps[0] = p at *
    generalize hvd : vl 0 (mid ps) = v at *
    have HPL : ∀ w, Calls Try.prog 21 #[.int .u8 (S[0].toNat : Nat)] w fun e w' => e = .returned (.int .i64 p) ∧ w' = w := by
      intro w
      have h := place_any (S[0].toNat : Nat) w
      rw [show pla ((S[0].toNat : Nat) : Int).toNat.toUInt8 = (p : Int) by rw [Int.toNat_natCast, hg]; exact hq] at h
      exact h
    have hsx : ∀ w, Sem.run Try.prog (Instr.slice 9 (.string S) (some (.int .i64 1)) (some (.int .i64 ((S.size : Int) - 1))) none) w = .ok (.string (T (mid ps))) w := by
      intro w
      have h := str_slice S 1 (S.size - 1) (by omega) (by omega) w
      rw [hsl, show ((S.size - 1 : Nat) : Int) = (S.size : Int) - 1 by omega] at h
      exact h
    have hwrap : IntKind.i64.wrap ((S.size : Int) - 1) = (S.size : Int) - 1 := IntWalk.i64_in _ ⟨by omega, by omega⟩
    have HF := Lib.hid (fun w => fits_any p v w)
    have HPL := Lib.hid HPL
    clear hTP hP hPl hjp hsg hm hml hg hgd hq hp31 hvd hsl he
    generalize T (mid ps) = M at *
    by_cases hok : p < 8 ∧ v ≤ 1125899906842624
    · have hft : fitB p v = true := fitB_iff.2 ⟨by omega, by omega, by omega, by omega⟩
      rw [if_pos hok] at hn hr ⊢
      rw [if_pos rfl] at hn hr
      rw [hft] at HF
      subst hn hr
      clear hft
      go_enter Try.func11, Try.ntmps11
      go_wp2_with fail
      refine (HJ.out _).mono ?_
      rintro e w1 ⟨rfl, rfl⟩
      go_wp2_with fail
      go_region_held3 (fun V => Whole V w.heap.size 23 (TokC 0 0) ∧ Below w.heap.size w V) (first | exact ⟨HW.out, HB.out.trans ((below_drewN _ 1).mono HB.out.size)⟩ | assumption | exact keep_draw (keep_alloc ⟨HW.out, HB.out⟩ HB.out.size _) | (go_split_ands; exact keep_alloc ⟨by assumption, by assumption⟩ (Below.size (by assumption)) _)) (first
        | (go_at_call 21; (with_reducible refine (HPL.out _).mono ?_); rintro e w' ⟨rfl, rfl⟩)
        | (go_at_call 22; (with_reducible refine (HV.out _).mono ?_); rintro e w' ⟨rfl, rfl⟩))
      all_goals
        have H1 := Lib.hid (keep_draw (keep_alloc ⟨HW.out, HB.out⟩ HB.out.size (.cells (TokC p v) 23)))
        have hw2 : Whole ((w.alloc (.cells (TokC 0 0) 23)).alloc (.cells (TokC p v) 23)).drew (w.heap.size + 1) 23 (TokC p v) := by
          have h := heap_alloc_new (w.alloc (.cells (TokC 0 0) 23)) (.cells (TokC p v) 23)
          rw [alloc_size1] at h
          exact h
        have H2 := Lib.hid hw2
        have d0 : ((w.alloc (.cells (TokC 0 0) 23)).alloc (.cells (TokC p v) 23)).drew.cell? ⟨w.heap.size + 1, 0, none⟩ = some (.int .i64 p) := hw2.cell 0
        have d1 : ((w.alloc (.cells (TokC 0 0) 23)).alloc (.cells (TokC p v) 23)).drew.cell? ⟨w.heap.size + 1, 1, none⟩ = some (.int .i64 v) := hw2.cell 1
        clear hw2
        generalize ((w.alloc (.cells (TokC 0 0) 23)).alloc (.cells (TokC p v) 23)).drew = W at *
        go_wp2_with fail
        refine (HF.out _).mono ?_
        rintro e w2 ⟨rfl, hb2⟩
        have hw3 := H1.out.1.kept (hb2.block _ H1.out.1.lt)
        have hw4 := H2.out.kept (hb2.block _ H2.out.lt)
        have c0 : w2.cell? ⟨w.heap.size, 0, none⟩ = some (.int .i64 0) := hw3.cell 0
        have c1 : w2.cell? ⟨w.heap.size, 1, none⟩ = some (.int .i64 0) := hw3.cell 1
        have f0 : w2.frozen? ⟨w.heap.size, 0, none⟩ = false := hw3.free 0
        have f1 : w2.frozen? ⟨w.heap.size, 1, none⟩ = false := hw3.free 1
        have e0 : w2.cell? ⟨w.heap.size + 1, 0, none⟩ = some (.int .i64 p) := hw4.cell 0
        have e1 : w2.cell? ⟨w.heap.size + 1, 1, none⟩ = some (.int .i64 v) := hw4.cell 1
        have HB2 := Lib.hid (H1.out.2.trans (hb2.mono H1.out.2.size))
        have HW3 := Lib.hid hw3
        clear hb2 hw3 hw4 d0 d1
        go_wp2
        refine bodyPost_ret (v := .tuple #[.agg (TokC p v), .int .i64 0]) (res_two Try.results11 _ _ w.heap.size 23 (TokC p v) _ _ rfl rfl (two_whole HW3.out _ _) Try.underlying23 rfl (by kernel_rfl)) rfl ⟨rfl, two_set HB2.out (Nat.le_refl _) _ _⟩
    · have hft : fitB p v = false := by
        cases h : fitB p v with
        | false => rfl
        | true => have := fitB_iff.1 h; omega
      rw [if_neg hok] at hn hr ⊢
      rw [if_neg (by decide)] at hn hr
      rw [hft] at HF
      subst hn hr
      clear hft
      go_enter Try.func11, Try.ntmps11
      go_wp2_with fail
      refine (HJ.out _).mono ?_
      rintro e w1 ⟨rfl, rfl⟩
      go_wp2_with fail
      go_region_held3 (fun V => Whole V w.heap.size 23 (TokC 0 0) ∧ Below w.heap.size w V) (first | exact ⟨HW.out, HB.out.trans ((below_drewN _ 1).mono HB.out.size)⟩ | assumption | exact keep_draw (keep_alloc ⟨HW.out, HB.out⟩ HB.out.size _) | (go_split_ands; exact keep_alloc ⟨by assumption, by assumption⟩ (Below.size (by assumption)) _)) (first
        | (go_at_call 21; (with_reducible refine (HPL.out _).mono ?_); rintro e w' ⟨rfl, rfl⟩)
        | (go_at_call 22; (with_reducible refine (HV.out _).mono ?_); rintro e w' ⟨rfl, rfl⟩))
      all_goals
        have H1 := Lib.hid (keep_draw (keep_alloc ⟨HW.out, HB.out⟩ HB.out.size (.cells (TokC p v) 23)))
        have hw2 : Whole ((w.alloc (.cells (TokC 0 0) 23)).alloc (.cells (TokC p v) 23)).drew (w.heap.size + 1) 23 (TokC p v) := by
          have h := heap_alloc_new (w.alloc (.cells (TokC 0 0) 23)) (.cells (TokC p v) 23)
          rw [alloc_size1] at h
          exact h
        have H2 := Lib.hid hw2
        have d0 : ((w.alloc (.cells (TokC 0 0) 23)).alloc (.cells (TokC p v) 23)).drew.cell? ⟨w.heap.size + 1, 0, none⟩ = some (.int .i64 p) := hw2.cell 0
        have d1 : ((w.alloc (.cells (TokC 0 0) 23)).alloc (.cells (TokC p v) 23)).drew.cell? ⟨w.heap.size + 1, 1, none⟩ = some (.int .i64 v) := hw2.cell 1
        clear hw2
        generalize ((w.alloc (.cells (TokC 0 0) 23)).alloc (.cells (TokC p v) 23)).drew = W at *
        go_wp2_with fail
        refine (HF.out _).mono ?_
        rintro e w2 ⟨rfl, hb2⟩
        have hw3 := H1.out.1.kept (hb2.block _ H1.out.1.lt)
        have hw4 := H2.out.kept (hb2.block _ H2.out.lt)
        have c0 : w2.cell? ⟨w.heap.size, 0, none⟩ = some (.int .i64 0) := hw3.cell 0
        have c1 : w2.cell? ⟨w.heap.size, 1, none⟩ = some (.int .i64 0) := hw3.cell 1
        have f0 : w2.frozen? ⟨w.heap.size, 0, none⟩ = false := hw3.free 0
        have f1 : w2.frozen? ⟨w.heap.size, 1, none⟩ = false := hw3.free 1
        have e0 : w2.cell? ⟨w.heap.size + 1, 0, none⟩ = some (.int .i64 p) := hw4.cell 0
        have e1 : w2.cell? ⟨w.heap.size + 1, 1, none⟩ = some (.int .i64 v) := hw4.cell 1
        have HB2 := Lib.hid (H1.out.2.trans (hb2.mono H1.out.2.size))
        have HW3 := Lib.hid hw3
        clear hb2 hw3 hw4 d0 d1
        go_wp2
        refine bodyPost_ret (v := .tuple #[.agg (TokC 0 0), .int .i64 1]) (res_two Try.results11 _ _ w.heap.size 23 (TokC 0 0) _ _ rfl rfl (two_whole HW3.out _ _) Try.underlying23 rfl (by kernel_rfl)) rfl ⟨rfl, two_set HB2.out (Nat.le_refl _) _ _⟩
  · have he : pE S = jE S := by rw [pE, if_neg hj]
    have hn : pN S = 0 := by rw [pN, he, if_neg hj]
    have hr : pR S = 0 := by rw [pR, he, if_neg hj]
    rw [he, hn, hr]
    generalize jE S = c at *
    clear he hn hr
    go_enter Try.func11, Try.ntmps11
    go_wp2_with fail
    refine (HJ.out _).mono ?_
    rintro e w1 ⟨rfl, rfl⟩
    go_wp2
    refine bodyPost_ret (v := .tuple #[.agg (TokC 0 0), .int .i64 c]) (res_two Try.results11 _ _ w.heap.size 23 (TokC 0 0) _ _ rfl rfl HW.out Try.underlying23 rfl (by kernel_rfl)) rfl ⟨rfl, HB.out⟩
end Go.Proofs.Ytpiohfjmfehnoaa
