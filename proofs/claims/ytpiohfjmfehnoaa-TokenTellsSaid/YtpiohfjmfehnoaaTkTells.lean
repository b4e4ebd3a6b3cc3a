/- TokenTells: a slip of the pen is told. -/
import Derived.Test.YtpiohfjmfehnoaaTk9
import Derived.Laws.IdiomStrings
namespace Go.Proofs.Ytpiohfjmfehnoaa
open Go.RowKit

/-- Block g begins with these bytes. -/
def Byt (V : World) (g : Nat) (xs : List Int) : Prop := g < V.heap.size ∧ ∀ i (h : i < xs.length), V.cell? ⟨g, i, none⟩ = some (.int .u8 xs[i]) ∧ V.frozen? ⟨g, i, none⟩ = false
/-- The world behind '[]byte(s)'. -/
def bw (w : World) (S : ByteArray) : World :=
  w.drew.alloc (.cells (bytesRow S (grownCap w S.size 0 5)) 5 ((bytesRow S (grownCap w S.size 0 5)).size, (bytesRow S (grownCap w S.size 0 5)).size + 1))
theorem bw_run (w : World) (S : ByteArray) : (convert 9 35 (.string S)).run Try.prog w = .ok (.slice (some ⟨w.heap.size, 0, none⟩) S.size (grownCap w S.size 0 5)) (bw w S) :=
  run_bytes_of_string (P := Try.prog) w 9 35 5 S Try.underlying9 Try.underlying35 Try.underlying5
theorem bw_below (w : World) (S : ByteArray) : Below w.heap.size w (bw w S) := (below_drewN w 1).alloc (Nat.le_refl _) _
theorem bw_byt (w : World) (ps : List Nat) (hp : ok31 ps) : Byt (bw w (T ps)) w.heap.size (ps.map sgn) := by
  have hh : (bw w (T ps)).heap[w.heap.size]? = some (.cells (bytesRow (T ps) (grownCap w (T ps).size 0 5)) 5 ((bytesRow (T ps) (grownCap w (T ps).size 0 5)).size, (bytesRow (T ps) (grownCap w (T ps).size 0 5)).size + 1)) := heap_alloc_new w.drew _
  have hlt : w.heap.size < (bw w (T ps)).heap.size := by
    rcases Nat.lt_or_ge w.heap.size (bw w (T ps)).heap.size with h | h
    · exact h
    · rw [Array.getElem?_eq_none h] at hh; cases hh
  refine ⟨hlt, fun i h => ?_⟩
  rw [List.length_map] at h
  have hsz : i < (T ps).data.size := by have := T_size ps; show i < (T ps).size; omega
  have hat := bytesRow_at (T ps) (grownCap w (T ps).size 0 5) i hsz
  have hb : ((T ps).data[i].toNat : Int) = sgn ps[i] := by
    have h1 := at_get (T ps) i hsz
    rw [T_at ps hp i h] at h1
    have h2 := sgn_facts (hp _ (List.getElem_mem h))
    have h3 : (T ps)[i] = (T ps).data[i] := rfl
    rw [h3] at h1
    omega
  rw [hb] at hat
  have hil : i < (bytesRow (T ps) (grownCap w (T ps).size 0 5)).size := by
    rcases Nat.lt_or_ge i (bytesRow (T ps) (grownCap w (T ps).size 0 5)).size with h | h
    · exact h
    · rw [Array.getElem?_eq_none h] at hat; cases hat
  constructor
  · rw [List.getElem_map, ← hat]
    exact World.cell?_alloc_mark w.drew _ _ _ i
  · rw [show (bw w (T ps)).frozen? ⟨w.heap.size, i, none⟩ = _ from World.frozen?_alloc_mark w.drew _ _ _ _ i]
    simp
    omega
theorem Byt.set {V : World} {g : Nat} {xs : List Int} (h : Byt V g xs) (i : Nat) (b : Int) : Byt (V.setCell ⟨g, i, none⟩ (.int .u8 b)) g (xs.set i b) := by
  refine ⟨by simpa using h.1, fun j hj => ?_⟩
  rw [List.length_set] at hj
  obtain ⟨c, f⟩ := h.2 j hj
  by_cases hij : i = j
  · subst hij
    refine ⟨?_, by simpa using f⟩
    rw [List.getElem_set_self]
    exact World.cell?_setCell_same _ _ _ c
  · rw [List.getElem_set_ne hij]
    refine ⟨?_, by simpa using f⟩
    rw [← c]
    exact World.cell?_setCell_other _ _ _ _ (by intro hh; apply hij; injection hh)
theorem Byt.below {V V' : World} {g : Nat} {xs : List Int} (h : Byt V g xs) (hb : Below V.heap.size V V') : Byt V' g xs :=
  ⟨Nat.lt_of_lt_of_le h.1 hb.size, fun i hi => ⟨(hb.cell (p := ⟨g, i, none⟩) h.1).trans (h.2 i hi).1, (hb.frozen (p := ⟨g, i, none⟩) h.1).trans (h.2 i hi).2⟩⟩
theorem Byt.str {V : World} {g : Nat} {xs : List Int} (h : Byt V g xs) (n c : Nat) (hn : xs.length = n) : (convert 35 9 (.slice (some ⟨g, 0, none⟩) n c)).run Try.prog V = .ok (.string (strOfNums xs)) V :=
  run_convert_bytes_arg (P := Try.prog) V 35 5 Try.underlying35 Try.underlying5 g 0 n c xs hn (fun i hi => by
    rw [Nat.zero_add, (h.2 i (by omega)).1, List.getD_eq_getElem?_getD, List.getElem?_eq_getElem (by omega)]; rfl) 9 Try.underlying9

theorem bel_set {B : Nat} {w w' : World} (h : Below B w w') (g i : Nat) (u : Value) (hg : B ≤ g) : Below B w (w'.setCell ⟨g, i, none⟩ u) :=
  ⟨h.os, h.tape, h.output, by simpa using h.size, fun k hk => (Below.heap_setCell w' ⟨g, i, none⟩ u k (show k ≠ g by omega)).trans (h.block k hk)⟩
set_option maxRecDepth 100000 in
set_option maxHeartbeats 4000000 in
theorem tells_walk (n r at_ b : Int) (w : World) (hat : (Lit.int .i64 at_).wf = true) (hbw : (Lit.int .u8 b).wf = true) :
    Calls Try.prog 5 #[TokV n r, .int .i64 at_, .int .u8 b] w fun e w' => e = .returned (.bool true) ∧ Below w.heap.size w w' := by
  have ha := wf_i64 hat
  have hb : 0 ≤ b ∧ b < 256 := by
    simp [Lit.wf, IntKind.min, IntKind.max, IntKind.signed, IntKind.bits] at hbw
    omega
  clear hat hbw
  have HA := Lib.hid (fun w => awake_any w)
  have HP := Lib.hid (fun w => print_any n r w)
  have HB0 := Lib.hid (below_alloc w (.cells (TokC n r) 23))
  have HX0 := Lib.hid (box_new w n r 23 (0, 0))
  cases hf : fitB n r with
  | false =>
    have e1 : prT n r = ByteArray.empty := by rw [prT, hf]; rfl
    have e2 : prE n r = 1 := by rw [prE, hf]; rfl
    rw [e1, e2] at HP
    clear e1 e2 hf
    go_enter Try.func5, Try.ntmps5
    go_wp2_with fail
    refine (HA.out _).mono ?_
    rintro e w1 ⟨rfl, hb1⟩
    have HX1 := Lib.hid (box_below HX0.out hb1)
    have HB1 := Lib.hid (HB0.out.trans (hb1.mono HB0.out.size))
    obtain ⟨c0, c1⟩ := HX1.out
    clear hb1 HX0 HB0
    go_wp2_with fail
    refine (HP.out _).mono ?_
    rintro e w2 ⟨rfl, hb2⟩
    have HB2 := Lib.hid (HB1.out.trans (hb2.mono HB1.out.size))
    clear c0 c1 hb2 HX1 HB1
    go_wp2
    go_ret
    exact ⟨rfl, HB2.out⟩
  | true =>
    obtain ⟨ps, e1, ho, hl, hl2, h1, h2⟩ : ∃ ps, prT n r = T ps ∧ ok31 ps ∧ ps.length ≤ 13 ∧ 2 ≤ ps.length ∧
        (∀ (i : Nat) (hi : i < ps.length) (b : Int), 0 ≤ b ∧ b < 256 → b ≠ sgn ps[i] → (pE (strOfNums ((ps.map sgn).set i b)) = 11 ∨ pE (strOfNums ((ps.map sgn).set i b)) = 20) ∧ pN (strOfNums ((ps.map sgn).set i b)) = 0 ∧ pR (strOfNums ((ps.map sgn).set i b)) = 0) ∧
        (∀ (i : Nat) (hi : i + 1 < ps.length), ps[i] ≠ ps[i + 1] → pE (strOfNums (((ps.map sgn).set i (sgn ps[i + 1])).set (i + 1) (sgn ps[i]))) = 11 ∧ pN (strOfNums (((ps.map sgn).set i (sgn ps[i + 1])).set (i + 1) (sgn ps[i]))) = 0 ∧ pR (strOfNums (((ps.map sgn).set i (sgn ps[i + 1])).set (i + 1) (sgn ps[i]))) = 0) :=
      ⟨full n r, by rw [prT, hf]; rfl, (full_ok hf).1, (full_ok hf).2, by rw [full_len]; omega, fun i hi b hb hne => slip_one hf i hi b hb hne, fun i hi hne => slip_two hf i hi hne⟩
    have e2 : prE n r = 0 := by rw [prE, hf]; rfl
    rw [e1, e2] at HP
    clear e1 e2 hf
    have hsz := T_size ps
    have HO := Lib.hid ho
    have H1 := Lib.hid h1
    have H2 := Lib.hid h2
    have HBY := Lib.hid (fun w => bw_byt w ps ho)
    clear h1 h2
    by_cases hin : 0 ≤ at_ ∧ at_ < ps.length
    · obtain ⟨i, rfl⟩ : ∃ i : Nat, at_ = i := ⟨at_.toNat, by omega⟩
      have hi : i < ps.length := by omega
      have hiS : i < (T ps).size := by omega
      have hg := at_get (T ps) i hiS
      rw [T_at ps ho i hi] at hg
      have hsg := sgn_facts (ho _ (List.getElem_mem hi))
      have hg2 : ((T ps)[i].toNat : Int) = sgn ps[i] := by omega
      have HG2 := Lib.hid hg2
      have hS1 : (strOfNums ((ps.map sgn).set i b)).size ≤ 140737488351232 := by rw [strOfNums_size, List.length_set, List.length_map]; omega
      have HQ1 := Lib.hid (fun w => parse_any _ hS1 w)
      have HC1 := Lib.hid (H1.out i hi b hb)
      clear hg hg2 hsg ho hS1
      go_enter Try.func5, Try.ntmps5
      go_wp2_with fail
      refine (HA.out _).mono ?_
      rintro e w1 ⟨rfl, hb1⟩
      have HX1 := Lib.hid (box_below HX0.out hb1)
      have HB1 := Lib.hid (HB0.out.trans (hb1.mono HB0.out.size))
      obtain ⟨c0, c1⟩ := HX1.out
      clear hb1 HX0 HB0
      go_wp2_with fail
      refine (HP.out _).mono ?_
      rintro e w2 ⟨rfl, hb2⟩
      have HB2 := Lib.hid (HB1.out.trans (hb2.mono HB1.out.size))
      clear c0 c1 hb2 HX1 HB1
      have hcv := bw_run w2 (T ps)
      have hby := HBY.out w2
      have hc0 := (hby.2 i (by rw [List.length_map]; exact hi)).1
      have hf0 := (hby.2 i (by rw [List.length_map]; exact hi)).2
      have hst := (hby.set i b).str ps.length (grownCap w2 (T ps).size 0 5) (by rw [List.length_set, List.length_map])
      have HBW := Lib.hid (HB2.out.trans ((bw_below w2 (T ps)).mono HB2.out.size))
      clear hby
      generalize grownCap w2 (T ps).size 0 5 = cp at *
      generalize bw w2 (T ps) = W at *
      have HBS := Lib.hid (bel_set HBW.out w2.heap.size i (.int .u8 b) HB2.out.size)
      have HQ1 := Lib.hid (HQ1.out (W.setCell ⟨w2.heap.size, i, none⟩ (.int .u8 b)))
      generalize pN (strOfNums ((ps.map sgn).set i b)) = a1 at *
      generalize pR (strOfNums ((ps.map sgn).set i b)) = b1 at *
      generalize pE (strOfNums ((ps.map sgn).set i b)) = c1 at *
      generalize strOfNums ((ps.map sgn).set i b) = S1 at *
      clear HBW
      go_wp2_with fail
      refine HQ1.out.mono ?_
      rintro e w3 ⟨rfl, hb3⟩
      have hb4 := (HBS.out.trans (hb3.mono HBS.out.size)).alloc (Nat.le_trans HBS.out.size hb3.size) (.cells (TokC a1 b1) 23)
      obtain ⟨d0, d1⟩ := box_new w3 a1 b1 23 (0, 0)
      clear hb3 HBS hcv hc0 hf0 hst
      have hg2 := HG2.out
      have hcases : (b = ((T ps)[i].toNat : Int)) ∨ (b ≠ ((T ps)[i].toNat : Int) ∧ c1 = 11 ∧ a1 = 0 ∧ b1 = 0) ∨ (b ≠ ((T ps)[i].toNat : Int) ∧ c1 = 20 ∧ a1 = 0 ∧ b1 = 0) := by
        by_cases hbs : b = sgn ps[i]
        · exact .inl (by omega)
        · obtain ⟨h1 | h1, h2⟩ := HC1.out hbs
          · exact .inr (.inl ⟨by omega, h1, h2⟩)
          · exact .inr (.inr ⟨by omega, h1, h2⟩)
      clear HC1 HQ1
      clear hg2
      rcases hcases with rfl | ⟨h, rfl, rfl, rfl⟩ | ⟨h, rfl, rfl, rfl⟩
      all_goals go_wp2_with fail
      all_goals
        clear d0 d1
        have hwr : IntKind.i64.wrap ((ps.length : Int) - 1) = (ps.length : Int) - 1 := IntWalk.i64_in _ ⟨by omega, by omega⟩
        have hw1 : IntKind.i64.wrap ((i : Int) + 1) = (i : Int) + 1 := IntWalk.i64_in _ ⟨by omega, by omega⟩
        have HB4 := Lib.hid hb4
        have hsz4 := hb4.size
        clear hb4
        generalize hW4 : w3.alloc _ = W4 at *
        clear hW4
        by_cases hlast : (i : Int) = (ps.length : Int) - 1
        · have hdl : decide ((i : Int) = (ps.length : Int) - 1) = true := decide_eq_true hlast
          go_quiet (fail)
          go_wp2
          go_ret
          exact ⟨rfl, HB4.out.trans ((below_drewN W4 _).mono HB4.out.size)⟩
        · have hdl : decide ((i : Int) = (ps.length : Int) - 1) = false := decide_eq_false hlast
          have hdb : ((i : Int) == (ps.length : Int) - 1) = false := beq_eq_false_iff_ne.2 hlast
          have hi1 : i + 1 < ps.length := by omega
          have hi1S : i + 1 < (T ps).size := by omega
          have hi1Z : (i : Int) + 1 < (ps.length : Int) := by omega
          have hg3 := at_get (T ps) (i + 1) hi1S
          rw [T_at ps HO.out (i + 1) hi1] at hg3
          have hsg := sgn_facts (HO.out _ (List.getElem_mem hi1))
          have hg4 : ((T ps)[i + 1].toNat : Int) = sgn ps[i + 1] := by omega
          have HG4 := Lib.hid hg4
          clear hg3 hsg hg4
          have hix : ∀ w, Sem.run Try.prog (Instr.index 9 (.string (T ps)) (.int .i64 ((i : Int) + 1))) w = .ok (.int .u8 ((T ps)[i + 1].toNat : Int)) w := by
            intro w
            have h := run_index_string (P := Try.prog) (w := w) 9 (T ps) .i64 ((i : Int) + 1) Try.underlying9
            rw [dif_pos ⟨by omega, by omega⟩] at h
            have ht : ((i : Int) + 1).toNat = i + 1 := by omega
            simp only [ht] at h
            exact h
          by_cases heq : ((T ps)[i].toNat : Int) = ((T ps)[i + 1].toNat : Int)
          · have hde : decide (((T ps)[i].toNat : Int) = ((T ps)[i + 1].toNat : Int)) = true := decide_eq_true heq
            have hdb2 : (((T ps)[i].toNat : Int) == ((T ps)[i + 1].toNat : Int)) = true := beq_iff_eq.2 heq
            go_quiet (fail)
            go_wp2
            go_ret
            exact ⟨rfl, HB4.out.trans ((below_drewN W4 _).mono HB4.out.size)⟩
          · have hde : decide (((T ps)[i].toNat : Int) = ((T ps)[i + 1].toNat : Int)) = false := decide_eq_false heq
            have hdb2 : (((T ps)[i].toNat : Int) == ((T ps)[i + 1].toNat : Int)) = false := beq_eq_false_iff_ne.2 heq
            have hC2 := H2.out i hi1 (by intro hh; apply heq; rw [HG2.out, HG4.out, hh])
            rw [← HG2.out, ← HG4.out] at hC2
            go_quiet (fail)
            have HB5 := Lib.hid (HB4.out.trans ((below_drewN W4 nq).mono HB4.out.size))
            generalize W4.drewN nq = W5 at *
            have hcv := bw_run W5 (T ps)
            have hby := HBY.out W5
            have hc0 := (hby.2 i (by rw [List.length_map]; exact hi)).1
            have hf0 := (hby.2 i (by rw [List.length_map]; exact hi)).2
            have hc1 := (hby.2 (i + 1) (by rw [List.length_map]; exact hi1)).1
            have hf1 := (hby.2 (i + 1) (by rw [List.length_map]; exact hi1)).2
            have HBY2 := Lib.hid ((hby.set i ((T ps)[i + 1].toNat : Int)).set (i + 1) ((T ps)[i].toNat : Int))
            have hS2 : (strOfNums (((ps.map sgn).set i ((T ps)[i + 1].toNat : Int)).set (i + 1) ((T ps)[i].toNat : Int))).size ≤ 140737488351232 := by rw [strOfNums_size, List.length_set, List.length_set, List.length_map]; omega
            have HQ2 := Lib.hid (fun w => parse_any _ hS2 w)
            have HBW := HB5.out.trans ((bw_below W5 (T ps)).mono HB5.out.size)
            have HBS := Lib.hid (bel_set (bel_set HBW W5.heap.size i (.int .u8 ((T ps)[i + 1].toNat : Int)) HB5.out.size) W5.heap.size (i + 1) (.int .u8 ((T ps)[i].toNat : Int)) HB5.out.size)
            generalize grownCap W5 (T ps).size 0 5 = cp2 at *
            generalize bw W5 (T ps) = W6 at *
            rw [hC2.1, hC2.2.1, hC2.2.2] at HQ2
            have hln : (((ps.map sgn).set i ((T ps)[i + 1].toNat : Int)).set (i + 1) ((T ps)[i].toNat : Int)).length = ps.length := by rw [List.length_set, List.length_set, List.length_map]
            have HST := Lib.hid (fun (V : World) (h : Byt V W5.heap.size (((ps.map sgn).set i ((T ps)[i + 1].toNat : Int)).set (i + 1) ((T ps)[i].toNat : Int))) => h.str ps.length cp2 hln)
            clear HBW hby hS2 hC2 hln
            generalize ((ps.map sgn).set i ((T ps)[i + 1].toNat : Int)).set (i + 1) ((T ps)[i].toNat : Int) = X2 at *
            generalize strOfNums X2 = S2 at *
            go_wp2_with fail
            go_region
            have hst := HST.out ((W6.setCell ⟨W5.heap.size, i, none⟩ (.int .u8 ((T ps)[i + 1].toNat : Int))).setCell ⟨W5.heap.size, i + 1, none⟩ (.int .u8 ((T ps)[i].toNat : Int))).drew HBY2.out
            have HBS := Lib.hid (show Below w.heap.size w ((W6.setCell ⟨W5.heap.size, i, none⟩ (.int .u8 ((T ps)[i + 1].toNat : Int))).setCell ⟨W5.heap.size, i + 1, none⟩ (.int .u8 ((T ps)[i].toNat : Int))).drew from ⟨HBS.out.os, HBS.out.tape, HBS.out.output, HBS.out.size, HBS.out.block⟩)
            generalize ((W6.setCell ⟨W5.heap.size, i, none⟩ (.int .u8 ((T ps)[i + 1].toNat : Int))).setCell ⟨W5.heap.size, i + 1, none⟩ (.int .u8 ((T ps)[i].toNat : Int))).drew = W7 at *
            go_wp2_with fail
            refine (HQ2.out _).mono ?_
            rintro e w8 ⟨rfl, hb8⟩
            have HB8 := Lib.hid ((HBS.out.trans (hb8.mono HBS.out.size)).alloc (Nat.le_trans HBS.out.size hb8.size) (.cells (TokC 0 0) 23))
            clear hb8
            go_wp2
            go_ret
            exact ⟨rfl, HB8.out⟩
    · go_enter Try.func5, Try.ntmps5
      go_wp2_with fail
      refine (HA.out _).mono ?_
      rintro e w1 ⟨rfl, hb1⟩
      have HX1 := Lib.hid (box_below HX0.out hb1)
      have HB1 := Lib.hid (HB0.out.trans (hb1.mono HB0.out.size))
      obtain ⟨c0, c1⟩ := HX1.out
      clear hb1 HX0 HB0
      go_wp2_with fail
      refine (HP.out _).mono ?_
      rintro e w2 ⟨rfl, hb2⟩
      have HB2 := Lib.hid (HB1.out.trans (hb2.mono HB1.out.size))
      clear c0 c1 hb2 HX1 HB1
      rcases (show at_ < 0 ∨ (0 ≤ at_ ∧ (ps.length : Int) ≤ at_) by omega) with h | ⟨h, h'⟩
      all_goals
        go_wp2
        go_ret
        exact ⟨rfl, HB2.out⟩
end Go.Proofs.Ytpiohfjmfehnoaa
