/- The walks of the statements' own texts and same. -/
import Derived.Test.YtojkegnflbfloaaCut
namespace Go.Proofs.Ytojkegnflbfloaa
open Go.RowKit

/-- A value is a slice of slices of just these bytes. -/
def RowOf (w : World) (v : Value) (P : List (List Int)) : Prop :=
  ∃ a n c, v = .slice a n c ∧ P.length = n ∧ (n = 0 ∨ ∃ g, a = some ⟨g, 0, none⟩ ∧ ∀ i, i < n → ∃ u, w.cell? ⟨g, i, none⟩ = some u ∧ IsV w u (P.getD i []))
theorem Pays.rowOf {w : World} {base : Nat} {v : Value} {P : List (List Int)} (h : Pays w base v P) (hm : ∀ p ∈ P, p.length ≤ maxLen) : RowOf w v P := by
  obtain ⟨vs, ho, hv⟩ := h
  have hl : vs.length = P.length := by simpa using ho.1
  rcases ho.2 with ⟨rfl, h0⟩ | ⟨g, cap, cur, rfl, _⟩
  · exact ⟨none, 0, 0, rfl, h0, .inl rfl⟩
  · refine ⟨_, _, _, rfl, rfl, .inr ⟨g, rfl, fun i hi => ⟨vs.getD i undef, ?_, (hv i hi).isV (hm _ ?_)⟩⟩⟩
    · rw [ho.cellAt i (by omega)]
      simp [List.getD, show i < vs.length by omega]
    · simp [List.getD, hi]
def strsOf (P : List (List Int)) : List Value := P.map fun p => Value.string (strOfNums p)
theorem Try.infoT : (Try.prog.info? 9).map (fun i => (i.zero, i.size, i.bytes)) = some (some (.string ByteArray.empty), 1, 16) := by kernel_rfl
theorem IsV.ext {w w' : World} {v : Value} {xs : List Int} (h : IsV w v xs) (hb : Below w.heap.size w w') : IsV w' v xs := by
  obtain ⟨a, n, c, h1, h2, h3⟩ := h
  exact ⟨a, n, c, h1, h2, h3.below hb⟩

set_option maxHeartbeats 4000000 in
theorem texts_any (v : Value) (P : List (List Int)) (w : World) (hv : RowOf w v P) (hn : P.length ≤ 1099511627776) :
    Calls Try.prog 21 #[v] w fun e w' => ∃ v', e = .returned v' ∧ w'.ownsRow w.heap.size 9 1 v' P.length (strsOf P) ∧ Below w.heap.size w w' := by
  obtain ⟨i0, hi, hz0, hz1, hz2⟩ := info_parts Try.infoT
  obtain ⟨a, n, c, rfl, hl, hrow⟩ := hv
  have HL := Lib.hid hl
  have hn' : n ≤ 1099511627776 := by omega
  have HR := Lib.hid hrow
  clear hl hn hrow
  go_enter Try.func21, Try.ntmps21
  go_wp2_with fail
  go_loopw [3, 8] (fun v p wr => ∃ k : Nat, k ≤ n ∧ p = .int .i64 k ∧ wr.ownsRow w.heap.size 9 1 v k (strsOf (P.take k)) ∧ Below w.heap.size w wr)
    (fun _ p _ => n - (intOf p).toNat)
  case atStart => exact ⟨0, by omega, rfl, World.ownsRow_nil _ _ _ _, Below.refl _ _⟩
  case round =>
    obtain ⟨k, hk, rfl, hown, hbel⟩ := hrel
    by_cases hkn : k < n
    · obtain ⟨g, rfl, hg⟩ := HR.out.resolve_left (by omega)
      obtain ⟨u, hcell0, ⟨ua, m, uc, rfl, hm, hub⟩⟩ := hg k hkn
      have hcell := (hbel.cell (p := ⟨g, k, none⟩) (World.block_lt_of_cell? w _ hcell0)).trans hcell0
      have hcv := (hub.below hbel).str uc
      have hst : strsOf (P.take k) ++ [.string (strOfNums (P.getD k []))] = strsOf (P.take (k + 1)) := by
        have hkl : k < P.length := by rw [HL.out]; exact hkn
        have hgd : P.getD k [] = P[k] := by simp [List.getD, hkl]
        unfold strsOf
        rw [List.take_succ_eq_append_getElem hkl, List.map_append, hgd]
        rfl
      have HST := Lib.hid hst
      generalize strOfNums (P.getD k []) = S at *
      have hsz := hbel.size
      have HO := Lib.hid hown
      have HB := Lib.hid hbel
      clear hg hcell0 hub hst hown hbel
      go_wp2_with (at_builtin; refine wpList_append_own _ rfl _ _ 40 rfl w.heap.size 9 i0 (.string ByteArray.empty) 1 16 Try.underlying40 hi hz0 hz1 hz2 rfl (by decide) _ k _ rfl (HO.out.alloc _) ⟨wr.heap.size, 0, none⟩ 1 1 [.string S] rfl rfl (cell_one_new _ _ _) (by intro q hq; simp at hq; subst hq; rfl) (by unfold maxLen; omega) (by omega) (by simp; omega) ?_; intro v3 w3 hown3 hgrow3 _)
      have hb3 := (HB.out.alloc hsz _).grown hgrow3 (by simp; omega) (fun q hq => (HO.out.lt q hq).1)
      rw [HST.out] at hown3
      have HB3 := Lib.hid hb3
      have HO3 := Lib.hid hown3
      clear hb3 hown3 hgrow3
      go_wp2
      go_roundw
      case rel => exact ⟨k + 1, by omega, by go_num, HO3.out, HB3.out⟩
      case measure => simp [intOf]; omega
    · have hkn' : k = n := by omega
      rw [hkn', List.take_of_length_le (by rw [HL.out]; exact Nat.le_refl _)] at hown
      have hlp := HL.out
      have HO := Lib.hid hown
      have HB := Lib.hid hbel
      clear hown hbel hkn' hlp
      go_wp2
      go_ret
      exact ⟨_, rfl, by rw [HL.out]; exact HO.out, HB.out⟩

/-- A value is a slice of just these strings. -/
def StrsIn (w : World) (v : Value) (L : List Value) : Prop :=
  ∃ a n c, v = .slice a n c ∧ L.length = n ∧ (n = 0 ∨ ∃ g, a = some ⟨g, 0, none⟩ ∧ ∀ i, i < n → w.cell? ⟨g, i, none⟩ = some (L.getD i undef))
theorem owns_strs {w : World} {base n : Nat} {v : Value} {L : List Value} (h : w.ownsRow base 9 1 v n L) : StrsIn w v L := by
  have hl : L.length = n := by simpa using h.1
  rcases h.2 with ⟨rfl, h0⟩ | ⟨g, cap, cur, rfl, _⟩
  · exact ⟨none, 0, 0, rfl, by omega, .inl rfl⟩
  · refine ⟨_, _, _, rfl, hl, .inr ⟨g, rfl, fun i hi => ?_⟩⟩
    rw [h.cellAt i (by omega)]
    simp [List.getD, show i < L.length by omega]
theorem StrsIn.below {w w' : World} {v : Value} {L : List Value} (h : StrsIn w v L) (hb : Below w.heap.size w w') : StrsIn w' v L := by
  obtain ⟨a, n, c, h1, h2, h3⟩ := h
  refine ⟨a, n, c, h1, h2, h3.imp_right ?_⟩
  rintro ⟨g, h4, h5⟩
  exact ⟨g, h4, fun i hi => (hb.cell (p := ⟨g, i, none⟩) (World.block_lt_of_cell? w _ (h5 i hi))).trans (h5 i hi)⟩

set_option maxHeartbeats 4000000 in
theorem same_true (v1 v2 : Value) (P : List (List Int)) (w : World) (h1 : StrsIn w v1 (strsOf P)) (h2 : StrsIn w v2 (strsOf P)) (hn : P.length ≤ 1099511627776) :
    Calls Try.prog 20 #[v1, v2] w fun e w' => e = .returned (.bool true) ∧ Below w.heap.size w w' := by
  obtain ⟨a1, n1, c1, rfl, l1, r1⟩ := h1
  obtain ⟨a2, n2, c2, rfl, l2, r2⟩ := h2
  have hlp : (strsOf P).length = P.length := by simp [strsOf]
  obtain rfl : n2 = n1 := by omega
  have hn' : n2 ≤ 1099511627776 := by omega
  have HL := Lib.hid (show P.length = n2 by omega)
  have R1 := Lib.hid r1
  have R2 := Lib.hid r2
  clear l1 l2 hlp hn r1 r2
  go_enter Try.func20, Try.ntmps20
  go_wp2_with fail
  go_loopw [13] (fun p wr => ∃ k : Nat, k ≤ n2 ∧ p = .int .i64 k ∧ Below w.heap.size w wr)
    (fun p _ => n2 - (intOf p).toNat)
  case atStart => exact ⟨0, by omega, rfl, Below.refl _ _⟩
  case round =>
    obtain ⟨k, hk, rfl, hbel⟩ := hrel
    by_cases hkn : k < n2
    · obtain ⟨g1, rfl, d1⟩ := R1.out.resolve_left (by omega)
      obtain ⟨g2, rfl, d2⟩ := R2.out.resolve_left (by omega)
      have e1 := (hbel.cell (p := ⟨g1, k, none⟩) (World.block_lt_of_cell? w _ (d1 k hkn))).trans (d1 k hkn)
      have e2 := (hbel.cell (p := ⟨g2, k, none⟩) (World.block_lt_of_cell? w _ (d2 k hkn))).trans (d2 k hkn)
      have hs : (strsOf P).getD k undef = .string (strOfNums (P.getD k [])) := by
        have hkl : k < P.length := by rw [HL.out]; exact hkn
        simp [strsOf, List.getD, hkl]
      rw [hs] at e1 e2
      generalize strOfNums (P.getD k []) = S at *
      have i1 : (k : Int) < (n2 : Int) := by omega
      have i2 : (0 : Int) ≤ (k : Int) := by omega
      have HB := Lib.hid hbel
      clear d1 d2 hs hbel
      go_wp2_with fail
      go_quiet (fail)
      go_wp2
      go_roundw
      case rel => exact ⟨k + 1, by omega, by go_num, HB.out.trans ⟨rfl, rfl, rfl, Nat.le_refl _, fun _ _ => rfl⟩⟩
      case measure => simp [intOf]; omega
    · have HB := Lib.hid hbel
      clear hbel
      go_wp2
      go_ret
      exact ⟨rfl, HB.out⟩
end Go.Proofs.Ytojkegnflbfloaa
