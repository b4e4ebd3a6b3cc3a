/- The document's outbox: Put. -/
import Derived.Test.YtefllbmopaiojaaOP1
namespace Go.Proofs.Ytefllbmopaiojaa
open Go.RowKit

/-- The document's Put. -/
def RPut (size : Int) (k : ByteArray) (v now : Int) (l l' : List It) (code : Int) : Prop :=
  (∃ l1 x l2, l = l1 ++ x :: l2 ∧ x.1 = k ∧ k ∉ l1.map (·.1) ∧ code = 0 ∧ l' = l1 ++ (k, v, now) :: l2) ∨
  (k ∉ l.map (·.1) ∧ size ≤ l.length ∧ code = 3 ∧ l' = l) ∨
  (k ∉ l.map (·.1) ∧ l.length < size ∧ code = 0 ∧ l' = l ++ [(k, v, now)])
def RPutPost (w : World) (B : Nat) (size p : Int) (k : ByteArray) (v now : Int) (l : List It) (e : Ending) (w' : World) : Prop :=
  ∃ a' c' l' code, e = .returned (.tuple #[.agg #[.slice a' l'.length c', .int .i64 now, .int .i64 p, .int .i64 size], .int .i64 code]) ∧ Is w' B a' c' l' ∧ Below w.heap.size w w' ∧ RPut size k v now l l' code
theorem ics_set {l1 l2 : List It} {x y : It} : (((ics (l1 ++ x :: l2)).set (l1.length * 3) (.string y.1)).set (l1.length * 3 + 1) (.int .i64 y.2.1)).set (l1.length * 3 + 2) (.int .i64 y.2.2) = ics (l1 ++ y :: l2) := by
  have hl : (ics l1).length = l1.length * 3 := ics_len l1
  rw [ics_append, ics_append]
  rw [← hl]
  rw [List.set_append_right _ _ (Nat.le_refl _), List.set_append_right _ _ (by omega), List.set_append_right _ _ (by omega)]
  simp [ics, ic]
theorem empty_is (w : World) : (Instr.buildSlice 29 0 #[]).run Try.prog w = .ok (.slice (some ⟨w.heap.size, 0, none⟩) 0 0) (w.alloc (.cells #[] 48)) := by
  obtain ⟨i0, hi0, hz0, hz1, hz2⟩ := info_of Try.infoIt
  simp [Instr.buildSlice, run_underlying Try.underlying29, sizeOf, typeInfo, hi0, Instr.fill, newRow]
  rw [Array.eq_empty_of_size_eq_zero (show (Array.map (fun _ => default) (Array.range 0) : Array Value).size = 0 by simp)]
theorem owns_set {w : World} {B n c d j k : Nat} {T : TypeId} {cs : List Value} (h : w.ownsRow B T k (.slice (some ⟨d, 0, none⟩) n c) n cs) (u : Value) : (w.setCell ⟨d, j, none⟩ u).ownsRow B T k (.slice (some ⟨d, 0, none⟩) n c) n (cs.set j u) := by
  have hl := h.1
  rcases h.2 with ⟨hv, _⟩ | ⟨g, cap, cur, hv, hb, hh, h3, h4, h5, h6⟩
  · cases hv
  · injection hv with e1 e2 e3
    injection e1 with e1
    injection e1 with e1
    subst e1 e3
    have hW : Whole w d T cur := hh
    refine ⟨by rw [List.length_set]; exact hl, .inr ⟨d, c, cur.setIfInBounds j u, rfl, hb, hW.store j u, h3, h4, by rw [Array.size_setIfInBounds]; exact h5, ?_⟩⟩
    rw [← h6, Array.toList_setIfInBounds, List.take_set]
theorem owns_keepk {w w' : World} {base n k : Nat} {e : TypeId} {v : Value} {l : List Value} (h : w.ownsRow base e k v n l) (hb : ∀ q, v.ownBlock = some q → w'.heap[q]? = w.heap[q]?) : w'.ownsRow base e k v n l := by
  refine ⟨h.1, ?_⟩
  rcases h.2 with h2 | ⟨g, cap, cur, rfl, h3, h4, r⟩
  · exact .inl h2
  · exact .inr ⟨g, cap, cur, rfl, h3, (hb g rfl).trans h4, r⟩
theorem not_yet {l : List It} {i : Nat} {k : ByteArray} {x : It} (h : k ∉ (l.take i).map (·.1)) (hx : l[i]? = some x) (hne : x.1 ≠ k) : k ∉ (l.take (i + 1)).map (·.1) := by
  rw [take_snoc hx, List.map_append]
  simp only [List.mem_append, not_or]
  exact ⟨h, by simpa using hne.symm⟩
set_option maxRecDepth 100000 in
set_option maxHeartbeats 8000000 in
theorem rput_any {B c : Nat} {a : Option Addr} {l : List It} (k : ByteArray) (v now p : Int) (s : Nat) (w : World) (h : Is w B a c l) (hl : l.length ≤ 4096) (hB : B ≤ w.heap.size) :
    Calls Try.prog 10 #[.agg #[.slice a l.length c, .int .i64 now, .int .i64 p, .int .i64 (s : Int)], .string k, .int .i64 v] w fun e w' => RPutPost w B (s : Int) p k v now l e w' := by
  obtain ⟨i0, hi0, hz0, hz1, hz2⟩ := info_of Try.infoIt
  have hbs := empty_is
  obtain ⟨w0, hw0⟩ : ∃ w0, w0 = (w.alloc (.cells #[.slice a l.length c, .int .i64 now, .int .i64 p, .int .i64 (s : Int)] 31)).alloc (.cells #[.slice none 0 0, .int .i64 0, .int .i64 0, .int .i64 0] 31) := ⟨_, rfl⟩
  have HT := Lib.hid (fun W (hW : Below w0.heap.size w0 W) => two_boxes hw0 hW)
  have hs0 : w0.heap.size = w.heap.size + 1 + 1 := by rw [hw0]; simp
  have hba := below_alloc w0 (.cells #[] 48)
  have HR := Lib.hid ((h.below (HT.out w0 (Below.refl _ _)).2.2).below hba)
  have HE := Lib.hid (show (w0.alloc (.cells #[] 48)).ownsRow w0.heap.size 48 3 (.slice (some ⟨w.heap.size + 1 + 1, 0, none⟩) 0 0) 0 [] by
    have h := World.ownsRow_made (base := w0.heap.size) (size := 3) (e := 48) w0 #[] 0 (Nat.le_refl _) (by simp [maxLen]) rfl
    rwa [show (some ⟨w0.heap.size, 0, none⟩ : Option Addr) = some ⟨w.heap.size + 1 + 1, 0, none⟩ by rw [hs0]] at h)
  have HBA := Lib.hid hba
  have HI := Lib.hid h
  have HS0 := Lib.hid hs0
  obtain ⟨x0, x1, x2, x3, f0, f1, f2, f3⟩ := four_of (HT.out (w0.alloc (.cells #[] 48)) hba).1
  clear h hba hs0
  go_enter Try.func10, Try.ntmps10
  go_wp2_with (
    at_builtin
    rw [← hw0]
    clear hw0
    (refine wpList_append_at_any _ rfl _ _ 29 rfl w0.heap.size 48 i0 (.agg #[.string ⟨#[]⟩, .int .i64 0, .int .i64 0]) 3 32 Try.underlying29 hi0 hz0 hz1 hz2 rfl (by decide) _ 0 [] rfl HE.out a l.length c (ics l) rfl HR.out.row.len HR.out.row.nil HR.out.row.news (ics_one l) (by unfold maxLen; omega) (by omega) (by simp) ?_)
    intro v2 w2 hown2 hgrow2 hat2
    (have hown : w2.ownsRow w0.heap.size 48 3 v2 l.length (ics l) := by simpa using hown2)
    (have hb2 : Below w0.heap.size w0 w2 := HBA.out.grown hgrow2 (by simp) (fun q hq => (HE.out.lt q hq).1))
    (obtain ⟨va, vc, rfl, hI2⟩ := Is.owned hown)
    (obtain ⟨hB0, hB1, hbw⟩ := HT.out w2 hb2)
    (obtain ⟨x0, x1, x2, x3, f0, f1, f2, f3⟩ := four_of hB0)
    have HOW := Lib.hid hown
    have HB2 := Lib.hid hb2
    have HX0 := Lib.hid hB0
    have HX1 := Lib.hid hB1
    have HBW := Lib.hid hbw
    have hz2' := HS0.out
    have hsz2 := hb2.size
    clear hown2 hgrow2 hat2 hown hb2 hB0 hB1 hbw hI2)
  obtain ⟨w3, hw3⟩ : ∃ w3, w3 = w2.alloc (.cells #[.string k, .int .i64 v, .int .i64 now] 48) := ⟨_, rfl⟩
  have hb3 : Below w2.heap.size w2 w3 := by rw [hw3]; exact below_alloc _ _
  have hq3 : Whole w3 w2.heap.size 48 #[.string k, .int .i64 v, .int .i64 now] := by rw [hw3]; exact heap_alloc_new _ _
  have HQ3 := Lib.hid hq3
  have HX03 := Lib.hid (HX0.out.kept (hb3.block _ HX0.out.lt))
  have HX13 := Lib.hid (HX1.out.kept (hb3.block _ HX1.out.lt))
  have HOW3 := Lib.hid (owns_keepk HOW.out (fun q hq => hb3.block q (HOW.out.lt q hq).2))
  have HBW3 := Lib.hid (HBW.out.trans (hb3.mono HBW.out.size))
  have HI3 := Lib.hid (HI.out.below HBW3.out)
  have hsz3 := hb3.size
  rw [← hw3]
  clear hw3 hb3 x0 x1 x2 x3 f0 f1 f2 f3 hq3 HX0 HX1 HOW HBW HB2 HE HBA HT HR
  have hq3l := HQ3.out.lt
  generalize w2.heap.size = q at *
  go_loop [10] (fun t10 => ∃ i : Nat, i ≤ l.length ∧ t10 = .int .i64 i ∧ k ∉ (l.take i).map (·.1)) (fun t10 => l.length - (intOf t10).toNat)
  case atStart => exact ⟨0, by omega, rfl, by simp⟩
  case round =>
    obtain ⟨i, hi, rfl, hnot⟩ := hrel
    obtain ⟨y0, y1, y2⟩ : w3.cell? ⟨q, 0, none⟩ = some (.string k) ∧ w3.cell? ⟨q, 1, none⟩ = some (.int .i64 v) ∧ w3.cell? ⟨q, 2, none⟩ = some (.int .i64 now) := by
      refine ⟨?_, ?_, ?_⟩ <;> rw [HQ3.out.cell] <;> rfl
    obtain ⟨x0, x1, x2, x3, f0, f1, f2, f3⟩ := four_of HX03.out
    obtain ⟨u0, u1, u2, u3, g0, g1, g2, g3⟩ := four_of HX13.out
    by_cases hil : i < l.length
    · obtain ⟨⟨k1, v1, s1⟩, hx⟩ : ∃ x, l[i]? = some x := ⟨_, List.getElem?_eq_getElem hil⟩
      obtain ⟨va', vc', hv, hI3⟩ := Is.owned HOW3.out
      injection hv with hv1 hv2 hv3
      subst hv1 hv3
      obtain ⟨d, off, rfl, hbl, c0, c1, c2⟩ := hI3.cells hx
      obtain ⟨rfl, cur, hW⟩ : off = 0 ∧ ∃ cur, Whole w3 d 48 cur := by
        rcases HOW3.out.2 with ⟨hv, _⟩ | ⟨g, cap, cur, hv, _, hh, _⟩
        · cases hv
        · injection hv with e1
          injection e1 with e1
          injection e1 with e1 e2
          subst e1
          exact ⟨e2, cur, hh⟩
      simp only [Nat.zero_add] at c0 c1 c2
      have hdB := (HOW3.out.lt d rfl).1
      have n0 := hW.free (i * 3)
      have n1 := hW.free (i * 3 + 1)
      have n2 := hW.free (i * 3 + 2)
      have hd0 : d ≠ w.heap.size := by omega
      have hd1 : d ≠ w.heap.size + 1 := by omega
      have hd2 : w.heap.size ≠ d := by omega
      have hd3 : w.heap.size + 1 ≠ d := by omega
      by_cases hk : k1 = k
      · subst hk
        have heq : (k1.toList == k1.toList) = true := by simp
        have hsp : l = l.take i ++ (k1, v1, s1) :: l.drop (i + 1) := by
          obtain ⟨h4, h5⟩ := List.getElem?_eq_some_iff.1 hx
          rw [← h5, List.getElem_cons_drop, List.take_append_drop]
        have hti : (l.take i).length = i := by rw [List.length_take]; omega
        have HOWN := Lib.hid (owns_set (owns_set (owns_set HOW3.out (j := i * 3) (.string k1)) (j := i * 3 + 1) (.int .i64 v)) (j := i * 3 + 2) (.int .i64 now))
        have HSET := Lib.hid (show (((ics l).set (i * 3) (.string k1)).set (i * 3 + 1) (.int .i64 v)).set (i * 3 + 2) (.int .i64 now) = ics (l.take i ++ (k1, v, now) :: l.drop (i + 1)) by
          have h6 := ics_set (l1 := l.take i) (l2 := l.drop (i + 1)) (x := (k1, v1, s1)) (y := (k1, v, now))
          rw [hti, ← hsp] at h6
          exact h6)
        have HLEN := Lib.hid (show (l.take i ++ (k1, v, now) :: l.drop (i + 1)).length = l.length by rw [List.length_append, List.length_cons, hti, List.length_drop]; omega)
        have HPUT := Lib.hid (show RPut (s : Int) k1 v now l (l.take i ++ (k1, v, now) :: l.drop (i + 1)) 0 from .inl ⟨_, _, _, hsp, rfl, hnot, rfl, rfl⟩)
        clear hx hI3 hW hsp hti hnot
        go_wp2
        have ho := HOWN.out
        rw [HSET.out] at ho
        obtain ⟨va, vc2, hv, hI5⟩ := Is.owned ho
        injection hv with hv1 hv2 hv3
        subst hv1 hv3
        have hz1 := (((((HX13.out.kept (Below.heap_setCell w3 ⟨d, i * 3, none⟩ (.string k1) _ hd3)).kept (Below.heap_setCell _ ⟨d, i * 3 + 1, none⟩ (.int .i64 v) _ hd3)).kept (Below.heap_setCell _ ⟨d, i * 3 + 2, none⟩ (.int .i64 now) _ hd3)).kept (Below.heap_setCell _ ⟨w.heap.size, 0, none⟩ (.slice (some ⟨d, 0, none⟩) l.length vc) _ (by simp)))).store4 (.slice (some ⟨d, 0, none⟩) l.length vc) (.int .i64 now) (.int .i64 p) (.int .i64 (s : Int))
        refine bodyPost_ret (v := .tuple #[.agg #[.slice (some ⟨d, 0, none⟩) l.length vc, .int .i64 now, .int .i64 p, .int .i64 (s : Int)], .int .i64 0]) (res_two Try.results10 _ _ (w.heap.size + 1) 31 _ _ _ rfl rfl hz1 Try.underlying31 rfl Try.infoOb) rfl ⟨some ⟨d, 0, none⟩, vc, _, 0, by rw [HLEN.out], ?_, ?_, HPUT.out⟩
        · exact (is_far4 (is_far hI5 (by omega) 0 _) (by omega) _ _ _ _).mono (by omega)
        · exact below_set4 ((((HBW3.out.setCell (p := ⟨d, i * 3, none⟩) (by show w.heap.size ≤ d; omega) _).setCell (p := ⟨d, i * 3 + 1, none⟩) (by show w.heap.size ≤ d; omega) _).setCell (p := ⟨d, i * 3 + 2, none⟩) (by show w.heap.size ≤ d; omega) _).setCell (p := ⟨w.heap.size, 0, none⟩) (Nat.le_refl _) _) (Nat.le_succ _) _ _ _ _
      · have HN := Lib.hid (not_yet hnot hx hk)
        have hne := str_ne hk
        clear hx hI3 hW hnot hk
        go_wp2
        go_round
        case rel => exact ⟨i + 1, by omega, by go_num, HN.out⟩
        case measure => simp [intOf]; omega
    · obtain rfl : i = l.length := by omega
      rw [List.take_length] at hnot
      by_cases hf : s ≤ l.length
      · have HPUT := Lib.hid (show RPut (s : Int) k v now l l 3 from .inr (.inl ⟨hnot, by omega, rfl, rfl⟩))
        clear hnot
        go_wp2
        have hz1 := HX13.out.store4 (.slice a l.length c) (.int .i64 now) (.int .i64 p) (.int .i64 (s : Int))
        refine bodyPost_ret (v := .tuple #[.agg #[.slice a l.length c, .int .i64 now, .int .i64 p, .int .i64 (s : Int)], .int .i64 3]) (res_two Try.results10 _ _ (w.heap.size + 1) 31 _ _ _ rfl rfl hz1 Try.underlying31 rfl Try.infoOb) rfl ⟨a, c, l, 3, rfl, ?_, ?_, HPUT.out⟩
        · exact HI.out.below (below_set4 HBW3.out (Nat.le_succ _) _ _ _ _)
        · exact below_set4 HBW3.out (Nat.le_succ _) _ _ _ _
      · have HPUT := Lib.hid (show RPut (s : Int) k v now l (l ++ [(k, v, now)]) 0 from .inr (.inr ⟨hnot, by omega, rfl, rfl⟩))
        have hlt : l.length < s := by omega
        have hge : ¬ (s : Int) ≤ (l.length : Int) := by omega
        have hx3l : w.heap.size < w3.heap.size := HX03.out.lt
        have hx4l : w.heap.size + 1 < w3.heap.size := HX13.out.lt
        clear hnot hf
        go_wp2_with (
          at_builtin
          (refine wpList_append_at_any _ rfl _ _ 29 rfl w0.heap.size 48 i0 (.agg #[.string ⟨#[]⟩, .int .i64 0, .int .i64 0]) 3 32 Try.underlying29 hi0 hz0 hz1 hz2 rfl (by decide) _ l.length (ics l) rfl (HOW3.out.alloc _) (some ⟨w3.heap.size, 0, none⟩) 1 1 [.string k, .int .i64 v, .int .i64 now] rfl rfl (by intro h; cases h) (cell_news _ _ _) (by intro q hq; simp at hq; rcases hq with rfl | rfl | rfl <;> rfl) (by unfold maxLen; omega) (by omega) (by simp; omega) ?_)
          intro v5 w5 hown5 hgrow5 hat5
          (have hown6 : w5.ownsRow w0.heap.size 48 3 v5 (l.length + 1) (ics (l ++ [(k, v, now)])) := by rw [ics_append]; exact hown5)
          (obtain ⟨a5, c5, rfl, hI5⟩ := Is.owned hown6)
          (have hb5 : Below w0.heap.size w3 w5 := ((Below.refl _ _).alloc (by omega) (.cells #[.string k, .int .i64 v, .int .i64 now] 48)).grown hgrow5 (by simp; omega) (fun q hq => (HOW3.out.lt q hq).1))
          (have hX0 := HX03.out.kept (hb5.block _ (by omega)))
          (have hX1 := HX13.out.kept (hb5.block _ (by omega)))
          (obtain ⟨x0', x1', x2', x3', f0', f1', f2', f3'⟩ := four_of hX0)
          (obtain ⟨u0', u1', u2', u3', g0', g1', g2', g3'⟩ := four_of hX1)
          have HI5 := Lib.hid hI5
          have HB5 := Lib.hid hb5
          have HX15 := Lib.hid hX1
          clear hown5 hgrow5 hat5 hown6 hI5 hb5 hX0 hX1 x0 x1 x2 x3 f0 f1 f2 f3 u0 u1 u2 u3 g0 g1 g2 g3)
        have hz1 := (HX15.out.kept (Below.heap_setCell w5 ⟨w.heap.size, 0, none⟩ (.slice a5 (l.length + 1) c5) _ (by simp))).store4 (.slice a5 (l.length + 1) c5) (.int .i64 now) (.int .i64 p) (.int .i64 (s : Int))
        refine bodyPost_ret (v := .tuple #[.agg #[.slice a5 (l.length + 1) c5, .int .i64 now, .int .i64 p, .int .i64 (s : Int)], .int .i64 0]) (res_two Try.results10 _ _ (w.heap.size + 1) 31 _ _ _ rfl rfl hz1 Try.underlying31 rfl Try.infoOb) rfl ⟨a5, c5, l ++ [(k, v, now)], 0, by rw [List.length_append]; rfl, ?_, ?_, HPUT.out⟩
        · exact (is_far4 (is_far HI5.out (by omega) 0 _) (by omega) _ _ _ _).mono (by omega)
        · exact below_set4 ((HBW3.out.trans (HB5.out.mono (by omega))).setCell (p := ⟨w.heap.size, 0, none⟩) (Nat.le_refl _) _) (Nat.le_succ _) _ _ _ _
end Go.Proofs.Ytefllbmopaiojaa
