/- The document's network: Wrong, Send. -/
import Derived.Test.YtmmjgpdclodlfaaN13
namespace Go.Proofs.Ytmmjgpdclodlfaa
open Go.RowKit

theorem Try.infoD : (Try.prog.info? 39).map (fun i => (i.zero, i.size, i.bytes)) = some (some (.agg #[.int .i64 0, .int .i64 0, .string ⟨#[]⟩]), 3, 32) := by kernel_rfl
theorem Try.infoDs : (Try.prog.info? 39).map (·.size) = some 3 := by kernel_rfl
/-- The document's packet: from, to, its text. -/
abbrev Dp := Int × Int × ByteArray
def dc (p : Dp) : List Value := [.int .i64 p.1, .int .i64 p.2.1, .string p.2.2]
theorem dc_len (p : Dp) : (dc p).length = 3 := rfl
def dcs (l : List Dp) : List Value := l.flatMap dc
theorem dcs_len (l : List Dp) : (dcs l).length = l.length * 3 := fm_len dc_len l
theorem dcs_append (l m : List Dp) : dcs (l ++ m) = dcs l ++ dcs m := by unfold dcs; rw [List.flatMap_append]
theorem dcs_take (l : List Dp) (m : Nat) : (dcs l).take (m * 3) = dcs (l.take m) := fm_take dc_len l m
theorem dcs_drop (l : List Dp) (m : Nat) : (dcs l).drop (m * 3) = dcs (l.drop m) := fm_drop dc_len l m
theorem dcs_one (l : List Dp) : ∀ u ∈ dcs l, u.oneCell' = true := fm_one (fun p u hu => by unfold dc at hu; simp at hu; rcases hu with rfl | rfl | rfl <;> rfl) l
theorem dcs_at {l : List Dp} {i : Nat} {p : Dp} (h : l[i]? = some p) : (dcs l)[i * 3]? = some (.int .i64 p.1) ∧ (dcs l)[i * 3 + 1]? = some (.int .i64 p.2.1) ∧ (dcs l)[i * 3 + 2]? = some (.string p.2.2) :=
  ⟨fm_at (j := 0) dc_len h (by decide), fm_at (j := 1) dc_len h (by decide), fm_at (j := 2) dc_len h (by decide)⟩
/-- The document's packets as they lie. -/
structure Ds (w : World) (B : Nat) (a : Option Addr) (c : Nat) (l : List Dp) : Prop where
  row : Lies w 39 3 B a l.length c (dcs l)
theorem Ds.below {w w' : World} {B c : Nat} {a : Option Addr} {l : List Dp} (h : Ds w B a c l) (hb : Below w.heap.size w w') : Ds w' B a c l := ⟨h.row.below hb⟩
theorem Ds.mono {w : World} {B B' c : Nat} {a : Option Addr} {l : List Dp} (h : Ds w B a c l) (hb : B' ≤ B) : Ds w B' a c l := ⟨h.row.mono hb⟩
theorem Ds.none (w : World) (B : Nat) : Ds w B .none 0 [] := ⟨Lies.none w _ 3 B⟩
theorem Ds.owned {w : World} {B : Nat} {v : Value} {l : List Dp} (h : w.ownsRow B 39 3 v l.length (dcs l)) : ∃ a c, v = .slice a l.length c ∧ Ds w B a c l := by
  obtain ⟨a, c, hv, hL⟩ := Lies.owned h
  exact ⟨a, c, hv, ⟨hL⟩⟩
theorem empty_ds (w : World) : (Instr.buildSlice 29 0 #[]).run Try.prog w = .ok (.slice (some ⟨w.heap.size, 0, none⟩) 0 0) (w.alloc (.cells #[] 39)) := by
  obtain ⟨i0, hi0, hz0, hz1, hz2⟩ := info_of Try.infoD
  simp [Instr.buildSlice, run_underlying Try.underlying29, sizeOf, typeInfo, hi0, Instr.fill, newRow]
  rw [Array.eq_empty_of_size_eq_zero (show (Array.map (fun _ => default) (Array.range 0) : Array Value).size = 0 by simp)]
set_option maxRecDepth 100000 in
theorem rwrong_any (x : Int) (w : World) : Calls Try.prog 7 #[.int .i64 x] w fun e w' => e = .returned (.int .i64 (if x < 1 ∨ 8 < x then 1 else 0)) ∧ w' = w := by
  rcases Int.lt_or_le x 1 with h1 | h1
  · have HR := Lib.hid (show (if x < 1 ∨ 8 < x then (1 : Int) else 0) = 1 by rw [if_pos (.inl h1)])
    rw [HR.out]
    go_enter Try.func7, Try.ntmps7
    go_wp2
    go_ret
    exact ⟨rfl, rfl⟩
  · rcases Int.lt_or_le 8 x with h2 | h2
    · have HR := Lib.hid (show (if x < 1 ∨ 8 < x then (1 : Int) else 0) = 1 by rw [if_pos (.inr h2)])
      rw [HR.out]
      go_enter Try.func7, Try.ntmps7
      go_wp2
      go_ret
      exact ⟨rfl, rfl⟩
    · have HR := Lib.hid (show (if x < 1 ∨ 8 < x then (1 : Int) else 0) = 0 by rw [if_neg (by omega)])
      rw [HR.out]
      go_enter Try.func7, Try.ntmps7
      go_wp2
      go_ret
      exact ⟨rfl, rfl⟩
section
variable {B c : Nat} {a : Option Addr} {l : List Dp}
set_option maxRecDepth 100000 in
set_option maxHeartbeats 4000000 in
theorem rsend_ok (nodes fr dst : Int) (S : ByteArray) (w : World) (h : Ds w B a c l) (h1 : 0 ≤ fr) (h2 : fr < nodes) (h3 : 0 ≤ dst) (h4 : dst < nodes) (hn : l.length < 4096) :
    Calls Try.prog 9 #[.slice a l.length c, .int .i64 nodes, .agg #[.int .i64 fr, .int .i64 dst, .string S]] w fun e w' => (∃ a' c', e = .returned (.tuple #[.slice a' (l.length + 1) c', .int .i64 0]) ∧ Ds w' w.heap.size a' c' (l ++ [(fr, dst, S)])) ∧ Below w.heap.size w w' := by
  obtain ⟨i0, hi0, hz0, hz1, hz2⟩ := info_of Try.infoD
  have hbs := empty_ds
  obtain ⟨w0, hw0⟩ : ∃ w0, w0 = w.alloc (.cells #[.int .i64 fr, .int .i64 dst, .string S] 39) := ⟨_, rfl⟩
  have hb0 : Below w.heap.size w w0 := by rw [hw0]; exact below_alloc _ _
  have hx0 : Whole w0 w.heap.size 39 #[.int .i64 fr, .int .i64 dst, .string S] := by rw [hw0]; exact heap_alloc_new _ _
  have hs0 : w0.heap.size = w.heap.size + 1 := by rw [hw0]; simp
  have hba := below_alloc w0 (.cells #[] 39)
  have HR := Lib.hid ((h.below hb0).below hba)
  have HE := Lib.hid (show (w0.alloc (.cells #[] 39)).ownsRow (w.heap.size + 1) 39 3 (.slice (some ⟨w.heap.size + 1, 0, none⟩) 0 0) 0 [] by
    have h := World.ownsRow_made (base := w.heap.size + 1) (size := 3) (e := 39) w0 #[] 0 (by omega) (by simp [maxLen]) rfl
    rwa [hs0] at h)
  have HX := Lib.hid (hx0.kept (hba.block _ hx0.lt))
  have HBA := Lib.hid (hb0.trans (hba.mono hb0.size))
  have hfr : decide (fr < 0) = false := by rw [decide_eq_false_iff_not]; omega
  have hdst : decide (dst < 0) = false := by rw [decide_eq_false_iff_not]; omega
  have hfn : decide (nodes ≤ fr) = false := by rw [decide_eq_false_iff_not]; omega
  have hdn : decide (nodes ≤ dst) = false := by rw [decide_eq_false_iff_not]; omega
  clear h hb0 hba h1 h2 h3 h4 hx0
  go_enter Try.func9, Try.ntmps9
  go_wp2_with (first
    | (at_builtin; rw [← hw0]; clear hw0; (refine wpList_append_at_any _ rfl (.tmp 34) (.tmp 35) 29 rfl (w.heap.size + 1) 39 i0 (.agg #[.int .i64 0, .int .i64 0, .string ⟨#[]⟩]) 3 32 Try.underlying29 hi0 hz0 hz1 hz2 rfl (by decide) _ 0 [] rfl HE.out a l.length c (dcs l) rfl HR.out.row.len HR.out.row.nil HR.out.row.news (dcs_one l) (by unfold maxLen; omega) (by omega) (by simp [hs0]) ?_); intro v2 w2 hown2 hgrow2 hat2
       have hown : w2.ownsRow (w.heap.size + 1) 39 3 v2 l.length (dcs l) := by simpa using hown2
       have hb2 : Below w.heap.size w w2 := HBA.out.grown hgrow2 (by simp [hs0]; omega) (by rintro q hq; injection hq with hq; rw [← hq]; exact Nat.le_succ _)
       have hx2 : Whole w2 w.heap.size 39 #[.int .i64 fr, .int .i64 dst, .string S] := HX.out.kept (hgrow2.block _ HX.out.lt (by intro e; injection e with e; have : w.heap.size = w.heap.size + 1 := e; omega))
       obtain ⟨⟨a0, a1, a2⟩, _⟩ := three_of hx2
       have HO := Lib.hid hown; have HB2 := Lib.hid hb2
       have hz2' := (hgrow2.size); simp [hs0] at hz2'
       clear hown2 hgrow2 hat2 hown hb2 hx2)
    | (at_builtin; (refine wpList_append_at_any _ rfl (.tmp 37) (.tmp 39) 29 rfl (w.heap.size + 1) 39 i0 (.agg #[.int .i64 0, .int .i64 0, .string ⟨#[]⟩]) 3 32 Try.underlying29 hi0 hz0 hz1 hz2 rfl (by decide) _ l.length (dcs l) rfl (HO.out.alloc _) (some ⟨w2.heap.size, 0, none⟩) 1 1 [.int .i64 fr, .int .i64 dst, .string S] rfl rfl (by intro e; cases e) (by rintro ad ⟨⟩ j u hu; rw [add_plain, Nat.zero_add, new_cell]; simpa using hu) (by simp; exact ⟨rfl, rfl, rfl⟩) (by unfold maxLen; omega) (by omega) (by simp; omega) ?_); intro v3 w3 hown3 hgrow3 hat3
       have hb3 : Below w.heap.size w w3 := (HB2.out.trans ((below_alloc w2 _).mono HB2.out.size)).grown hgrow3 (by simp; omega) (fun q hq => by have := (HO.out.lt q hq).1; omega)
       have HB3 := Lib.hid hb3
       clear hgrow3 hat3 hb3))
  have hown4 : w3.ownsRow (w.heap.size + 1) 39 3 v3 (l ++ [(fr, dst, S)]).length (dcs (l ++ [(fr, dst, S)])) := by
    rw [dcs_append, List.length_append]
    exact hown3
  obtain ⟨a3, c3, rfl, hD⟩ := Ds.owned hown4
  have HD := Lib.hid (hD.mono (show w.heap.size ≤ w.heap.size + 1 by omega))
  clear hown3 hown4 hD
  rw [List.length_append]
  go_ret2
  exact ⟨⟨a3, c3, rfl, HD.out⟩, HB3.out⟩
set_option maxRecDepth 100000 in
set_option maxHeartbeats 4000000 in
theorem rsend_range (nodes fr dst : Int) (S : ByteArray) (w : World) (hr : fr < 0 ∨ nodes ≤ fr ∨ dst < 0 ∨ nodes ≤ dst) :
    Calls Try.prog 9 #[.slice a l.length c, .int .i64 nodes, .agg #[.int .i64 fr, .int .i64 dst, .string S]] w fun e w' => e = .returned (.tuple #[.slice a l.length c, .int .i64 1]) ∧ Below w.heap.size w w' := by
  have h0 : fr < 0 ∨ (0 ≤ fr ∧ nodes ≤ fr) ∨ (0 ≤ fr ∧ fr < nodes ∧ dst < 0) ∨ (0 ≤ fr ∧ fr < nodes ∧ 0 ≤ dst ∧ nodes ≤ dst) := by omega
  have HB := Lib.hid (below_alloc w (.cells #[.int .i64 fr, .int .i64 dst, .string S] 39))
  clear hr
  rcases h0 with h1 | ⟨h1, h2⟩ | ⟨h1, h2, h3⟩ | ⟨h1, h2, h3, h4⟩
  all_goals
    go_enter Try.func9, Try.ntmps9
    go_wp2
    go_ret2
    exact ⟨rfl, HB.out⟩
set_option maxRecDepth 100000 in
set_option maxHeartbeats 4000000 in
theorem rsend_full (nodes fr dst : Int) (S : ByteArray) (w : World) (h1 : 0 ≤ fr) (h2 : fr < nodes) (h3 : 0 ≤ dst) (h4 : dst < nodes) (hn : 4096 ≤ l.length) :
    Calls Try.prog 9 #[.slice a l.length c, .int .i64 nodes, .agg #[.int .i64 fr, .int .i64 dst, .string S]] w fun e w' => e = .returned (.tuple #[.slice a l.length c, .int .i64 3]) ∧ Below w.heap.size w w' := by
  have HB := Lib.hid (below_alloc w (.cells #[.int .i64 fr, .int .i64 dst, .string S] 39))
  go_enter Try.func9, Try.ntmps9
  go_wp2
  go_ret2
  exact ⟨rfl, HB.out⟩
end
end Go.Proofs.Ytmmjgpdclodlfaa
