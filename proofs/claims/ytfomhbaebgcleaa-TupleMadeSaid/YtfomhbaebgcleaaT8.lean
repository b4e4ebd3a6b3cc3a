/- Layer 5: texts read as tuples: the document's side. -/
import Derived.Test.YtfomhbaebgcleaaT7
namespace Go.Proofs.Ytfomhbaebgcleaa
open Go.RowKit

theorem hd_hd (S : ByteArray) (k i : Nat) (hi : i ≤ k) : (S.extract 0 k).extract 0 i = S.extract 0 i := by
  apply data_ext
  rw [Lib.extract_data, Lib.extract_data, Lib.extract_data]
  simp [List.take_take, Nat.min_eq_left hi]
theorem tl_hd (S : ByteArray) (k i : Nat) (hk : k ≤ S.size) : (S.extract 0 k).extract i (S.extract 0 k).size = S.extract i k := by
  have e : (S.extract 0 k).size = k := by rw [ByteArray.size_extract]; omega
  rw [e]
  apply data_ext
  rw [Lib.extract_data, Lib.extract_data, Lib.extract_data]
  simp only [List.drop_zero, Nat.sub_zero, List.drop_take]
  rw [List.take_take, Nat.min_self]

set_option maxRecDepth 100000 in
set_option maxHeartbeats 1000000 in
theorem parseR_any (S : ByteArray) (w : World) (hS : S.size ≤ 1000000000000000000) :
    Calls Try.prog 9 #[.string S] w fun e w' => e = .returned (.tuple #[TupV (prsA S) (prsB S) (prsC S), .int .i64 (prsE S)]) ∧ Below w.heap.size w w' := by
  have hs1 := hd_size 64 S
  have hs2 := tl_size 64 S
  have hs3 := hd_size 35 (hd 64 S)
  have hs4 := tl_size 35 (hd 64 S)
  have HF := Lib.hid (fun w => find_any S 64 w (by omega))
  have HF2 := Lib.hid (fun w => find_any (hd 64 S) 35 w (by omega))
  have HK := Lib.hid (fun w => checkR_any (hd 35 (hd 64 S)) (tl 35 (hd 64 S)) (tl 64 S) w (by omega) (by omega))
  have H1 := Lib.hid (@prs_no S)
  have H2 := Lib.hid (@prs_no2 S)
  have H3 := Lib.hid (@prs_bad S)
  have H4 := Lib.hid (@prs_good S)
  clear hs1 hs2 hs3 hs4
  generalize prsA S = pa at *
  generalize prsB S = pb at *
  generalize prsC S = pc at *
  generalize prsE S = pe at *
  generalize tupE (hd 35 (hd 64 S)) (tl 35 (hd 64 S)) (tl 64 S) = te at *
  have hw0 : Whole (w.alloc (.cells #[.string ByteArray.empty, .string ByteArray.empty, .string ByteArray.empty] 23)) w.heap.size 23 #[.string ByteArray.empty, .string ByteArray.empty, .string ByteArray.empty] := heap_alloc_new w _
  have HW := Lib.hid hw0
  clear hw0
  cases h1 : has 64 S with
  | false =>
    have e : fnd 64 S = -1 := by simp [fnd, h1]
    rw [e] at HF
    obtain ⟨rfl, rfl, rfl, rfl⟩ := H1.out h1
    clear e h1 HF2 HK H2 H3 H4
    go_enter Try.func9, Try.ntmps9
    go_wp2_with fail
    refine (HF.out _).mono ?_
    rintro e w1 ⟨rfl, rfl⟩
    go_wp2
    exact ⟨rfl, _, results_row_tmp rfl _ _ w.heap.size _ _ _ _ rfl HW.out Try.underlying23 rfl (by kernel_rfl), rfl, below_alloc _ _⟩
  | true =>
    have e : fnd 64 S = ix 64 S := by simp [fnd, h1]
    have hlt : ix 64 S < S.size := by simpa [has] using h1
    rw [e] at HF
    have hA := fun w : World => str_head S (ix 64 S) (by omega) w
    have hB := fun w : World => str_tail S (ix 64 S + 1) (by omega) w
    have hw : IntKind.i64.wrap ((ix 64 S : Int) + 1) = ((ix 64 S + 1 : Nat) : Int) := by rw [IntWalk.i64_in _ (by omega)]; omega
    cases h2 : has 35 (hd 64 S) with
    | false =>
      have e2 : fnd 35 (hd 64 S) = -1 := by simp [fnd, h2]
      rw [e2] at HF2
      obtain ⟨rfl, rfl, rfl, rfl⟩ := H2.out h1 h2
      clear e e2 h1 h2 HK H1 H2 H3 H4 hB hw
      simp only [hd] at HF2
      generalize ix 64 S = k at *
      go_enter Try.func9, Try.ntmps9
      go_wp2_with fail
      refine (HF.out _).mono ?_
      rintro e w1 ⟨rfl, rfl⟩
      go_wp2_with fail
      refine (HF2.out _).mono ?_
      rintro e w1 ⟨rfl, rfl⟩
      go_wp2
      exact ⟨rfl, _, results_row_tmp rfl _ _ w.heap.size _ _ _ _ rfl HW.out Try.underlying23 rfl (by kernel_rfl), rfl, below_alloc _ _⟩
    | true =>
      have e2 : fnd 35 (hd 64 S) = ix 35 (hd 64 S) := by simp [fnd, h2]
      have hlt2 : ix 35 (hd 64 S) < ix 64 S := by
        have h3 : ix 35 (hd 64 S) < (hd 64 S).size := by simpa [has] using h2
        have h4 : (hd 64 S).size ≤ ix 64 S := by rw [hd, ByteArray.size_extract]; omega
        omega
      rw [e2] at HF2
      have hC := fun w : World => str_head S (ix 35 (hd 64 S)) (by omega) w
      have hD := fun w : World => str_slice S (ix 35 (hd 64 S) + 1) (ix 64 S) (by omega) (by omega) w
      have hw2 : IntKind.i64.wrap ((ix 35 (hd 64 S) : Int) + 1) = ((ix 35 (hd 64 S) + 1 : Nat) : Int) := by rw [IntWalk.i64_in _ (by omega)]; omega
      have hB' := fun w : World => (show (Instr.slice 9 (.string S) (some (.int .i64 ((ix 64 S : Int) + 1))) none none).run Try.prog w = .ok (.string (S.extract (ix 64 S + 1) S.size)) w by have := hB w; simpa using this)
      have hD' := fun w : World => (show (Instr.slice 9 (.string S) (some (.int .i64 ((ix 35 (hd 64 S) : Int) + 1))) (some (.int .i64 (ix 64 S : Int))) none).run Try.prog w = .ok (.string (S.extract (ix 35 (hd 64 S) + 1) (ix 64 S))) w by have := hD w; simpa using this)
      clear hB hD
      have ea : hd 35 (hd 64 S) = S.extract 0 (ix 35 (hd 64 S)) := by
        conv => lhs; unfold hd
        exact hd_hd S _ _ (Nat.le_of_lt hlt2)
      have eb : tl 35 (hd 64 S) = S.extract (ix 35 (hd 64 S) + 1) (ix 64 S) := by
        conv => lhs; unfold tl
        conv => lhs; arg 1; unfold hd
        conv => lhs; arg 3; unfold hd
        exact tl_hd S _ _ (by omega)
      have ec : tl 64 S = S.extract (ix 64 S + 1) S.size := rfl
      have H3' := H3.out h1 h2
      have H4' := H4.out h1 h2
      rw [ea, eb, ec] at HK H4'
      have H3 := Lib.hid H3'
      have H4 := Lib.hid H4'
      clear H3' H4' ea eb ec h1 h2 e e2 H1 H2
      generalize ix 35 (hd 64 S) = j at *
      simp only [hd] at HF2
      generalize ix 64 S = k at *
      go_enter Try.func9, Try.ntmps9
      go_wp2_with fail
      refine (HF.out _).mono ?_
      rintro e w1 ⟨rfl, rfl⟩
      go_wp2_with fail
      refine (HF2.out _).mono ?_
      rintro e w1 ⟨rfl, rfl⟩
      go_wp2_with fail
      go_region
      generalize S.extract 0 j = a at *
      generalize S.extract (j + 1) k = b at *
      generalize S.extract (k + 1) S.size = c at *
      go_wp2_with fail
      refine (HK.out _).mono ?_
      rintro e w3 ⟨rfl, hb3⟩
      have hw3 : Whole w3 w.heap.size 23 #[.string ByteArray.empty, .string ByteArray.empty, .string ByteArray.empty] := by
        refine Whole.kept (w := (w.alloc (.cells #[.string ByteArray.empty, .string ByteArray.empty, .string ByteArray.empty] 23))) HW.out ?_
        rw [hb3.block _ (by simp; omega)]
        exact Below.heap_alloc _ _ _ (by simp)
      have hbb : Below w.heap.size w w3 := ((below_alloc w _).trans ((below_box _ _ 1).mono (by simp))).trans (hb3.mono (by simp; omega))
      have hw4 : Whole w3 (w.heap.size + 1) 23 #[.string a, .string b, .string c] := by
        have e : (w.alloc (.cells #[.string ByteArray.empty, .string ByteArray.empty, .string ByteArray.empty] 23)).heap.size = w.heap.size + 1 := by simp
        have h4 : Whole ((w.alloc (.cells #[.string ByteArray.empty, .string ByteArray.empty, .string ByteArray.empty] 23)).alloc (.cells #[.string a, .string b, .string c] 23)) (w.heap.size + 1) 23 #[.string a, .string b, .string c] := by
          have := heap_alloc_new (w.alloc (.cells #[.string ByteArray.empty, .string ByteArray.empty, .string ByteArray.empty] 23)) (.cells #[.string a, .string b, .string c] 23)
          rwa [e] at this
        refine h4.kept ?_
        exact hb3.block _ (by simp)
      have z0 := hw3.free 0
      have z1 := hw3.free 1
      have z2 := hw3.free 2
      have y0 : w3.cell? ⟨w.heap.size, 0, none⟩ = some (.string ByteArray.empty) := by rw [hw3.cell]; rfl
      have y1 : w3.cell? ⟨w.heap.size, 1, none⟩ = some (.string ByteArray.empty) := by rw [hw3.cell]; rfl
      have y2 : w3.cell? ⟨w.heap.size, 2, none⟩ = some (.string ByteArray.empty) := by rw [hw3.cell]; rfl
      have x0 : w3.cell? ⟨w.heap.size + 1, 0, none⟩ = some (.string a) := by rw [hw4.cell]; rfl
      have x1 : w3.cell? ⟨w.heap.size + 1, 1, none⟩ = some (.string b) := by rw [hw4.cell]; rfl
      have x2 : w3.cell? ⟨w.heap.size + 1, 2, none⟩ = some (.string c) := by rw [hw4.cell]; rfl
      have HW3 := Lib.hid hw3
      have HBB := Lib.hid hbb
      clear hb3 hw3 hw4 hbb
      by_cases hz : te = 0
      · obtain ⟨rfl, rfl, rfl, rfl⟩ := H4.out hz
        subst hz
        go_wp2
        exact ⟨rfl, _, results_row_tmp rfl _ _ w.heap.size _ _ _ _ rfl (three_whole HW3.out _ _ _) Try.underlying23 rfl (by kernel_rfl), rfl, three_set HBB.out (Nat.le_refl _) _ _ _⟩
      · obtain ⟨rfl, rfl, rfl, rfl⟩ := H3.out hz
        go_wp2
        exact ⟨rfl, _, results_row_tmp rfl _ _ w.heap.size _ _ _ _ rfl (three_whole HW3.out _ _ _) Try.underlying23 rfl (by kernel_rfl), rfl, three_set HBB.out (Nat.le_refl _) _ _ _⟩
end Go.Proofs.Ytfomhbaebgcleaa
