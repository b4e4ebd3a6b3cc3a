/- The walk of the statements' bench: awake answers true. -/
import Derived.Test.YtojkegnflbfloaaFacts
import Derived.Laws.BytesArg
import Derived.Lib.SlBytesConst
namespace Go.Proofs.Ytojkegnflbfloaa
open Go.RowKit

theorem IsB.str {w : World} {a : Option Addr} {n : Nat} {xs : List Int} (h : IsB w a n xs) (c : Nat) :
    (convert 22 9 (.slice a n c)).run Try.prog w = .ok (.string (strOfNums xs)) w := by
  obtain ⟨h1, _, h3⟩ := h
  rcases h3 with h3 | ⟨b, off, rfl, hc⟩
  · subst h3
    have hx : xs = [] := List.eq_nil_of_length_eq_zero h1
    subst hx
    cases a with
    | none => exact run_convert_bytes_nil w 22 5 Try.underlying22 Try.underlying5 _ _ 9 Try.underlying9
    | some ad =>
      rw [run_convert_bytes_string w 22 9 5 _ 0 c Try.underlying22 Try.underlying5 Try.underlying9, run_bytesToString w _ 0 c [] (by simpa using run_loadCells_list (P := Try.prog) w ad [] (fun j v hj => by simp at hj))]
      rfl
  · exact run_convert_bytes_arg w 22 5 Try.underlying22 Try.underlying5 b off n c xs h1 hc 9 Try.underlying9

theorem IsB.lit (w : World) (xs : List Int) (fr : Nat × Nat) (hb : ∀ x ∈ xs, 0 ≤ x ∧ x < 256) : IsB (w.alloc (.cells (xs.map (Value.int .u8)).toArray 5 fr)) (some ⟨w.heap.size, 0, none⟩) xs.length xs := by
  refine ⟨rfl, hb, .inr ⟨_, _, rfl, fun i hi => ?_⟩⟩
  rw [World.cell?_alloc_mark]
  simp [List.getD, hi]

set_option maxHeartbeats 2000000 in
theorem awake_any (w : World) : Calls Try.prog 11 #[] w fun e w' => e = .returned (.bool true) ∧ Below w.heap.size w w' := by
  have kc := fun (w : World) (C : Array Value) (n c : Nat) => Lib.run_convert_bytes_const (P := Try.prog) w 22 5 C n c Try.underlying22 Try.underlying5
  go_enter Try.func11, Try.ntmps11
  go_wp2_with fail
  refine (seal_fits _ 3 3 [97, 98, 99] _ (by decide) (by intro h; cases h) (IsB.lit w [97, 98, 99] (3, 4) (by decide))).mono ?_
  rintro e w1 ⟨g, rfl, hown1, hbel1⟩
  have hB1 : Below w.heap.size w w1 := ((Below.refl _ _).alloc (Nat.le_refl _) _).trans (hbel1.mono (by simp))
  have hs : ∀ x ∈ sealed [97, 98, 99], 0 ≤ x ∧ x < 256 := sealed_byte _ (by decide) (by decide)
  have hi1 : IsB w1 (some ⟨g, 0, none⟩) 11 (sealed [97, 98, 99]) := IsB.owned hown1 hs
  have H1 := Lib.hid hi1
  have HB1 := Lib.hid hB1
  clear hown1 hbel1 hs hi1 hB1
  go_wp2_with fail
  refine (open_any _ 11 11 _ _ (by simp [maxLen]) (by decide) (by simp [maxLen]) H1.out).mono ?_
  rintro e w2 ⟨hbel2, h⟩
  have he := err_sealed [97, 98, 99] (by decide) []
  have hp := pay_sealed [97, 98, 99] (by decide) []
  have hw := wd_sealed [97, 98, 99] (by decide) []
  simp only [List.append_nil] at he hp hw
  rw [he, hp, hw] at h
  obtain ⟨_, v, rfl, hown2⟩ := h.resolve_right (by intro h; exact h.1 rfl)
  have hB2 : Below w.heap.size w w2 := HB1.out.trans (hbel2.mono HB1.out.size)
  have hi2 : ∃ a c, v = .slice a 3 c ∧ IsB w2 a 3 [97, 98, 99] := by
    rcases hown2.2 with ⟨_, h0⟩ | ⟨g, cap, cur, rfl, _⟩
    · cases h0
    · exact ⟨_, _, rfl, IsB.owned hown2 (by decide)⟩
  obtain ⟨a2, c2, rfl, hi2⟩ := hi2
  have HB2 := Lib.hid hB2
  have H2 := Lib.hid hi2
  clear hown2 hi2 hB2 hbel2 h he hp hw
  have kc2 : ∀ (o : Obj) (C : Array Value) (n c : Nat), (convert 22 22 (.slice (some ⟨w2.heap.size + 1, 0, none⟩) n c)).run Try.prog ((w2.alloc o).alloc (.cells C 5)) = .ok (.slice (some ⟨w2.heap.size + 1, 0, none⟩) n c) ((w2.alloc o).alloc (.cells C 5 (C.size, C.size + 1))) := by
    intro o C n c
    simpa using kc (w2.alloc o) C n c
  obtain ⟨A, hA⟩ : ∃ A, A = w2.alloc (.cells #[.int .u8 49, .int .u8 50, .int .u8 51, .int .u8 52] 5 (4, 5)) := ⟨_, rfl⟩
  obtain ⟨B, hB⟩ : ∃ B, B = A.alloc (.cells #[.int .u8 53, .int .u8 54, .int .u8 55, .int .u8 56, .int .u8 57] 5 (5, 6)) := ⟨_, rfl⟩
  have sA : A.heap.size = w2.heap.size + 1 := by rw [hA]; simp
  have sB : B.heap.size = w2.heap.size + 1 + 1 := by rw [hB]; simp [sA]
  have b1 : IsB B (some ⟨w2.heap.size, 0, none⟩) 4 [49, 50, 51, 52] := by
    rw [hB]
    refine IsB.alloc ?_ _
    rw [hA]
    exact IsB.lit w2 [49, 50, 51, 52] (4, 5) (by decide)
  have b2 : IsB B (some ⟨w2.heap.size + 1, 0, none⟩) 5 [53, 54, 55, 56, 57] := by
    rw [hB, ← sA]
    exact IsB.lit A [53, 54, 55, 56, 57] (5, 6) (by decide)
  have hps : Parts (B.alloc (.cells #[.slice (some ⟨w2.heap.size, 0, none⟩) 4 4, .slice none 0 0, .slice (some ⟨w2.heap.size + 1, 0, none⟩) 5 5] 22)) (w2.heap.size + 1 + 1) 3 [[49, 50, 51, 52], [], [53, 54, 55, 56, 57]] := by
    rw [← sB]
    exact Parts.lit [.slice (some ⟨w2.heap.size, 0, none⟩) 4 4, .slice none 0 0, .slice (some ⟨w2.heap.size + 1, 0, none⟩) 5 5] [[49, 50, 51, 52], [], [53, 54, 55, 56, 57]] 22 rfl (by simp [maxLen]) (by
      intro i hi
      match i, hi with
      | 0, _ => exact ⟨_, _, _, rfl, by simp [maxLen], b1⟩
      | 1, _ => exact ⟨_, _, _, rfl, by simp [maxLen], IsB.empty _ _⟩
      | 2, _ => exact ⟨_, _, _, rfl, by simp [maxLen], b2⟩)
  have hfin : Below w.heap.size w (B.alloc (.cells #[.slice (some ⟨w2.heap.size, 0, none⟩) 4 4, .slice none 0 0, .slice (some ⟨w2.heap.size + 1, 0, none⟩) 5 5] 22)) := by
    have h0 := HB2.out.size
    refine Below.alloc ?_ (by omega) _
    rw [hB]
    refine Below.alloc ?_ (by omega) _
    rw [hA]
    exact HB2.out.alloc h0 _
  have hcv : (convert 22 9 (.slice a2 3 c2)).run Try.prog (B.alloc (.cells #[.slice (some ⟨w2.heap.size, 0, none⟩) 4 4, .slice none 0 0, .slice (some ⟨w2.heap.size + 1, 0, none⟩) 5 5] 22)) = .ok (.string ⟨#[97, 98, 99]⟩) (B.alloc (.cells #[.slice (some ⟨w2.heap.size, 0, none⟩) 4 4, .slice none 0 0, .slice (some ⟨w2.heap.size + 1, 0, none⟩) 5 5] 22)) := by
    have h2 : IsB B a2 3 [97, 98, 99] := by
      rw [hB]
      refine IsB.alloc ?_ _
      rw [hA]
      exact IsB.alloc H2.out _
    exact (h2.alloc _).str c2
  have hnine : Calls Try.prog 13 #[.slice (some ⟨w2.heap.size + 1 + 1, 0, none⟩) 3 3] (B.alloc (.cells #[.slice (some ⟨w2.heap.size, 0, none⟩) 4 4, .slice none 0 0, .slice (some ⟨w2.heap.size + 1, 0, none⟩) 5 5] 22)) fun e w' => e = .returned (.int .u32 3808858755) ∧ B.alloc (.cells #[.slice (some ⟨w2.heap.size, 0, none⟩) 4 4, .slice none 0 0, .slice (some ⟨w2.heap.size + 1, 0, none⟩) 5 5] 22) = w' := by
    refine (sum_any _ _ 3 _ _ hps).mono ?_
    rintro e w' ⟨rfl, rfl⟩
    refine ⟨?_, rfl⟩
    have hn : Mt.sum [[49, 50, 51, 52], [], [53, 54, 55, 56, 57]].flatten = 3808858755 := nine
    rw [hn]
    rfl
  have HP := Lib.hid hnine
  have HF := Lib.hid hfin
  clear hps hnine hfin b1 b2 sA sB
  subst hB
  subst hA
  go_wp2_with (go_at_call 13; refine HP.out.mono ?_; rintro e w' ⟨rfl, rfl⟩)
  go_ret
  exact ⟨rfl, HF.out⟩
end Go.Proofs.Ytojkegnflbfloaa
