/- The walk of porterref01.Cut. -/
import Derived.Test.YtojkegnflbfloaaRef3
namespace Go.Proofs.Ytojkegnflbfloaa
open Go.RowKit

theorem str_tail (S : ByteArray) (i : Nat) (hi : i ≤ S.size) (w : World) :
    (Instr.slice 9 (.string S) (some (.int .i64 (i : Int))) none none).run Try.prog w = .ok (.string (S.extract i S.size)) w := by
  rw [run_slice_string_from_if (P := Try.prog) (w := w) 9 S .i64 (i : Int) Try.underlying9, if_pos (by omega)]
  rfl
theorem str_drop (l : List Int) (k : Nat) : (strOfNums l).extract k (strOfNums l).size = strOfNums (l.drop k) := by
  rw [str_sub, strOfNums_size, List.take_of_length_le (by simp)]
theorem strsOf_snoc (P : List (List Int)) (p : List Int) : strsOf P ++ [.string (strOfNums p)] = strsOf (P ++ [p]) := by simp [strsOf]

/-- What a call of the document's Cut comes to. -/
def RCutPost (w : World) (xs : List Int) (e : Ending) (w' : World) : Prop :=
  Below w.heap.size w w' ∧ ∃ v, e = .returned (.tuple #[v, .int .i64 (((cutAll xs).2.1 : Nat)), .int .i64 (((cutAll xs).2.2 : Nat))]) ∧ w'.ownsRow w.heap.size 9 1 v (cutAll xs).1.length (strsOf (cutAll xs).1)
theorem RCutPost.mk {w w' : World} {xs : List Int} {e : Ending} {P : List (List Int)} {k c : Nat} {v : Value} (hb : Below w.heap.size w w') (h : cutAll xs = (P, k, c)) (he : e = .returned (.tuple #[v, .int .i64 ((k : Nat)), .int .i64 ((c : Nat))])) (hp : w'.ownsRow w.heap.size 9 1 v P.length (strsOf P)) : RCutPost w xs e w' := by
  refine ⟨hb, v, ?_, ?_⟩
  · rw [he, h]
  · rw [h]; exact hp

set_option maxHeartbeats 4000000 in
theorem refcut_any (xs : List Int) (S : ByteArray) (w : World) (hS : S = strOfNums xs) (hb : ∀ x ∈ xs, 0 ≤ x ∧ x < 256) (hn : xs.length ≤ 1048576) :
    Calls Try.prog 19 #[.string S] w (RCutPost w xs) := by
  obtain ⟨i0, hi, hz0, hz1, hz2⟩ := info_parts Try.infoT
  have hsz : S.size = xs.length := by rw [hS, strOfNums_size]
  have HS := Lib.hid hS
  have HSZ := Lib.hid hsz
  have hs : S.size ≤ 1048576 := by omega
  have HB0 := Lib.hid hb
  clear hS hsz hn hb
  go_enter Try.func19, Try.ntmps19
  go_wp2_with fail
  go_loopw [5, 6] (fun v p wr => ∃ (P : List (List Int)) (k : Nat), k ≤ S.size ∧ P.length ≤ k ∧ p = .int .i64 k ∧ wr.ownsRow w.heap.size 9 1 v P.length (strsOf P) ∧ cutAll xs = joinCut P k (cutAll (xs.drop k)) ∧ Below w.heap.size w wr)
    (fun _ p _ => S.size - (intOf p).toNat)
  case atStart => exact ⟨[], 0, by omega, by simp, rfl, World.ownsRow_nil _ _ _ _, by simp [joinCut], Below.refl _ _⟩
  case round =>
    obtain ⟨P, k, hk, hPk, rfl, hown, hcut, hbel⟩ := hrel
    have HC := Lib.hid hcut
    have HO := Lib.hid hown
    have HB := Lib.hid hbel
    clear hcut hown hbel
    by_cases hkn : k < S.size
    · have hs1 := fun w => str_tail S k hk w
      have hx1 : S.extract k S.size = strOfNums (xs.drop k) := by rw [HS.out]; exact str_drop _ _
      have hlk : (xs.drop k).length = S.size - k := by simp; have := HSZ.out; omega
      generalize S.extract k S.size = T at *
      have HX1 := Lib.hid hx1
      have HLK := Lib.hid hlk
      clear hx1 hlk
      go_wp2_with fail
      refine (refopen_any (xs.drop k) T _ HX1.out (fun x hx => HB0.out x (List.mem_of_mem_drop hx)) (by have := HLK.out; omega)).mono ?_
      rintro e w2 ⟨hb2, h⟩
      have hbw := HB.out.trans (hb2.mono HB.out.size)
      have HO2 := Lib.hid (owns_kept_below HO.out hb2)
      have HB2 := Lib.hid hbw
      have hszw := hbw.size
      by_cases he : err (xs.drop k) = 0
      · obtain ⟨_, rfl⟩ := h.resolve_right (fun h => h.1 he)
        have hz := err_zero he
        have hst := cutAll_step he
        have hpos : k + (8 + wd (xs.drop k) 4) ≤ S.size := by have := HLK.out; omega
        have hcn : cutAll xs = joinCut (P ++ [pay (xs.drop k)]) (k + (8 + wd (xs.drop k) 4)) (cutAll (xs.drop (k + (8 + wd (xs.drop k) 4)))) := by
          rw [HC.out, hst]
          simp [joinCut, List.drop_drop, Nat.add_assoc]
        have HCN := Lib.hid hcn
        have HSN := Lib.hid (strsOf_snoc P (pay (xs.drop k)))
        have hln : (P ++ [pay (xs.drop k)]).length = P.length + 1 := by simp
        have HLN := Lib.hid hln
        generalize wd (xs.drop k) 4 = t at *
        generalize pay (xs.drop k) = py at *
        generalize strOfNums py = D at *
        clear hb2 h hbw he hz hst hcn hs1 hln
        go_wp2_with (at_builtin; refine wpList_append_own _ rfl _ _ 40 rfl w.heap.size 9 i0 (.string ByteArray.empty) 1 16 Try.underlying40 hi hz0 hz1 hz2 rfl (by decide) _ P.length _ rfl (HO2.out.alloc _) ⟨w2.heap.size, 0, none⟩ 1 1 [.string D] rfl rfl (cell_one_new _ _ _) (by intro q hq; simp at hq; subst hq; rfl) (by unfold maxLen; omega) (by omega) (by simp; omega) ?_; intro v3 w3 hown3 hgrow3 _)
        have hb3 := (HB2.out.alloc hszw _).grown hgrow3 (by simp; omega) (fun q hq => (HO2.out.lt q hq).1)
        rw [HSN.out] at hown3
        have HB3 := Lib.hid hb3
        have HO3 := Lib.hid hown3
        clear hb3 hown3 hgrow3
        go_wp2
        go_roundw
        case rel => exact ⟨P ++ [py], k + (8 + t), hpos, by have := HLN.out; omega, by go_num, by rw [HLN.out]; exact HO3.out, HCN.out, HB3.out⟩
        case measure => simp [intOf]; omega
      · obtain ⟨_, rfl⟩ := h.resolve_left (fun h => he h.1)
        have hbd := cutAll_bad (by have := HLK.out; omega) he
        have hfin : cutAll xs = (P, k, err (xs.drop k)) := by rw [HC.out, hbd]; simp [joinCut]
        have HF := Lib.hid hfin
        have hne : (((err (xs.drop k) : Nat) : Int) != 0) = true := by simp; omega
        generalize err (xs.drop k) = q at *
        clear hb2 h hbw hbd hfin he hs1
        go_wp2
        go_ret3
        exact RCutPost.mk HB2.out HF.out rfl HO2.out
    · have hkn' : k = S.size := by omega
      have hfin : cutAll xs = (P, k, 0) := by rw [HC.out, cutAll_nil (by simp [hkn', HSZ.out])]; simp [joinCut]
      have HF := Lib.hid hfin
      clear hfin hkn'
      go_wp2
      go_ret3
      exact RCutPost.mk HB.out HF.out rfl HO.out
end Go.Proofs.Ytojkegnflbfloaa
