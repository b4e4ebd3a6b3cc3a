/- The walks of porterref01.Number, Seal, Open and Cut. -/
import Derived.Test.YtojkegnflbfloaaJoins
import Derived.Deep.RegionHeld3
namespace Go.Proofs.Ytojkegnflbfloaa
open Go.RowKit

theorem str_append (l m : List Int) : strOfNums l ++ strOfNums m = strOfNums (l ++ m) := by
  apply ByteArray.ext
  apply Array.toList_inj.1
  simp [strOfNums]
theorem str_sub (l : List Int) (i j : Nat) : (strOfNums l).extract i j = strOfNums ((l.drop i).take (j - i)) := by
  apply ByteArray.ext
  apply Array.toList_inj.1
  rw [Lib.extract_data]
  simp [strOfNums, List.map_take, List.map_drop]
theorem lit_str (w : World) (x : Int) (hx : 0 ≤ x ∧ x < 256) : (convert 22 9 (.slice (some ⟨w.heap.size, 0, none⟩) 1 1)).run Try.prog (w.alloc (.cells #[.int .u8 x] 5)) = .ok (.string (strOfNums [x])) (w.alloc (.cells #[.int .u8 x] 5)) :=
  (IsB.lit w [x] (0, 0) (by intro y hy; simp at hy; subst hy; exact hx)).str 1
/-- A number's bytes that are there after k rounds. -/
def beTo (x k : Nat) : List Int := (be x).drop (4 - k)

set_option maxHeartbeats 2000000 in
theorem number_any (x : Nat) (w : World) (hx : x < 4294967296) :
    Calls Try.prog 25 #[.int .u32 x] w fun e w' => e = .returned (.string (strOfNums (be x))) ∧ Below w.heap.size w w' := by
  go_enter Try.func25, Try.ntmps25
  go_wp2_with fail
  go_loopw [0, 3, 4] (fun a o i wr => ∃ k : Nat, k ≤ 4 ∧ i = .int .i64 k ∧ a = .int .u32 ((x / 256 ^ k : Nat)) ∧ o = .string (strOfNums (beTo x k)) ∧ Below w.heap.size w wr)
    (fun _ _ i _ => 4 - (intOf i).toNat)
  case atStart => exact ⟨0, by omega, rfl, by simp, rfl, Below.refl _ _⟩
  case round =>
    obtain ⟨k, hk, rfl, rfl, rfl, hbel⟩ := hrel
    by_cases h4 : k < 4
    · have hm : x / 256 ^ k < 4294967296 := Nat.lt_of_le_of_lt (Nat.div_le_self _ _) hx
      have hnx : x / 256 ^ (k + 1) = x / 256 ^ k / 256 := by rw [Nat.pow_succ, Nat.div_div_eq_div_mul]
      have hbe : strOfNums [(((x / 256 ^ k % 256 : Nat)) : Int)] ++ strOfNums (beTo x k) = strOfNums (beTo x (k + 1)) := by
        rw [str_append]
        have p3 : (256 : Nat) ^ 3 = 16777216 := rfl
        rcases (show k = 0 ∨ k = 1 ∨ k = 2 ∨ k = 3 by omega) with rfl | rfl | rfl | rfl
        · simp [beTo, be]
        · simp [beTo, be]
        · simp [beTo, be]
        · have e3 : x / 256 ^ 3 % 256 = x / 16777216 := by rw [p3]; omega
          rw [e3]
          rfl
      have hl : (strOfNums (beTo x k)).size ≤ 4 := by rw [strOfNums_size]; simp [beTo, be]
      have HNX := Lib.hid hnx
      have HBE := Lib.hid hbe
      generalize strOfNums (beTo x k) = S at *
      generalize x / 256 ^ k = m at *
      have hcv := lit_str wr ((m : Int) % 256) (by omega)
      have hone : (strOfNums [((m : Int) % 256)]).size = 1 := by rw [strOfNums_size]; rfl
      have hcast : ((m % 256 : Nat) : Int) = (m : Int) % 256 := by omega
      rw [hcast] at HBE
      generalize strOfNums [((m : Int) % 256)] = D at *
      have hsz := hbel.size
      have HB := Lib.hid (hbel.alloc hsz (.cells #[.int .u8 ((m : Int) % 256)] 5))
      have hd1 : D.size ≤ 1 := by omega
      clear hnx hbe hcast hbel hone
      go_wp2
      go_roundw
      case rel => exact ⟨k + 1, by omega, by go_num, by rw [HNX.out]; go_num, by rw [← HBE.out], HB.out⟩
      case measure => simp [intOf]; omega
    · have h4' : k = 4 := by omega
      have hfin : strOfNums (beTo x k) = strOfNums (be x) := by rw [h4']; rfl
      have HF := Lib.hid hfin
      have HB := Lib.hid hbel
      clear hfin hbel h4'
      go_wp2
      go_ret
      exact ⟨by rw [← HF.out]; rfl, HB.out⟩

set_option maxHeartbeats 2000000 in
theorem refseal_any (xs : List Int) (S : ByteArray) (w : World) (hS : S = strOfNums xs) (hb : ∀ x ∈ xs, 0 ≤ x ∧ x < 256) (hn : xs.length ≤ 1048576) :
    Calls Try.prog 15 #[.string S] w fun e w' => e = .returned (if xs.length ≤ 16384 then .tuple #[.string (strOfNums (sealed xs)), .int .i64 0] else .tuple #[.string ByteArray.empty, .int .i64 2]) ∧ Below w.heap.size w w' := by
  have hsz : S.size = xs.length := by rw [hS, strOfNums_size]
  have HS := Lib.hid hS
  have HSZ := Lib.hid hsz
  by_cases hl : xs.length ≤ 16384
  · have hs : S.size ≤ 16384 := by omega
    rw [if_pos hl]
    have HL := Lib.hid hl
    clear hS hsz hn hl
    go_enter Try.func15, Try.ntmps15
    go_wp2_with fail
    refine (number_any S.size _ (by omega)).mono ?_
    rintro e w1 ⟨rfl, hb1⟩
    have hz : (strOfNums (be S.size)).size = 4 := by rw [strOfNums_size]; rfl
    have hap : strOfNums (be S.size) ++ S = strOfNums (be xs.length ++ xs) := by rw [HS.out, str_append, strOfNums_size]
    have HAP := Lib.hid hap
    obtain ⟨Z, hZ⟩ : ∃ Z, Z = strOfNums (be S.size) := ⟨_, rfl⟩
    rw [← hZ] at hz HAP ⊢
    have hzl : Z.size ≤ 4 := by omega
    have HZ := Lib.hid hZ
    have HB1 := Lib.hid hb1
    clear hz hap hZ hb1
    go_wp2_with fail
    refine (refsum_any (Z ++ S) (be xs.length ++ xs) _ HAP.out (by
      intro x hx
      rcases List.mem_append.1 hx with h | h
      · exact be_byte _ (by have := HL.out; omega) x h
      · exact hb x h) (by have := HL.out; simp [be_length]; omega)).mono ?_
    rintro e w2 ⟨rfl, hb2⟩
    have HB2 := Lib.hid (HB1.out.trans (hb2.mono HB1.out.size))
    clear hb2
    go_wp2_with fail
    refine (number_any _ _ (sum_lt _)).mono ?_
    rintro e w3 ⟨rfl, hb3⟩
    have HB3 := Lib.hid (HB2.out.trans (hb3.mono HB2.out.size))
    have hy : (strOfNums (be (Mt.sum (be xs.length ++ xs)))).size = 4 := by rw [strOfNums_size]; rfl
    have hap2 : (Z ++ strOfNums (be (Mt.sum (be xs.length ++ xs)))) ++ S = strOfNums (sealed xs) := by
      rw [HZ.out, HS.out, strOfNums_size, str_append, str_append]
      rfl
    have HAP2 := Lib.hid hap2
    generalize strOfNums (be (Mt.sum (be xs.length ++ xs))) = Y at *
    have hyl : Y.size ≤ 4 := by omega
    clear hb3 hy hap2
    go_wp2
    go_ret2
    exact ⟨by rw [← HAP2.out]; rfl, HB3.out⟩
  · have hs : 16384 < S.size := by omega
    rw [if_neg hl]
    clear hS hsz hl
    have hs2 : S.size ≤ 1048576 := by have := HSZ.out; omega
    clear hn
    go_enter Try.func15, Try.ntmps15
    go_wp2
    go_ret2
    exact ⟨rfl, Below.refl _ _⟩
end Go.Proofs.Ytojkegnflbfloaa
