/- The walk of frame.Sum. -/
import Derived.Test.YtjilhmidgebfbaaWalk1
namespace Go.Proofs.Ytjilhmidgebfbaa.Fr
open Go.RowKit

/-- A slice's address and length hold just these bytes. -/
def IsB (w : World) (a : Option Addr) (n : Nat) (xs : List Int) : Prop :=
  xs.length = n ∧ (∀ x ∈ xs, 0 ≤ x ∧ x < 256) ∧ (n = 0 ∨ ∃ b off, a = some ⟨b, off, none⟩ ∧ ∀ i, i < n → w.cell? ⟨b, off + i, none⟩ = some (.int .u8 (xs.getD i 0)))
/-- A value is a slice of just these bytes. -/
def IsV (w : World) (v : Value) (xs : List Int) : Prop := ∃ a n c, v = .slice a n c ∧ n ≤ maxLen ∧ IsB w a n xs
/-- The parts of a call of Sum: one cell a part. -/
def Parts (w : World) (pb m : Nat) (xss : List (List Int)) : Prop :=
  xss.length = m ∧ m ≤ maxLen ∧ ∀ i, i < m → ∃ v, w.cell? ⟨pb, i, none⟩ = some v ∧ IsV w v (xss.getD i [])

theorem crc_flat (xss : List (List Int)) (k s : Nat) (h : k < xss.length) : Mt.crc s (xss.take (k + 1)).flatten = Mt.crc (Mt.crc s (xss.take k).flatten) (xss.getD k []) := by
  rw [List.take_succ_eq_append_getElem h, List.flatten_append, Mt.crc_append]
  simp [List.getD, h]

set_option maxHeartbeats 400000 in
theorem sum_any (pb m c : Nat) (xss : List (List Int)) (w : World) (hp : Parts w pb m xss) :
    Calls Try.prog 48 #[.slice (some ⟨pb, 0, none⟩) m c] w fun e w' => e = .returned (.int .u32 (Mt.sum xss.flatten : Nat)) ∧ w = w' := by
  obtain ⟨hm, hmx, hc⟩ := hp
  unfold maxLen at hmx
  have HC := Lib.hid hc
  clear hc
  have HM := Lib.hid hm
  clear hm
  go_enter Try.func48, Try.ntmps48
  go_wp2
  go_loop [3, 9] (fun x i => ∃ k : Nat, k ≤ m ∧ i = .int .i64 k ∧ x = .int .u32 (Mt.crc 4294967295 (xss.take k).flatten : Nat) ∧ Mt.crc 4294967295 (xss.take k).flatten < 4294967296) (fun _ i => m - (intOf i).toNat)
  case atStart => exact ⟨0, by omega, rfl, rfl, by simp [Mt.crc]⟩
  case round =>
    obtain ⟨k, hk, rfl, rfl, hlt⟩ := hrel
    generalize hg : Mt.crc 4294967295 (xss.take k).flatten = s at *
    have HG := Lib.hid hg
    clear hg
    by_cases hkm : k < m
    · obtain ⟨v, hcell, a, n, c', rfl, hn, hlen, hb, hat⟩ := HC.out k hkm
      have hfl := crc_flat xss k 4294967295 (by rw [HM.out]; exact hkm)
      rw [HG.out] at hfl
      have HF := Lib.hid hfl
      clear hfl
      unfold maxLen at hn
      generalize hxs : xss.getD k [] = xs at *
      have HX := Lib.hid hxs
      have HL := Lib.hid hlen
      have HB := Lib.hid hb
      have HA := Lib.hid hat
      clear hxs hlen hb hat
      have hs0 : Mt.crc s (xs.take 0) < 4294967296 := by simpa [Mt.crc] using hlt
      go_wp2
      go_loop [3, 15] (fun x i => ∃ j : Nat, j ≤ n ∧ i = .int .i64 j ∧ x = .int .u32 (Mt.crc s (xs.take j) : Nat) ∧ Mt.crc s (xs.take j) < 4294967296) (fun _ i => n - (intOf i).toNat)
      case atStart => exact ⟨0, by omega, rfl, rfl, hs0⟩
      case round =>
        obtain ⟨j, hj, rfl, rfl, hlj⟩ := hrel
        by_cases hjn : j < n
        · obtain ⟨b, off, rfl, hcj⟩ := HA.out.resolve_left (by omega)
          have hcell2 := hcj j hjn
          clear hcj
          have hbj : 0 ≤ xs.getD j 0 ∧ xs.getD j 0 < 256 := HB.out _ (Mt.getD_mem _ _ (by have := HL.out; omega))
          have htk := Mt.crc_take xs j s (by have := HL.out; omega)
          have hlt2 := Mt.stir_lt _ (xs.getD j 0).toNat hlj (by omega)
          rw [← htk] at hlt2
          have HT := Lib.hid htk
          have HL2 := Lib.hid hlt2
          clear htk hlt2
          generalize hg1 : Mt.crc s (xs.take j) = s1 at *
          have HG1 := Lib.hid hg1
          clear hg1
          obtain ⟨y, hy⟩ : ∃ y : Nat, xs.getD j 0 = (y : Int) := ⟨(xs.getD j 0).toNat, by omega⟩
          have hy2 : (xs.getD j 0).toNat = y := by omega
          have hy3 : y < 256 := by omega
          have HY := Lib.hid hy2
          rw [hy] at hcell2
          clear hy hy2 hbj
          go_wp2_with (go_at_call 73; refine (stir_any s1 y _ hlj hy3).mono ?_; rintro e w' ⟨rfl, rfl⟩)
          go_round
          case rel => exact ⟨j + 1, by omega, by go_num, by rw [HT.out, HY.out], HL2.out⟩
          case measure => simp [intOf]; omega
        · go_wp2
          have hjn' : j = n := by omega
          have hfin : Mt.crc s (xs.take j) = Mt.crc 4294967295 (xss.take (k + 1)).flatten := by
            rw [HF.out, List.take_of_length_le (by rw [HL.out]; omega)]
          go_round
          case rel => exact ⟨k + 1, by omega, by go_num, by rw [hfin], by rw [← hfin]; exact hlj⟩
          case measure => simp [intOf]; omega
    · have hx : bits .xor .u32 IntKind.u32.max (s : Int) = ((4294967295 - s : Nat) : Int) := by
        rw [← Mt.not32 s hlt]
        exact xor32 4294967295 s (by omega) hlt
      have hsg : IntKind.u32.signed = false := rfl
      have hkm' : k = m := by omega
      have ht : Mt.sum xss.flatten = 4294967295 - s := by
        rw [Mt.sum, ← HG.out, List.take_of_length_le (by rw [HM.out]; omega)]
      have HT := Lib.hid ht
      clear ht hkm'
      go_wp2
      go_ret
      exact ⟨by rw [HT.out]; rfl, rfl⟩
end Go.Proofs.Ytjilhmidgebfbaa.Fr
