/- DiskRoom: what is left is what can be appended, to the byte. -/
import Derived.Test.YtnppnccokmcbpaaD6
import Derived.Deep.OwnRows
namespace Go.Proofs.Ytnppnccokmcbpaa
open Go.RowKit

theorem zeros_add (n m : Nat) : zeros n ++ zeros m = zeros (n + m) := by simp [zeros]
theorem zeros_length (n : Nat) : (zeros n).length = n := by simp [zeros]
theorem size_as {B g d r : Nat} {v : Value} {xs : List Int} (w : World) (h : DAt w B g v xs d r) (z : Int) (hz : (xs.length : Int) = z) :
    Calls Try.prog 21 #[.pointer (some ⟨g, 0, none⟩)] w fun e w' => e = .returned (.int .i64 z) ∧ w = w' := by
  subst hz
  exact size_any w h
theorem left_as {B g d r : Nat} {v : Value} {xs : List Int} (w : World) (h : DAt w B g v xs d r) (z : Int) (hz : (r : Int) - (xs.length : Int) = z) :
    Calls Try.prog 23 #[.pointer (some ⟨g, 0, none⟩)] w fun e w' => e = .returned (.int .i64 z) ∧ ∃ w1, w' = w1 ∧ DAt w1 B g v xs d r ∧ ∀ B2 w2, Below B2 w2 w → Below B2 w2 w1 := by
  refine (left_any w h).mono ?_
  rintro e w' ⟨rfl, n, rfl⟩
  have := h.hr
  refine ⟨by rw [← hz]; congr 2; omega, _, rfl, h.drewN n, fun B2 w2 hb => ⟨hb.os, hb.tape, hb.output, hb.size, hb.block⟩⟩
theorem full_as {B g d r : Nat} {v : Value} {xs : List Int} (a : Option Addr) (m c : Nat) (xss : List (List Int)) (w : World) (h : DAt w B g v xs d r) (hp : PartsIn w (fun k => k = g ∨ some k = v.ownBlock) a m xss) (hf : r < xs.length + xss.flatten.length) :
    Calls Try.prog 11 #[.pointer (some ⟨g, 0, none⟩), .slice a m c] w fun e w' => e = .returned (.int .i64 3) ∧ ∃ w1, w' = w1 ∧ DAt w1 B g v xs d r ∧ ∀ B2 w2, Below B2 w2 w → Below B2 w2 w1 := by
  refine (append_full a m c xss w h hp hf).mono ?_
  rintro e w' ⟨rfl, n, rfl⟩
  exact ⟨rfl, _, rfl, h.drewN n, fun B2 w2 hb => ⟨hb.os, hb.tape, hb.output, hb.size, hb.block⟩⟩
theorem zeros_made (w : World) (n : Nat) (fr : Nat × Nat) : IsB (w.alloc (.cells (madeCells #[.int .u8 0] n) 5 fr)) (some ⟨w.heap.size, 0, none⟩) n (zeros n) := by
  refine ⟨by simp [zeros], ?_, .inr ⟨_, _, rfl, fun i hi => ?_⟩⟩
  · intro x hx
    simp [zeros] at hx
    omega
  · rw [World.cell?_alloc_mark]
    simp [madeCells, zeros, List.getD, hi, Nat.mod_one]

theorem wf_i64 {x : Int} (h : (Lit.int .i64 x).wf = true) : -9223372036854775808 ≤ x ∧ x ≤ 9223372036854775807 := by
  simp [Lit.wf, IntKind.min, IntKind.max, IntKind.signed, IntKind.bits] at h
  omega
/-- The integers of a slice that came in, whatever its capacity. -/
def Ints (w : World) (a : Option Addr) (n : Nat) (zs : List Int) : Prop :=
  n = 0 ∨ ∃ b off, a = some ⟨b, off, none⟩ ∧ ∀ i, i < n → w.cell? ⟨b, off + i, none⟩ = some (.int .i64 (zs.getD i 0)) ∧ -9223372036854775808 ≤ zs.getD i 0 ∧ zs.getD i 0 ≤ 9223372036854775807
theorem IsRow.ints {w : World} {a : Option Addr} {len cap : Nat} {zs : List Int} (h : IsRow .i64 w a len cap zs) : Ints w a len zs ∧ len ≤ maxLen := by
  rcases h with ⟨rfl, rfl, rfl, rfl⟩ | ⟨x, rfl, hl, hm, hz, hc, hw⟩
  · exact ⟨.inl rfl, by simp [maxLen]⟩
  · refine ⟨?_, by omega⟩
    rcases Nat.eq_zero_or_pos len with h0 | h0
    · exact .inl h0
    · obtain ⟨b, off, spot⟩ := x
      have hs : spot = none := by simpa [Addr.add] using World.cell?_spot (hc 0 (by omega))
      subst hs
      refine .inr ⟨b, off, rfl, fun i hi => ?_⟩
      have := hc i (by omega)
      have e : ((⟨b, off, none⟩ : Addr).add i) = ⟨b, off + i, none⟩ := by
        unfold Addr.add
        split <;> simp_all
      rw [e] at this
      exact ⟨this, wf_i64 (hw (zs.getD i 0) (by simp [List.getD, show i < zs.length by omega]))⟩

set_option maxHeartbeats 4000000 in
theorem room_bad (r : Int) (a : Option Addr) (n c : Nat) (w : World) (h : r < 0 ∨ 1048576 < r) :
    Calls Try.prog 6 #[.int .i64 r, .slice a n c] w fun e w' => e = .returned (.bool true) ∧ Below w.heap.size w w' := by
  have HH := Lib.hid h
  clear h
  go_enter Try.func6, Try.ntmps6
  go_wp2_with (first
    | (go_at_call 8; refine (awake_any _).mono ?_; rintro e w1 ⟨rfl, hb1⟩; have HB1 := Lib.hid hb1; clear hb1)
    | (go_at_call 9; refine (new_bad _ _ HH.out).mono ?_; rintro e w' ⟨rfl, rfl⟩))
  go_ret
  exact ⟨rfl, HB1.out⟩

set_option maxHeartbeats 4000000 in
theorem room_good (r : Nat) (a : Option Addr) (n c : Nat) (zs : List Int) (w : World) (h : r ≤ 1048576) (hz : Ints w a n zs) (hn : n ≤ maxLen) :
    Calls Try.prog 6 #[.int .i64 r, .slice a n c] w fun e w' => e = .returned (.bool true) ∧ Below w.heap.size w w' := by
  have HZ := Lib.hid hz
  unfold maxLen at hn
  clear hz
  go_enter Try.func6, Try.ntmps6
  go_wp2_with (first
    | (go_at_call 8; refine (awake_any _).mono ?_; rintro e w1 ⟨rfl, hb1⟩; have HB1 := Lib.hid hb1; clear hb1)
    | (go_at_call 9; refine (new_good w.heap.size r _ h HB1.out.size).mono ?_; rintro e w2 ⟨rfl, hd2, hb2⟩; have HD2 := Lib.hid hd2; have HB2 := Lib.hid (HB1.out.trans (hb2.mono HB1.out.size)); clear hd2 hb2))
  generalize w1.heap.size = g at *
  go_loopw [7, 24] (fun u i wr => ∃ (k q : Nat) (v : Value), k ≤ n ∧ i = .int .i64 k ∧ u = .int .i64 q ∧ q ≤ r ∧ DAt wr w.heap.size g v (zeros q) 0 r ∧ Below w.heap.size w wr) (fun _ i _ => n - (intOf i).toNat)
  case atStart => exact ⟨0, 0, _, by omega, rfl, rfl, by omega, HD2.out, HB2.out⟩
  case round =>
    obtain ⟨k, q, v, hk, rfl, rfl, hq, hd, hb⟩ := hrel
    have HD := Lib.hid hd
    have HB := Lib.hid hb
    clear hd hb
    by_cases hkn : k < n
    · obtain ⟨b, off, rfl, hcc⟩ := HZ.out.resolve_left (by omega)
      obtain ⟨hc0, hlo, hhi⟩ := hcc k hkn
      have hcell := (HB.out.cell (p := ⟨b, off + k, none⟩) (World.block_lt_of_cell? w _ hc0)).trans hc0
      generalize zs.getD k 0 = x at *
      clear hcc hc0
      by_cases hx0 : x < 0
      · go_wp2
        go_roundw
        case rel => exact ⟨k + 1, q, v, by omega, by go_num, rfl, hq, HD.out, HB.out⟩
        case measure => simp [intOf]; omega
      · by_cases hx1 : 2000 < x
        · go_wp2
          go_roundw
          case rel => exact ⟨k + 1, q, v, by omega, by go_num, rfl, hq, HD.out, HB.out⟩
          case measure => simp [intOf]; omega
        · obtain ⟨m, rfl⟩ : ∃ m : Nat, x = (m : Int) := ⟨x.toNat, by omega⟩
          have hm : m ≤ 2000 := by omega
          have hmk := run_make_row' (P := Try.prog) 31 5 (.int .u8 0) 1 Try.underlying31 Try.infoB rfl .i64 .i64 m (by omega) (by omega)
          have hw1 : wr.heap.size + 1 = (wr.alloc (.cells (madeCells #[.int .u8 0] m) 5)).heap.size := by simp
          have hd3 := HD.out.alloc (.cells (madeCells #[.int .u8 0] m) 5)
          have hp3 := PartsIn.new hd3 (c := m) (by unfold maxLen; omega) (by simp) (zeros_made wr m (0, 0)) (.inr (by rintro ad he; injection he with he; subst he; exact HD.out.off (Nat.le_refl _)))
          have hb3 := (HB.out.alloc HB.out.size (.cells (madeCells #[.int .u8 0] m) 5)).alloc (by have := HB.out.size; simp; omega) (.cells #[.slice (some ⟨wr.heap.size, 0, none⟩) m m] 31)
          have HP3 := Lib.hid hp3
          have HD3 := Lib.hid (hd3.alloc (.cells #[.slice (some ⟨wr.heap.size, 0, none⟩) m m] 31))
          have HB3 := Lib.hid hb3
          rw [← hw1] at HP3
          have hfl : ([zeros m] : List (List Int)).flatten = zeros m := by simp
          have HFL := Lib.hid hfl
          clear hd3 hp3 hb3 hw1 hfl hlo hhi
          have hzl := zeros_length q
          have hzm := zeros_length m
          by_cases hf : q + m ≤ r
          · have HA := Lib.hid (append_fits _ _ 1 _ _ HD3.out HP3.out (by rw [HFL.out, hzl, hzm]; exact hf))
            clear hzl hzm
            go_wp2_with (first
              | (go_at_call 11; refine HA.out.mono ?_; rintro e w4 ⟨rfl, v4, hd4, ht4, ho4⟩; rw [HFL.out, zeros_add] at hd4; have HD4 := Lib.hid hd4; have HB4 := Lib.hid (HB3.out.trans (ht4.below HD3.out.ge (fun k hk => (HD3.out.own.lt k hk).1) HB3.out.size)); clear hd4 ht4 ho4)
              | (go_at_call 21; refine (size_as _ HD4.out ((q : Int) + (m : Int)) (by rw [zeros_length]; omega)).mono ?_; rintro e w' ⟨rfl, rfl⟩)
              | (go_at_call 22; refine (durable_any _ HD5.out).mono ?_; rintro e w' ⟨rfl, rfl⟩)
              | (go_at_call 23; refine (left_as _ HD4.out ((r : Int) - ((q : Int) + (m : Int))) (by rw [zeros_length]; omega)).mono ?_; rintro e w' ⟨rfl, w5, rfl, hd5, hb5⟩; have HD5 := Lib.hid hd5; have HB5 := Lib.hid (hb5 _ _ HB4.out); clear hd5 hb5))
            go_roundw
            case rel => exact ⟨k + 1, q + m, v4, by omega, by go_num, by go_num, hf, HD5.out, HB5.out⟩
            case measure => simp [intOf]; omega
          · have HA := Lib.hid (full_as _ _ 1 _ _ HD3.out HP3.out (by rw [HFL.out, hzl, hzm]; omega))
            have hf' : (r : Int) < (q : Int) + (m : Int) := by omega
            clear hzl hzm
            go_wp2_with (first
              | (go_at_call 11; refine HA.out.mono ?_; rintro e w' ⟨rfl, w4, rfl, hd4, hb4⟩; have HD4 := Lib.hid hd4; have HB4 := Lib.hid (hb4 _ _ HB3.out); clear hd4 hb4)
              | (go_at_call 21; refine (size_as _ HD4.out (q : Int) (by rw [zeros_length])).mono ?_; rintro e w' ⟨rfl, rfl⟩)
              | (go_at_call 22; refine (durable_any _ HD5.out).mono ?_; rintro e w' ⟨rfl, rfl⟩)
              | (go_at_call 23; refine (left_as _ HD4.out ((r : Int) - (q : Int)) (by rw [zeros_length])).mono ?_; rintro e w' ⟨rfl, w5, rfl, hd5, hb5⟩; have HD5 := Lib.hid hd5; have HB5 := Lib.hid (hb5 _ _ HB4.out); clear hd5 hb5))
            go_roundw
            case rel => exact ⟨k + 1, q, v, by omega, by go_num, rfl, hq, HD5.out, HB5.out⟩
            case measure => simp [intOf]; omega
    · go_wp2
      go_ret
      exact ⟨rfl, HB.out⟩

theorem room_walk {r : Int} {a : Option Addr} {n c : Nat} {zs : List Int} (w : World) (h : IsRow .i64 w a n c zs) : Calls Try.prog 6 #[.int .i64 r, .slice a n c] w fun e w' => e = .returned (.bool true) ∧ Below w.heap.size w w' := by
  obtain ⟨hz, hn⟩ := h.ints
  by_cases hr : r < 0 ∨ 1048576 < r
  · exact room_bad r a n c w hr
  · obtain ⟨m, rfl⟩ : ∃ m : Nat, r = (m : Int) := ⟨r.toNat, by omega⟩
    exact room_good m a n c zs w (by omega) hz hn
end Go.Proofs.Ytnppnccokmcbpaa
