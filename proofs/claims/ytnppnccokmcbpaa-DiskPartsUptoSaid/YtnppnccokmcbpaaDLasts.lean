/- DiskLasts: what was durable is there behind a crash, and of the rest just a beginning. -/
import Derived.Test.YtnppnccokmcbpaaDRoom
namespace Go.Proofs.Ytnppnccokmcbpaa
open Go.RowKit

/-- Append of a slice that came in. -/
theorem append_arg {B g d r : Nat} {v : Value} {ys : List Int} (a : Option Addr) (n c : Nat) (xs : List Int) (w0 w : World) (h : DAt w B g v ys d r) (hx : IsB w0 a n xs) (hxn : a = none → n = 0 ∧ c = 0) (hb : Below w0.heap.size w0 w) (hB : w0.heap.size ≤ B) (hn : n ≤ maxLen) (hf : ys.length + n ≤ r) :
    Calls Try.prog 11 #[.pointer (some ⟨g, 0, none⟩), .slice (some ⟨w.heap.size, 0, none⟩) 1 1] (w.alloc (.cells #[.slice a n c] 31)) fun e w' =>
      e = .returned (.int .i64 0) ∧ ∃ v', DAt w' B g v' (ys ++ xs) d r ∧ Turned w w' g v.ownBlock ∧ (v'.ownBlock = v.ownBlock ∨ ∃ q, v'.ownBlock = some q ∧ w.heap.size ≤ q) := by
  have haw : n = 0 ∨ ∀ ad, a = some ad → ¬ (ad.block = g ∨ some ad.block = v.ownBlock) := by
    rcases hx.2.2 with h0 | ⟨b, off, rfl, hc⟩
    · exact .inl h0
    · rcases Nat.eq_zero_or_pos n with h0 | h0
      · exact .inl h0
      · have hlt := World.block_lt_of_cell? w0 _ (hc 0 h0)
        refine .inr (fun ad he => ?_)
        injection he with he
        subst he
        rintro (h1 | h1)
        · have := h.ge
          simp at hlt h1
          omega
        · have := (h.own.lt _ h1.symm).1
          simp at hlt this
          omega
  have hp := PartsIn.new h hn hxn (hx.below hb) haw
  have hfl : ([xs] : List (List Int)).flatten = xs := by simp
  refine (append_fits _ _ 1 _ _ (h.alloc _) hp (by rw [hfl, hx.1]; exact hf)).mono ?_
  rintro e w' ⟨rfl, v', hd, ht, ho⟩
  rw [hfl] at hd
  refine ⟨rfl, v', hd, (Turned.ofBelow g v.ownBlock (below_alloc w _)).then_ ht (.inl rfl), ho.imp_right ?_⟩
  rintro ⟨q, h1, h2⟩
  exact ⟨q, h1, by simp at h2; omega⟩
theorem DAt.turned {w w' : World} {B g d r : Nat} {v : Value} {xs : List Int} (h : DAt w B g v xs d r) (ht : Turned w w' g v.ownBlock) (hB : B ≤ w.heap.size) : Below B w w' := ht.below h.ge (fun k hk => (h.own.lt k hk).1) hB
theorem DAt.turned0 {w w' : World} {B g d r : Nat} {v : Value} {xs : List Int} (h : DAt w B g v xs d r) (ht : Turned w w' g none) (hB : B ≤ w.heap.size) : Below B w w' := ht.below h.ge (by simp) hB

theorem sum_wrap (a b : Nat) (ha : a ≤ 140737488351232) (hb : b ≤ 140737488351232) : IntKind.i64.wrap ((a : Int) + (b : Int)) = (a : Int) + (b : Int) := IntWalk.i64_in _ (by omega)

set_option maxHeartbeats 2000000 in
theorem lasts_long (a b : Option Addr) (n c m k : Nat) (keep : Int) (w : World) (hl : 1000 < n + m) (hn : n ≤ 140737488351232) (hm : m ≤ 140737488351232) :
    Calls Try.prog 4 #[.slice a n c, .slice b m k, .int .i64 keep] w fun e w' => e = .returned (.bool true) ∧ Below w.heap.size w w' := by
  have hs := sum_wrap n m hn hm
  have hd : decide ((1000 : Int) < (n : Int) + (m : Int)) = true := by simp; omega
  go_enter Try.func4, Try.ntmps4
  go_wp2_with (first
    | (go_at_call 8; refine (awake_any _).mono ?_; rintro e w1 ⟨rfl, hb1⟩; have HB1 := Lib.hid hb1; clear hb1)
    | (go_at_call 9; refine (new_good w.heap.size 1000 _ (by decide) HB1.out.size).mono ?_; rintro e w2 ⟨rfl, hd2, hb2⟩; have HD2 := Lib.hid hd2; have HB2 := Lib.hid (HB1.out.trans (hb2.mono HB1.out.size)); clear hd2 hb2))
  go_ret
  exact ⟨rfl, HB2.out⟩

set_option maxHeartbeats 4000000 in
theorem lasts_short (a b : Option Addr) (n c m k : Nat) (keep : Int) (xs zs : List Int) (w : World) (hl : n + m ≤ 1000) (hx : IsB w a n xs) (hz : IsB w b m zs) (hxn : a = none → n = 0 ∧ c = 0) (hzn : b = none → m = 0 ∧ k = 0) (hmk : m ≤ k) (hk : keep < 9223372036854775808) :
    Calls Try.prog 4 #[.slice a n c, .slice b m k, .int .i64 keep] w fun e w' => e = .returned (.bool true) ∧ Below w.heap.size w w' := by
  have hs := sum_wrap n m (by omega) (by omega)
  have hd : decide ((1000 : Int) < (n : Int) + (m : Int)) = false := by simp; omega
  have HX := Lib.hid hx
  have HZ := Lib.hid hz
  have HXN := Lib.hid hxn
  have HZN := Lib.hid hzn
  clear hx hz hxn hzn
  go_enter Try.func4, Try.ntmps4
  go_wp2_with (first
    | (go_at_call 8; refine (awake_any _).mono ?_; rintro e w1 ⟨rfl, hb1⟩; have HB1 := Lib.hid hb1; clear hb1)
    | (go_at_call 9; refine (new_good w.heap.size 1000 _ (by decide) HB1.out.size).mono ?_; rintro e w2 ⟨rfl, hd2, hb2⟩; have HD2 := Lib.hid hd2; have HB2 := Lib.hid (HB1.out.trans (hb2.mono HB1.out.size)); clear hd2 hb2))
  have HG := Lib.hid (show w.heap.size ≤ w1.heap.size from HB1.out.size)
  generalize w1.heap.size = g at *
  refine (append_arg a n c xs w w2 HD2.out HX.out HXN.out HB2.out (Nat.le_refl _) (by unfold maxLen; omega) (by simp; omega)).mono ?_
  rintro e w3 ⟨rfl, v3, hd3, ht3, _⟩
  have HB3 := Lib.hid (HB2.out.trans (HD2.out.turned ht3 HB2.out.size))
  have HD3 := Lib.hid hd3
  clear hd3 ht3
  go_wp2_with fail
  refine (sync_any _ HD3.out).mono ?_
  rintro e w4 ⟨rfl, hd4, ht4⟩
  have HB4 := Lib.hid (HB3.out.trans (HD3.out.turned0 ht4 HB3.out.size))
  have HD4 := Lib.hid hd4
  clear hd4 ht4
  go_wp2_with fail
  refine (append_arg b m k zs w w4 HD4.out HZ.out HZN.out HB4.out (Nat.le_refl _) (by unfold maxLen; omega) (by simp; have := HX.out.1; omega)).mono ?_
  rintro e w5 ⟨rfl, v5, hd5, ht5, _⟩
  have HB5 := Lib.hid (HB4.out.trans (HD4.out.turned ht5 HB4.out.size))
  have HD5 := Lib.hid hd5
  clear hd5 ht5
  go_wp2_with fail
  refine (crash_any keep _ HD5.out hk).mono ?_
  rintro e w6 ⟨rfl, v6, hd6, ht6, _⟩
  have HB6 := Lib.hid (HB5.out.trans (HD5.out.turned0 ht6 HB5.out.size))
  have hk6 : left ([] ++ xs ++ zs).length ([] ++ xs).length keep = n + min keep.toNat m := by
    simp [left, HX.out.1, HZ.out.1]
  have hys : ([] ++ xs ++ zs).take (n + min keep.toNat m) = xs ++ zs.take (min keep.toNat m) := by
    rw [List.nil_append, List.take_append, HX.out.1, List.take_of_length_le (by rw [HX.out.1]; omega)]
    simp
  rw [hk6, hys] at hd6
  have HD6 := Lib.hid hd6
  clear hd6 ht6 hk6 hys
  obtain ⟨p, hp⟩ : ∃ p, p = min keep.toNat m := ⟨_, rfl⟩
  rw [← hp] at HD6
  have hpm : p ≤ m := by omega
  have hp' : (keep ≤ 0 ∧ p = 0) ∨ (m : Int) ≤ keep ∧ p = m ∨ (0 < keep ∧ keep < m ∧ (p : Int) = keep) := by omega
  clear hp
  go_wp2_with fail
  refine (bytes_any _ HD6.out).mono ?_
  rintro e w7 ⟨u, rfl, hown7, hb7⟩
  have HB7 := Lib.hid (HB6.out.trans (hb7.mono HB6.out.size))
  have HD7 := Lib.hid (HD6.out.below hb7)
  have hlen : (xs ++ zs.take p).length = n + p := by simp [HX.out.1, HZ.out.1]; omega
  obtain ⟨ua, uc, hu, hui, _⟩ := owned_slice hown7 HD6.out.byte
  rw [hlen] at hu hui
  subst hu
  obtain ⟨A, hA⟩ : ∃ A, A = strOfNums xs := ⟨_, rfl⟩
  obtain ⟨C, hC⟩ : ∃ C, C = strOfNums (zs.take p) := ⟨_, rfl⟩
  obtain ⟨T, hT⟩ : ∃ T, T = strOfNums (xs ++ zs.take p) := ⟨_, rfl⟩
  have hAC : A ++ C = T := by rw [hA, hC, hT, str_append]
  have hadd : ∀ w, (Op.stringOp .add A C).run Try.prog w = .ok (.string T) w := fun w => by
    rw [run_string_add_sum w A C (by rw [hA, hC, strOfNums_size, strOfNums_size, HX.out.1, List.length_take]; omega), hAC]
  have hsz : T.size = n + p := by rw [hT, strOfNums_size, hlen]
  have hcu := hui.str uc
  have hca := fun q => IsB.str (w := w7.drewN q) (show IsB w7 a n xs from HX.out.below HB7.out) c
  have hcb := fun q => IsB.str (w := w7.drewN q) (show IsB w7 b p (zs.take p) from (HZ.out.below HB7.out).head p hpm) k
  have hsl := fun w => slice_head b m k p (by omega) w
  rw [← hA] at hca
  rw [← hC] at hcb
  rw [← hT] at hcu
  have hTT : (T.toList == T.toList) = true := by simp
  have hTN : (!(T.toList == T.toList)) = false := by simp
  have hwn : (n : Int) + (p : Int) - (n : Int) = (p : Int) := by omega
  have hp0 : ¬ (p : Int) < 0 := by omega
  have hpm' : ¬ (m : Int) < (p : Int) := by omega
  have hd1 : decide ((p : Int) < 0) = false := by simp
  have hd2 : decide ((m : Int) < (p : Int)) = false := by simp; omega
  clear hown7 hb7 hui hA hC hT hAC
  go_wp2_with fail
  go_quiet ((go_at_call 22; exact Calls.quiet_of (durable_q _ HD7.out _)))
  go_wp2
  all_goals
    go_ret
    have hfin : Below w.heap.size w (w7.drewN nq) := ⟨HB7.out.os, HB7.out.tape, HB7.out.output, HB7.out.size, HB7.out.block⟩
    first
      | exact ⟨rfl, hfin⟩
      | (have he : ((p : Int) == keep) = true := by simp; omega
         have hr : Ending.returned (.bool ((p : Int) == keep)) = Ending.returned (.bool true) := by rw [he]
         exact ⟨hr, hfin⟩)

theorem lasts_walk {a b : Option Addr} {n c m k : Nat} {xs zs : List Int} {keep : Int} (w : World) (h : IsRow .u8 w a n c xs) (h2 : IsRow .u8 w b m k zs) (hk : (Lit.int .i64 keep).wf = true) (r : c ≤ 140737488351232) (r2 : k ≤ 140737488351232) :
    Calls Try.prog 4 #[.slice a n c, .slice b m k, .int .i64 keep] w fun e w' => e = .returned (.bool true) ∧ Below w.heap.size w w' := by
  obtain ⟨hx, hxn, hnc, _⟩ := h.isB
  obtain ⟨hz, hzn, hmk, _⟩ := h2.isB
  by_cases hl : 1000 < n + m
  · exact lasts_long a b n c m k keep w hl (by omega) (by omega)
  · exact lasts_short a b n c m k keep _ _ w (by omega) hx hz hxn hzn hmk (by have := (wf_i64 hk).2; omega)
end Go.Proofs.Ytnppnccokmcbpaa
