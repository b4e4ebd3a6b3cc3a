/- CodeCuts: a message's bytes cut short, or with something behind, are refused. -/
import Derived.Test.YtbckccgcjmanlaaCOpen
namespace Go.Proofs.Ytbckccgcjmanlaa
open Go.RowKit

theorem lst_byte {α : Type} {f : α → List Int} {l : List α} (h : ∀ x ∈ l, ∀ y ∈ f x, 0 ≤ y ∧ y < 256) : ∀ y ∈ lst f l, 0 ≤ y ∧ y < 256 := by
  intro y hy
  rw [lst, List.mem_append] at hy
  rcases hy with hy | hy
  · exact Vi.int_byte _ y hy
  · obtain ⟨q, hq, hyq⟩ := List.mem_flatten.1 hy
    obtain ⟨x, hx, rfl⟩ := List.mem_map.1 hq
    exact h x hx y hyq
theorem tup_byte (a b c : ByteArray) : ∀ y ∈ tup a b c, 0 ≤ y ∧ y < 256 := byte_app (tx_byte a) (byte_app (tx_byte b) (tx_byte c))
theorem bit_byte (d : Bool) : ∀ y ∈ [bit d], 0 ≤ y ∧ y < 256 := by
  intro y hy
  obtain rfl : y = bit d := by simpa using hy
  cases d <;> decide
theorem mutB_byte (m : Mut) : ∀ y ∈ mutB m, 0 ≤ y ∧ y < 256 := byte_app (xs := [bit m.d]) (bit_byte m.d) (tup_byte _ _ _)
theorem rowOf_byte (m : RowD) : ∀ y ∈ rowOf m, 0 ≤ y ∧ y < 256 := byte_app (tup_byte _ _ _) (byte_app (Vi.int_byte _) (Vi.int_byte _))
theorem enc_byte (m : MsgD) : ∀ y ∈ enc m, 0 ≤ y ∧ y < 256 :=
  byte_app (Vi.int_byte _) (byte_app (Vi.int_byte _) (byte_app (Vi.int_byte _) (byte_app (Vi.int_byte _) (byte_app (Vi.int_byte _) (byte_app (Vi.int_byte _) (byte_app (Vi.int_byte _) (byte_app (bit_byte _)
    (byte_app (lst_byte fun x _ => Vi.int_byte x) (byte_app (lst_byte fun x _ => mutB_byte x) (byte_app (lst_byte fun x _ => mutB_byte x) (lst_byte fun x _ => rowOf_byte x)))))))))))
theorem enc_pos (m : MsgD) : 0 < (enc m).length := by
  have := Vi.vi_pos (Vi.zig m.kind)
  rw [enc, List.length_append, Vi.int]
  omega
theorem MsgAt.up {w w' : World} {B B' : Nat} {V : Value} {m : MsgD} {na ma pa ra : Option Addr} {nn nc mn mc pn pc rn rc : Nat} (h : MsgAt w B V m na ma pa ra nn nc mn mc pn pc rn rc) (hb : Below B w w') (hB : B ≤ B') : MsgAt w' B' V m na ma pa ra nn nc mn mc pn pc rn rc := by
  obtain ⟨rfl, hk0, hk1, hk2, hk3, hk4, hk5, hk6, hnodes, hmuts, hpre, hrows, hln, hlm, hlp, hlr⟩ := h.below hb
  refine ⟨rfl, hk0, hk1, hk2, hk3, hk4, hk5, hk6, ⟨hnodes.1, hnodes.2.imp_right ?_⟩, ⟨hmuts.1, hmuts.2.imp_right ?_⟩, ⟨hpre.1, hpre.2.imp_right ?_⟩, ⟨hrows.1, hrows.2.imp_right ?_⟩, hln, hlm, hlp, hlr⟩
  all_goals
    rintro ⟨b, off, h1, h2, h3⟩
    exact ⟨b, off, h1, by omega, h3⟩
theorem enc_no {V : Value} {m : MsgD} {na ma pa ra : Option Addr} {nn nc mn mc pn pc rn rc : Nat} {w : World} (hm : MsgAt w w.heap.size V m na ma pa ra nn nc mn mc pn pc rn rc) (h : ¬ (m.ok ∧ (enc m).length ≤ 16384)) :
    Calls Try.prog 15 #[V] w (EncNo w) := by
  by_cases ok : m.ok
  · exact encode_big V m na ma pa ra nn nc mn mc pn pc rn rc w hm ok (by rcases Nat.lt_or_ge 16384 (enc m).length with h1 | h1; exact h1; exact absurd ⟨ok, h1⟩ h)
  · exact encode_long V m na ma pa ra nn nc mn mc pn pc rn rc w hm ok
theorem take_map_u8 (xs : List Int) (k : Nat) : (xs.map (Value.int .u8)).take k = (xs.take k).map (Value.int .u8) := by rw [List.map_take]
/-- Decode of bytes of the call's own. -/
theorem decode_own {w : World} {base k c : Nat} {a : Option Addr} {xs : List Int} (h : w.ownsRow base 5 1 (.slice a k c) k (xs.map (Value.int .u8))) (hb : ∀ x ∈ xs, 0 ≤ x ∧ x < 256) :
    Calls Try.prog 17 #[.slice a k c] w (DDone w (dec xs)) := by
  have hl : xs.length = k := by have := h.1; simpa using this
  by_cases hk : 16384 < k
  · exact decode_long a k c w xs hl hk
  · exact decode_short a k c w xs hl hk (owned_lies h hb)

set_option maxRecDepth 100000 in
set_option maxHeartbeats 2000000 in
theorem cuts_walk (V : Value) (m : MsgD) (less : Int) (a : Option Addr) (n c : Nat) (ys : List Int) (w : World) (hm : MsgIn w V m) (hless : -9223372036854775808 ≤ less ∧ less ≤ 9223372036854775807) (hy : IsB w a n ys) (hnil : a = none → n = 0 ∧ c = 0) (hn : n ≤ 1048576) :
    Calls Try.prog 6 #[V, .int .i64 less, .slice a n c] w fun e w' => e = .returned (.bool true) ∧ Below w.heap.size w w' := by
  obtain ⟨na, ma, pa, ra, nn, nc, mn, mc, pn, pc, rn, rc, hm⟩ := hm
  obtain ⟨i0, hi, hz0, hz1, hz2⟩ := info_parts Try.infoB
  have hv := hm.val
  subst hv
  have HM := Lib.hid hm
  have HY := Lib.hid hy
  have HNIL := Lib.hid hnil
  have HLN := Lib.hid (show (ys.map (Value.int .u8)).length = n * 1 by simpa using hy.1)
  clear hm hy hnil
  go_enter Try.func6, Try.ntmps6
  go_wp2_with fail
  refine (awake_any _).mono ?_
  rintro e w1 ⟨rfl, hb1⟩
  have hw1 : Whole w1 w.heap.size 37 #[.int .i64 m.kind, .int .i64 m.from_, .int .i64 m.«to», .int .i64 m.id, .int .i64 m.rev, .int .i64 m.epoch, .int .i64 m.slot, .bool m.flag, .slice na nn nc, .slice ma mn mc, .slice pa pn pc, .slice ra rn rc] := (show Whole (w.alloc (.cells #[.int .i64 m.kind, .int .i64 m.from_, .int .i64 m.«to», .int .i64 m.id, .int .i64 m.rev, .int .i64 m.epoch, .int .i64 m.slot, .bool m.flag, .slice na nn nc, .slice ma mn mc, .slice pa pn pc, .slice ra rn rc] 37)) w.heap.size 37 #[.int .i64 m.kind, .int .i64 m.from_, .int .i64 m.«to», .int .i64 m.id, .int .i64 m.rev, .int .i64 m.epoch, .int .i64 m.slot, .bool m.flag, .slice na nn nc, .slice ma mn mc, .slice pa pn pc, .slice ra rn rc] from heap_alloc_new w _).kept (hb1.block _ (by simp))
  have k0 : w1.cell? ⟨w.heap.size, 0, none⟩ = some (.int .i64 m.kind) := by rw [hw1.cell]; rfl
  have k1 : w1.cell? ⟨w.heap.size, 1, none⟩ = some (.int .i64 m.from_) := by rw [hw1.cell]; rfl
  have k2 : w1.cell? ⟨w.heap.size, 2, none⟩ = some (.int .i64 m.«to») := by rw [hw1.cell]; rfl
  have k3 : w1.cell? ⟨w.heap.size, 3, none⟩ = some (.int .i64 m.id) := by rw [hw1.cell]; rfl
  have k4 : w1.cell? ⟨w.heap.size, 4, none⟩ = some (.int .i64 m.rev) := by rw [hw1.cell]; rfl
  have k5 : w1.cell? ⟨w.heap.size, 5, none⟩ = some (.int .i64 m.epoch) := by rw [hw1.cell]; rfl
  have k6 : w1.cell? ⟨w.heap.size, 6, none⟩ = some (.int .i64 m.slot) := by rw [hw1.cell]; rfl
  have k7 : w1.cell? ⟨w.heap.size, 7, none⟩ = some (.bool m.flag) := by rw [hw1.cell]; rfl
  have k8 : w1.cell? ⟨w.heap.size, 8, none⟩ = some (.slice na nn nc) := by rw [hw1.cell]; rfl
  have k9 : w1.cell? ⟨w.heap.size, 9, none⟩ = some (.slice ma mn mc) := by rw [hw1.cell]; rfl
  have k10 : w1.cell? ⟨w.heap.size, 10, none⟩ = some (.slice pa pn pc) := by rw [hw1.cell]; rfl
  have k11 : w1.cell? ⟨w.heap.size, 11, none⟩ = some (.slice ra rn rc) := by rw [hw1.cell]; rfl
  have HB1 := Lib.hid ((below_alloc w _).trans (hb1.mono (by simp)))
  have HM1 := Lib.hid (HM.out.up HB1.out HB1.out.size)
  clear hb1 hw1
  by_cases hok : m.ok ∧ (enc m).length ≤ 16384
  rotate_left
  · have HE := Lib.hid (enc_no HM1.out hok)
    clear hok
    go_wp2_with fail
    refine HE.out.mono ?_
    rintro e w2 ⟨rfl, hb2⟩
    have HB2 := Lib.hid (HB1.out.trans (hb2.mono HB1.out.size))
    clear hb2
    go_wp2
    go_ret
    exact ⟨rfl, HB2.out⟩
  have HE := Lib.hid (encode_fits _ m na ma pa ra nn nc mn mc pn pc rn rc w1 HM1.out hok.1 hok.2)
  have hpos := enc_pos m
  have hN := hok.2
  have hin := HM.out.in64
  have HD0 := Lib.hid (dec_enc hok.1 hin hok.2)
  have HDC := Lib.hid (fun q h1 h2 => dec_cut hok.1 hin hok.2 (q := q) h1 h2)
  have HDM := Lib.hid (fun l h1 h2 => dec_more hok.1 hin (l := l) h1 h2)
  have HBY := Lib.hid (enc_byte m)
  clear hok hin
  generalize enc m = xs at *
  obtain ⟨N, hNN⟩ : ∃ N, N = xs.length := ⟨_, rfl⟩
  have HNN := Lib.hid hNN
  rw [← hNN] at hpos hN
  clear hNN
  go_wp2_with fail
  refine HE.out.mono ?_
  rintro e w2 ⟨v', rfl, hown, hb2⟩
  rw [← HNN.out] at hown
  obtain ⟨g, cap, rfl, hcap, hcm⟩ := owns_shape hown hpos
  have hown2 := owns_lower hown HB1.out.size
  have HO2 := Lib.hid hown2
  have HB2 := Lib.hid (HB1.out.trans (hb2.mono HB1.out.size))
  have HY2 := Lib.hid (HY.out.below HB2.out)
  unfold maxLen at hcm
  clear hown hb2 hown2 HE HM HM1 k0 k1 k2 k3 k4 k5 k6 k7 k8 k9 k10 k11
  by_cases hcut : 0 < less ∧ less ≤ (N : Int)
  · obtain ⟨h1, h2⟩ := hcut
    obtain ⟨l, rfl⟩ : ∃ l : Nat, less = (l : Int) := ⟨less.toNat, by omega⟩
    have hs : ∀ w, (Instr.slice 22 (.slice (some ⟨g, 0, none⟩) N cap) none (some (.int .i64 ((N : Int) - (l : Int)))) none).run Try.prog w = .ok (.slice (some ⟨g, 0, none⟩) (N - l) cap) w := by
      intro w
      have := slice_head (some ⟨g, 0, none⟩) N cap (N - l) (by omega) w
      rwa [show ((N - l : Nat) : Int) = (N : Int) - (l : Int) by omega] at this
    have hot := owns_head HO2.out (show N - l ≤ N by omega)
    rw [take_map_u8] at hot
    have hdt := decode_own hot (fun x hx => HBY.out x (List.mem_of_mem_take hx))
    rw [HDC.out (xs.take (N - l)) (List.take_prefix _ _) (by intro h; have := congrArg List.length h; rw [List.length_take, ← HNN.out] at this; omega)] at hdt
    have HDT := Lib.hid hdt
    clear hot hdt
    go_wp2_with fail
    refine HDT.out.mono ?_
    rintro e w3 (⟨mr, v8, v9, v10, v11, hm, _, _, _⟩ | ⟨cd, hm, rfl, hb3⟩)
    · cases hm
    injection hm with hm
    subst hm
    have hal := below_alloc w3 (.cells MsgZ 37)
    have HOW := Lib.hid (owns_below (owns_below HO2.out hb3) hal)
    have hbw := (HB2.out.trans (hb3.mono HB2.out.size))
    have HBW := Lib.hid (hbw.trans (hal.mono hbw.size))
    have HYW := Lib.hid (HY.out.below HBW.out)
    clear hb3 hal hbw hs
    have hsz := HBW.out.size
    have hmade := World.ownsRow_made (base := w.heap.size) (e := 5) (size := 1) (w3.alloc (.cells MsgZ 37)) #[] 0 hsz (by simp [maxLen]) rfl
    rw [show (w3.alloc (.cells MsgZ 37)).heap.size = w3.heap.size + 1 by simp] at hmade
    have hga := below_alloc (w3.alloc (.cells MsgZ 37)) (.cells #[] 5)
    have HO3 := Lib.hid (owns_below HOW.out hga)
    have HY3 := Lib.hid (HYW.out.below ((hga).mono (Nat.le_refl _)))
    have HB3 := Lib.hid (HBW.out.trans (hga.mono hsz))
    have HM3 := Lib.hid hmade
    have HLX := Lib.hid (show (xs.map (Value.int .u8)).length = N * 1 by rw [List.length_map, HNN.out]; omega)
    have HNX := Lib.hid (show ∀ ad, (some (⟨g, 0, none⟩ : Addr)) = some ad → ∀ j u, (xs.map (Value.int .u8))[j]? = some u → _ from (IsB.owned HO3.out HBY.out).news)
    clear hmade hga
    go_wp2_with (first
      | (at_builtin; refine wpList_append_own_any _ rfl (.tmp 45) (.tmp 46) 22 rfl w.heap.size 5 i0 (.int .u8 0) 1 1 Try.underlying22 hi hz0 hz1 hz2 rfl (by decide) _ 0 [] rfl HM3.out (some ⟨g, 0, none⟩) N cap (xs.map (Value.int .u8)) rfl HLX.out (by intro h; cases h) HNX.out (oneCell_map xs) (by unfold maxLen; omega) (by omega) (Nat.le_trans hsz (below_alloc _ _).size) ?_; intro v4 w4 hown4 hgrow4; rw [Nat.zero_add, List.nil_append] at hown4; have hb4 : Below w.heap.size w w4 := HB3.out.grown hgrow4 HB3.out.size (fun k hk => (HM3.out.lt k hk).1); have HY4 := Lib.hid (HY.out.below hb4); have HNY := Lib.hid HY4.out.news; have HB4 := Lib.hid hb4; have HO4 := Lib.hid hown4; obtain ⟨a4, c4, rfl, _, _⟩ := owned_any hown4; have hs4 := hb4.size; clear hown4 hgrow4 hb4)
      | (at_builtin; refine wpList_append_own_any _ rfl (.tmp 47) (.tmp 48) 22 rfl w.heap.size 5 i0 (.int .u8 0) 1 1 Try.underlying22 hi hz0 hz1 hz2 rfl (by decide) _ N _ rfl HO4.out a n c (ys.map (Value.int .u8)) rfl HLN.out HNIL.out HNY.out (oneCell_map ys) (by unfold maxLen; omega) (by omega) hs4 ?_; intro v5 w5 hown5 hgrow5; have hb5 : Below w.heap.size w w5 := HB4.out.grown hgrow5 HB4.out.size (fun k hk => (HO4.out.lt k hk).1); have HB5 := Lib.hid hb5; rw [← List.map_append] at hown5; have HO5 := Lib.hid hown5; obtain ⟨a5, c5, rfl, _, _⟩ := owned_any hown5; clear hown5 hgrow5 hb5))
    have hby := byte_app HBY.out (HY.out.2.1)
    refine (decode_own HO5.out hby).mono ?_
    clear hby
    have hlen : (xs ++ ys).length = N + n := by rw [List.length_append, HNN.out, HY.out.1]
    rintro e w6 hD
    have hres : ∃ A f, e = .returned (.tuple #[.agg A, .int .i64 f]) ∧ (∃ c0 c1 c2 c3 c4 c5 c6 c7 c8 c9 c10 c11, A = #[.int .i64 c0, .int .i64 c1, .int .i64 c2, .int .i64 c3, .int .i64 c4, .int .i64 c5, .int .i64 c6, .bool c7, c8, c9, c10, c11] ∧ (∃ p q r, c8 = .slice p q r) ∧ (∃ p q r, c9 = .slice p q r) ∧ (∃ p q r, c10 = .slice p q r) ∧ (∃ p q r, c11 = .slice p q r)) ∧ Below w5.heap.size w5 w6 ∧ ((n = 0 ∧ f = 0) ∨ (n ≠ 0 ∧ 16384 < N + n ∧ f = 2) ∨ (n ≠ 0 ∧ ¬ 16384 < N + n ∧ f = 21)) := by
      by_cases hn0 : n = 0
      · have hy0 : ys = [] := List.eq_nil_of_length_eq_zero (by rw [HY.out.1]; exact hn0)
        rw [hy0, List.append_nil, HD0.out] at hD
        rcases hD with ⟨mr, v8, v9, v10, v11, hm, rfl, hO, hb⟩ | ⟨cd, hm, _, _⟩
        · refine ⟨_, 0, rfl, ⟨_, _, _, _, _, _, _, _, _, _, _, _, rfl, ?_, ?_, ?_, ?_⟩, hb, .inl ⟨hn0, rfl⟩⟩
          · obtain ⟨p, q, h, _, _⟩ := owned_any hO.nodes; exact ⟨_, _, _, h⟩
          · obtain ⟨p, q, h, _, _⟩ := owned_some hO.muts; exact ⟨_, _, _, h⟩
          · obtain ⟨p, q, h, _, _⟩ := owned_some hO.pre; exact ⟨_, _, _, h⟩
          · obtain ⟨p, q, h, _, _⟩ := owned_some hO.rows; exact ⟨_, _, _, h⟩
        · cases hm
      · have hyne : ys ≠ [] := by rintro rfl; exact hn0 (by have := HY.out.1; simpa using this.symm)
        have hz : ∀ v : Value, v = .slice none 0 0 → ∃ p q r, v = .slice p q r := fun v h => ⟨_, _, _, h⟩
        by_cases hbig : 16384 < N + n
        · rw [dec_big (by rw [hlen]; exact hbig)] at hD
          rcases hD with ⟨mr, v8, v9, v10, v11, hm, _, _, _⟩ | ⟨cd, hm, rfl, hb⟩
          · cases hm
          · injection hm with hm; subst hm; exact ⟨_, 2, rfl, ⟨_, _, _, _, _, _, _, _, _, _, _, _, rfl, hz _ rfl, hz _ rfl, hz _ rfl, hz _ rfl⟩, hb, .inr (.inl ⟨hn0, hbig, rfl⟩)⟩
        · rw [HDM.out ys (by rw [hlen]; omega) hyne] at hD
          rcases hD with ⟨mr, v8, v9, v10, v11, hm, _, _, _⟩ | ⟨cd, hm, rfl, hb⟩
          · cases hm
          · injection hm with hm; subst hm; exact ⟨_, 21, rfl, ⟨_, _, _, _, _, _, _, _, _, _, _, _, rfl, hz _ rfl, hz _ rfl, hz _ rfl, hz _ rfl⟩, hb, .inr (.inr ⟨hn0, hbig, rfl⟩)⟩
    clear hD
    obtain ⟨_, f, rfl, ⟨c0, c1, c2, c3, c4, c5, c6, c7, _, _, _, _, rfl, ⟨p8, q8, r8, rfl⟩, ⟨p9, q9, r9, rfl⟩, ⟨p10, q10, r10, rfl⟩, ⟨p11, q11, r11, rfl⟩⟩, hb6, hcase⟩ := hres
    have HB6 := Lib.hid (HB5.out.trans (hb6.mono HB5.out.size))
    clear hb6 hlen
    rcases hcase with ⟨hn0, rfl⟩ | ⟨hn0, hbig, rfl⟩ | ⟨hn0, hbig, rfl⟩
    · go_wp2
      go_ret
      exact ⟨rfl, HB6.out.trans ((below_alloc w6 _).mono HB6.out.size)⟩
    · go_wp2
      go_ret
      exact ⟨rfl, HB6.out.trans ((below_alloc w6 _).mono HB6.out.size)⟩
    · go_wp2
      go_ret
      exact ⟨rfl, HB6.out.trans ((below_alloc w6 _).mono HB6.out.size)⟩
  · have hc2 : less ≤ 0 ∨ (0 < less ∧ (N : Int) < less) := by omega
    rcases hc2 with hc2 | ⟨hc2, hc3⟩
    · have hsz := HB2.out.size
      have hmade := World.ownsRow_made (base := w.heap.size) (e := 5) (size := 1) w2 #[] 0 hsz (by simp [maxLen]) rfl
      have hga := below_alloc w2 (.cells #[] 5)
      have HO3 := Lib.hid (owns_below HO2.out hga)
      have HY3 := Lib.hid (HY2.out.below ((hga).mono (Nat.le_refl _)))
      have HB3 := Lib.hid (HB2.out.trans (hga.mono hsz))
      have HM3 := Lib.hid hmade
      have HLX := Lib.hid (show (xs.map (Value.int .u8)).length = N * 1 by rw [List.length_map, HNN.out]; omega)
      have HNX := Lib.hid (show ∀ ad, (some (⟨g, 0, none⟩ : Addr)) = some ad → ∀ j u, (xs.map (Value.int .u8))[j]? = some u → _ from (IsB.owned HO3.out HBY.out).news)
      clear hmade hga
      go_wp2_with (first
        | (at_builtin; refine wpList_append_own_any _ rfl (.tmp 45) (.tmp 46) 22 rfl w.heap.size 5 i0 (.int .u8 0) 1 1 Try.underlying22 hi hz0 hz1 hz2 rfl (by decide) _ 0 [] rfl HM3.out (some ⟨g, 0, none⟩) N cap (xs.map (Value.int .u8)) rfl HLX.out (by intro h; cases h) HNX.out (oneCell_map xs) (by unfold maxLen; omega) (by omega) (Nat.le_trans hsz (below_alloc _ _).size) ?_; intro v4 w4 hown4 hgrow4; rw [Nat.zero_add, List.nil_append] at hown4; have hb4 : Below w.heap.size w w4 := HB3.out.grown hgrow4 HB3.out.size (fun k hk => (HM3.out.lt k hk).1); have HY4 := Lib.hid (HY.out.below hb4); have HNY := Lib.hid HY4.out.news; have HB4 := Lib.hid hb4; have HO4 := Lib.hid hown4; obtain ⟨a4, c4, rfl, _, _⟩ := owned_any hown4; have hs4 := hb4.size; clear hown4 hgrow4 hb4)
        | (at_builtin; refine wpList_append_own_any _ rfl (.tmp 47) (.tmp 48) 22 rfl w.heap.size 5 i0 (.int .u8 0) 1 1 Try.underlying22 hi hz0 hz1 hz2 rfl (by decide) _ N _ rfl HO4.out a n c (ys.map (Value.int .u8)) rfl HLN.out HNIL.out HNY.out (oneCell_map ys) (by unfold maxLen; omega) (by omega) hs4 ?_; intro v5 w5 hown5 hgrow5; have hb5 : Below w.heap.size w w5 := HB4.out.grown hgrow5 HB4.out.size (fun k hk => (HO4.out.lt k hk).1); have HB5 := Lib.hid hb5; rw [← List.map_append] at hown5; have HO5 := Lib.hid hown5; obtain ⟨a5, c5, rfl, _, _⟩ := owned_any hown5; clear hown5 hgrow5 hb5))
      have hby := byte_app HBY.out (HY.out.2.1)
      refine (decode_own HO5.out hby).mono ?_
      clear hby
      have hlen : (xs ++ ys).length = N + n := by rw [List.length_append, HNN.out, HY.out.1]
      rintro e w6 hD
      have hres : ∃ A f, e = .returned (.tuple #[.agg A, .int .i64 f]) ∧ (∃ c0 c1 c2 c3 c4 c5 c6 c7 c8 c9 c10 c11, A = #[.int .i64 c0, .int .i64 c1, .int .i64 c2, .int .i64 c3, .int .i64 c4, .int .i64 c5, .int .i64 c6, .bool c7, c8, c9, c10, c11] ∧ (∃ p q r, c8 = .slice p q r) ∧ (∃ p q r, c9 = .slice p q r) ∧ (∃ p q r, c10 = .slice p q r) ∧ (∃ p q r, c11 = .slice p q r)) ∧ Below w5.heap.size w5 w6 ∧ ((n = 0 ∧ f = 0) ∨ (n ≠ 0 ∧ 16384 < N + n ∧ f = 2) ∨ (n ≠ 0 ∧ ¬ 16384 < N + n ∧ f = 21)) := by
        by_cases hn0 : n = 0
        · have hy0 : ys = [] := List.eq_nil_of_length_eq_zero (by rw [HY.out.1]; exact hn0)
          rw [hy0, List.append_nil, HD0.out] at hD
          rcases hD with ⟨mr, v8, v9, v10, v11, hm, rfl, hO, hb⟩ | ⟨cd, hm, _, _⟩
          · refine ⟨_, 0, rfl, ⟨_, _, _, _, _, _, _, _, _, _, _, _, rfl, ?_, ?_, ?_, ?_⟩, hb, .inl ⟨hn0, rfl⟩⟩
            · obtain ⟨p, q, h, _, _⟩ := owned_any hO.nodes; exact ⟨_, _, _, h⟩
            · obtain ⟨p, q, h, _, _⟩ := owned_some hO.muts; exact ⟨_, _, _, h⟩
            · obtain ⟨p, q, h, _, _⟩ := owned_some hO.pre; exact ⟨_, _, _, h⟩
            · obtain ⟨p, q, h, _, _⟩ := owned_some hO.rows; exact ⟨_, _, _, h⟩
          · cases hm
        · have hyne : ys ≠ [] := by rintro rfl; exact hn0 (by have := HY.out.1; simpa using this.symm)
          have hz : ∀ v : Value, v = .slice none 0 0 → ∃ p q r, v = .slice p q r := fun v h => ⟨_, _, _, h⟩
          by_cases hbig : 16384 < N + n
          · rw [dec_big (by rw [hlen]; exact hbig)] at hD
            rcases hD with ⟨mr, v8, v9, v10, v11, hm, _, _, _⟩ | ⟨cd, hm, rfl, hb⟩
            · cases hm
            · injection hm with hm; subst hm; exact ⟨_, 2, rfl, ⟨_, _, _, _, _, _, _, _, _, _, _, _, rfl, hz _ rfl, hz _ rfl, hz _ rfl, hz _ rfl⟩, hb, .inr (.inl ⟨hn0, hbig, rfl⟩)⟩
          · rw [HDM.out ys (by rw [hlen]; omega) hyne] at hD
            rcases hD with ⟨mr, v8, v9, v10, v11, hm, _, _, _⟩ | ⟨cd, hm, rfl, hb⟩
            · cases hm
            · injection hm with hm; subst hm; exact ⟨_, 21, rfl, ⟨_, _, _, _, _, _, _, _, _, _, _, _, rfl, hz _ rfl, hz _ rfl, hz _ rfl, hz _ rfl⟩, hb, .inr (.inr ⟨hn0, hbig, rfl⟩)⟩
      clear hD
      obtain ⟨_, f, rfl, ⟨c0, c1, c2, c3, c4, c5, c6, c7, _, _, _, _, rfl, ⟨p8, q8, r8, rfl⟩, ⟨p9, q9, r9, rfl⟩, ⟨p10, q10, r10, rfl⟩, ⟨p11, q11, r11, rfl⟩⟩, hb6, hcase⟩ := hres
      have HB6 := Lib.hid (HB5.out.trans (hb6.mono HB5.out.size))
      clear hb6 hlen
      rcases hcase with ⟨hn0, rfl⟩ | ⟨hn0, hbig, rfl⟩ | ⟨hn0, hbig, rfl⟩
      · go_wp2
        go_ret
        exact ⟨rfl, HB6.out.trans ((below_alloc w6 _).mono HB6.out.size)⟩
      · go_wp2
        go_ret
        exact ⟨rfl, HB6.out.trans ((below_alloc w6 _).mono HB6.out.size)⟩
      · go_wp2
        go_ret
        exact ⟨rfl, HB6.out.trans ((below_alloc w6 _).mono HB6.out.size)⟩
    · have hsz := HB2.out.size
      have hmade := World.ownsRow_made (base := w.heap.size) (e := 5) (size := 1) w2 #[] 0 hsz (by simp [maxLen]) rfl
      have hga := below_alloc w2 (.cells #[] 5)
      have HO3 := Lib.hid (owns_below HO2.out hga)
      have HY3 := Lib.hid (HY2.out.below ((hga).mono (Nat.le_refl _)))
      have HB3 := Lib.hid (HB2.out.trans (hga.mono hsz))
      have HM3 := Lib.hid hmade
      have HLX := Lib.hid (show (xs.map (Value.int .u8)).length = N * 1 by rw [List.length_map, HNN.out]; omega)
      have HNX := Lib.hid (show ∀ ad, (some (⟨g, 0, none⟩ : Addr)) = some ad → ∀ j u, (xs.map (Value.int .u8))[j]? = some u → _ from (IsB.owned HO3.out HBY.out).news)
      clear hmade hga
      go_wp2_with (first
        | (at_builtin; refine wpList_append_own_any _ rfl (.tmp 45) (.tmp 46) 22 rfl w.heap.size 5 i0 (.int .u8 0) 1 1 Try.underlying22 hi hz0 hz1 hz2 rfl (by decide) _ 0 [] rfl HM3.out (some ⟨g, 0, none⟩) N cap (xs.map (Value.int .u8)) rfl HLX.out (by intro h; cases h) HNX.out (oneCell_map xs) (by unfold maxLen; omega) (by omega) (Nat.le_trans hsz (below_alloc _ _).size) ?_; intro v4 w4 hown4 hgrow4; rw [Nat.zero_add, List.nil_append] at hown4; have hb4 : Below w.heap.size w w4 := HB3.out.grown hgrow4 HB3.out.size (fun k hk => (HM3.out.lt k hk).1); have HY4 := Lib.hid (HY.out.below hb4); have HNY := Lib.hid HY4.out.news; have HB4 := Lib.hid hb4; have HO4 := Lib.hid hown4; obtain ⟨a4, c4, rfl, _, _⟩ := owned_any hown4; have hs4 := hb4.size; clear hown4 hgrow4 hb4)
        | (at_builtin; refine wpList_append_own_any _ rfl (.tmp 47) (.tmp 48) 22 rfl w.heap.size 5 i0 (.int .u8 0) 1 1 Try.underlying22 hi hz0 hz1 hz2 rfl (by decide) _ N _ rfl HO4.out a n c (ys.map (Value.int .u8)) rfl HLN.out HNIL.out HNY.out (oneCell_map ys) (by unfold maxLen; omega) (by omega) hs4 ?_; intro v5 w5 hown5 hgrow5; have hb5 : Below w.heap.size w w5 := HB4.out.grown hgrow5 HB4.out.size (fun k hk => (HO4.out.lt k hk).1); have HB5 := Lib.hid hb5; rw [← List.map_append] at hown5; have HO5 := Lib.hid hown5; obtain ⟨a5, c5, rfl, _, _⟩ := owned_any hown5; clear hown5 hgrow5 hb5))
      have hby := byte_app HBY.out (HY.out.2.1)
      refine (decode_own HO5.out hby).mono ?_
      clear hby
      have hlen : (xs ++ ys).length = N + n := by rw [List.length_append, HNN.out, HY.out.1]
      rintro e w6 hD
      have hres : ∃ A f, e = .returned (.tuple #[.agg A, .int .i64 f]) ∧ (∃ c0 c1 c2 c3 c4 c5 c6 c7 c8 c9 c10 c11, A = #[.int .i64 c0, .int .i64 c1, .int .i64 c2, .int .i64 c3, .int .i64 c4, .int .i64 c5, .int .i64 c6, .bool c7, c8, c9, c10, c11] ∧ (∃ p q r, c8 = .slice p q r) ∧ (∃ p q r, c9 = .slice p q r) ∧ (∃ p q r, c10 = .slice p q r) ∧ (∃ p q r, c11 = .slice p q r)) ∧ Below w5.heap.size w5 w6 ∧ ((n = 0 ∧ f = 0) ∨ (n ≠ 0 ∧ 16384 < N + n ∧ f = 2) ∨ (n ≠ 0 ∧ ¬ 16384 < N + n ∧ f = 21)) := by
        by_cases hn0 : n = 0
        · have hy0 : ys = [] := List.eq_nil_of_length_eq_zero (by rw [HY.out.1]; exact hn0)
          rw [hy0, List.append_nil, HD0.out] at hD
          rcases hD with ⟨mr, v8, v9, v10, v11, hm, rfl, hO, hb⟩ | ⟨cd, hm, _, _⟩
          · refine ⟨_, 0, rfl, ⟨_, _, _, _, _, _, _, _, _, _, _, _, rfl, ?_, ?_, ?_, ?_⟩, hb, .inl ⟨hn0, rfl⟩⟩
            · obtain ⟨p, q, h, _, _⟩ := owned_any hO.nodes; exact ⟨_, _, _, h⟩
            · obtain ⟨p, q, h, _, _⟩ := owned_some hO.muts; exact ⟨_, _, _, h⟩
            · obtain ⟨p, q, h, _, _⟩ := owned_some hO.pre; exact ⟨_, _, _, h⟩
            · obtain ⟨p, q, h, _, _⟩ := owned_some hO.rows; exact ⟨_, _, _, h⟩
          · cases hm
        · have hyne : ys ≠ [] := by rintro rfl; exact hn0 (by have := HY.out.1; simpa using this.symm)
          have hz : ∀ v : Value, v = .slice none 0 0 → ∃ p q r, v = .slice p q r := fun v h => ⟨_, _, _, h⟩
          by_cases hbig : 16384 < N + n
          · rw [dec_big (by rw [hlen]; exact hbig)] at hD
            rcases hD with ⟨mr, v8, v9, v10, v11, hm, _, _, _⟩ | ⟨cd, hm, rfl, hb⟩
            · cases hm
            · injection hm with hm; subst hm; exact ⟨_, 2, rfl, ⟨_, _, _, _, _, _, _, _, _, _, _, _, rfl, hz _ rfl, hz _ rfl, hz _ rfl, hz _ rfl⟩, hb, .inr (.inl ⟨hn0, hbig, rfl⟩)⟩
          · rw [HDM.out ys (by rw [hlen]; omega) hyne] at hD
            rcases hD with ⟨mr, v8, v9, v10, v11, hm, _, _, _⟩ | ⟨cd, hm, rfl, hb⟩
            · cases hm
            · injection hm with hm; subst hm; exact ⟨_, 21, rfl, ⟨_, _, _, _, _, _, _, _, _, _, _, _, rfl, hz _ rfl, hz _ rfl, hz _ rfl, hz _ rfl⟩, hb, .inr (.inr ⟨hn0, hbig, rfl⟩)⟩
      clear hD
      obtain ⟨_, f, rfl, ⟨c0, c1, c2, c3, c4, c5, c6, c7, _, _, _, _, rfl, ⟨p8, q8, r8, rfl⟩, ⟨p9, q9, r9, rfl⟩, ⟨p10, q10, r10, rfl⟩, ⟨p11, q11, r11, rfl⟩⟩, hb6, hcase⟩ := hres
      have HB6 := Lib.hid (HB5.out.trans (hb6.mono HB5.out.size))
      clear hb6 hlen
      rcases hcase with ⟨hn0, rfl⟩ | ⟨hn0, hbig, rfl⟩ | ⟨hn0, hbig, rfl⟩
      · go_wp2
        go_ret
        exact ⟨rfl, HB6.out.trans ((below_alloc w6 _).mono HB6.out.size)⟩
      · go_wp2
        go_ret
        exact ⟨rfl, HB6.out.trans ((below_alloc w6 _).mono HB6.out.size)⟩
      · go_wp2
        go_ret
        exact ⟨rfl, HB6.out.trans ((below_alloc w6 _).mono HB6.out.size)⟩
end Go.Proofs.Ytbckccgcjmanlaa
