/- QueueTurns: the walk. -/
import Derived.Test.YtaniffofjkklfaaQ7
namespace Go.Proofs.Ytaniffofjkklfaa
open Go.RowKit Go.Conc
open Go.Maps (Keyed)

set_option maxRecDepth 100000 in
set_option maxHeartbeats 4000000 in
theorem turns_bad (s : Int) (a : Option Addr) (n k : Nat) (w : World) (h : s < 1 ∨ 4096 < s) :
    Calls Try.prog 5 #[.int .i64 s, .slice a n k] w fun e w' => e = .returned (.bool true) ∧ Below w.heap.size w w' := by
  have H := Lib.hid h
  clear h
  go_enter Try.func5, Try.ntmps5
  go_wp2_with fail
  refine (awake_any _).mono ?_
  rintro e w1 ⟨rfl, hb⟩
  have HB := Lib.hid hb
  have HN := Lib.hid (QI.new_bad s w1 H.out)
  clear hb
  go_wp2_with fail
  refine HN.out.mono ?_
  rintro e w2 ⟨rfl, rfl⟩
  go_wp2
  go_ret
  exact ⟨rfl, HB.out⟩

theorem row_one (w : World) (g c : Nat) (x : Int) (hg : g < w.heap.size) (hc : c < w.heap.size) : QI.Row (w.alloc (.cells #[.int .i64 x] 3)) g c (some ⟨w.heap.size, 0, none⟩) 1 [x] := by
  refine ⟨rfl, .inr ⟨w.heap.size, 0, rfl, by simp, by omega, by omega, ?_⟩⟩
  intro i y hy
  rw [new_cell, Nat.zero_add]
  match i, hy with
  | 0, hy => injection hy with hy; subst hy; rfl
theorem put_one_room {B g c cap : Nat} {lost : Int} {ps : List Nat} {xs : List Int} (x : Int) (w : World) (h : QI.QAt w B g c cap lost ps xs) (hr : xs.length < cap) :
    Calls Try.prog 20 #[.pointer (some ⟨g, 0, none⟩), .slice (some ⟨w.heap.size, 0, none⟩) 1 1] (w.alloc (.cells #[.int .i64 x] 3)) fun e w' => e = .returned (.int .i64 1) ∧ (∃ ps', QI.QAt w' B g c cap lost ps' (xs ++ [x])) ∧ Turned w w' g (some c) := by
  refine (QI.Put_any _ 1 1 [x] _ _ (h.below (below_alloc _ _)) (row_one w g c x h.blk.lt h.ch.lt) (by omega) rfl).mono ?_
  rintro e w' ⟨rfl, ⟨ps', hq⟩, ht⟩
  refine ⟨by rw [Nat.min_eq_left (by omega)]; rfl, ⟨ps', ?_⟩, (Turned.ofBelow _ _ (below_alloc _ _)).trans ht⟩
  rw [if_pos (by omega), List.take_of_length_le (by simp; omega)] at hq
  exact hq
theorem put_one_full {B g c cap N : Nat} {ps : List Nat} {xs : List Int} (x : Int) (w : World) (h : QI.QAt w B g c cap (N : Int) ps xs) (hr : xs.length = cap) (hN : N ≤ 140737488351232) :
    Calls Try.prog 20 #[.pointer (some ⟨g, 0, none⟩), .slice (some ⟨w.heap.size, 0, none⟩) 1 1] (w.alloc (.cells #[.int .i64 x] 3)) fun e w' => e = .returned (.int .i64 0) ∧ (∃ ps', QI.QAt w' B g c cap ((N + 1 : Nat) : Int) ps' xs) ∧ Turned w w' g (some c) := by
  refine (QI.Put_any _ 1 1 [x] ((N + 1 : Nat) : Int) _ (h.below (below_alloc _ _)) (row_one w g c x h.blk.lt h.ch.lt) (by omega) (by rw [hr, Nat.sub_self, IntWalk.i64_in _ (by omega)]; omega)).mono ?_
  rintro e w' ⟨rfl, ⟨ps', hq⟩, ht⟩
  refine ⟨by rw [hr, Nat.sub_self]; rfl, ⟨ps', ?_⟩, (Turned.ofBelow _ _ (below_alloc _ _)).trans ht⟩
  rw [if_neg (by omega), hr, Nat.sub_self, List.take_zero, List.append_nil] at hq
  exact hq
theorem waits_len {lost : Nat → Bool} {out inn : Nat} : (waits lost out inn).length ≤ inn - out := by
  unfold waits
  rw [List.length_map]
  exact Nat.le_trans (List.length_filter_le _ _) (by simp)
theorem TurnsAt.put {w wr w2 : World} {g c b cap inn out N : Nat} {lost : Nat → Bool} {ps ps' : List Nat} {m : Lit → Option Value} (h : TurnsAt w wr g c b cap inn out lost N ps m) (hq : QI.QAt w2 w.heap.size g c cap (N : Int) ps' (waits lost out inn ++ [(inn : Int)])) (ht : Turned wr w2 g (some c)) :
    TurnsAt w w2 g c b cap (inn + 1) out lost N ps' m :=
  ⟨by rw [waits_put h.le (h.top inn (Nat.le_refl _))]; exact hq, h.map.turned h.q ht, h.bge, Nat.le_succ_of_le h.le, fun i hi => h.top i (by omega), h.has, Turned.up h.bel ht h.q.geg (by rintro k ⟨⟩; exact h.q.gec), Nat.le_succ_of_le h.few⟩
theorem TurnsAt.lose {w wr w2 w3 : World} {g c b cap inn out N : Nat} {lost : Nat → Bool} {ps ps' : List Nat} {m : Lit → Option Value} (h : TurnsAt w wr g c b cap inn out lost N ps m) (hq : QI.QAt w2 w.heap.size g c cap ((N + 1 : Nat) : Int) ps' (waits lost out inn)) (ht : Turned wr w2 g (some c))
    (hin : inn ≤ 9223372036854775807) (hm : MapAt w3 Try.prog 3 b (mset m (.int .i64 (inn : Int)) (some (.bool true))) (if (m (.int .i64 (inn : Int))).isSome then N else N + 1)) (hg : w2.grownBy w3 (some b)) :
    TurnsAt w w3 g c b cap (inn + 1) out (fun i => lost i || i == inn) (N + 1) ps' (mset m (.int .i64 (inn : Int)) (some (.bool true))) := by
  have hm0 : m (.int .i64 (inn : Int)) = none := by rw [h.has, h.top inn (Nat.le_refl _)]; rfl
  rw [hm0] at hm
  have hmap2 := h.map.turned h.q ht
  refine ⟨by rw [waits_lose h.le]; exact hq.mapped hmap2 hg, hm, h.bge, Nat.le_succ_of_le h.le, ?_, ?_, ?_, Nat.succ_le_succ h.few⟩
  · intro i hi
    have := h.top i (by omega)
    simp [this]
    omega
  · intro i
    by_cases hi : i = inn
    · subst hi
      rw [mset_same (Try.keyI.key (key_int _ hin))]
      simp
    · rw [mset_other (by intro e; injection e with _ e; omega), h.has]
      simp [hi]
  · exact (Turned.up h.bel ht h.q.geg (by rintro k ⟨⟩; exact h.q.gec)).grown hg (Nat.le_trans h.bel.size ht.size) (by rintro q ⟨⟩; exact h.bge)
theorem TurnsAt.take {w wr w2 : World} {g c b cap inn out N : Nat} {lost : Nat → Bool} {ps ps' : List Nat} {m : Lit → Option Value} (h : TurnsAt w wr g c b cap inn out lost N ps m) (hlt : out < inn) (hq : QI.QAt w2 w.heap.size g c cap (N : Int) ps' (waits lost (out + 1) inn)) (ht : Turned wr w2 g (some c)) :
    TurnsAt w w2 g c b cap inn (out + 1) lost N ps' m :=
  ⟨hq, h.map.turned h.q ht, h.bge, hlt, h.top, h.has, Turned.up h.bel ht h.q.geg (by rintro k ⟨⟩; exact h.q.gec), h.few⟩
theorem TurnsAt.still {w wr w2 : World} {g c b cap inn out N : Nat} {lost : Nat → Bool} {ps : List Nat} {m : Lit → Option Value} (h : TurnsAt w wr g c b cap inn out lost N ps m) (hb : Below wr.heap.size wr w2) :
    TurnsAt w w2 g c b cap inn out lost N ps m :=
  ⟨h.q.below hb, h.map.below hb, h.bge, h.le, h.top, h.has, h.bel.trans (hb.mono h.bel.size), h.few⟩

set_option maxRecDepth 100000 in
set_option maxHeartbeats 4000000 in
theorem turns_good (s : Nat) (a : Option Addr) (n k : Nat) (l : List Bool) (w : World) (h1 : 1 ≤ s) (h2 : s ≤ 4096) (hl : Bools w a n l) (hn : n ≤ 140737488351232) :
    Calls Try.prog 5 #[.int .i64 (s : Int), .slice a n k] w fun e w' => e = .returned (.bool true) ∧ Below w.heap.size w w' := by
  have HL := Lib.hid hl
  clear hl
  go_enter Try.func5, Try.ntmps5
  go_wp2_with fail
  refine (awake_any _).mono ?_
  rintro e w1 ⟨rfl, hb⟩
  have HB := Lib.hid hb
  have HN := Lib.hid (QI.new_good w.heap.size s w1 h1 h2 hb.size)
  have hle := hb.size
  clear hb
  go_wp2_with fail
  refine HN.out.mono ?_
  rintro e w2 ⟨rfl, hq, hb⟩
  have HQ := Lib.hid hq
  have HB2 := Lib.hid (HB.out.trans (hb.mono hle))
  have hlt := hb.size
  generalize w1.heap.size + 1 = g at *
  generalize w1.heap.size = c at *
  clear hq hb
  have hmk := @run_makeMap Try.prog
  go_wp2_with fail
  have hT0 : TurnsAt w (w2.alloc (.map #[] 0)) g c w2.heap.size s 0 0 (fun _ => false) 0 [] (fun _ => none) :=
    ⟨by simpa [waits] using HQ.out.below (below_alloc _ _), MapAt.made _ _ _, by omega, by omega, fun _ _ => rfl, fun _ => rfl, HB2.out.trans ((below_alloc _ _).mono HB2.out.size), by omega⟩
  have HT0 := Lib.hid hT0
  clear hT0
  generalize w2.heap.size = b at *
  go_wp2_with fail
  go_loopw [7, 8, 28] (fun t7 t8 t28 wr => ∃ (i inn out N : Nat) (lost : Nat → Bool) (ps : List Nat) (m : Lit → Option Value), i ≤ n ∧ inn ≤ i ∧ t28 = .int .i64 i ∧ t7 = .int .i64 inn ∧ t8 = .int .i64 out ∧ TurnsAt w wr g c b s inn out lost N ps m) (fun _ _ t28 _ => n - (intOf t28).toNat)
  case atStart => exact ⟨0, 0, 0, 0, _, _, _, by omega, by omega, rfl, rfl, rfl, HT0.out⟩
  case round =>
    obtain ⟨i, inn, out, N, lost, ps, m, hin, hii, rfl, rfl, rfl, hT⟩ := hrel
    by_cases hil : i < n
    · obtain ⟨b0, off, rfl, hbl, hcell⟩ := HL.out.2.resolve_left (by omega)
      obtain ⟨x, hx⟩ : ∃ x, l[i]? = some x := ⟨_, List.getElem?_eq_getElem (show i < l.length by rw [HL.out.1]; exact hil)⟩
      have cx := (hT.bel.cell (p := ⟨b0, off + i, none⟩) hbl).trans (hcell i x hx)
      have HT := Lib.hid hT
      clear hcell hx hT
      cases x with
      | true =>
        have hwl := Nat.le_trans (waits_len (lost := lost) (out := out) (inn := inn)) (Nat.sub_le _ _)
        by_cases hroom : (waits lost out inn).length < s
        · have HP := Lib.hid (put_one_room (inn : Int) wr HT.out.q hroom)
          clear hroom hwl
          go_wp2_with fail
          refine HP.out.mono ?_
          rintro e w3 ⟨rfl, ⟨ps', hq⟩, ht⟩
          have HT3 := Lib.hid (HT.out.put hq ht)
          clear hq ht cx
          go_wp2
          go_roundw
          case rel => exact ⟨i + 1, inn + 1, out, N, lost, ps', m, by omega, by omega, by go_num, by go_num, rfl, HT3.out⟩
          case measure => simp [intOf]; omega
        · have hfull : (waits lost out inn).length = s := by have := HT.out.q.room; omega
          have hfew := HT.out.few
          have HP := Lib.hid (put_one_full (inn : Int) wr HT.out.q hfull (by omega))
          have HF := Lib.hid hfull
          clear hroom hfull hwl
          go_wp2_with fail
          refine HP.out.mono ?_
          rintro e w3 ⟨rfl, ⟨ps', hq⟩, ht⟩
          have HM := Lib.hid (HT.out.map.turned HT.out.q ht)
          have HQ3 := Lib.hid hq
          have HT3 := Lib.hid ht
          clear hq ht cx
          go_wp2_with (at_mapUpdate; refine wpList_store_map _ rfl _ _ _ 60 rfl 3 4 Try.keyI Try.underlying60 _ (Try.zeroB _) b N m rfl HM.out (by unfold maxLen; omega) _ _ (.int .i64 (inn : Int)) rfl rfl (key_int inn (by omega)) ?_; intro w4 hm4 hg4 hs4)
          have hT4 := HT.out.lose HQ3.out HT3.out (by omega) hm4 hg4
          have HLE := Lib.hid (QI.len_any w4 (HQ3.out.mapped HM.out hg4))
          rw [HF.out] at HLE
          have HT4 := Lib.hid hT4
          clear hm4 hg4 hs4 hT4
          go_wp2_with fail
          refine HLE.out.mono ?_
          rintro e w5 ⟨rfl, rfl⟩
          go_wp2
          go_roundw
          case rel => exact ⟨i + 1, inn + 1, out, N + 1, _, ps', _, by omega, by omega, by go_num, by go_num, rfl, HT4.out⟩
          case measure => simp [intOf]; omega
      | false =>
        go_wp2_with fail
        go_loop [8] (fun t8 => ∃ out, t8 = .int .i64 (out : Nat) ∧ TurnsAt w wr g c b s inn out lost N ps m) (fun t8 => inn - (intOf t8).toNat)
        case atStart => exact ⟨out, rfl, HT.out⟩
        case round =>
          obtain ⟨out, rfl, hT⟩ := hrel
          have hle := hT.le
          have hlk := hT.map.look Try.keyI Try.underlying60 (Try.zeroB wr) false (key_int out (by omega))
          rw [hT.has] at hlk
          cases hlo : lost out with
          | true =>
            rw [hlo] at hlk
            have hsk := hT.skip hlo
            have hlt := hsk.2
            have HS := Lib.hid hsk.1
            simp only [if_true, Option.getD_some, Bool.false_eq_true, if_false] at hlk
            clear hsk hT hlo
            go_wp2
            go_round
            case rel => exact ⟨out + 1, by go_num, HS.out⟩
            case measure => simp [intOf]; omega
          | false =>
            rw [hlo] at hlk
            have HLO := Lib.hid hlo
            simp only [Option.getD_none, Bool.false_eq_true, if_false] at hlk
            have HT2 := Lib.hid hT
            clear hT hlo
            by_cases hlt : out < inn
            · have hq := HT2.out.q
              rw [waits_take hlt HLO.out] at hq
              obtain ⟨p, ps', rfl⟩ : ∃ p q', ps = p :: q' := by
                have h1 := hq.th.len
                cases ps with
                | nil => simp at h1
                | cons p q' => exact ⟨p, q', rfl⟩
              have HTK := Lib.hid (QI.Take_some wr hq)
              clear hq
              go_wp2_with fail
              refine HTK.out.mono ?_
              rintro e w3 ⟨rfl, hq, ht⟩
              have HT3 := Lib.hid (HT2.out.take hlt hq ht)
              clear hq ht cx hlk
              go_wp2
              go_roundw
              case rel => exact ⟨i + 1, inn, out + 1, N, lost, ps', m, by omega, by omega, by go_num, rfl, by go_num, HT3.out⟩
              case measure => simp [intOf]; omega
            · obtain rfl : out = inn := by omega
              have hq := HT2.out.q
              rw [show waits lost out out = [] by simp [waits]] at hq
              obtain rfl : ps = [] := by
                have h1 := hq.th.len
                cases ps with
                | nil => rfl
                | cons p q' => simp at h1
              have HTK := Lib.hid (QI.Take_none wr hq)
              clear hq
              go_wp2_with fail
              refine HTK.out.mono ?_
              rintro e w3 ⟨rfl, hq, hb⟩
              have HT3 := Lib.hid (HT2.out.still hb)
              clear hq hb cx hlk
              go_wp2
              go_roundw
              case rel => exact ⟨i + 1, out, out, N, lost, [], m, by omega, by omega, by go_num, rfl, rfl, HT3.out⟩
              case measure => simp [intOf]; omega
    · obtain rfl : i = n := by omega
      have HLO := Lib.hid (QI.lost_any wr hT.q)
      have hlen := fun ty => hT.map.len Try.underlying60 ty
      have HT := Lib.hid hT
      clear hT
      go_wp2_with fail
      refine HLO.out.mono ?_
      rintro e w3 ⟨rfl, rfl⟩
      go_wp2
      go_ret
      exact ⟨rfl, HT.out.bel⟩
end Go.Proofs.Ytaniffofjkklfaa
