/- StoreIdles: the walk. -/
import Derived.Test.YtlhilndgiabicaaE35
namespace Go.Proofs.Ytlhilndgiabicaa
open Go.RowKit
open Go.Maps (Keyed)

/-- A store of one tuple at most. -/
structure IdS (M : SM) (t : Tp) (i : Int) (n : Nat) (th : Bool) : Prop where
  ok : SMOk M
  la : latestB (M.sp t) ≤ i
  len : n = (M.sp t).length
  opn : th = openB (M.sp t)
  only : ∀ x ∈ M.K, x = t
theorem IdS.empty (t : Tp) : IdS SM.empty t 0 0 false := ⟨SMOk.empty, by simp [SM.empty, latestB], rfl, rfl, by simp [SM.empty]⟩
theorem IdS.tot {M : SM} {t : Tp} {i : Int} {n : Nat} {th : Bool} (h : IdS M t i n th) : M.tot = n := by
  rw [h.len]
  unfold SM.tot
  have ho := h.only
  have hn := h.ok.nd
  have hno := h.ok.no t
  cases hK : M.K with
  | nil =>
    rw [hK] at hno
    rw [hno (by simp)]; rfl
  | cons a l =>
    rw [hK] at ho hn
    have h1 := ho a (by simp)
    cases l with
    | nil => simp [h1]
    | cons b l =>
      have h2 := ho b (by simp)
      rw [h1, h2] at hn
      simp at hn
theorem IdS.next {M : SM} {t : Tp} {i : Int} {n : Nat} {th : Bool} (h : IdS M t i n th) (h0 : 0 ≤ i) (hm : i + 1 ≤ maxRev) (d : Bool) : IdS (M.one (i + 1) d t) t (i + 1) (n + (if !d && !th then 1 else 0)) (!d) := by
  have hlt : latestB (M.sp t) < i + 1 := by have := h.la; omega
  refine ⟨h.ok.one d t (by omega) hm hlt, ?_, ?_, ?_, fun x hx => ?_⟩
  · rw [SM.one_same]; exact oneSp_latest (by omega) (by omega) d
  · rw [SM.one_same, oneSp_length, h.len, h.opn]
  · rw [SM.one_same, oneSp_open _ (by omega)]
  · have hput : ∀ l, x ∈ (M.put t l).K → x = t := fun l h1 => by
      rcases (SM.put_mem _ _ _ _).1 h1 with h2 | h2
      · exact h.only x h2
      · exact h2
    unfold SM.one at hx
    cases d with
    | true =>
      simp only [if_true] at hx
      split at hx
      · exact hput _ hx
      · exact h.only x hx
    | false =>
      simp only [if_false, Bool.false_eq_true] at hx
      split at hx
      · exact h.only x hx
      · exact hput _ hx
theorem IdS.now {M : SM} {t : Tp} {i : Int} {n : Nat} {th : Bool} (h : IdS M t i n th) (d : Bool) : spThere ((M.one (i + 1) d t).sp t) (i + 1) = !d := by
  rw [SM.one_same]
  exact oneSp_now (h.ok.sp_cases t) (by have := h.la; omega) d
theorem IdS.chk {M : SM} {t : Tp} {i : Int} {n : Nat} {th : Bool} (h : IdS M t i n th) (h0 : 0 ≤ i) (hm : i + 1 ≤ maxRev) (d : Bool) : chkE M 0 (i + 1) [⟨d, t⟩] = t.e := by
  unfold chkE chkGo
  rw [if_neg (by omega)]
  by_cases he : t.e = 0
  · rw [if_neg (by simpa using he), if_neg (by simp)]
    have hlt : ¬ (i + 1 ≤ M.lat 0 t) := by have := h.la; unfold SM.lat; omega
    rw [if_neg hlt, he]; rfl
  · rw [if_pos (by simpa using he)]
/-- A row of bools that came in. -/
def BoolsAt (w : World) (a : Option Addr) (n : Nat) : Prop := n = 0 ∨ ∃ b off, a = some ⟨b, off, none⟩ ∧ b < w.heap.size ∧ ∀ i, i < n → ∃ d, w.cell? ⟨b, off + i, none⟩ = some (.bool d)
set_option maxRecDepth 100000 in
set_option maxHeartbeats 16000000 in
theorem idles_walk (x y z : ByteArray) (a : Option Addr) (n c : Nat) (w : World) (hf : (⟨x, y, z⟩ : Tp).fits) (hB : BoolsAt w a n) (hn : n ≤ 1048576) :
    Calls Try.prog 5 #[.agg #[.string x, .string y, .string z], .slice a n c] w fun e w' => e = .returned (.bool true) ∧ Below w.heap.size w w' := by
  obtain ⟨t, ht⟩ : ∃ t : Tp, t = ⟨x, y, z⟩ := ⟨_, rfl⟩
  rw [← ht] at hf
  have hx : x = t.o := by rw [ht]
  have hy : y = t.r := by rw [ht]
  have hz : z = t.u := by rw [ht]
  subst hx hy hz
  clear ht
  obtain ⟨w0, hw0⟩ : ∃ w0, w0 = w.alloc (.cells #[.string t.o, .string t.r, .string t.u] 24) := ⟨_, rfl⟩
  have HB0 := Lib.hid (show Below w.heap.size w w0 by rw [hw0]; exact below_alloc _ _)
  have HT0 := Lib.hid (show Whole w0 w.heap.size 24 #[.string t.o, .string t.r, .string t.u] by rw [hw0]; exact heap_alloc_new _ _)
  have HBO := Lib.hid hB
  clear hB
  go_enter Try.func5, Try.ntmps5
  go_upto_region 1 with fail
  rw [← hw0]
  clear hw0
  go_wp2_with fail
  refine (awake_any w0).mono ?_
  rintro _ w1 ⟨rfl, hb1⟩
  have HT1 := Lib.hid (HT0.out.kept (hb1.block _ HT0.out.lt))
  have HB1 := Lib.hid (bell_up HB0.out hb1)
  clear hb1 HT0 HB0
  go_wp2_with fail
  refine (new_st w1).mono ?_
  rintro _ w2 ⟨rfl, hs2, hb2⟩
  obtain ⟨g, hg⟩ : ∃ g, g = (Gh.new w1.heap.size).g := ⟨_, rfl⟩
  rw [← hg]
  have HI0 := Lib.hid (show ∃ (M : SM) (H : Gh), StAt w2 0 M H (5 * 0) ∧ H.g = g ∧ (∀ b, H.own b → w1.heap.size ≤ b) ∧ Below w1.heap.size w1 w2 ∧ IdS M t ((0 : Nat) : Int) 0 false from
    ⟨SM.empty, _, hs2, hg.symm, fun b hb => (Gh.new_own hb).1, hb2, IdS.empty t⟩)
  clear hs2 hb2 hg
  go_wp2_with fail
  go_loopw [6, 7, 18] (fun tv nv iv wr => ∃ (i k : Nat) (th : Bool), i ≤ n ∧ tv = .bool th ∧ nv = .int .i64 k ∧ iv = .int .i64 i ∧ k ≤ i ∧ (i = 0 ∨ t.e = 0) ∧ ∃ (M : SM) (H : Gh), StAt wr 0 M H (5 * i) ∧ H.g = g ∧ (∀ b, H.own b → w1.heap.size ≤ b) ∧ Below w1.heap.size w1 wr ∧ IdS M t (i : Int) k th) (fun _ _ iv _ => n - (intOf iv).toNat)
  case atStart => exact ⟨0, 0, false, by omega, rfl, rfl, rfl, Nat.le_refl _, .inl rfl, HI0.out⟩
  case round =>
    clear HI0
    obtain ⟨i, k, th, hin, rfl, rfl, rfl, hki, hi0, M, H, hst, hgg, hown, hbl, hid⟩ := hrel
    by_cases hil : i < n
    · obtain ⟨b, off, rfl, hbB, hcc⟩ := HBO.out.resolve_left (by omega)
      obtain ⟨d, hd⟩ := hcc i hil
      have hbw1 : b < w1.heap.size := Nat.lt_of_lt_of_le hbB HB1.out.size
      have cd := ((hbl.cell (p := ⟨b, off + i, none⟩) hbw1).trans ((HB1.out.cell (p := ⟨b, off + i, none⟩) hbB))).trans hd
      have hT := HT1.out.kept (hbl.block _ HT1.out.lt)
      have t0 : wr.cell? ⟨w.heap.size, 0, none⟩ = some (.string t.o) := by rw [hT.cell]; rfl
      have t1 : wr.cell? ⟨w.heap.size, 1, none⟩ = some (.string t.r) := by rw [hT.cell]; rfl
      have t2 : wr.cell? ⟨w.heap.size, 2, none⟩ = some (.string t.u) := by rw [hT.cell]; rfl
      have hAP := apply1_any hst (by omega) ⟨d, t⟩ hf ((i : Int) + 1)
      rw [hid.chk (by omega) (by unfold maxRev; omega) d, hgg] at hAP
      have HAP := Lib.hid hAP
      have HS := Lib.hid hst
      have HO := Lib.hid hown
      have HBL := Lib.hid hbl
      have HID := Lib.hid hid
      have HG := Lib.hid hgg
      have hil2 : (i : Int) < (n : Int) := by omega
      have hi5 : i ≤ 1048576 := by omega
      clear hst hown hbl hid hgg hcc hd hT hAP hbB hbw1
      go_wp2_with fail
      refine HAP.out.mono ?_
      rintro _ w3 ⟨rfl, H3, hs3, hc3⟩
      obtain ⟨hb3, ho3⟩ := hc3.since HBL.out HO.out
      have hT3 := HT1.out.kept (hb3.block _ HT1.out.lt)
      have s0 : w3.cell? ⟨w.heap.size, 0, none⟩ = some (.string t.o) := by rw [hT3.cell]; rfl
      have s1 : w3.cell? ⟨w.heap.size, 1, none⟩ = some (.string t.r) := by rw [hT3.cell]; rfl
      have s2 : w3.cell? ⟨w.heap.size, 2, none⟩ = some (.string t.u) := by rw [hT3.cell]; rfl
      have HS3 := Lib.hid hs3
      have HG3 := Lib.hid (show H3.g = g by rw [hc3.g, HG.out])
      have HO3 := Lib.hid ho3
      have HB3 := Lib.hid hb3
      have HCK := Lib.hid (checkR_any t.o t.r t.u w3 (by have := hf.1; omega) (by have := hf.2.2; omega))
      clear hs3 hc3 ho3 hb3 hT3 t0 t1 t2 HAP cd
      have hte : tupE t.o t.r t.u = t.e := rfl
      rw [hte] at HCK
      clear hte
      unfold TupV at HCK
      generalize hve : t.e = ev at *
      go_wp2_with fail
      refine HCK.out.mono ?_
      rintro _ w4 ⟨rfl, hb4⟩
      have HS4 := Lib.hid (HS3.out.below hb4)
      have HB4 := Lib.hid (bell_up HB3.out hb4)
      have hT4 := HT1.out.kept ((bell_up HB3.out hb4).block _ HT1.out.lt)
      have u0 : w4.cell? ⟨w.heap.size, 0, none⟩ = some (.string t.o) := by rw [hT4.cell]; rfl
      have u1 : w4.cell? ⟨w.heap.size, 1, none⟩ = some (.string t.r) := by rw [hT4.cell]; rfl
      have u2 : w4.cell? ⟨w.heap.size, 2, none⟩ = some (.string t.u) := by rw [hT4.cell]; rfl
      clear hb4 hT4 HCK s0 s1 s2
      by_cases he : ev = 0
      · subst he
        have HS5 := Lib.hid (show StAt w4 0 (M.one ((i : Int) + 1) d t) H3 (5 * i + 5) from by have := HS4.out; rwa [if_pos rfl] at this)
        have HID2 := Lib.hid (HID.out.next (by omega) (by unfold maxRev; omega) d)
        have HHA := Lib.hid (has_any HS5.out hf (by omega) ((i : Int) + 1))
        have hrd : readableB 0 ((i : Int) + 1) = 0 := by unfold readableB; rw [if_neg (by omega), if_neg (by omega)]
        have hhb : hasB (M.one ((i : Int) + 1) d t) 0 ((i : Int) + 1) t = !d := by unfold hasB; rw [if_pos hrd]; exact HID.out.now d
        rw [hrd, hhb, HG3.out] at HHA
        have HRW := Lib.hid (fun W (hW : Below w4.heap.size w4 W) => rows_any (HS5.out.below hW) (by omega) (by rw [HID2.out.tot]; split <;> omega))
        rw [HG3.out] at HRW
        clear hrd hhb HS4
        cases d with
        | true =>
          go_wp2_with fail
          refine HHA.out.mono ?_
          rintro _ w5 ⟨rfl, hb5⟩
          have HR2 := Lib.hid (HRW.out w5 hb5)
          have HB5 := Lib.hid hb5
          clear hb5 u0 u1 u2 HHA HRW
          go_wp2_with fail
          refine HR2.out.mono ?_
          rintro _ w6 ⟨rv, R, rfl, _, hRl, hrr, hb6⟩
          rw [hRl, HID2.out.tot] at hrr
          obtain ⟨ra, rc, rfl, _, _⟩ := owned_anyE hrr
          have HB6 := Lib.hid (bell_up HB5.out hb6)
          clear hb6 HR2 hRl hrr
          simp only [Bool.not_true, Bool.false_and, if_false, Bool.false_eq_true, Nat.add_zero] at HID2 ⊢
          go_wp2
          go_roundw
          case rel => exact ⟨i + 1, k, false, by omega, rfl, rfl, by go_num, by omega, .inr hve, _, H3, by have := HS5.out.below HB6.out; rw [show 5 * (i + 1) = 5 * i + 5 by omega]; exact this, HG3.out, HO3.out, bell_up HB4.out HB6.out, by have := HID2.out; rw [show ((i + 1 : Nat) : Int) = (i : Int) + 1 by omega]; exact this⟩
          case measure => simp [intOf]; omega
        | false =>
          cases th with
          | true =>
            go_wp2_with fail
            refine HHA.out.mono ?_
            rintro _ w5 ⟨rfl, hb5⟩
            have HR2 := Lib.hid (HRW.out w5 hb5)
            have HB5 := Lib.hid hb5
            clear hb5 u0 u1 u2 HHA HRW
            go_wp2_with fail
            refine HR2.out.mono ?_
            rintro _ w6 ⟨rv, R, rfl, _, hRl, hrr, hb6⟩
            rw [hRl, HID2.out.tot] at hrr
            obtain ⟨ra, rc, rfl, _, _⟩ := owned_anyE hrr
            have HB6 := Lib.hid (bell_up HB5.out hb6)
            clear hb6 HR2 hRl hrr
            simp only [Bool.not_true, Bool.and_false, if_false, Bool.false_eq_true, Nat.add_zero] at HID2 ⊢
            go_wp2
            go_roundw
            case rel => exact ⟨i + 1, k, true, by omega, rfl, rfl, by go_num, by omega, .inr hve, _, H3, by have := HS5.out.below HB6.out; rw [show 5 * (i + 1) = 5 * i + 5 by omega]; exact this, HG3.out, HO3.out, bell_up HB4.out HB6.out, by have := HID2.out; rw [show ((i + 1 : Nat) : Int) = (i : Int) + 1 by omega]; exact this⟩
            case measure => simp [intOf]; omega
          | false =>
            go_wp2_with fail
            refine HHA.out.mono ?_
            rintro _ w5 ⟨rfl, hb5⟩
            have HR2 := Lib.hid (HRW.out w5 hb5)
            have HB5 := Lib.hid hb5
            clear hb5 u0 u1 u2 HHA HRW
            go_wp2_with fail
            refine HR2.out.mono ?_
            rintro _ w6 ⟨rv, R, rfl, _, hRl, hrr, hb6⟩
            rw [hRl, HID2.out.tot] at hrr
            obtain ⟨ra, rc, rfl, _, _⟩ := owned_anyE hrr
            have HB6 := Lib.hid (bell_up HB5.out hb6)
            clear hb6 HR2 hRl hrr
            simp only [Bool.not_false, Bool.and_self, if_true] at HID2 ⊢
            have hk1 : ((k + 1 : Nat) : Int) = (k : Int) + 1 := by omega
            go_wp2
            go_roundw
            case rel => exact ⟨i + 1, k + 1, true, by omega, rfl, by go_num, by go_num, by omega, .inr hve, _, H3, by have := HS5.out.below HB6.out; rw [show 5 * (i + 1) = 5 * i + 5 by omega]; exact this, HG3.out, HO3.out, bell_up HB4.out HB6.out, by have := HID2.out; rw [show ((i + 1 : Nat) : Int) = (i : Int) + 1 by omega]; exact this⟩
            case measure => simp [intOf]; omega
      · have hi00 : i = 0 := by
          rcases hi0 with h0 | h0
          · exact h0
          · exact absurd h0 he
        have hk0 : k = 0 := by omega
        have HS5 := Lib.hid (show StAt w4 0 M H3 (5 * i + 5) from by have := HS4.out; rwa [if_neg he] at this)
        have HRW := Lib.hid (rows_any HS5.out (by omega) (by rw [HID.out.tot]; omega))
        rw [HG3.out] at HRW
        clear HS4
        go_wp2_with fail
        refine HRW.out.mono ?_
        rintro _ w5 ⟨rv, R, rfl, _, hRl, hrr, hb5⟩
        rw [hRl, HID.out.tot, hk0] at hrr
        obtain ⟨ra, rc, rfl, _, _⟩ := owned_anyE hrr
        have HB5 := Lib.hid (bell_up HB1.out (bell_up HB4.out hb5))
        clear hb5 HRW hRl hrr u0 u1 u2
        go_wp2
        go_ret
        exact ⟨rfl, HB5.out⟩
    · obtain rfl : i = n := by omega
      have HF := Lib.hid (bell_up HB1.out hbl)
      clear hst hown hbl hid hgg
      go_wp2
      go_ret
      exact ⟨rfl, HF.out⟩
end Go.Proofs.Ytlhilndgiabicaa
