/- CacheTrue: the law. -/
import Derived.Test.YtofjpbpfjjohdaaKT0
import Derived.Test.YtofjpbpfjjohdaaK11
import Derived.Deep.RegionLaw
import Derived.Deep.DeepCutAuto
import Derived.Deep.CutBlock
import Derived.BigQuiet
namespace Go.Proofs.Ytofjpbpfjjohdaa
open Go.RowKit
open Go.Maps (Keyed)

set_option maxRecDepth 100000 in
set_option maxHeartbeats 4000000 in
theorem ctrue_bad (s : Int) (a : Option Addr) (n k : Nat) (w : World) (h : s < 1 ∨ 4096 < s) :
    Calls Try.prog 3 #[.int .i64 s, .slice a n k] w fun e w' => e = .returned (.bool true) ∧ Below w.heap.size w w' := by
  have H := Lib.hid h
  clear h
  go_enter Try.func3, Try.ntmps3
  go_wp2_with fail
  refine (awake_any _).mono ?_
  rintro e w1 ⟨rfl, hb⟩
  have HB := Lib.hid hb
  clear hb
  go_wp2_with fail
  refine (KA.new_bad s w1 H.out).mono ?_
  rintro e w2 ⟨rfl, rfl⟩
  go_wp2
  go_ret
  exact ⟨rfl, HB.out⟩
/-- The cache's and the law's state ahead of a key. -/
def StC (w wr : World) (g b mt s0 : Nat) (P : List Int) : Prop := ∃ es f m mm N T, TJ w wr g b mt s0 P es f m mm N T
set_option maxRecDepth 100000 in
set_option maxHeartbeats 16000000 in
theorem ctrue_good (s0 : Nat) (a : Option Addr) (n c : Nat) (l : List Int) (w : World) (h1 : 1 ≤ s0) (h2 : s0 ≤ 4096) (hl : Ints w a n l) (hn : n ≤ 140737488351232) :
    Calls Try.prog 3 #[.int .i64 (s0 : Int), .slice a n c] w fun e w' => e = .returned (.bool true) ∧ Below w.heap.size w w' := by
  have HL := Lib.hid hl
  clear hl
  go_enter Try.func3, Try.ntmps3
  go_wp2_with fail
  refine (awake_any _).mono ?_
  rintro e w1 ⟨rfl, hb⟩
  have HB := Lib.hid hb
  have HN := Lib.hid (KA.new_good w.heap.size s0 w1 h1 h2 hb.size)
  clear hb
  go_wp2_with fail
  refine HN.out.mono ?_
  rintro e w2 ⟨g, b, rfl, hS, hgg, hbb, hb⟩
  have hJ : TJ w (w2.alloc (.map #[] 0)) g b w2.heap.size s0 [] [] 0 0 (fun _ => none) 0 (fun _ => 0) :=
    ⟨hS.below (below_alloc _ _), MapAt.made _ _ _, Nat.le_trans HB.out.size hb.size, (by obtain ⟨mm, hm, _⟩ := hS.map; have := hm.lt; omega), by simp, by simp [mru], (fun p k v hp => by cases hp), fun k _ => by simp, by simp, by simp, by simp, bell_up (bell_up HB.out hb) (below_alloc _ _)⟩
  have HJ := Lib.hid (show StC w (w2.alloc (.map #[] 0)) g b w2.heap.size s0 [] from ⟨_, _, _, _, _, _, hJ⟩)
  have hmk := @run_makeMap Try.prog
  clear hS hgg hbb hb hJ HB HN
  go_wp2_with fail
  generalize w2.heap.size = mt at *
  clear hmk
  go_loopw [32] (fun t32 wr => ∃ i : Nat, i ≤ n ∧ t32 = .int .i64 i ∧ StC w wr g b mt s0 (l.take i)) (fun t32 _ => n - (intOf t32).toNat)
  case atStart => exact ⟨0, by omega, rfl, HJ.out⟩
  case round =>
    clear HJ
    obtain ⟨i, hi, rfl, es, f, m, mm, N, T, hJ⟩ := hrel
    by_cases hin : i < n
    · obtain ⟨b0, off, rfl, hbl, hcell⟩ := HL.out.2.1.resolve_left (by omega)
      obtain ⟨x, hx⟩ : ∃ x, l[i]? = some x := ⟨_, List.getElem?_eq_getElem (show i < l.length by rw [HL.out.1]; exact hin)⟩
      have hxr : InI x := HL.out.2.2 x (List.mem_of_getElem? hx)
      have cx := (hJ.up.cell (p := ⟨b0, off + i, none⟩) hbl).trans (hcell i x hx)
      have hPl : (l.take i).length = i := by rw [List.length_take, HL.out.1]; omega
      have hPl2 : (l.take (i + 1)).length = i + 1 := by rw [List.length_take, HL.out.1]; omega
      have HCELL := Lib.hid hcell
      have HX := Lib.hid (take_snoc hx)
      have HJ := Lib.hid hJ
      have HPL := Lib.hid hPl
      have HPL2 := Lib.hid hPl2
      have HXR := Lib.hid hxr
      have hcut : ∃ (o : Bool) (u0 u1 : Int), ((o = true ∧ u0 = x ∧ u1 = T x ∧ x ∈ l.take i) ∨ (o = false ∧ u0 = 0 ∧ u1 = 0)) ∧ Calls Try.prog 6 #[.pointer (some ⟨g, 0, none⟩), Value.int .i64 x] wr fun e w' => e = .returned (.tuple #[.agg #[.int .i64 u0, .int .i64 u1], .bool o]) ∧ Below w.heap.size w w' ∧ MapAt w' Try.prog 3 mt mm N ∧
          ∃ es1 f1 m1, KA.CAt w' w.heap.size g b s0 es1 f1 m1 ∧ (0 ≤ f1 ∧ f1 ≤ i + 1) ∧ (0 ≤ m1 ∧ m1 ≤ i + 1) ∧ (∀ p k v, (p, k, v) ∈ es1 → v = (k, T k)) ∧
            ((x ∈ es1.map (·.2.1) ∧ (x :: (mru (l.take i)).filter (fun y => decide (y ≠ x))).take s0 = es1.map (·.2.1) ∧ ∃ R, es1.map (·.2.1) = x :: R) ∨ (x ∉ es1.map (·.2.1) ∧ es1.map (·.2.1) = (mru (l.take i)).take s0)) := by
        have hff := hJ.ff
        have hfm := hJ.fm
        rw [hPl] at hff hfm
        by_cases hxe : x ∈ es.map (·.2.1)
        · obtain ⟨e1, e, v0, e2, hes⟩ := KA.split_of hxe
          obtain ⟨hxP, hv0, _⟩ := hJ.got hes rfl (KA.Chg.refl _ _)
          refine ⟨true, x, T x, .inl ⟨rfl, rfl, rfl, hxP⟩, ?_⟩
          have hc := hJ.cat
          rw [hes] at hc
          refine (KA.Get_there wr hc ⟨by omega, by omega⟩).mono ?_
          rintro e' w' ⟨rfl, hc', hg⟩
          rw [← hes] at hg
          obtain ⟨_, _, h3, h4, h5, h6, h7⟩ := hJ.got hes rfl hg
          exact ⟨by rw [hv0], h4, h3, _, _, _, hc', ⟨by omega, by omega⟩, ⟨by omega, by omega⟩, h7, .inl ⟨by simp, by rw [h5, h6], _, h5⟩⟩
        · refine ⟨false, 0, 0, .inr ⟨rfl, rfl, rfl⟩, ?_⟩
          refine (KA.Get_none x wr hJ.cat hxr hxe ⟨by omega, by omega⟩).mono ?_
          rintro e' w' ⟨rfl, hc', hg⟩
          exact ⟨rfl, hJ.up.trans (hg.below (fun q hq => CB_ge hJ.cat hq) hJ.up.size), map_far hJ.cat hJ.map hJ.mne hg, _, _, _, hc', ⟨by omega, by omega⟩, ⟨by omega, by omega⟩, hJ.val, .inr ⟨hxe, hJ.keys⟩⟩
      obtain ⟨o, u0, u1, hou, hget⟩ := hcut
      have HG := Lib.hid hget
      clear hcell hx hJ hPl hPl2 hxr hget
      go_wp2_with fail
      refine HG.out.mono ?_
      rintro e w3 ⟨rfl, hb3, hm3, es1, f1, m1, hc3, hf1, hm1, hv3, hk3⟩
      have HB3 := Lib.hid hb3
      have HM3 := Lib.hid hm3
      have HC3 := Lib.hid hc3
      have HV3 := Lib.hid hv3
      have HK3 := Lib.hid hk3
      clear hb3 hm3 hc3 hv3 hk3
      obtain ⟨w4, hw4, hb4, hx4⟩ : ∃ w4, w4 = w3.alloc (.cells #[.int .i64 u0, .int .i64 u1] 28) ∧ Below w3.heap.size w3 w4 ∧ Whole w4 w3.heap.size 28 #[.int .i64 u0, .int .i64 u1] := ⟨_, rfl, below_alloc _ _, heap_alloc_new _ _⟩
      have d0 := hx4.cell 0
      have d1 := hx4.cell 1
      have HM4 := Lib.hid (HM3.out.below hb4)
      have HC4 := Lib.hid (HC3.out.below hb4)
      have HB4 := Lib.hid (bell_up HB3.out hb4)
      have hlk : o = true → (Instr.lookup 29 (.map (some mt)) (.int .i64 x) false).run Try.prog w4 = .ok (.int .i64 (T x)) w4 := fun ho => by
        have := HM4.out.look KA.Try.keyed Try.underlying29 (Try.zeroI w4) false (key_int x HXR.out)
        rcases hou with ⟨_, _, _, h⟩ | ⟨h, _⟩
        · rw [HJ.out.has x HXR.out, if_pos h] at this
          simpa using this
        · rw [h] at ho; cases ho
      have hPT := Lib.hid (KA.Put_any x (x, (i : Int)) w4 HC4.out HXR.out HB4.out.size)
      have HCUT := Lib.hid (show True from trivial)
      go_upto_region 11 with fail
      rw [← hw4]
      clear hw4 hb4 hx4 cx
      generalize w3.heap.size = vb at *
      go_cut [61] (fun v61 wx => v61 = .bool false ∧ w4 = wx)
      case first J KK hJR hMK =>
        rcases hou with ⟨rfl, rfl, rfl, hxp⟩ | ⟨rfl, rfl, rfl⟩
        · have hlk2 := hlk rfl
          clear hlk
          have htr := HJ.out.tr _ hxp
          have htx : InI (T u0) := by unfold InI; have := htr; have hh := HPL.out; constructor <;> omega
          have heq := eq_two u0 (T u0) HXR.out htx w4
          go_wp2_with fail
          go_meet
          exact ⟨rfl, rfl⟩
        · have heq := eq_two 0 0 (by unfold InI; omega) (by unfold InI; omega) w4
          clear hlk
          go_wp2_with fail
          go_meet
          exact ⟨rfl, rfl⟩
      case rest =>
        obtain ⟨rfl, rfl⟩ := hcut
        clear d0 d1 hou hlk HG HCUT HM3 HC3 HB3
        go_wp2_with fail
        refine hPT.out.mono ?_
        rintro e w5 ⟨rfl, es2, hc5, hput, hg5⟩
        have HM5 := Lib.hid (map_far HC4.out HM4.out HJ.out.mne hg5)
        have HB5 := Lib.hid (show Below w.heap.size w w5 from HB4.out.trans (hg5.below (fun q hq => CB_ge HC4.out hq) HB4.out.size))
        have HC5 := Lib.hid hc5
        have HP5 := Lib.hid hput
        have HF1 := Lib.hid hf1
        have HM1 := Lib.hid hm1
        have hN2 : N < maxLen := by have := HJ.out.few; rw [HPL.out] at this; unfold maxLen; omega
        have hmk := @run_makeMap Try.prog
        clear hc5 hput hg5 hf1 hm1 hPT
        go_upto_block 2 with (at_mapUpdate; refine wpList_store_map _ rfl _ _ _ 29 rfl 3 3 KA.Try.keyed Try.underlying29 _ (Try.zeroI _) mt N mm rfl HM5.out hN2 (.int .i64 x) (.int .i64 (i : Int)) (.int .i64 x) rfl rfl (key_int x HXR.out) ?_; intro w6 hm6 hg6 hs6; have hTJ := HJ.out.next HXR.out HC5.out HM5.out HB5.out (by rw [HPL.out]; exact hm6) (by split <;> omega) hg6 (by rw [HPL.out]; exact HF1.out) (by rw [HPL.out]; exact HM1.out) HC4.out.keys (by rw [HPL.out]; exact HP5.out) HV3.out HK3.out; have HTJ := Lib.hid hTJ; clear hm6 hg6 hs6 hTJ)
        obtain ⟨es6, f6, m6, mm6, N6, T6, hJ6⟩ : StC w w6 g b mt s0 (l.take (i + 1)) := by
          have := HTJ.out
          rw [← HX.out] at this
          exact ⟨_, _, _, _, _, _, this⟩
        have hmuw : w.heap.size ≤ w6.heap.size := hJ6.up.size
        have hmub : w6.heap.size ≠ b := by obtain ⟨mb, hmb, _⟩ := hJ6.cat.map; have := hmb.lt; omega
        have hmut : w6.heap.size ≠ mt := by have := hJ6.map.lt; omega
        have HUJ := Lib.hid (UJ.start w6)
        have HJ7 := Lib.hid (hJ6.below (below_alloc w6 (.map #[] 0)))
        have HC6 := Lib.hid hJ6.cat
        clear hmk HTJ hJ6 HJ HC4 HM4 HB4 HM5 HB5 HC5 HP5 HF1 HM1 HV3 HK3
        generalize w6.alloc (.map #[] 0) = wa at *
        generalize w6.heap.size = mu at *
        have HMUB := Lib.hid hmub
        have HMUT := Lib.hid hmut
        clear hmub hmut
        go_cut [] (fun wx => ∃ (t : Nat) (mu' : Lit → Option Value) (M : Nat), t ≤ i + 1 ∧ TJ w wx g b mt s0 (l.take (i + 1)) es6 f6 m6 mm6 N6 T6 ∧ UJ wx mu ((l.take (i + 1)).drop (i + 1 - t)) mu' M ∧ M ≤ s0 ∧ (t = i + 1 ∨ M = s0))
        case first J KK hJR hMK =>
          go_wp2_with fail
          go_loopw [13] (fun t13 ws => ∃ (t : Nat) (mu' : Lit → Option Value) (M : Nat), t ≤ i + 1 ∧ t13 = .int .i64 ((i : Int) - (t : Int)) ∧ TJ w ws g b mt s0 (l.take (i + 1)) es6 f6 m6 mm6 N6 T6 ∧ UJ ws mu ((l.take (i + 1)).drop (i + 1 - t)) mu' M ∧ M ≤ s0) (fun t13 _ => (intOf t13 + 1).toNat)
          case atStart =>
            refine ⟨0, (fun _ => none), 0, by omega, by go_num, HJ7.out, ?_, by omega⟩
            rw [List.drop_eq_nil_of_le (by rw [HPL2.out]; omega)]
            exact HUJ.out
          case round =>
            clear HJ7 HUJ
            obtain ⟨t, mu', M, hti, rfl, hJ, hU, hM⟩ := hrel
            have hlen := fun ty => hU.map.len Try.underlying29 ty
            by_cases hgo : t < i + 1 ∧ M < s0
            · obtain ⟨hlt, hMs⟩ := hgo
              obtain ⟨j, hj⟩ : ∃ j : Nat, i = j + t := ⟨i - t, by omega⟩
              obtain ⟨y, hy⟩ : ∃ y, l[j]? = some y := ⟨_, List.getElem?_eq_getElem (show j < l.length by rw [HL.out.1]; omega)⟩
              have hyr : InI y := HL.out.2.2 y (List.mem_of_getElem? hy)
              have cy := (hJ.up.cell (p := ⟨b0, off + j, none⟩) hbl).trans (HCELL.out j y hy)
              have hjt : (i : Int) - (t : Int) = (j : Int) := by omega
              have hjn : j < n := by omega
              have hdr : (l.take (i + 1)).drop (i + 1 - (t + 1)) = y :: (l.take (i + 1)).drop (i + 1 - t) := by
                rw [show i + 1 - (t + 1) = j by omega, show i + 1 - t = j + 1 by omega]
                have h3 : (l.take (i + 1))[j]? = some y := by rw [List.getElem?_take, if_pos (by omega)]; exact hy
                obtain ⟨h4, h5⟩ := List.getElem?_eq_some_iff.1 h3
                rw [← h5]
                exact List.drop_eq_getElem_cons h4
              obtain ⟨hlk, hc0, hc1, _⟩ := hU.look hyr
              have hSl : ((l.take (i + 1)).drop (i + 1 - t)).length ≤ i + 1 := by rw [List.length_drop, HPL2.out]; omega
              have hadd : IntKind.i64.wrap (cntOf mu' y + 1) = cntOf mu' y + 1 := IntWalk.i64_in _ (by omega)
              have HJ2 := Lib.hid hJ
              have HU := Lib.hid hU
              have HDR := Lib.hid hdr
              have HYR := Lib.hid hyr
              have HII := Lib.hid hj
              have hM2 : M < maxLen := by unfold maxLen; omega
              have HJT := Lib.hid hjt
              rw [hjt]
              clear hJ hU hdr hyr hy hc0 hc1 hSl hj hjt
              go_wp2_with (at_mapUpdate; refine wpList_store_map _ rfl _ _ _ 29 rfl 3 3 KA.Try.keyed Try.underlying29 _ (Try.zeroI _) mu M mu' rfl HU.out.map hM2 _ (.int .i64 (cntOf mu' y + 1)) (.int .i64 y) rfl rfl (key_int y HYR.out) ?_; intro w8 hm8 hg8 hs8)
              have HU5 := Lib.hid (HU.out.put HYR.out hm8)
              have HJ5 := Lib.hid (HJ2.out.grown HU.out.map HMUB.out HMUT.out hmuw hg8)
              clear hm8 hg8 hs8
              go_roundw
              case rel =>
                refine ⟨t + 1, _, _, by omega, ?_, HJ5.out, by rw [HDR.out]; exact HU5.out, ?_⟩
                · have := HJT.out
                  rw [show (i : Int) - ((t + 1 : Nat) : Int) = (j : Int) - 1 by omega]
                · split <;> omega
              case measure =>
                have := HJT.out
                simp [intOf]
            · have hex : t = i + 1 ∨ M = s0 := by omega
              have HE := Lib.hid (show ∃ (t : Nat) (mu' : Lit → Option Value) (M : Nat), t ≤ i + 1 ∧ TJ w wr g b mt s0 (l.take (i + 1)) es6 f6 m6 mm6 N6 T6 ∧ UJ wr mu ((l.take (i + 1)).drop (i + 1 - t)) mu' M ∧ M ≤ s0 ∧ (t = i + 1 ∨ M = s0) from ⟨t, mu', M, hti, hJ, hU, hM, hex⟩)
              have hex2 : (t = i + 1 ∧ ¬ (0 : Int) ≤ (i : Int) - (t : Int)) ∨ ((0 : Int) ≤ (i : Int) - (t : Int) ∧ ¬ M < s0) := by omega
              clear hgo hex hJ hU
              rcases hex2 with ⟨_, hneg⟩ | ⟨hpos, hms⟩
              all_goals
                go_wp2_with fail
                go_meet
                exact HE.out
        case rest =>
          clear HJ7 HUJ
          obtain ⟨t, mu', M, hti, hJ, hU, hM, hex⟩ := hcut
          have hnum := hU.num
          have heq := exit_eq HPL2.out hti hnum hM hex
          have HMEM := Lib.hid (fun y => exit_mem HPL2.out hti hnum hM hex y)
          obtain ⟨ks, hksd⟩ : ∃ ks, ks = es6.map (·.2.1) := ⟨_, rfl⟩
          have HKS := Lib.hid hksd
          have HKE := Lib.hid (show ks = (mru (l.take (i + 1))).take s0 by rw [hksd]; exact hJ.keys)
          have hkl : es6.length = ks.length := by rw [hksd, List.length_map]
          have hMK : M = ks.length := by rw [hnum, heq, ← hJ.keys, ← hksd]
          have HND := Lib.hid (show ks.Nodup by rw [hksd]; exact hJ.cat.keys)
          have HKR := Lib.hid (show ∀ y ∈ ks, InI y from fun y hy => by
            rw [hksd] at hy
            obtain ⟨⟨p, k, v⟩, hm, rfl⟩ := List.mem_map.1 hy
            exact hJ.cat.kr p k v hm)
          have hk1 : 1 ≤ ks.length := by
            rw [HKE.out, HX.out, mru_snoc, List.length_take, List.length_cons]
            omega
          have hk2 : ks.length ≤ 4096 := by have := hJ.cat.len; omega
          subst hMK
          have HT0 := Lib.hid (HT.start wc)
          have hba := below_alloc wc (.map #[] 0)
          have HJ8 := Lib.hid (hJ.below hba)
          have HU8 := Lib.hid (hU.below hba)
          have hmvw : w.heap.size ≤ wc.heap.size := hJ.up.size
          have hmvb : wc.heap.size ≠ b := by obtain ⟨mb, hmb, _⟩ := hJ.cat.map; have := hmb.lt; omega
          have hmvt : wc.heap.size ≠ mt := by have := hJ.map.lt; omega
          have hmvu : wc.heap.size ≠ mu := by have := hU.map.lt; omega
          have HKY := Lib.hid (KA.Keys_any (wc.alloc (.map #[] 0)) HJ8.out.cat)
          have hmk := @run_makeMap Try.prog
          clear hnum heq hJ hU hex hti hM hksd hba
          have HNE := Lib.hid (And.intro hmvb (And.intro hmvt hmvu))
          clear hmvb hmvt hmvu
          go_wp2_with fail
          clear hmk
          generalize wc.alloc (.map #[] 0) = wd at *
          generalize wc.heap.size = mv at *
          refine HKY.out.mono ?_
          rintro e w9 ⟨vk, rfl, hown, hb9⟩
          rw [hkl] at hown
          obtain ⟨gk, cap, rfl⟩ : ∃ gk cap, vk = .slice (some ⟨gk, 0, none⟩) ks.length cap := by
            rcases hown.2 with ⟨_, h0⟩ | ⟨g2, c2, cur, e2, _⟩
            · omega
            · exact ⟨g2, c2, e2⟩
          have hrow : KRow w9 wd.heap.size gk cap ks := by
            have h3 : es6.map (fun t => Value.int .i64 t.2.1) = ks.map (Value.int .i64) := by rw [HKS.out, List.map_map]; rfl
            rw [h3] at hown
            exact hown
          have HR9 := Lib.hid hrow
          have HJ9 := Lib.hid (HJ8.out.below hb9)
          have HU9 := Lib.hid (HU8.out.below hb9)
          have HT9 := Lib.hid (HT0.out.below hb9)
          clear hown hb9 hrow HJ8 HU8 HT0 HKY
          go_wp2_with fail
          generalize wd.heap.size = bk at *
          go_loopw [94] (fun t94 ws => ∃ (j : Nat) (mm2 : Lit → Option Value) (N2 : Nat), j ≤ ks.length ∧ t94 = .int .i64 j ∧ TJ w ws g b mt s0 (l.take (i + 1)) es6 f6 m6 mm6 N6 T6 ∧ UJ ws mu ((l.take (i + 1)).drop (i + 1 - t)) mu' ks.length ∧ HT ws mv (ks.take j) mm2 N2 ∧ KRow ws bk gk cap ks) (fun t94 _ => ks.length - (intOf t94).toNat)
          case atStart => exact ⟨0, _, _, by omega, rfl, HJ9.out, HU9.out, HT9.out, HR9.out⟩
          case round =>
            clear HJ9 HU9 HT9 HR9
            obtain ⟨j, mm2, N2, hjk, rfl, hJ, hU, hT, hR⟩ := hrel
            by_cases hjl : j < ks.length
            · obtain ⟨y, hy⟩ : ∃ y, ks[j]? = some y := ⟨_, List.getElem?_eq_getElem hjl⟩
              have hyi := HKR.out y (List.mem_of_getElem? hy)
              have cy := hR.cell hy
              have hny : y ∉ ks.take j := by
                intro hm
                obtain ⟨i2, hi2, he2⟩ := List.getElem_of_mem hm
                have hi3 : i2 < j := by simp at hi2; omega
                have e1 : ks[i2]? = some y := by
                  rw [List.getElem_take] at he2
                  rw [List.getElem?_eq_getElem (by omega), he2]
                have := (List.getElem?_inj (show i2 < ks.length by omega) HND.out).1 (e1.trans hy.symm)
                omega
              have hlk := hT.look hyi
              rw [if_neg hny] at hlk
              have hNN : N2 < maxLen := by have := hT.num; rw [List.length_take] at this; unfold maxLen; omega
              have HTK := Lib.hid (show ks.take (j + 1) = ks.take j ++ [y] from take_snoc hy)
              have HJ2 := Lib.hid hJ
              have HU2 := Lib.hid hU
              have HT2 := Lib.hid hT
              have HR2 := Lib.hid hR
              have HYI := Lib.hid hyi
              have HNY := Lib.hid hny
              clear hJ hU hT hR hyi hny hy
              go_wp2_with (at_mapUpdate; refine wpList_store_map _ rfl _ _ _ 29 rfl 3 3 KA.Try.keyed Try.underlying29 _ (Try.zeroI _) mv N2 mm2 rfl HT2.out.map hNN _ (.int .i64 1) (.int .i64 y) rfl rfl (key_int y HYI.out) ?_; intro w8 hm8 hg8 hs8)
              have HT5 := Lib.hid (HT2.out.put HYI.out HNY.out hm8)
              have HJ5 := Lib.hid (HJ2.out.grown HT2.out.map HNE.out.1 HNE.out.2.1 hmvw hg8)
              have HU5 := Lib.hid (HU2.out.grown HNE.out.2.2 hg8)
              have HR5 := Lib.hid (HR2.out.mapped HT2.out.map hg8)
              clear hm8 hg8 hs8
              go_wp2_with fail
              go_roundw
              case rel => exact ⟨j + 1, _, _, by omega, by go_num, HJ5.out, HU5.out, by rw [HTK.out]; exact HT5.out, HR5.out⟩
              case measure => simp [intOf]; omega
            · obtain rfl : j = ks.length := by omega
              rw [List.take_length] at hT
              have hlenT := fun ty => hT.map.len Try.underlying29 ty
              rw [hT.num] at hlenT
              have hlenU := fun ty => hU.map.len Try.underlying29 ty
              have HLN := Lib.hid (KA.len_any wr hJ.cat)
              rw [hkl] at HLN
              obtain ⟨D, hownD, hszD, hvD⟩ := hU.map
              have HO := Lib.hid hownD
              have HV := Lib.hid hvD
              have HJ2 := Lib.hid hJ
              have HU2 := Lib.hid hU
              have HT2 := Lib.hid hT
              clear hJ hU hT hR hownD hszD hvD
              go_wp2_with fail
              refine HLN.out.mono ?_
              rintro e w10 ⟨rfl, rfl⟩
              go_wp2_with (refine wpList_range_own _ rfl _ 29 rfl 3 3 KA.Try.keyed Try.underlying29 heldR mu ks.length D rfl HO.out ?_; intro w11 hr11 hg11 hs11)
              have hb11 : Below wr.heap.size wr w11 := (Below.refl _ _).grown hg11 (Nat.le_refl _) (by rintro q hq; cases hq)
              have HR11 := Lib.hid hr11
              have HB11 := Lib.hid hb11
              clear hr11 hg11 hs11 hb11 hlenT hlenU
              go_wp2_with fail
              go_simp
              obtain ⟨wz, hwz⟩ : ∃ wz, wz = wr := ⟨_, rfl⟩
              rw [← hwz] at HR11 HB11 HJ2 HU2 HT2
              rw [← hwz]
              clear hwz
              generalize hr0 : wz.heap.size = r0 at HR11
              have HR0 := Lib.hid hr0
              clear hr0
              go_loopw [] (fun ws => ∃ (left : Lit → Bool) (cnt : Nat), ws.ranges Try.prog 3 heldR mu r0 ks.length D left cnt ∧ (∀ kl, left kl = true → Maps.has D kl = true) ∧ Below wz.heap.size wz ws) (fun ws => ws.rangeLeft mu r0)
              case atStart => exact ⟨_, _, HR11.out, fun _ h => h, HB11.out⟩
              case round =>
                clear HR11 HB11
                obtain ⟨left, cnt, hrg, hld, hbz⟩ := hrel
                have HRG := Lib.hid hrg
                have HLD := Lib.hid hld
                have HBZ := Lib.hid hbz
                have HCNT := Lib.hid hrg.left_eq
                clear hrg hld hbz
                go_wp2_with (
                   refine wpList_next_ranges (α := Int) (β := Value) _ rfl _ rfl 3 KA.Try.keyed heldR (Value.int .i64) (fun v => v) (fun key kl hk => by obtain ⟨y, rfl, _⟩ := Maps.keyOf_int_inv Try.underlying3 hk; exact ⟨y, rfl⟩) (fun v y _ => ⟨v, rfl⟩) mu r0 ks.length D left cnt rfl HRG.out ?_ ?_
                   rotate_left
                   intro y c1 kl yy w12 cnt' hkey hlf hRv hat hrg hlt hg12 hs12 hen
                   obtain ⟨y', he, hkl, hyw⟩ := Maps.keyOf_int_inv Try.underlying3 hkey
                   injection he with _ he
                   subst he
                   subst hkl
                   have hyi : InI y := wf_i64 hyw
                   have hymem : y ∈ ks := by
                     rw [HKE.out, ← HMEM.out]
                     have hv := HV.out (.int .i64 y)
                     unfold mview at hv
                     have hyy : yy = (.held c1, []) := by simpa [heldR] using hRv.symm
                     rw [hat, hyy] at hv
                     simp only at hv
                     rcases HU2.out.has y hyi with ⟨_, h0⟩ | ⟨h3, _⟩
                     · rw [h0] at hv; cases hv
                     · exact h3
                   have hb12 : Below wz.heap.size wz w12 := HBZ.out.grown hg12 HBZ.out.size (by rintro q ⟨⟩; exact Nat.le_of_eq HR0.out)
                   have hlk := (HT2.out.below hb12).look hyi
                   rw [if_pos hymem] at hlk
                   have HRG2 := Lib.hid hrg
                   have HB12 := Lib.hid hb12
                   have HLT := Lib.hid hlt
                   have HLF := Lib.hid (show ∀ kl, (left kl && !kl.sameKey (.int .i64 y)) = true → Maps.has D kl = true from fun kl h => HLD.out kl (by simp at h; exact h.1))
                   clear hkey hlf hRv hat hrg hlt hg12 hs12 hyw hyi hymem hb12
                   rotate_left
                   intro hc0 hl0
                   clear hc0 hl0)
                · have HST := Lib.hid (show StC w wr g b mt s0 (l.take (i + 1)) from ⟨_, _, _, _, _, _, HJ2.out.below HBZ.out⟩)
                  exact ⟨⟨i + 1, by omega, by go_num, HST.out⟩, by simp [intOf]; omega⟩
                · go_roundw
                  case rel => exact ⟨_, _, HRG2.out, HLF.out, HB12.out⟩
                  case measure =>
                    rw [HRG2.out.left_eq, HCNT.out]
                    exact HLT.out
    · obtain rfl : i = n := by omega
      have HU := Lib.hid hJ.up
      clear hJ
      go_wp2
      go_ret
      exact ⟨rfl, HU.out⟩
end Go.Proofs.Ytofjpbpfjjohdaa
