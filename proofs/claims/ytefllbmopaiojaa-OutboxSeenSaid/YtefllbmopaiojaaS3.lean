/- OutboxSeen: the walk. -/
import Derived.Test.YtefllbmopaiojaaSM
import Derived.Deep.RegionLaw
import Derived.Deep.DeepCutAuto
import Derived.Deep.CutBlock
namespace Go.Proofs.Ytefllbmopaiojaa
open Go.RowKit
open Go.Maps (Keyed)

set_option maxRecDepth 100000 in
set_option maxHeartbeats 4000000 in
theorem oseen_bad (s : Int) (a : Option Addr) (n k : Nat) (w : World) (h : s < 1 ∨ 4096 < s) :
    Calls Try.prog 5 #[.int .i64 s, .slice a n k] w fun e w' => e = .returned (.bool true) ∧ Below w.heap.size w w' := by
  have key : s < 1 ∨ (¬ s < 1 ∧ 4096 < s) := by omega
  have H := Lib.hid h
  clear h
  rcases key with h1 | ⟨h0, h1⟩
  all_goals
    go_enter Try.func5, Try.ntmps5
    go_wp2_with fail
    refine (awake_any _).mono ?_
    rintro e w1 ⟨rfl, hb⟩
    have HB := Lib.hid hb
    clear hb
    go_wp2_with fail
    refine (KI.newseen_bad s w1 H.out).mono ?_
    rintro e w2 ⟨rfl, rfl⟩
    go_wp2
    go_ret
    exact ⟨rfl, HB.out⟩
set_option maxRecDepth 100000 in
set_option maxHeartbeats 16000000 in
theorem oseen_good (s0 : Nat) (a : Option Addr) (n c : Nat) (l : List Int) (w : World) (h1 : 1 ≤ s0) (h2 : s0 ≤ 4096) (hl : Ints w a n l) (hn : n ≤ 140737488351232) :
    Calls Try.prog 5 #[.int .i64 (s0 : Int), .slice a n c] w fun e w' => e = .returned (.bool true) ∧ Below w.heap.size w w' := by
  have HL := Lib.hid hl
  clear hl
  go_enter Try.func5, Try.ntmps5
  go_wp2_with fail
  refine (awake_any _).mono ?_
  rintro e w1 ⟨rfl, hb⟩
  have HB := Lib.hid hb
  have HN := Lib.hid (KI.newseen_good w.heap.size s0 w1 h1 h2 hb.size)
  clear hb
  go_wp2_with fail
  refine HN.out.mono ?_
  rintro e w2 ⟨s, g, b, rfl, hS, hb, hbw⟩
  have hJ : SJ w (w2.alloc (.map #[] 0)) s g b w2.heap.size s0 [] [] 0 0 (fun _ => none) 0 (fun _ => 0) :=
    ⟨hS.below (below_alloc _ _), MapAt.made _ _ _, Nat.le_trans HB.out.size hb.size, (by obtain ⟨mm, hm, _⟩ := hS.cat.map; have := hm.lt; omega), by simp, by simp [mru, KI.kv], fun k _ => by simp, by simp, by simp, by simp, by simp, bell_up (bell_up HB.out hb) (below_alloc _ _)⟩
  have HJ := Lib.hid hJ
  have hmk := @run_makeMap Try.prog
  clear hS hb hbw hJ HB HN
  go_wp2_with fail
  generalize w2.heap.size = mt at *
  clear hmk
  go_loopw [35] (fun t35 wr => ∃ (i : Nat) (es : List KI.En) (f m : Int) (mm : Lit → Option Value) (N : Nat) (T : Int → Int), i ≤ n ∧ t35 = .int .i64 i ∧ SJ w wr s g b mt s0 (l.take i) es f m mm N T) (fun t35 _ => n - (intOf t35).toNat)
  case atStart => exact ⟨0, [], 0, 0, _, 0, _, by omega, rfl, HJ.out⟩
  case round =>
    clear HJ
    obtain ⟨i, es, f, m, mm, N, T, hi, rfl, hJ⟩ := hrel
    by_cases hin : i < n
    · obtain ⟨b0, off, rfl, hbl, hcell⟩ := HL.out.2.1.resolve_left (by omega)
      obtain ⟨x, hx⟩ : ∃ x, l[i]? = some x := ⟨_, List.getElem?_eq_getElem (show i < l.length by rw [HL.out.1]; exact hin)⟩
      have hxr : InI x := HL.out.2.2 x (List.mem_of_getElem? hx)
      have cx := (hJ.up.cell (p := ⟨b0, off + i, none⟩) hbl).trans (hcell i x hx)
      have hPl : (l.take i).length = i := by rw [List.length_take, HL.out.1]; omega
      have hCELL := Lib.hid hcell
      have HX := Lib.hid (take_snoc hx)
      have HJ := Lib.hid hJ
      have HPL := Lib.hid hPl
      have HXR := Lib.hid hxr
      have hmk := @run_makeMap Try.prog
      have hUJ := UJ.start wr
      have HUJ := Lib.hid hUJ
      have HJ2 := Lib.hid (hJ.below (below_alloc wr (.map #[] 0)))
      have hmub : wr.heap.size ≠ b := by obtain ⟨mb, hmb, _⟩ := hJ.seen.cat.map; have := hmb.lt; omega
      have hmut : wr.heap.size ≠ mt := by have := hJ.map.lt; omega
      have hmuw : w.heap.size ≤ wr.heap.size := hJ.up.size
      clear hcell hx hJ hPl hxr hUJ HJ
      go_wp2_with fail
      clear hmk
      generalize wr.alloc (.map #[] 0) = wa at *
      generalize wr.heap.size = mu at *
      have HMUB := Lib.hid hmub
      have HMUT := Lib.hid hmut
      clear hmub hmut
      go_loopw [11] (fun t11 ws => ∃ (t : Nat) (mu' : Lit → Option Value) (M : Nat), t ≤ i ∧ t11 = .int .i64 ((i : Int) - 1 - (t : Int)) ∧ SJ w ws s g b mt s0 (l.take i) es f m mm N T ∧ UJ ws mu ((l.take i).drop (i - t)) mu' M ∧ M ≤ s0) (fun t11 _ => (intOf t11 + 1).toNat)
      case atStart =>
        refine ⟨0, (fun _ => none), 0, by omega, by go_num, HJ2.out, ?_, by omega⟩
        rw [List.drop_eq_nil_of_le (by rw [HPL.out]; omega)]
        exact HUJ.out
      case round =>
        clear HJ2 HUJ
        obtain ⟨t, mu', M, hti, rfl, hJ, hU, hM⟩ := hrel
        have hlen := fun ty => hU.map.len Try.underlying54 ty
        by_cases hgo : t < i ∧ M < s0
        · obtain ⟨hlt, hMs⟩ := hgo
          obtain ⟨j, hj⟩ : ∃ j : Nat, i = j + t + 1 := ⟨i - 1 - t, by omega⟩
          obtain ⟨y, hy⟩ : ∃ y, l[j]? = some y := ⟨_, List.getElem?_eq_getElem (show j < l.length by rw [HL.out.1]; omega)⟩
          have hyr : InI y := HL.out.2.2 y (List.mem_of_getElem? hy)
          have cy := (hJ.up.cell (p := ⟨b0, off + j, none⟩) hbl).trans (hCELL.out j y hy)
          have hjt : (i : Int) - 1 - (t : Int) = (j : Int) := by omega
          have hjn : j < n := by omega
          have hdr : (l.take i).drop (i - (t + 1)) = y :: (l.take i).drop (i - t) := by
            rw [show i - (t + 1) = j by omega, show i - t = j + 1 by omega]
            have h3 : (l.take i)[j]? = some y := by rw [List.getElem?_take, if_pos (by omega)]; exact hy
            obtain ⟨h4, h5⟩ := List.getElem?_eq_some_iff.1 h3
            rw [← h5]
            exact List.drop_eq_getElem_cons h4
          obtain ⟨hlk, hc0, hc1, _⟩ := hU.look hyr
          have hSl : ((l.take i).drop (i - t)).length ≤ i := by rw [List.length_drop, HPL.out]; omega
          have hadd : IntKind.i64.wrap (cntOf mu' y + 1) = cntOf mu' y + 1 := IntWalk.i64_in _ (by omega)
          have HJ2 := Lib.hid hJ
          have HU := Lib.hid hU
          have HDR := Lib.hid hdr
          have HYR := Lib.hid hyr
          have HII := Lib.hid hj
          have hM2 : M < maxLen := by unfold maxLen; omega
          have HJT := Lib.hid hjt
          rw [hjt]
          clear hJ hU hdr hyr hy hc0 hc1 hSl hj hjt
          go_wp2_with (at_mapUpdate; refine wpList_store_map _ rfl _ _ _ 54 rfl 3 3 KI.Try.keyed Try.underlying54 _ (Try.zeroI _) mu M mu' rfl HU.out.map hM2 _ (.int .i64 (cntOf mu' y + 1)) (.int .i64 y) rfl rfl (key_int y HYR.out) ?_; intro w5 hm5 hg5 hs5)
          have HU5 := Lib.hid (HU.out.put HYR.out hm5)
          have HJ5 := Lib.hid (HJ2.out.grown HU.out.map HMUB.out HMUT.out hmuw hg5)
          clear hm5 hg5 hs5
          go_roundw
          case rel =>
            refine ⟨t + 1, _, _, by omega, ?_, HJ5.out, by rw [HDR.out]; exact HU5.out, ?_⟩
            · have := HJT.out
              rw [show (i : Int) - 1 - ((t + 1 : Nat) : Int) = (j : Int) - 1 by omega]
            · split <;> omega
          case measure =>
            have := HJT.out
            simp [intOf]
        · have hex : t = i ∨ M = s0 := by omega
          have hxm := exit_mem HPL.out hti hU.num hM hex x
          obtain ⟨hlk, hc0, hc1, hc2⟩ := hU.look HXR.out
          have hSl : ((l.take i).drop (i - t)).length ≤ i := by rw [List.length_drop, HPL.out]; omega
          have HJ3 := Lib.hid hJ
          have HU := Lib.hid hU
          have HXM := Lib.hid (hc2.trans (not_congr hxm))
          clear hU hxm hc2 hSl hJ
          have hex2 : (t = i ∧ ¬ (0 : Int) ≤ (i : Int) - 1 - (t : Int)) ∨ ((0 : Int) ≤ (i : Int) - 1 - (t : Int) ∧ ¬ M < s0) := by omega
          clear hgo hex
          by_cases hin : x ∈ (mru (l.take i)).take s0
          · have hcc : ¬ cntOf mu' x = 0 := fun h => (HXM.out.1 h) hin
            have hxP : x ∈ l.take i := (mem_mru _ _).1 (List.mem_of_mem_take hin)
            have htl := HJ3.out.look HXR.out
            rw [if_pos hxP] at htl
            obtain ⟨ht1, ht2⟩ := HJ3.out.cnt x hxP
            rw [HPL.out] at ht2
            have hN2 : N < maxLen := by have := HJ3.out.few; rw [HPL.out] at this; unfold maxLen; omega
            have hadd : IntKind.i64.wrap (T x + 1) = T x + 1 := IntWalk.i64_in _ (by omega)
            have hff := HJ3.out.ff
            rw [HPL.out] at hff
            have HIN := Lib.hid hin
            have HXP := Lib.hid hxP
            clear hin hxP
            rcases hex2 with ⟨_, hneg⟩ | ⟨hpos, hms⟩
            all_goals
              go_wp2_with (at_mapUpdate; refine wpList_store_map _ rfl _ _ _ 54 rfl 3 3 KI.Try.keyed Try.underlying54 _ (Try.zeroI _) mt N mm rfl HJ3.out.map hN2 _ _ (.int .i64 x) rfl rfl (key_int x HXR.out) ?_; intro w5 hm5 hg5 hs5)
              have hq : Q1 w w5 s g b mt s0 (((mru (l.take i)).take s0).map fun k => (k, T k)) f m _ _ := ⟨es, HJ3.out.seen.mapped HJ3.out.map HJ3.out.mne hg5, HJ3.out.kvs, hm5, HJ3.out.up.grown hg5 HJ3.out.up.size (by rintro q ⟨⟩; exact HJ3.out.mge), HJ3.out.mne⟩
              have HQ := Lib.hid (fun W (hW : Below w5.heap.size w5 W) => hq.below hW)
              have hmem : (x, T x) ∈ ((mru (l.take i)).take s0).map fun k => (k, T k) := List.mem_map.2 ⟨x, HIN.out, rfl⟩
              have HME := Lib.hid hmem
              have HMV := Lib.hid (show mset mm (.int .i64 x) (some (.int .i64 (T x + 1))) (.int .i64 x) = some (.int .i64 (T x + 1)) from mset_same (KI.Try.keyed.key (key_int x HXR.out)))
              clear hm5 hg5 hs5 hq hmem htl
              go_region_law (first
                | (go_simp; go_at_call 19; refine Calls.mono (first_old (HQ.out _ (below_drewN w5 1)) HME.out (by omega) (by omega)) ?_; rintro e w6 ⟨rfl, hq⟩
                   have HQ6 := Lib.hid hq
                   have hl6 := HQ6.out.look HXR.out HMV.out
                   clear hq)
                | (go_simp; go_at_call 20; refine Calls.mono (times_q HQ6.out notin_less (by omega)) ?_; rintro e w7 ⟨rfl, hq⟩
                   have HQ7 := Lib.hid hq
                   have hl7 := HQ7.out.look HXR.out HMV.out
                   clear hq))
              all_goals
                go_wp2_with fail
                go_roundw
                case rel =>
                  have hq7 := HQ7.out
                  rw [step_old HIN.out] at hq7
                  obtain ⟨es', hS⟩ := HJ3.out.next (v := T x + 1) HXR.out (by rw [HPL.out]; omega) hq7 (by omega) (by have := HJ3.out.fm; omega) (by split <;> omega) (has_next HXR.out HJ3.out.has HMV.out (fun k hk => mset_other (by intro e; injection e with _ e; exact hk e)))
                  exact ⟨i + 1, es', _, _, _, _, _, by omega, by go_num, by rw [HX.out]; exact hS⟩
                case measure => simp [intOf]; omega
          · have hcc : cntOf mu' x = 0 := HXM.out.2 hin
            have hN2 : N < maxLen := by have := HJ3.out.few; rw [HPL.out] at this; unfold maxLen; omega
            have hN3 : N + 1 < maxLen := by have := HJ3.out.few; rw [HPL.out] at this; unfold maxLen; omega
            have hff := HJ3.out.ff
            have hfm := HJ3.out.fm
            rw [HPL.out] at hff hfm
            have HIN := Lib.hid hin
            rw [hcc] at hlk
            clear hin hcc hc0 hc1
            rcases hex2 with ⟨_, hneg⟩ | ⟨hpos, hms⟩
            all_goals
              go_wp2_with (
                at_mapUpdate
                first
                | ((refine wpList_store_map _ rfl _ _ _ 54 rfl 3 3 KI.Try.keyed Try.underlying54 _ (Try.zeroI _) mt N mm rfl HJ3.out.map hN2 _ (.int .i64 0) (.int .i64 x) rfl rfl (key_int x HXR.out) ?_)
                   intro w4 hm4 hg4 hs4
                   (have hv4 : mset mm (.int .i64 x) (some (.int .i64 0)) (.int .i64 x) = some (.int .i64 0) := mset_same (KI.Try.keyed.key (key_int x HXR.out)))
                   (obtain ⟨N4, hN4⟩ : ∃ N4, N4 = if (mm (.int .i64 x)).isSome then N else N + 1 := ⟨_, rfl⟩)
                   rw [← hN4] at hm4
                   (have hN4' : N4 ≤ N + 1 := by rw [hN4]; split <;> omega)
                   (have hN4m : N4 < maxLen := by omega)
                   (obtain ⟨m4, hm4e⟩ : ∃ m4, m4 = mset mm (.int .i64 x) (some (.int .i64 0)) := ⟨_, rfl⟩)
                   rw [← hm4e] at hm4 hv4
                   (have hseen4 := HJ3.out.seen.mapped HJ3.out.map HJ3.out.mne hg4)
                   (have hup4 := HJ3.out.up.grown hg4 HJ3.out.up.size (by rintro q ⟨⟩; exact HJ3.out.mge))
                   (have hlk4 : (Instr.lookup 54 (.map (some mt)) (.int .i64 x) false).run Try.prog w4 = .ok (.int .i64 0) w4 := by
                     have := hm4.look KI.Try.keyed Try.underlying54 (Try.zeroI w4) false (key_int x HXR.out)
                     rw [hv4] at this
                     exact this)
                   have HM4 := Lib.hid hm4
                   have HS4 := Lib.hid hseen4
                   have HU4 := Lib.hid hup4
                   have HV4 := Lib.hid hv4
                   have HM4E := Lib.hid hm4e
                   clear hm4 hg4 hs4 hseen4 hup4 hv4 hN4 hm4e)
                | ((refine wpList_store_map _ rfl _ _ _ 54 rfl 3 3 KI.Try.keyed Try.underlying54 _ (Try.zeroI _) mt N4 m4 rfl HM4.out hN4m _ (.int .i64 1) (.int .i64 x) rfl rfl (key_int x HXR.out) ?_)
                   intro w5 hm5 hg5 hs5))
              have hq : Q1 w w5 s g b mt s0 (((mru (l.take i)).take s0).map fun k => (k, T k)) f m _ _ := ⟨es, HS4.out.mapped HM4.out HJ3.out.mne hg5, HJ3.out.kvs, hm5, HU4.out.grown hg5 HU4.out.size (by rintro q ⟨⟩; exact HJ3.out.mge), HJ3.out.mne⟩
              have HQ := Lib.hid (fun W (hW : Below w5.heap.size w5 W) => hq.below hW)
              have HME := Lib.hid (show x ∉ (((mru (l.take i)).take s0).map fun k => (k, T k)).map (·.1) by rw [List.map_map]; simpa [Function.comp_def] using HIN.out)
              have HMV := Lib.hid (show mset m4 (.int .i64 x) (some (.int .i64 1)) (.int .i64 x) = some (.int .i64 1) from mset_same (KI.Try.keyed.key (key_int x HXR.out)))
              have HNR := Lib.hid (show x ∉ ((if (((mru (l.take i)).take s0).map fun k => (k, T k)).length = s0 then (((mru (l.take i)).take s0).map fun k => (k, T k)).dropLast else (((mru (l.take i)).take s0).map fun k => (k, T k))).map (·.1)) by
                intro hx
                refine HME.out ?_
                split at hx
                · obtain ⟨t, ht, he⟩ := List.mem_map.1 hx
                  exact List.mem_map.2 ⟨t, (List.dropLast_sublist _).subset ht, he⟩
                · exact hx)
              clear hm5 hg5 hs5 hq hlk4 hlk
              go_region_law (first
                | (go_simp; go_at_call 19; refine Calls.mono (first_new (HQ.out _ (below_drewN w5 1)) HXR.out HME.out (by omega)) ?_; rintro e w6 ⟨rfl, hq⟩
                   have HQ6 := Lib.hid hq
                   have hl6 := HQ6.out.look HXR.out HMV.out
                   clear hq)
                | (go_simp; go_at_call 20; refine Calls.mono (times_q HQ6.out HNR.out (by omega)) ?_; rintro e w7 ⟨rfl, hq⟩
                   have HQ7 := Lib.hid hq
                   have hl7 := HQ7.out.look HXR.out HMV.out
                   clear hq))
              all_goals
                go_wp2_with fail
                go_roundw
                case rel =>
                  have hq7 := HQ7.out
                  rw [step_new h1 HIN.out (by rw [List.length_map])] at hq7
                  obtain ⟨es', hS⟩ := HJ3.out.next (v := 1) HXR.out (by rw [HPL.out]; omega) hq7 (by omega) (by omega) (by rw [HV4.out]; simp; omega) (has_next HXR.out HJ3.out.has HMV.out (fun k hk => by
                    have hne : (Lit.int .i64 k) ≠ .int .i64 x := by intro e; injection e with _ e; exact hk e
                    rw [mset_other hne, HM4E.out, mset_other hne]))
                  exact ⟨i + 1, es', _, _, _, _, _, by omega, by go_num, by rw [HX.out]; exact hS⟩
                case measure => simp [intOf]; omega
    · obtain rfl : i = n := by omega
      have HU := Lib.hid hJ.up
      clear hJ
      go_wp2
      go_ret
      exact ⟨rfl, HU.out⟩
end Go.Proofs.Ytefllbmopaiojaa
