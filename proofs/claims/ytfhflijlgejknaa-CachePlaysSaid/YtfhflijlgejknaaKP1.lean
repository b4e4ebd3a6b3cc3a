/- CachePlays: the law, where the size is refused; its beginning where not. -/
import Derived.Test.YtfhflijlgejknaaKP0
import Derived.BigQuiet
namespace Go.Proofs.Ytfhflijlgejknaa
open Go.RowKit

set_option maxRecDepth 100000 in
set_option maxHeartbeats 4000000 in
theorem plays_bad (r : Int) (a : Option Addr) (n c : Nat) (w : World) (h : r < 1 ∨ 4096 < r) :
    Calls Try.prog 3 #[.int .i64 r, .slice a n c] w fun e w' => e = .returned (.bool true) ∧ Below w.heap.size w w' := by
  have HW := Lib.hid (fun w => wrong_any r w)
  simp only [if_pos h] at HW
  have H := Lib.hid h
  clear h
  go_enter Try.func3, Try.ntmps3
  go_wp2_with fail
  refine (awake_any _).mono ?_
  rintro e w1 ⟨rfl, hb⟩
  have HB := Lib.hid hb
  have HN := Lib.hid (KS.new_bad r w1 H.out)
  clear hb
  go_wp2_with fail
  refine HN.out.mono ?_
  rintro e w2 ⟨rfl, rfl⟩
  go_wp2_with fail
  refine (HW.out _).mono ?_
  rintro e w3 ⟨rfl, rfl⟩
  go_wp2
  go_ret
  exact ⟨rfl, HB.out⟩
set_option maxHeartbeats 1000000 in
theorem askS_idle (w : World) : CallsD Try.prog 95 #[] .returning w fun e u' w' => e = .returned (.tuple #[]) ∧ u' = .returning ∧ w' = w := by
  refine callsD_of_wpS Try.func95 rfl fun c₀ cs hu => ?_
  apply wpS_region
  simp [wpOpsS, go_sem, recoverD, hu, Try.ntmps95]
  cases c₀
  simp_all [bodyPostS, results, Try.results95]
set_option maxRecDepth 100000 in
set_option maxHeartbeats 4000000 in
theorem askS_any (k h : ByteArray) (q : Nat) (w : World) (hc : w.cell? ⟨q, 2, none⟩ = some (.string h)) :
    Calls Try.prog 53 #[.func (.func 16) #[] #[.pointer (some ⟨q, 0, none⟩)], .string k] w fun x w' => x = .returned (.bool (pre k h)) ∧ w = w' := by
  have HQ := Lib.hid (asks_any k h q w hc)
  go_enter_defers Try.func53, Try.ntmps53
  go_wp2_with fail
  refine HQ.out.mono ?_
  rintro x w2 ⟨rfl, rfl⟩
  go_wp2
  refine leaves_cons (f := 95) (args := #[]) (by simp) (by simp [go_sem]) ?_
  refine (askS_idle _).mono ?_
  rintro e u' w'' ⟨rfl, rfl, rfl⟩
  simp [Leaves, settle, results, Try.results53, go_sem]
theorem questS {w : World} {B g b size q : Nat} {es : List KS.En} {f m V : Int} {k : ByteArray} (h : KS.CAt w B g b size es f m) (hq : Whole w q 33 #[.int .i64 2, .int .i64 V, .string k]) :
    KS.Question w g b es (.func (.func 16) #[] #[.pointer (some ⟨q, 0, none⟩)]) (fun x => pre x k) (fun W _ => Whole W q 33 #[.int .i64 2, .int .i64 V, .string k]) (fun _ => False) := by
  refine ⟨fun W done p x v hI _ => (askS_any x k q W (by rw [hI.cell]; rfl)).mono ?_, fun W W' done hI hc => hI.kept (hc.block _ hI.lt ?_), fun k hk => hk.elim⟩
  · rintro e W' ⟨rfl, rfl⟩
    exact ⟨rfl, hI, KS.Chg.refl _ _⟩
  · rintro (h1 | h1)
    · have := hq.lt; omega
    · exact h.kinds hq (by decide) (by decide) h1
theorem setfour {w : World} {wb q : Nat} {cs : Array Value} {v0 v1 v2 v3 : Value} (h : Whole w wb 31 cs) (hq : ∃ cs fr, w.heap[q]? = some (.cells cs 40 fr)) : ((((w.setCell ⟨wb, 0, none⟩ v0).setCell ⟨wb, 1, none⟩ v1).setCell ⟨wb, 2, none⟩ v2).setCell ⟨wb, 3, none⟩ v3).heap[q]? = w.heap[q]? := by
  have hne : q ≠ wb := by
    rintro rfl
    obtain ⟨cs', fr, hq⟩ := hq
    unfold Whole at h
    rw [h] at hq
    injection hq with hq
    injection hq with _ hq
    exact absurd hq (by decide)
  rw [Below.heap_setCell _ _ _ _ hne, Below.heap_setCell _ _ _ _ hne, Below.heap_setCell _ _ _ _ hne, Below.heap_setCell _ _ _ _ hne]
theorem KS.CAt.up2 {w W W' : World} {g b size : Nat} {es : List KS.En} {f m : Int} (h : KS.CAt W w.heap.size g b size es f m) (hb : Below w.heap.size w W) (hc : KS.Chg W W' (KS.CB g b es)) : Below w.heap.size w W' := h.up hb hc
/-- Operations that came in. -/
def OpsIn (w : World) (a : Option Addr) (n : Nat) : Prop :=
  n = 0 ∨ ∃ b off, a = some ⟨b, off, none⟩ ∧ b < w.heap.size ∧ ∀ i, i < n → ∃ (K V : Int) (k : ByteArray), w.cell? ⟨b, off + i * 3, none⟩ = some (.int .i64 K) ∧ w.cell? ⟨b, off + i * 3 + 1, none⟩ = some (.int .i64 V) ∧ w.cell? ⟨b, off + i * 3 + 2, none⟩ = some (.string k) ∧ k.size ≤ 9223372036854775807
set_option maxRecDepth 100000 in
set_option maxHeartbeats 4000000 in
theorem plays_good (s : Nat) (a : Option Addr) (n c : Nat) (w : World) (h1 : 1 ≤ s) (h2 : s ≤ 4096) (ho : OpsIn w a n) (hn : n ≤ 140737488355328) :
    Calls Try.prog 3 #[.int .i64 (s : Int), .slice a n c] w fun e w' => e = .returned (.bool true) ∧ Below w.heap.size w w' := by
  have HW := Lib.hid (fun w => wrong_any (s : Int) w)
  have HO := Lib.hid ho
  clear ho
  simp only [if_neg (show ¬ ((s : Int) < 1 ∨ 4096 < (s : Int)) by omega)] at HW
  go_enter Try.func3, Try.ntmps3
  go_wp2_with fail
  refine (awake_any _).mono ?_
  rintro e w1 ⟨rfl, hb⟩
  have HB := Lib.hid hb
  have HN := Lib.hid (KS.new_good w.heap.size s w1 h1 h2 hb.size)
  clear hb
  go_wp2_with fail
  refine HN.out.mono ?_
  rintro e w2 ⟨g, b, rfl, hcat, hg, hb', hb⟩
  have HB2 := Lib.hid (HB.out.trans (hb.mono HB.out.size))
  have HCAT := Lib.hid hcat
  clear hcat hb
  go_wp2_with fail
  refine (HW.out _).mono ?_
  rintro e w3 ⟨rfl, rfl⟩
  have hb3 := below_alloc w2 (.cells #[.slice none 0 0, .int .i64 (s : Int), .int .i64 0, .int .i64 0] 31)
  have hx3 : Whole (w2.alloc (.cells #[.slice none 0 0, .int .i64 (s : Int), .int .i64 0, .int .i64 0] 31)) w2.heap.size 31 #[.slice none 0 0, .int .i64 (s : Int), .int .i64 0, .int .i64 0] := heap_alloc_new _ _
  have HJ0 := Lib.hid (show JP (w2.alloc (.cells #[.slice none 0 0, .int .i64 (s : Int), .int .i64 0, .int .i64 0] 31)) w.heap.size w2.heap.size g b s [] 0 0 none 0 0 (prs []) 0 0 from ⟨HCAT.out.below hb3, hx3, Pairs.none _ _⟩)
  have HB3 := Lib.hid (HB2.out.trans (hb3.mono HB2.out.size))
  have hwb0 : w.heap.size ≤ w2.heap.size := HB2.out.size
  clear hb3 hx3
  go_wp2_with fail
  generalize w2.heap.size = wb at *
  go_loopw [52] (fun iv wr => ∃ i : Nat, i ≤ n ∧ iv = .int .i64 i ∧ (∃ es f m A N C, JP wr w.heap.size wb g b s es f m A N C (prs es) f m ∧ 0 ≤ f ∧ 0 ≤ m ∧ f + m ≤ i) ∧ Below w.heap.size w wr) (fun iv _ => n - (intOf iv).toNat)
  case atStart => exact ⟨0, by omega, rfl, ⟨_, _, _, _, _, _, HJ0.out, by omega, by omega, by omega⟩, HB3.out⟩
  case round =>
    obtain ⟨i, hin, rfl, ⟨es, f, m, A, N, C, hj, hf, hm, hfm⟩, hbw⟩ := hrel
    by_cases hil : i < n
    · obtain ⟨bo, off, rfl, hbo, hcell⟩ := HO.out.resolve_left (by omega)
      obtain ⟨K, V, k, z0, z1, z2, hks⟩ := hcell i hil
      have o0 := (hbw.cell (p := ⟨bo, off + i * 3, none⟩) hbo).trans z0
      have o1 := (hbw.cell (p := ⟨bo, off + i * 3 + 1, none⟩) hbo).trans z1
      have o2 := (hbw.cell (p := ⟨bo, off + i * 3 + 2, none⟩) hbo).trans z2
      have HBW := Lib.hid hbw
      have HJW := Lib.hid hj
      clear hbw hj z0 z1 z2 hcell
      by_cases hK : K = 0 ∨ K = 1 ∨ K = 2
      · rcases hK with rfl | rfl | rfl
        · obtain ⟨w3, hw3⟩ : ∃ w3, w3 = wr.alloc (.cells #[.int .i64 0, .int .i64 V, .string k] 33) := ⟨_, rfl⟩
          have hb3 : Below wr.heap.size wr w3 := by rw [hw3]; exact below_alloc _ _
          have HJ3 := Lib.hid (HJW.out.below hb3)
          have HB3 := Lib.hid (HBW.out.trans (hb3.mono HBW.out.size))
          have ho3 : Whole w3 wr.heap.size 33 #[.int .i64 0, .int .i64 V, .string k] := by rw [hw3]; exact heap_alloc_new _ _
          have HO3 := Lib.hid ho3
          obtain ⟨x0, x1, x2, x3, _, _, _, _⟩ := four_of HJW.out.box
          have hwbl : wb < wr.heap.size := HJW.out.box.lt
          have hwbne : wb ≠ wr.heap.size := by omega
          have hwb3 : wb < w3.heap.size := HJ3.out.box.lt
          have hNs : N ≤ s := by have h1 := HJW.out.row.len; have h2 := HJW.out.cat.len; rw [prs_len] at h1; omega
          clear hb3 ho3
          by_cases hin : k ∈ es.map (·.2.1)
          · obtain ⟨⟨e, k', v⟩, hmem, hkk⟩ := List.mem_map.1 hin
            simp only at hkk
            subst hkk
            obtain ⟨e1, e2, rfl⟩ := List.append_of_mem hmem
            have hko := key_out HJW.out.cat.keys
            have HR := Lib.hid (rget_there (l1 := prs e1) (l2 := prs e2) (v := v) (s : Int) f m k' w3 (show Pairs w3 w.heap.size A N C (prs e1 ++ (k', v) :: prs e2) from (by have h := HJ3.out.row; rw [prs_app] at h; exact h)) (by omega) hf (by omega) hko)
            clear hmem hko hin
            go_wp2_with fail
            rw [← hw3]
            clear hw3
            refine HR.out.mono ?_
            rintro x w4 ⟨⟨a5, c5, rfl, hp5⟩, hb5⟩
            obtain ⟨l5, hl5⟩ : ∃ l5, l5 = (k', v) :: (prs e1 ++ prs e2) := ⟨_, rfl⟩
            have HJ4 := Lib.hid (HJ3.out.below hb5)
            have ho4 := HO3.out.kept (hb5.block _ HO3.out.lt)
            obtain ⟨y0, y1, y2, y3, g0, g1, g2, g3⟩ := four_of HJ4.out.box
            have p0 : w4.cell? ⟨wr.heap.size, 0, none⟩ = some (.int .i64 0) := by rw [ho4.cell]; rfl
            have p1 : w4.cell? ⟨wr.heap.size, 1, none⟩ = some (.int .i64 V) := by rw [ho4.cell]; rfl
            have p2 : w4.cell? ⟨wr.heap.size, 2, none⟩ = some (.string k') := by rw [ho4.cell]; rfl
            have hwr4 : wr.heap.size < w4.heap.size := ho4.lt
            have hwb4 : wb < w4.heap.size := HJ4.out.box.lt
            have hz4 := hb5.size
            rw [← hl5] at hp5
            have hne4 : wr.heap.size ≠ w4.heap.size := by omega
            have hneb4 : wb ≠ w4.heap.size := by omega
            have HJW5 := HJ4
            have HBW5 := Lib.hid (HB3.out.trans (hb5.mono HB3.out.size))
            have hpW := hp5
            obtain ⟨w5, hw5⟩ : ∃ w5, w5 = (((w4.setCell ⟨wb, 0, none⟩ (.slice a5 N c5)).setCell ⟨wb, 1, none⟩ (.int .i64 (s : Int))).setCell ⟨wb, 2, none⟩ (.int .i64 (f + 1))).setCell ⟨wb, 3, none⟩ (.int .i64 (m)) := ⟨_, rfl⟩
            have hc5 : KS.Chg w4 w5 (fun q => q = wb) := by
              rw [hw5]
              exact ((((KS.Chg.refl w4 (fun q => q = wb)).set rfl 0 _).set rfl 1 _).set rfl 2 _).set rfl 3 _
            have hx5 : Whole w5 wb 31 #[.slice a5 N c5, .int .i64 (s : Int), .int .i64 (f + 1), .int .i64 (m)] := by
              rw [hw5]
              have := (((HJW5.out.box.store 0 (.slice a5 N c5)).store 1 (.int .i64 (s : Int))).store 2 (.int .i64 (f + 1))).store 3 (.int .i64 (m))
              simpa using this
            have hp6 : Pairs w5 w.heap.size a5 N c5 l5 := by
              refine Pairs.mono (B := w3.heap.size) ?_ HB3.out.size
              rw [hw5]
              exact (((hpW.setQ hwb3).setQ hwb3).setQ hwb3).setQ hwb3
            have HJ5 := Lib.hid (HJW5.out.set hc5 hx5 hp6)
            have HB5a := Lib.hid (HBW5.out.trans (hc5.below (B := w.heap.size) (by rintro q rfl; omega) HBW5.out.size))
            have ho5 := ho4.kept (hc5.block _ ho4.lt (fun e => hwbne e.symm))
            clear hc5 hx5 hp6
            obtain ⟨w5b, hw5b⟩ : ∃ w5b, w5b = w5.alloc (.cells #[.slice a5 N c5, .int .i64 (s : Int), .int .i64 (f + 1), .int .i64 (m)] 31) := ⟨_, rfl⟩
            have hb5b : Below w5.heap.size w5 w5b := by rw [hw5b]; exact below_alloc _ _
            have HJ5b := Lib.hid (HJ5.out.below hb5b)
            have HB5b := Lib.hid (HB5a.out.trans (hb5b.mono HB5a.out.size))
            have HO5 := Lib.hid (ho5.kept (hb5b.block _ ho5.lt))
            clear hb5b ho5
            have HG := Lib.hid (KS.Get_there w5b HJ5b.out.cat ⟨hf, by omega⟩)
            clear hp5 hb5 hpW ho4 x0 x1 x2 x3
            go_wp2_with fail
            rw [← hw5, ← hw5b]
            clear hw5 hw5b y0 y1 y2 y3 g0 g1 g2 g3 p0 p1 p2
            refine HG.out.mono ?_
            rintro x w6 ⟨rfl, hcat2, hc⟩
            obtain ⟨wt, hwt⟩ : ∃ wt, wt = w6 := ⟨_, rfl⟩
            obtain ⟨es2, hes2⟩ : ∃ es2, es2 = (e, k', v) :: (e1 ++ e2) := ⟨_, rfl⟩
            have HJ := Lib.hid (show JP wt w.heap.size wb g b s es2 (f + 1) m a5 N c5 (prs es2) (f + 1) m by
              have h := HJ5b.out.chg hc hcat2
              rw [hl5, show (k', v) :: (prs e1 ++ prs e2) = prs ((e, k', v) :: (e1 ++ e2)) by simp [prs], ← hes2] at h
              rw [hwt]
              exact h)
            have HBT := Lib.hid (show Below w.heap.size w wt by rw [hwt]; exact HJ5b.out.cat.up2 HB5b.out hc)
            clear hcat2 hc hl5 hes2
            have HK := Lib.hid (KS.Keys_any wt HJ.out.cat)
            have hes : es2.length ≤ 4096 := Nat.le_trans HJ.out.cat.len h2
            have hnl : N = es2.length := by have := HJ.out.row.len; rw [prs_len] at this; omega
            go_wp2_with fail
            rw [← hwt]
            clear hwt
            refine HK.out.mono ?_
            rintro x w5 ⟨keys, rfl, hown, hb5⟩
            obtain ⟨ka, kc, rfl, _, _⟩ := owned_any hown
            have HJ5 := Lib.hid (HJ.out.below hb5)
            have HOW := Lib.hid hown
            have HB5 := Lib.hid (HBT.out.trans (hb5.mono HBT.out.size))
            obtain ⟨x0, x1, x2, x3, _, _, _, _⟩ := four_of HJ5.out.box
            have HLEN := Lib.hid (KS.len_any w5 HJ5.out.cat)
            clear hown hb5
            subst hnl
            go_wp2_with fail
            refine HLEN.out.mono ?_
            rintro x w6 ⟨rfl, rfl⟩
            go_wp2_with fail
            clear x0 x1 x2 x3
            go_loopw [131] (fun jv wr => ∃ j : Nat, j ≤ es2.length ∧ jv = .int .i64 j ∧ Below w5.heap.size w5 wr) (fun jv _ => es2.length - (intOf jv).toNat)
            case atStart => exact ⟨0, by omega, rfl, Below.refl _ _⟩
            case round =>
              obtain ⟨j, hjn, rfl, hb9⟩ := hrel
              have HB9 := Lib.hid hb9
              have HJ9 := Lib.hid (HJ5.out.below hb9)
              obtain ⟨x0, x1, x2, x3, _, _, _, _⟩ := four_of HJ9.out.box
              by_cases hjl : j < es2.length
              · obtain ⟨⟨p, k9, v9⟩, ht⟩ : ∃ t, es2[j]? = some t := ⟨_, List.getElem?_eq_getElem hjl⟩
                obtain ⟨b1, rfl, _, _, ce1⟩ := KS.owned_at (i := j) (u := .string k9) (owns_kept HOW.out (fun q hq => hb9.block q (HOW.out.lt q hq).2)) (by simp [ht])
                obtain ⟨b2, off2, rfl, _, ce2, _⟩ := HJ9.out.row.cells (i := j) (p := (k9, v9)) (by simp [prs, ht])
                simp only at ce2
                clear ht hb9
                go_wp2_with fail
                go_quiet (fail)
                go_wp2
                go_roundw
                case rel => exact ⟨j + 1, by omega, by go_num, HB9.out.trans ((below_drewN _ _).mono HB9.out.size)⟩
                case measure => simp [intOf]; omega
              · obtain rfl : j = es2.length := by omega
                have HCT := Lib.hid (KS.Counts_any wr HJ9.out.cat)
                have HBW := Lib.hid (HB5.out.trans (hb9.mono HB5.out.size))
                clear hb9
                go_wp2_with fail
                refine HCT.out.mono ?_
                rintro x w8 ⟨rfl, nd, rfl⟩
                have HJ10 := Lib.hid (HJ9.out.below (below_drewN wr nd))
                obtain ⟨y0, y1, y2, y3, _, _, _, _⟩ := four_of HJ10.out.box
                have HB10 := Lib.hid (HBW.out.trans ((below_drewN wr nd).mono HBW.out.size))
                clear x0 x1 x2 x3
                go_wp2
                go_roundw
                case rel => exact ⟨i + 1, by omega, by go_num, ⟨es2, (f + 1), m, a5, es2.length, c5, HJ10.out, by omega, by omega, by omega⟩, HB10.out⟩
                case measure => simp [intOf]; omega
          · have hin2 : k ∉ (prs es).map (·.1) := by rw [prs_keys]; exact hin
            have HR := Lib.hid (rget_none (s : Int) f m k w3 HJ3.out.row (by omega) hm (by omega) hin2)
            have HIN := Lib.hid hin
            go_wp2_with fail
            rw [← hw3]
            clear hw3
            refine HR.out.mono ?_
            rintro x w4 ⟨rfl, hb5⟩
            have hp5 := HJ3.out.row.below hb5
            have HJ4 := Lib.hid (HJ3.out.below hb5)
            have ho4 := HO3.out.kept (hb5.block _ HO3.out.lt)
            obtain ⟨y0, y1, y2, y3, g0, g1, g2, g3⟩ := four_of HJ4.out.box
            have p0 : w4.cell? ⟨wr.heap.size, 0, none⟩ = some (.int .i64 0) := by rw [ho4.cell]; rfl
            have p1 : w4.cell? ⟨wr.heap.size, 1, none⟩ = some (.int .i64 V) := by rw [ho4.cell]; rfl
            have p2 : w4.cell? ⟨wr.heap.size, 2, none⟩ = some (.string k) := by rw [ho4.cell]; rfl
            have hwr4 : wr.heap.size < w4.heap.size := ho4.lt
            have hwb4 : wb < w4.heap.size := HJ4.out.box.lt
            have hz4 := hb5.size
            have hne4 : wr.heap.size ≠ w4.heap.size := by omega
            have hneb4 : wb ≠ w4.heap.size := by omega
            have HJW5 := HJ4
            have HBW5 := Lib.hid (HB3.out.trans (hb5.mono HB3.out.size))
            have hpW := hp5
            obtain ⟨w5, hw5⟩ : ∃ w5, w5 = (((w4.setCell ⟨wb, 0, none⟩ (.slice A N C)).setCell ⟨wb, 1, none⟩ (.int .i64 (s : Int))).setCell ⟨wb, 2, none⟩ (.int .i64 (f))).setCell ⟨wb, 3, none⟩ (.int .i64 (m + 1)) := ⟨_, rfl⟩
            have hc5 : KS.Chg w4 w5 (fun q => q = wb) := by
              rw [hw5]
              exact ((((KS.Chg.refl w4 (fun q => q = wb)).set rfl 0 _).set rfl 1 _).set rfl 2 _).set rfl 3 _
            have hx5 : Whole w5 wb 31 #[.slice A N C, .int .i64 (s : Int), .int .i64 (f), .int .i64 (m + 1)] := by
              rw [hw5]
              have := (((HJW5.out.box.store 0 (.slice A N C)).store 1 (.int .i64 (s : Int))).store 2 (.int .i64 (f))).store 3 (.int .i64 (m + 1))
              simpa using this
            have hp6 : Pairs w5 w.heap.size A N C (prs es) := by
              rw [hw5]
              exact hpW.keep (by simp [World.setCell]) (fun ad ha => by have hk := hpW.at_ ad ha; exact setfour HJW5.out.box hk.2.2.2.1)
            have HJ5 := Lib.hid (HJW5.out.set hc5 hx5 hp6)
            have HB5a := Lib.hid (HBW5.out.trans (hc5.below (B := w.heap.size) (by rintro q rfl; omega) HBW5.out.size))
            have ho5 := ho4.kept (hc5.block _ ho4.lt (fun e => hwbne e.symm))
            clear hc5 hx5 hp6
            obtain ⟨w5b, hw5b⟩ : ∃ w5b, w5b = w5.alloc (.cells #[.slice A N C, .int .i64 (s : Int), .int .i64 (f), .int .i64 (m + 1)] 31) := ⟨_, rfl⟩
            have hb5b : Below w5.heap.size w5 w5b := by rw [hw5b]; exact below_alloc _ _
            have HJ5b := Lib.hid (HJ5.out.below hb5b)
            have HB5b := Lib.hid (HB5a.out.trans (hb5b.mono HB5a.out.size))
            have HO5 := Lib.hid (ho5.kept (hb5b.block _ ho5.lt))
            clear hb5b ho5
            have HG := Lib.hid (KS.Get_none k w5b HJ5b.out.cat hks HIN.out ⟨hm, by omega⟩)
            clear hp5 hb5 hpW ho4 x0 x1 x2 x3
            go_wp2_with fail
            rw [← hw5, ← hw5b]
            clear hw5 hw5b y0 y1 y2 y3 g0 g1 g2 g3 p0 p1 p2
            refine HG.out.mono ?_
            rintro x w6 ⟨rfl, hcat2, hc⟩
            obtain ⟨wt, hwt⟩ : ∃ wt, wt = w6 := ⟨_, rfl⟩
            have HJ := Lib.hid (show JP wt w.heap.size wb g b s es f (m + 1) A N C (prs es) f (m + 1) by
              have h := HJ5b.out.chg hc hcat2
              rw [hwt]
              exact h)
            have HBT := Lib.hid (show Below w.heap.size w wt by rw [hwt]; exact HJ5b.out.cat.up2 HB5b.out hc)
            clear hcat2 hc
            have HK := Lib.hid (KS.Keys_any wt HJ.out.cat)
            have hes : es.length ≤ 4096 := Nat.le_trans HJ.out.cat.len h2
            have hnl : N = es.length := by have := HJ.out.row.len; rw [prs_len] at this; omega
            go_wp2_with fail
            rw [← hwt]
            clear hwt
            refine HK.out.mono ?_
            rintro x w5 ⟨keys, rfl, hown, hb5⟩
            obtain ⟨ka, kc, rfl, _, _⟩ := owned_any hown
            have HJ5 := Lib.hid (HJ.out.below hb5)
            have HOW := Lib.hid hown
            have HB5 := Lib.hid (HBT.out.trans (hb5.mono HBT.out.size))
            obtain ⟨x0, x1, x2, x3, _, _, _, _⟩ := four_of HJ5.out.box
            have HLEN := Lib.hid (KS.len_any w5 HJ5.out.cat)
            clear hown hb5
            subst hnl
            go_wp2_with fail
            refine HLEN.out.mono ?_
            rintro x w6 ⟨rfl, rfl⟩
            go_wp2_with fail
            clear x0 x1 x2 x3
            go_loopw [131] (fun jv wr => ∃ j : Nat, j ≤ es.length ∧ jv = .int .i64 j ∧ Below w5.heap.size w5 wr) (fun jv _ => es.length - (intOf jv).toNat)
            case atStart => exact ⟨0, by omega, rfl, Below.refl _ _⟩
            case round =>
              obtain ⟨j, hjn, rfl, hb9⟩ := hrel
              have HB9 := Lib.hid hb9
              have HJ9 := Lib.hid (HJ5.out.below hb9)
              obtain ⟨x0, x1, x2, x3, _, _, _, _⟩ := four_of HJ9.out.box
              by_cases hjl : j < es.length
              · obtain ⟨⟨p, k9, v9⟩, ht⟩ : ∃ t, es[j]? = some t := ⟨_, List.getElem?_eq_getElem hjl⟩
                obtain ⟨b1, rfl, _, _, ce1⟩ := KS.owned_at (i := j) (u := .string k9) (owns_kept HOW.out (fun q hq => hb9.block q (HOW.out.lt q hq).2)) (by simp [ht])
                obtain ⟨b2, off2, rfl, _, ce2, _⟩ := HJ9.out.row.cells (i := j) (p := (k9, v9)) (by simp [prs, ht])
                simp only at ce2
                clear ht hb9
                go_wp2_with fail
                go_quiet (fail)
                go_wp2
                go_roundw
                case rel => exact ⟨j + 1, by omega, by go_num, HB9.out.trans ((below_drewN _ _).mono HB9.out.size)⟩
                case measure => simp [intOf]; omega
              · obtain rfl : j = es.length := by omega
                have HCT := Lib.hid (KS.Counts_any wr HJ9.out.cat)
                have HBW := Lib.hid (HB5.out.trans (hb9.mono HB5.out.size))
                clear hb9
                go_wp2_with fail
                refine HCT.out.mono ?_
                rintro x w8 ⟨rfl, nd, rfl⟩
                have HJ10 := Lib.hid (HJ9.out.below (below_drewN wr nd))
                obtain ⟨y0, y1, y2, y3, _, _, _, _⟩ := four_of HJ10.out.box
                have HB10 := Lib.hid (HBW.out.trans ((below_drewN wr nd).mono HBW.out.size))
                clear x0 x1 x2 x3
                go_wp2
                go_roundw
                case rel => exact ⟨i + 1, by omega, by go_num, ⟨es, f, (m + 1), A, es.length, C, HJ10.out, by omega, by omega, by omega⟩, HB10.out⟩
                case measure => simp [intOf]; omega
        · obtain ⟨w3, hw3⟩ : ∃ w3, w3 = wr.alloc (.cells #[.int .i64 1, .int .i64 V, .string k] 33) := ⟨_, rfl⟩
          have hb3 : Below wr.heap.size wr w3 := by rw [hw3]; exact below_alloc _ _
          have HJ3 := Lib.hid (HJW.out.below hb3)
          have HB3 := Lib.hid (HBW.out.trans (hb3.mono HBW.out.size))
          have ho3 : Whole w3 wr.heap.size 33 #[.int .i64 1, .int .i64 V, .string k] := by rw [hw3]; exact heap_alloc_new _ _
          have HO3 := Lib.hid ho3
          obtain ⟨x0, x1, x2, x3, _, _, _, _⟩ := four_of HJW.out.box
          have hwbl : wb < wr.heap.size := HJW.out.box.lt
          have hwbne : wb ≠ wr.heap.size := by omega
          have hwb3 : wb < w3.heap.size := HJ3.out.box.lt
          have hNs : N ≤ s := by have h1 := HJW.out.row.len; have h2 := HJW.out.cat.len; rw [prs_len] at h1; omega
          clear hb3 ho3
          have HR := Lib.hid (rput_any f m k V w3 HJ3.out.row hNs h2 h1)
          go_wp2_with fail
          rw [← hw3]
          clear hw3
          refine HR.out.mono ?_
          rintro x w4 ⟨a5, n5, c5, l5, rfl, hp5, hb5, hput⟩
          have HJ4 := Lib.hid (HJ3.out.below hb5)
          have ho4 := HO3.out.kept (hb5.block _ HO3.out.lt)
          obtain ⟨y0, y1, y2, y3, g0, g1, g2, g3⟩ := four_of HJ4.out.box
          have p0 : w4.cell? ⟨wr.heap.size, 0, none⟩ = some (.int .i64 1) := by rw [ho4.cell]; rfl
          have p1 : w4.cell? ⟨wr.heap.size, 1, none⟩ = some (.int .i64 V) := by rw [ho4.cell]; rfl
          have p2 : w4.cell? ⟨wr.heap.size, 2, none⟩ = some (.string k) := by rw [ho4.cell]; rfl
          have hwr4 : wr.heap.size < w4.heap.size := ho4.lt
          have hwb4 : wb < w4.heap.size := HJ4.out.box.lt
          have hz4 := hb5.size
          have HJW5 := HJ4
          have HBW5 := Lib.hid (HB3.out.trans (hb5.mono HB3.out.size))
          have hpW := hp5
          obtain ⟨w5, hw5⟩ : ∃ w5, w5 = (((w4.setCell ⟨wb, 0, none⟩ (.slice a5 n5 c5)).setCell ⟨wb, 1, none⟩ (.int .i64 (s : Int))).setCell ⟨wb, 2, none⟩ (.int .i64 (f))).setCell ⟨wb, 3, none⟩ (.int .i64 (m)) := ⟨_, rfl⟩
          have hc5 : KS.Chg w4 w5 (fun q => q = wb) := by
            rw [hw5]
            exact ((((KS.Chg.refl w4 (fun q => q = wb)).set rfl 0 _).set rfl 1 _).set rfl 2 _).set rfl 3 _
          have hx5 : Whole w5 wb 31 #[.slice a5 n5 c5, .int .i64 (s : Int), .int .i64 (f), .int .i64 (m)] := by
            rw [hw5]
            have := (((HJW5.out.box.store 0 (.slice a5 n5 c5)).store 1 (.int .i64 (s : Int))).store 2 (.int .i64 (f))).store 3 (.int .i64 (m))
            simpa using this
          have hp6 : Pairs w5 w.heap.size a5 n5 c5 l5 := by
            refine Pairs.mono (B := w3.heap.size) ?_ HB3.out.size
            rw [hw5]
            exact (((hpW.setQ hwb3).setQ hwb3).setQ hwb3).setQ hwb3
          have HJ5 := Lib.hid (HJW5.out.set hc5 hx5 hp6)
          have HB5a := Lib.hid (HBW5.out.trans (hc5.below (B := w.heap.size) (by rintro q rfl; omega) HBW5.out.size))
          clear hc5 hx5 hp6
          have HPT := Lib.hid hput
          have HP := Lib.hid (KS.Put_any k V w5 HJ5.out.cat hks HB5a.out.size)
          clear hp5 hb5 hput hpW ho4 x0 x1 x2 x3
          go_wp2_with fail
          rw [← hw5]
          clear hw5 y0 y1 y2 y3 g0 g1 g2 g3 p0 p1 p2
          refine HP.out.mono ?_
          rintro x w6 ⟨rfl, es2, hcat2, hput2, hc⟩
          obtain ⟨wt, hwt⟩ : ∃ wt, wt = w6 := ⟨_, rfl⟩
          have HJ := Lib.hid (show JP wt w.heap.size wb g b s es2 f m a5 n5 c5 (prs es2) f m by
            have h := HJ5.out.chg hc hcat2
            rw [put_alike hput2 HPT.out HJ5.out.cat.keys] at h
            rw [hwt]
            exact h)
          have HBT := Lib.hid (show Below w.heap.size w wt by rw [hwt]; exact HJ5.out.cat.up2 HB5a.out hc)
          clear hcat2 hput2 hc
          have HK := Lib.hid (KS.Keys_any wt HJ.out.cat)
          have hes : es2.length ≤ 4096 := Nat.le_trans HJ.out.cat.len h2
          have hnl : n5 = es2.length := by have := HJ.out.row.len; rw [prs_len] at this; omega
          go_wp2_with fail
          rw [← hwt]
          clear hwt
          refine HK.out.mono ?_
          rintro x w5 ⟨keys, rfl, hown, hb5⟩
          obtain ⟨ka, kc, rfl, _, _⟩ := owned_any hown
          have HJ5 := Lib.hid (HJ.out.below hb5)
          have HOW := Lib.hid hown
          have HB5 := Lib.hid (HBT.out.trans (hb5.mono HBT.out.size))
          obtain ⟨x0, x1, x2, x3, _, _, _, _⟩ := four_of HJ5.out.box
          have HLEN := Lib.hid (KS.len_any w5 HJ5.out.cat)
          clear hown hb5
          subst hnl
          go_wp2_with fail
          refine HLEN.out.mono ?_
          rintro x w6 ⟨rfl, rfl⟩
          go_wp2_with fail
          clear x0 x1 x2 x3
          go_loopw [131] (fun jv wr => ∃ j : Nat, j ≤ es2.length ∧ jv = .int .i64 j ∧ Below w5.heap.size w5 wr) (fun jv _ => es2.length - (intOf jv).toNat)
          case atStart => exact ⟨0, by omega, rfl, Below.refl _ _⟩
          case round =>
            obtain ⟨j, hjn, rfl, hb9⟩ := hrel
            have HB9 := Lib.hid hb9
            have HJ9 := Lib.hid (HJ5.out.below hb9)
            obtain ⟨x0, x1, x2, x3, _, _, _, _⟩ := four_of HJ9.out.box
            by_cases hjl : j < es2.length
            · obtain ⟨⟨p, k9, v9⟩, ht⟩ : ∃ t, es2[j]? = some t := ⟨_, List.getElem?_eq_getElem hjl⟩
              obtain ⟨b1, rfl, _, _, ce1⟩ := KS.owned_at (i := j) (u := .string k9) (owns_kept HOW.out (fun q hq => hb9.block q (HOW.out.lt q hq).2)) (by simp [ht])
              obtain ⟨b2, off2, rfl, _, ce2, _⟩ := HJ9.out.row.cells (i := j) (p := (k9, v9)) (by simp [prs, ht])
              simp only at ce2
              clear ht hb9
              go_wp2_with fail
              go_quiet (fail)
              go_wp2
              go_roundw
              case rel => exact ⟨j + 1, by omega, by go_num, HB9.out.trans ((below_drewN _ _).mono HB9.out.size)⟩
              case measure => simp [intOf]; omega
            · obtain rfl : j = es2.length := by omega
              have HCT := Lib.hid (KS.Counts_any wr HJ9.out.cat)
              have HBW := Lib.hid (HB5.out.trans (hb9.mono HB5.out.size))
              clear hb9
              go_wp2_with fail
              refine HCT.out.mono ?_
              rintro x w8 ⟨rfl, nd, rfl⟩
              have HJ10 := Lib.hid (HJ9.out.below (below_drewN wr nd))
              obtain ⟨y0, y1, y2, y3, _, _, _, _⟩ := four_of HJ10.out.box
              have HB10 := Lib.hid (HBW.out.trans ((below_drewN wr nd).mono HBW.out.size))
              clear x0 x1 x2 x3
              go_wp2
              go_roundw
              case rel => exact ⟨i + 1, by omega, by go_num, ⟨es2, f, m, a5, es2.length, c5, HJ10.out, by omega, by omega, by omega⟩, HB10.out⟩
              case measure => simp [intOf]; omega
        · obtain ⟨w3, hw3⟩ : ∃ w3, w3 = wr.alloc (.cells #[.int .i64 2, .int .i64 V, .string k] 33) := ⟨_, rfl⟩
          have hb3 : Below wr.heap.size wr w3 := by rw [hw3]; exact below_alloc _ _
          have HJ3 := Lib.hid (HJW.out.below hb3)
          have HB3 := Lib.hid (HBW.out.trans (hb3.mono HBW.out.size))
          have ho3 : Whole w3 wr.heap.size 33 #[.int .i64 2, .int .i64 V, .string k] := by rw [hw3]; exact heap_alloc_new _ _
          have HO3 := Lib.hid ho3
          obtain ⟨x0, x1, x2, x3, _, _, _, _⟩ := four_of HJW.out.box
          have hwbl : wb < wr.heap.size := HJW.out.box.lt
          have hwbne : wb ≠ wr.heap.size := by omega
          have hwb3 : wb < w3.heap.size := HJ3.out.box.lt
          have hNs : N ≤ s := by have h1 := HJW.out.row.len; have h2 := HJW.out.cat.len; rw [prs_len] at h1; omega
          clear hb3 ho3
          have HR := Lib.hid (rcut_any (s : Int) f m k w3 HJ3.out.row (by omega) hks (fun x v hx => by
            obtain ⟨⟨p, x', v'⟩, ht, he⟩ := List.mem_map.1 hx
            injection he with h1 h2
            subst h1
            exact HJ3.out.cat.kr p _ _ ht))
          have hNl : (prs es).length = N := HJW.out.row.len
          go_wp2_with fail
          rw [← hw3]
          clear hw3
          refine HR.out.mono ?_
          rintro x w4 ⟨a5, n5, c5, rfl, hp5, hb5⟩
          have HJ4 := Lib.hid (HJ3.out.below hb5)
          have ho4 := HO3.out.kept (hb5.block _ HO3.out.lt)
          obtain ⟨y0, y1, y2, y3, g0, g1, g2, g3⟩ := four_of HJ4.out.box
          have p0 : w4.cell? ⟨wr.heap.size, 0, none⟩ = some (.int .i64 2) := by rw [ho4.cell]; rfl
          have p1 : w4.cell? ⟨wr.heap.size, 1, none⟩ = some (.int .i64 V) := by rw [ho4.cell]; rfl
          have p2 : w4.cell? ⟨wr.heap.size, 2, none⟩ = some (.string k) := by rw [ho4.cell]; rfl
          have hwr4 : wr.heap.size < w4.heap.size := ho4.lt
          have hwb4 : wb < w4.heap.size := HJ4.out.box.lt
          have hz4 := hb5.size
          have hcnt : ((es.filter (fun t => pre t.2.1 k)).length : Int) = (N : Int) - (n5 : Int) := by
            have e1 := cut_count k es
            have e2 := hp5.len
            rw [cut_alike] at e2
            rw [prs_len] at hNl
            omega
          have HCNT := Lib.hid hcnt
          have hne4 : wr.heap.size ≠ w4.heap.size := by omega
          have hneb4 : wb ≠ w4.heap.size := by omega
          have HJW5 := HJ4
          have HBW5 := Lib.hid (HB3.out.trans (hb5.mono HB3.out.size))
          have hpW := hp5
          obtain ⟨w5, hw5⟩ : ∃ w5, w5 = (((w4.setCell ⟨wb, 0, none⟩ (.slice a5 n5 c5)).setCell ⟨wb, 1, none⟩ (.int .i64 (s : Int))).setCell ⟨wb, 2, none⟩ (.int .i64 (f))).setCell ⟨wb, 3, none⟩ (.int .i64 (m)) := ⟨_, rfl⟩
          have hc5 : KS.Chg w4 w5 (fun q => q = wb) := by
            rw [hw5]
            exact ((((KS.Chg.refl w4 (fun q => q = wb)).set rfl 0 _).set rfl 1 _).set rfl 2 _).set rfl 3 _
          have hx5 : Whole w5 wb 31 #[.slice a5 n5 c5, .int .i64 (s : Int), .int .i64 (f), .int .i64 (m)] := by
            rw [hw5]
            have := (((HJW5.out.box.store 0 (.slice a5 n5 c5)).store 1 (.int .i64 (s : Int))).store 2 (.int .i64 (f))).store 3 (.int .i64 (m))
            simpa using this
          have hp6 : Pairs w5 w.heap.size a5 n5 c5 (keepL k (prs es)) := by
            refine Pairs.mono (B := w3.heap.size) ?_ HB3.out.size
            rw [hw5]
            exact (((hpW.setQ hwb3).setQ hwb3).setQ hwb3).setQ hwb3
          have HJ5 := Lib.hid (HJW5.out.set hc5 hx5 hp6)
          have HB5a := Lib.hid (HBW5.out.trans (hc5.below (B := w.heap.size) (by rintro q rfl; omega) HBW5.out.size))
          have ho5 := ho4.kept (hc5.block _ ho4.lt (fun e => hwbne e.symm))
          clear hc5 hx5 hp6
          obtain ⟨w5b, hw5b⟩ : ∃ w5b, w5b = w5.alloc (.cells #[.slice a5 n5 c5, .int .i64 (s : Int), .int .i64 (f), .int .i64 (m)] 31) := ⟨_, rfl⟩
          have hb5b : Below w5.heap.size w5 w5b := by rw [hw5b]; exact below_alloc _ _
          have HJ5b := Lib.hid (HJ5.out.below hb5b)
          have HB5b := Lib.hid (HB5a.out.trans (hb5b.mono HB5a.out.size))
          have HO5 := Lib.hid (ho5.kept (hb5b.block _ ho5.lt))
          clear hb5b ho5
          have HC := Lib.hid (KS.Cut_any w5b HJ5b.out.cat (questS HJ5b.out.cat HO5.out) HO5.out)
          clear hp5 hb5 hpW ho4 hcnt hNl x0 x1 x2 x3
          go_wp2_with fail
          rw [← hw5, ← hw5b]
          clear hw5 hw5b y0 y1 y2 y3 g0 g1 g2 g3 p0 p1 p2
          refine HC.out.mono ?_
          rintro x w6 ⟨rfl, hcat2, _, hc⟩
          rw [HCNT.out]
          have hc2 := hc.mono (Q := KS.CB g b es) (fun q _ h => h.resolve_left id)
          obtain ⟨wt, hwt⟩ : ∃ wt, wt = w6 := ⟨_, rfl⟩
          obtain ⟨es2, hes2⟩ : ∃ es2, es2 = es.filter (fun t => !pre t.2.1 k) := ⟨_, rfl⟩
          have HJ := Lib.hid (show JP wt w.heap.size wb g b s es2 f m a5 n5 c5 (prs es2) f m by
            have h := HJ5b.out.chg hc2 hcat2
            rw [cut_alike, ← hes2] at h
            rw [hwt]
            exact h)
          have HBT := Lib.hid (show Below w.heap.size w wt by rw [hwt]; exact HJ5b.out.cat.up2 HB5b.out hc2)
          clear hcat2 hc hc2 hes2
          have HK := Lib.hid (KS.Keys_any wt HJ.out.cat)
          have hes : es2.length ≤ 4096 := Nat.le_trans HJ.out.cat.len h2
          have hnl : n5 = es2.length := by have := HJ.out.row.len; rw [prs_len] at this; omega
          go_wp2_with fail
          rw [← hwt]
          clear hwt
          refine HK.out.mono ?_
          rintro x w5 ⟨keys, rfl, hown, hb5⟩
          obtain ⟨ka, kc, rfl, _, _⟩ := owned_any hown
          have HJ5 := Lib.hid (HJ.out.below hb5)
          have HOW := Lib.hid hown
          have HB5 := Lib.hid (HBT.out.trans (hb5.mono HBT.out.size))
          obtain ⟨x0, x1, x2, x3, _, _, _, _⟩ := four_of HJ5.out.box
          have HLEN := Lib.hid (KS.len_any w5 HJ5.out.cat)
          clear hown hb5
          subst hnl
          go_wp2_with fail
          refine HLEN.out.mono ?_
          rintro x w6 ⟨rfl, rfl⟩
          go_wp2_with fail
          clear x0 x1 x2 x3
          go_loopw [131] (fun jv wr => ∃ j : Nat, j ≤ es2.length ∧ jv = .int .i64 j ∧ Below w5.heap.size w5 wr) (fun jv _ => es2.length - (intOf jv).toNat)
          case atStart => exact ⟨0, by omega, rfl, Below.refl _ _⟩
          case round =>
            obtain ⟨j, hjn, rfl, hb9⟩ := hrel
            have HB9 := Lib.hid hb9
            have HJ9 := Lib.hid (HJ5.out.below hb9)
            obtain ⟨x0, x1, x2, x3, _, _, _, _⟩ := four_of HJ9.out.box
            by_cases hjl : j < es2.length
            · obtain ⟨⟨p, k9, v9⟩, ht⟩ : ∃ t, es2[j]? = some t := ⟨_, List.getElem?_eq_getElem hjl⟩
              obtain ⟨b1, rfl, _, _, ce1⟩ := KS.owned_at (i := j) (u := .string k9) (owns_kept HOW.out (fun q hq => hb9.block q (HOW.out.lt q hq).2)) (by simp [ht])
              obtain ⟨b2, off2, rfl, _, ce2, _⟩ := HJ9.out.row.cells (i := j) (p := (k9, v9)) (by simp [prs, ht])
              simp only at ce2
              clear ht hb9
              go_wp2_with fail
              go_quiet (fail)
              go_wp2
              go_roundw
              case rel => exact ⟨j + 1, by omega, by go_num, HB9.out.trans ((below_drewN _ _).mono HB9.out.size)⟩
              case measure => simp [intOf]; omega
            · obtain rfl : j = es2.length := by omega
              have HCT := Lib.hid (KS.Counts_any wr HJ9.out.cat)
              have HBW := Lib.hid (HB5.out.trans (hb9.mono HB5.out.size))
              clear hb9
              go_wp2_with fail
              refine HCT.out.mono ?_
              rintro x w8 ⟨rfl, nd, rfl⟩
              have HJ10 := Lib.hid (HJ9.out.below (below_drewN wr nd))
              obtain ⟨y0, y1, y2, y3, _, _, _, _⟩ := four_of HJ10.out.box
              have HB10 := Lib.hid (HBW.out.trans ((below_drewN wr nd).mono HBW.out.size))
              clear x0 x1 x2 x3
              go_wp2
              go_roundw
              case rel => exact ⟨i + 1, by omega, by go_num, ⟨es2, f, m, a5, es2.length, c5, HJ10.out, by omega, by omega, by omega⟩, HB10.out⟩
              case measure => simp [intOf]; omega
      · have hK0 : K ≠ 0 := fun h => hK (.inl h)
        have hK1 : K ≠ 1 := fun h => hK (.inr (.inl h))
        have hK2 : K ≠ 2 := fun h => hK (.inr (.inr h))
        obtain ⟨wt, hwt⟩ : ∃ wt, wt = wr.alloc (.cells #[.int .i64 K, .int .i64 V, .string k] 33) := ⟨_, rfl⟩
        have HJ := Lib.hid (show JP wt w.heap.size wb g b s es f m A N C (prs es) f m by rw [hwt]; exact HJW.out.below (below_alloc _ _))
        have HBT := Lib.hid (show Below w.heap.size w wt by rw [hwt]; exact HBW.out.trans ((below_alloc _ _).mono HBW.out.size))
        have HK := Lib.hid (KS.Keys_any wt HJ.out.cat)
        have hes : es.length ≤ 4096 := Nat.le_trans HJ.out.cat.len h2
        have hnl : N = es.length := by have := HJ.out.row.len; rw [prs_len] at this; omega
        go_wp2_with fail
        rw [← hwt]
        clear hwt
        refine HK.out.mono ?_
        rintro x w5 ⟨keys, rfl, hown, hb5⟩
        obtain ⟨ka, kc, rfl, _, _⟩ := owned_any hown
        have HJ5 := Lib.hid (HJ.out.below hb5)
        have HOW := Lib.hid hown
        have HB5 := Lib.hid (HBT.out.trans (hb5.mono HBT.out.size))
        obtain ⟨x0, x1, x2, x3, _, _, _, _⟩ := four_of HJ5.out.box
        have HLEN := Lib.hid (KS.len_any w5 HJ5.out.cat)
        clear hown hb5
        subst hnl
        go_wp2_with fail
        refine HLEN.out.mono ?_
        rintro x w6 ⟨rfl, rfl⟩
        go_wp2_with fail
        clear x0 x1 x2 x3
        go_loopw [131] (fun jv wr => ∃ j : Nat, j ≤ es.length ∧ jv = .int .i64 j ∧ Below w5.heap.size w5 wr) (fun jv _ => es.length - (intOf jv).toNat)
        case atStart => exact ⟨0, by omega, rfl, Below.refl _ _⟩
        case round =>
          obtain ⟨j, hjn, rfl, hb9⟩ := hrel
          have HB9 := Lib.hid hb9
          have HJ9 := Lib.hid (HJ5.out.below hb9)
          obtain ⟨x0, x1, x2, x3, _, _, _, _⟩ := four_of HJ9.out.box
          by_cases hjl : j < es.length
          · obtain ⟨⟨p, k9, v9⟩, ht⟩ : ∃ t, es[j]? = some t := ⟨_, List.getElem?_eq_getElem hjl⟩
            obtain ⟨b1, rfl, _, _, ce1⟩ := KS.owned_at (i := j) (u := .string k9) (owns_kept HOW.out (fun q hq => hb9.block q (HOW.out.lt q hq).2)) (by simp [ht])
            obtain ⟨b2, off2, rfl, _, ce2, _⟩ := HJ9.out.row.cells (i := j) (p := (k9, v9)) (by simp [prs, ht])
            simp only at ce2
            clear ht hb9
            go_wp2_with fail
            go_quiet (fail)
            go_wp2
            go_roundw
            case rel => exact ⟨j + 1, by omega, by go_num, HB9.out.trans ((below_drewN _ _).mono HB9.out.size)⟩
            case measure => simp [intOf]; omega
          · obtain rfl : j = es.length := by omega
            have HCT := Lib.hid (KS.Counts_any wr HJ9.out.cat)
            have HBW := Lib.hid (HB5.out.trans (hb9.mono HB5.out.size))
            clear hb9
            go_wp2_with fail
            refine HCT.out.mono ?_
            rintro x w8 ⟨rfl, nd, rfl⟩
            have HJ10 := Lib.hid (HJ9.out.below (below_drewN wr nd))
            obtain ⟨y0, y1, y2, y3, _, _, _, _⟩ := four_of HJ10.out.box
            have HB10 := Lib.hid (HBW.out.trans ((below_drewN wr nd).mono HBW.out.size))
            clear x0 x1 x2 x3
            go_wp2
            go_roundw
            case rel => exact ⟨i + 1, by omega, by go_num, ⟨es, f, m, A, es.length, C, HJ10.out, by omega, by omega, by omega⟩, HB10.out⟩
            case measure => simp [intOf]; omega
    · go_wp2
      go_ret
      exact ⟨rfl, hbw⟩
end Go.Proofs.Ytfhflijlgejknaa
