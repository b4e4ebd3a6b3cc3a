/- CoordBoots: the walk. -/
import Derived.Test.YtcbpgkkkfkkkmaaGreatWg
namespace Go.Proofs.YtcbpgkkkfkkkmaaGreat
open Go.RowKit
open Go.Maps (Keyed)

theorem stat_idle {node : Int} {i : Nat} {kept : List Int} {ms : List MsgD} (h : BI node i kept ms) {id : Int} (hn : id ∉ kept) : stat (rep node ms) id = (0, 0) := by
  have hd : dget (rep node ms).deb id = none := by
    cases hq : dget (rep node ms).deb id with
    | none => rfl
    | some d =>
      obtain ⟨h1, h2⟩ := dget_some hq
      exact absurd (by rw [← h.ids]; exact List.mem_map.2 ⟨d, h1, h2⟩) hn
  unfold stat
  rw [h.bal, hd, h.don]
def Bools (W : World) (a : Option Addr) (n : Nat) (l : List Bool) : Prop := l.length = n ∧ (n = 0 ∨ ∃ b off, a = some ⟨b, off, none⟩ ∧ b < W.heap.size ∧ ∀ i z, l[i]? = some z → W.cell? ⟨b, off + i, none⟩ = some (.bool z))
theorem Tryz.info_i64 : (Tryz.prog.info? 2).map (fun i => (i.zero, i.size, i.bytes)) = some (some (.int .i64 0), 1, 8) := by kernel_rfl
set_option maxRecDepth 100000 in
set_option maxHeartbeats 4000000 in
theorem opened_bad {B g r d : Nat} {v : Value} {ms : List MsgD} (w : World) (h : Dk.DAt w B g v (cat ms) d r) (hf : ∀ m ∈ ms, m.fine) (node : Int) (hn : ¬ isN node) (hgB : B ≤ g) (hB : B ≤ w.heap.size) :
    Calls Tryz.prog 9 #[.pointer (some ⟨g, 0, none⟩), .int .i64 node] w fun e w' => e = .returned (.tuple #[.pointer none, .int .i64 1]) ∧ Below B w w' := by
  have HL := Lib.hid (lopen_cat B g v ms d r w h hf)
  have HN := Lib.hid hn
  have HG := Lib.hid (And.intro hgB hB)
  clear h hf hn hgB hB
  go_enter Tryz.func9, Tryz.ntmps9
  go_wp2_with fail
  refine HL.out.mono ?_
  rintro e w1 ⟨gl, ra, rc, v', rfl, _, _, _, _, _, _, _, ht⟩
  have HB := Lib.hid (show Below B w w1 from ht.below HG.out.1 (by simp) HG.out.2)
  have HO := Lib.hid (copen_bad w1 gl ra ms.length rc node HN.out)
  clear ht
  go_wp2_with fail
  refine HO.out.mono ?_
  rintro e w2 ⟨rfl, hw2⟩
  rw [hw2]
  clear hw2 w2
  go_wp2
  go_ret2
  exact ⟨rfl, HB.out⟩
set_option maxRecDepth 100000 in
set_option maxHeartbeats 32000000 in
theorem boots_walk (x y : Int) (a : Option Addr) (n cp : Nat) (l : List Bool) (w : World) (hx : Bools w a n l) (hn : n ≤ 140737488351232) :
    Calls Tryz.prog 5 #[.agg #[.int .i64 x, .int .i64 y], .slice a n cp] w fun e w' => e = .returned (.bool true) ∧ Below w.heap.size w w' := by
  have HX := Lib.hid hx
  have hmm := @run_makeMap Tryz.prog
  obtain ⟨i0, hi0, hz0, hz1, hz2⟩ := info_parts Tryz.info_i64
  obtain ⟨W0, hW0, hw0, hB0⟩ := box_new w 59 #[.int .i64 x, .int .i64 y]
  have HB0 := Lib.hid hB0
  have HW0 := Lib.hid hw0
  have hlt0 := hw0.lt
  clear hx hw0 hB0
  go_enter Tryz.func5, Tryz.ntmps5
  go_upto_region 1 with fail
  rw [← hW0]
  clear hW0
  go_wp2_with fail
  refine (awake_any _).mono ?_
  rintro e w1 ⟨rfl, hb1⟩
  have HB1 := Lib.hid (bell_up HB0.out hb1)
  have hw1 := HW0.out.kept (hb1.block _ HW0.out.lt)
  have c0 := hw1.cell 0
  have c1 := hw1.cell 1
  have HK1 := Lib.hid (hb1.block _ hlt0)
  have HLT := Lib.hid hw1.lt
  clear hb1 hw1 hlt0
  by_cases hxy : x = y
  · have hb : (x == y) = true := by simpa using hxy
    go_wp2
    go_ret
    exact ⟨rfl, HB1.out⟩
  have hb : (x == y) = false := by simpa using hxy
  have HXY := Lib.hid hxy
  have HS1 := Lib.hid (Seen.made w1)
  have HB2 := Lib.hid (HB1.out.trans ((below_alloc w1 (.map #[] 0)).mono HB1.out.size))
  have HSB := Lib.hid HB1.out.size
  clear hxy
  go_upto_region 6 with fail
  have hw2 := (HW0.out.kept (show w1.heap[w.heap.size]? = W0.heap[w.heap.size]? from HK1.out)).kept (Below.heap_alloc (o := .map #[] 0) w1 w.heap.size (by have := HB1.out.size; have := HLT.out; omega))
  have d0 := hw2.cell 0
  have d1 := hw2.cell 1
  clear c0 c1 hb hw2
  generalize w1.heap.size = sb at *
  generalize w1.alloc (.map #[] 0) = w2 at *
  go_wp2_with fail
  go_loopw [30] (fun iv wr => ∃ (j : Nat) (Sn : List Int), j ≤ 2 ∧ iv = .int .i64 (j : Int) ∧ Seen wr sb Sn ∧ Below w.heap.size w wr ∧ Sn.length ≤ 1002 * j ∧ (j = 0 → Sn = []) ∧ (j = 1 → ∀ k ∈ Sn, (x + 1) * 1099511627776 < k ∧ k < (x + 2) * 1099511627776)) (fun iv _ => 2 - (intOf iv).toNat)
  case atStart => exact ⟨0, [], by omega, rfl, HS1.out, HB2.out, by simp, fun _ => rfl, fun h => by omega⟩
  case round =>
    obtain ⟨j, Sn, hj2, rfl, hsn, hbel, hslen, hs0, hs1⟩ := hrel
    by_cases hjl : j < 2
    · obtain ⟨z, hidx, hout, hnx⟩ : ∃ z : Int, (∀ W, (Instr.index 59 (.agg #[.int .i64 x, .int .i64 y]) (.int .i64 (j : Int))).run Tryz.prog W = .ok (.int .i64 z) W) ∧ (∀ k ∈ Sn, k ≤ (z + 1) * 1099511627776 ∨ (z + 2) * 1099511627776 ≤ k) ∧ (j = 0 → z = x) := by
        rcases (show j = 0 ∨ j = 1 by omega) with rfl | rfl
        · exact ⟨x, fun W => by kernel_rfl, by rw [hs0 rfl]; simp, fun _ => rfl⟩
        · refine ⟨y, fun W => by kernel_rfl, fun k hk => ?_, fun h => by omega⟩
          have h1 := hs1 rfl k hk
          have h2 := HXY.out
          rcases Int.lt_or_gt_of_ne h2 with h3 | h3
          · left; omega
          · right; omega
      have HSN := Lib.hid hsn
      have HBL := Lib.hid hbel
      have HOUT := Lib.hid hout
      have HNX := Lib.hid hnx
      have HS0 := Lib.hid hs0
      have HNW := Lib.hid (Dk.new_good w.heap.size 1048576 wr (by decide) hbel.size)
      have hij : (0:Int) ≤ (j:Int) ∧ (j:Int) < 2 := by omega
      clear hsn hbel hout hnx hs0 hs1
      go_wp2_with fail
      refine HNW.out.mono ?_
      rintro e w3 ⟨rfl, hd3, hb3⟩
      have HB3 := Lib.hid (HBL.out.trans (hb3.mono HBL.out.size))
      have HSN3 := Lib.hid (HSN.out.kept (hb3.block _ HSN.out.lt))
      have HSG := Lib.hid HSN.out.lt
      have HGE := Lib.hid HBL.out.size
      generalize wr.heap.size = g at *
      by_cases hzn : isN z
      rotate_left
      · have HOB := Lib.hid (opened_bad (ms := []) w3 hd3 (by simp) z hzn HGE.out HB3.out.size)
        have hzz : z < 0 ∨ 7 < z := by
          unfold isN at hzn
          omega
        clear hd3 hb3 hzn
        rcases hzz with hzz | hzz
        · go_wp2_with fail
          refine HOB.out.mono ?_
          rintro e w4 ⟨rfl, hb4⟩
          have HB4 := Lib.hid (HB3.out.trans hb4)
          clear hb4
          go_wp2
          go_ret
          exact ⟨rfl, HB4.out⟩
        · have hzl : ¬ z < 0 := by omega
          have hzl2 : decide (z < 0) = false := decide_eq_false hzl
          have hzg : decide (z > 7) = true := decide_eq_true hzz
          clear hzl
          go_wp2_with fail
          refine HOB.out.mono ?_
          rintro e w4 ⟨rfl, hb4⟩
          have HB4 := Lib.hid (HB3.out.trans hb4)
          clear hb4
          go_wp2
          go_ret
          exact ⟨rfl, HB4.out⟩
      have HZN := Lib.hid hzn
      have HOG := Lib.hid (opened_any (ms := []) w3 0 hd3 (by simp) HB3.out.size z hzn)
      clear hd3 hb3 hzn
      go_wp2_with fail
      refine HOG.out.mono ?_
      rintro e w4 (⟨_, gc, gl, b1, b2, b3, v4, rfl, hcs, hch, hn1, hn2, hn3⟩ | ⟨hlt, _⟩)
      rotate_left
      · exfalso
        have h1 : (rcd (bootM (rep z []))).length ≤ 29 := boot_len (by simp)
        have h2 : (cat []).length = 0 := rfl
        omega
      have HBS := Lib.hid (show BS w w4 g z 0 (.pointer (some ⟨gc, 0, none⟩)) (.slice none 0 0) sb Sn [] [bootM (rep z [])] ∧ (∀ k ∈ Sn, j = 0 → (z + 1) * 1099511627776 < k ∧ k < (z + 2) * 1099511627776) from by
        have hb4 : Below w.heap.size w w4 := HB3.out.trans (hch.below (fun k hk => by rcases hk with h | h; exact (by rw [h]; exact HGE.out); cases h) HB3.out.size)
        have hl3 := HSN3.out.lt
        have hsg := HSG.out
        have hbi := BI.boot (node := z) (boot_len (by simp))
        refine ⟨⟨gc, gl, b1, b2, b3, v4, rfl, ⟨hcs, hb4, HSN3.out.kept (hch.block _ hl3 (by rintro (h | h); omega; cases h)), ⟨by omega, by omega, by omega⟩, ⟨rfl, .inl ⟨rfl, rfl⟩⟩, HSB.out⟩, hbi, fun k hk => ?_, by simp⟩, fun k hk h0 => ?_⟩
        · rcases HOUT.out k hk with h1 | h1
          · exact .inl h1
          · exact .inr (.inl h1)
        · rw [HS0.out h0] at hk; cases hk)
      clear hcs hch hn1 hn2 hn3 HOG HSN HSN3 HNW
      go_wp2_with fail
      go_loopw [10, 12, 57] (fun cv kv iv wx => ∃ (i : Nat) (Sm kept : List Int) (ms : List MsgD), i ≤ n ∧ i ≤ 1001 ∧ iv = .int .i64 i ∧ BS w wx g z i cv kv sb Sm kept ms ∧ Sm.length ≤ 1002 * j + i ∧ (∀ k ∈ Sm, j = 0 → (z + 1) * 1099511627776 < k ∧ k < (z + 2) * 1099511627776)) (fun _ _ iv _ => n - (intOf iv).toNat)
      case atStart => exact ⟨0, Sn, [], _, by omega, by omega, rfl, HBS.out.1, by omega, HBS.out.2⟩
      case round =>
        obtain ⟨i, Sm, kept, ms, hin, hi1, rfl, hbs, hsl, hq⟩ := hrel
        obtain ⟨gc, gl, b1, b2, b3, v, rfl, hbx, hbi, hsep, hkl⟩ := hbs
        have HBX := Lib.hid hbx
        have HBI := Lib.hid hbi
        have HSEP := Lib.hid hsep
        have HKL := Lib.hid hkl
        have HQ := Lib.hid hq
        clear hbx hbi hsep hkl hq
        by_cases hil : i < n
        · obtain ⟨b, off, rfl, hb, hcc⟩ := HX.out.2.resolve_left (by omega)
          obtain ⟨t, ht⟩ : ∃ t, l[i]? = some t := ⟨_, List.getElem?_eq_getElem (by have := HX.out.1; omega)⟩
          have hc : wr.cell? ⟨b, off + i, none⟩ = some (.bool t) := (HBX.out.bel.cell (p := ⟨b, off + i, none⟩) hb).trans (hcc i t ht)
          have hij2 : (0:Int) ≤ (i:Int) ∧ (i:Int) < (n:Int) := by omega
          clear hcc ht
          by_cases hbr : i > 1000
          · have hbr2 : (1000 : Int) < (i : Int) := by omega
            have hbr3 : decide ((i : Int) > 1000) = true := decide_eq_true (by omega)
            have hkk : (rep z ms).deb.length = kept.length := by rw [← HBI.out.ids, List.length_map]
            have HKK := Lib.hid hkk
            have HOD := Lib.hid (owed_any wr HBX.out.cs.co)
            obtain ⟨ka, kc, rfl, _, _⟩ := owned_anyE HBX.out.row
            have hk1 : kept.length ≤ 1001 := by have := HKL.out; omega
            clear hkk
            go_wp2_with fail
            refine HOD.out.mono ?_
            rintro e wo ⟨u, rfl, ⟨qs, hqs, hrow⟩, hbo⟩
            rw [HKK.out] at hrow
            obtain ⟨ua, uc, rfl, _, _⟩ := owned_anyE hrow
            have HX9 := Lib.hid (HBX.out.below hbo)
            have HRW := Lib.hid hrow
            have HQS := Lib.hid hqs
            clear hrow hbo hqs HOD
            go_wp2_with fail
            go_loopw [145] (fun mv wx => ∃ m q : Nat, m ≤ kept.length ∧ mv = .int .i64 m ∧ wx = wo.drewN q) (fun mv _ => kept.length - (intOf mv).toNat)
            case atStart => exact ⟨0, 0, by omega, rfl, rfl⟩
            case round =>
              obtain ⟨m, q, hmk, rfl, rfl⟩ := hrel
              by_cases hml : m < kept.length
              · obtain ⟨d, hd⟩ : ∃ d, (rep z ms).deb[m]? = some d := ⟨_, List.getElem?_eq_getElem (by have := HKK.out; omega)⟩
                obtain ⟨qq, hqq⟩ : ∃ p, qs[m]? = some p := ⟨_, List.getElem?_eq_getElem (by have := HKK.out; have := HQS.out; omega)⟩
                have hkm : kept[m]? = some d.id := by rw [← HBI.out.ids, List.getElem?_map, hd]; rfl
                obtain ⟨ua', uc', hv1, hL1⟩ := Lies.owned HRW.out
                injection hv1 with f1 f2 f3
                subst f1 f3
                obtain ⟨ka', kc', hv2, hL2⟩ := Lies.owned HX9.out.row
                injection hv2 with f4 f5 f6
                subst f4 f6
                obtain ⟨ub, uoff, rfl, hub, _⟩ := hL1.addr (by omega)
                obtain ⟨kb, koff, rfl, hkb, _⟩ := hL2.addr (by omega)
                have hz3 : (owdL (rep z ms).deb qs)[m * 12 + 3]? = some (.int .i64 d.id) := by
                  unfold owdL
                  rw [fm_at (k := 12) (j := 3) (fun x => rfl) (show ((rep z ms).deb.zip qs)[m]? = some (d, qq) by rw [List.getElem?_zip_eq_some]; exact ⟨hd, hqq⟩) (by decide)]
                  rfl
                have p1 : wo.cell? ⟨ub, uoff + m * 12 + 3, none⟩ = some (.int .i64 d.id) := by have := hL1.cell hz3; rwa [← Nat.add_assoc] at this
                have p2 : wo.cell? ⟨kb, koff + m, none⟩ = some (.int .i64 d.id) := hL2.cell (by rw [List.getElem?_map, hkm]; rfl)
                have hmm2 : (0:Int) ≤ (m:Int) ∧ (m:Int) < (kept.length:Int) := by omega
                clear hd hqq hkm hL1 hL2 hz3
                go_upto_region 40 with fail
                go_quiet (fail)
                go_wp2_with fail
                go_roundw
                case rel => exact ⟨m + 1, _, by omega, by go_num, rfl⟩
                case measure => simp [intOf]; omega
              · obtain rfl : m = kept.length := by omega
                go_wp2_with fail
                go_roundw
                case rel =>
                  exact ⟨j + 1, Sm, by omega, by go_num, HX9.out.seen.kept rfl, HX9.out.bel.trans ((below_drewN wo q).mono HX9.out.bel.size), by omega, fun h => by omega, fun h k hk => by
                    have h0 : j = 0 := by omega
                    have h1 := HQ.out k hk h0
                    rw [HNX.out h0] at h1
                    exact h1⟩
                case measure => simp [intOf]; omega
          · have hbr3 : decide ((i : Int) > 1000) = false := decide_eq_false (by omega)
            have hi2 : i ≤ 1000 := by omega
            cases t
            · skip
              have hI := id_rng HBI.out HZN.out hi1
              have hst := HBI.out.stat
              have HID := Lib.hid hI
              have HST := Lib.hid hst
              have HBG := Lib.hid (begin_new wr HBX.out.cs [3] (by intro q hq; simp at hq; rw [hq]; exact ⟨by omega, by omega⟩) ⟨by simp, by intro q hq; simp at hq; rw [hq]; exact ⟨by omega, by omega⟩, by rw [HBI.out.begun]; omega⟩ ⟨hst.1, hst.2.1⟩ (by simp))
              have hnot := HSEP.out.notin hI.1 hI.2.1
              have HNOT := Lib.hid hnot
              have hid1 : ¬ newId (rep z ms) < 1 := by have := hI.2.2.2; omega
              have hid2 : decide (newId (rep z ms) < 1) = false := decide_eq_false hid1
              clear hI hst hnot hid1
              go_wp2_with fail
              refine HBG.out.mono ?_
              rintro e w5 ⟨rfl, hc5, hch5⟩
              have HX5 := Lib.hid (HBX.out.chg hc5 hch5)
              have hlk := HX5.out.seen.look HID.out.2.2.1 HNOT.out
              obtain ⟨mm, N, hmp, hN, hf⟩ := HX5.out.seen
              have HF := Lib.hid hf
              have HMP := Lib.hid hmp
              have HN := Lib.hid hN
              have hNm : N < maxLen := by unfold maxLen; omega
              clear hc5 hch5 hmp hf hN hc
              go_wp2_with (at_mapUpdate; refine wpList_store_map _ rfl _ _ _ 61 rfl 2 4 Tryz.keyL Tryz.underlying61 _ (Tryz.zeroBo _) sb N mm rfl HMP.out hNm (.int .i64 (newId (rep z ms))) (.bool true) (.int .i64 (newId (rep z ms))) rfl rfl (key_long _ HID.out.2.2.1) ?_; intro w6 hm6 hg6 hs6; have HX6 := Lib.hid (HX5.out.seenG (Seen.put HID.out.2.2.1 HN.out HF.out hm6) hg6); clear hm6 hg6 hs6)
              have HLN := Lib.hid (show (cat ms).length + 29 ≤ 1048576 by have := HBI.out.len; omega)
              have HCR := Lib.hid (crash_all w6 HX6.out.cs)
              refine HCR.out.mono ?_
              rintro e w7 ⟨rfl, v7, hd7, hch7, hv7⟩
              have hb7 : Below w.heap.size w w7 := HX6.out.bel.trans (hch7.below (fun k hk => by rw [hk]; exact HGE.out) HX6.out.bel.size)
              have HOP := Lib.hid (opened_any w7 _ hd7 HX6.out.cs.fine hb7.size z HZN.out)
              have HC7 := Lib.hid hch7
              have HV7 := Lib.hid hv7
              clear hd7 hch7 hv7 hb7 HCR
              go_wp2_with fail
              refine HOP.out.mono ?_
              rintro e w8 (⟨_, gc2, gl2, e1, e2, e3, v8, rfl, hcs8, hch8, hm1, hm2, hm3⟩ | ⟨hlt, _⟩)
              rotate_left
              · exfalso
                have h1 : (rcd (bootM (rep z ms))).length ≤ 29 := boot_len (by have := HX6.out.cs.small; omega)
                have h2 := HLN.out
                omega
              have HX8 := Lib.hid (HX6.out.again HC7.out HV7.out hcs8 hch8 ⟨hm1, hm2, hm3⟩)
              clear hcs8 hch8 hm1 hm2 hm3 HOP
              have HBI2 := Lib.hid (HBI.out.idle (boot_len (by have := HX6.out.cs.small; omega)))
              have hnn : newId (rep z ms) < newId (rep z (ms ++ [bootM (rep z ms)])) := by rw [newId_rep HBI.out, newId_rep HBI2.out]; omega
              have hsa := status_any w8 HX8.out.cs.co (newId (rep z ms)) HID.out.2.2.1
              rw [← rep_snoc, stat_idle HBI2.out (fun hm => by have := HBI.out.rng _ hm; omega)] at hsa
              have HSA := Lib.hid hsa
              have HNN := Lib.hid hnn
              clear hsa hnn
              go_wp2_with fail
              refine HSA.out.mono ?_
              rintro e w9 ⟨rfl, hb9⟩
              have HX9 := Lib.hid (HX8.out.below hb9)
              clear hb9
              go_wp2_with fail
              go_roundw
              case rel =>
                refine ⟨i + 1, Sm ++ [newId (rep z ms)], kept, ms ++ [bootM (rep z ms)], by omega, by omega, by go_num, ⟨gc2, gl2, e1, e2, e3, v8, rfl, ?_, HBI2.out, HSEP.out.snoc HNN.out, by have := HKL.out; omega⟩, by rw [List.length_append, List.length_singleton]; omega, fun k hk h0 => ?_⟩
                · have := HX9.out
                  rwa [← rep_snoc] at this
                · rcases List.mem_append.1 hk with h1 | h1
                  · exact HQ.out k h1 h0
                  · rw [List.mem_singleton] at h1; rw [h1]; exact ⟨HID.out.1, HID.out.2.1⟩
              case measure => simp [intOf]; omega
            · skip
              have hI := id_rng HBI.out HZN.out hi1
              have hst := HBI.out.stat
              have HID := Lib.hid hI
              have HST := Lib.hid hst
              have HBG := Lib.hid (begin_new wr HBX.out.cs [3] (by intro q hq; simp at hq; rw [hq]; exact ⟨by omega, by omega⟩) ⟨by simp, by intro q hq; simp at hq; rw [hq]; exact ⟨by omega, by omega⟩, by rw [HBI.out.begun]; omega⟩ ⟨hst.1, hst.2.1⟩ (by simp))
              have hnot := HSEP.out.notin hI.1 hI.2.1
              have HNOT := Lib.hid hnot
              have hid1 : ¬ newId (rep z ms) < 1 := by have := hI.2.2.2; omega
              have hid2 : decide (newId (rep z ms) < 1) = false := decide_eq_false hid1
              clear hI hst hnot hid1
              go_wp2_with fail
              refine HBG.out.mono ?_
              rintro e w5 ⟨rfl, hc5, hch5⟩
              have HX5 := Lib.hid (HBX.out.chg hc5 hch5)
              have hlk := HX5.out.seen.look HID.out.2.2.1 HNOT.out
              obtain ⟨mm, N, hmp, hN, hf⟩ := HX5.out.seen
              have HF := Lib.hid hf
              have HMP := Lib.hid hmp
              have HN := Lib.hid hN
              have hNm : N < maxLen := by unfold maxLen; omega
              clear hc5 hch5 hmp hf hN hc
              go_wp2_with (at_mapUpdate; refine wpList_store_map _ rfl _ _ _ 61 rfl 2 4 Tryz.keyL Tryz.underlying61 _ (Tryz.zeroBo _) sb N mm rfl HMP.out hNm (.int .i64 (newId (rep z ms))) (.bool true) (.int .i64 (newId (rep z ms))) rfl rfl (key_long _ HID.out.2.2.1) ?_; intro w6 hm6 hg6 hs6; have HX6 := Lib.hid (HX5.out.seenG (Seen.put HID.out.2.2.1 HN.out HF.out hm6) hg6); clear hm6 hg6 hs6)
              have hv3 := vote3 (rep z ms)
              have hvo := vote_cs w6 HX6.out.cs (newId (rep z ms)) 3 true HID.out.2.2.1 ⟨by omega, by omega⟩
              rw [hv3.1] at hvo
              have HVO := Lib.hid hvo
              have HV3 := Lib.hid hv3
              clear hv3 hvo
              go_wp2_with fail
              refine HVO.out.mono ?_
              rintro e wa ⟨rfl, hca, hcha⟩
              have HXA := Lib.hid (HX6.out.chg hca hcha)
              have hri : InI ((i : Int) + 1) := ⟨by omega, by omega⟩
              have hadd : IntKind.i64.wrap ((i : Int) + 1) = (i : Int) + 1 := i64_wrap hri
              have HCM := Lib.hid (commit_any wa HXA.out.cs (newId (rep z ms)) ((i : Int) + 1) HID.out.2.2.1 hri)
              have HRI := Lib.hid hri
              clear hca hcha hri
              go_wp2_with fail
              refine HCM.out.mono ?_
              rintro e wb ⟨k, rfl, ⟨_, hno, _, _⟩ | ⟨s, hbs, _, _, hwr⟩⟩
              · exact absurd ⟨8, HV3.out.2, by omega, by omega⟩ hno
              obtain rfl : s = 8 := by rw [HV3.out.2] at hbs; injection hbs with hbs; injection hbs with hbs; exact hbs.symm
              have HM := Lib.hid (oc_rcd (k := 6) (id := newId (rep z ms)) (rev := (i : Int) + 1) ⟨by omega, by omega⟩ HID.out.2.2.1 HRI.out (slist_node (s := 8)) (slist_len 8))
              rcases hwr with ⟨rfl, _, vb, hcb, hchb⟩ | ⟨_, hlt, _, _⟩
              rotate_left
              · exfalso
                have h1 := HM.out
                have h2 := HBI.out.len
                omega
              have HXB := Lib.hid (HXA.out.chg hcb hchb)
              have hrw := HXB.out.row
              obtain ⟨ka, kc, rfl, _, _⟩ := owned_anyE hrw
              have HRW := Lib.hid hrw
              have hbz := HXB.out.bel.size
              have hk1 : kept.length ≤ 1000 := by have := HKL.out; omega
              clear hcb hchb hbs hrw HCM
              go_wp2_with (at_builtin; refine wpList_append_at_any _ rfl _ _ 31 rfl w.heap.size 2 i0 (Value.int .i64 0) 1 8 Tryz.underlying31 hi0 hz0 hz1 hz2 rfl (by decide) _ kept.length _ rfl (HRW.out.alloc _) (some ⟨wb.heap.size, 0, none⟩) 1 1 [Value.int .i64 (newId (rep z ms))] rfl rfl (by intro h; cases h) (by rintro ad he; injection he with he; subst he; exact cell_one_new _ _ _) (by intro q hq; simp at hq; subst hq; rfl) (by unfold maxLen; omega) (by omega) (by simp; omega) ?_; intro kv2 wc hown2 hgrow2 hat2; have HXC := Lib.hid ((HXB.out.below (below_alloc wb (.cells #[Value.int .i64 (newId (rep z ms))] 2))).rowG (kept' := kept ++ [newId (rep z ms)]) (by rw [List.length_append, List.map_append]; exact hown2) hgrow2); clear hown2 hgrow2 hat2)
              have HLN := Lib.hid (show (cat (ms ++ [oC 6 (newId (rep z ms)) ((i : Int) + 1) (slist 8)])).length + 29 ≤ 1048576 by rw [cat_snoc_len]; have h1 := HM.out; have h2 := HBI.out.len; omega)
              have HCR := Lib.hid (crash_all wc HXC.out.cs)
              refine HCR.out.mono ?_
              rintro e w7 ⟨rfl, v7, hd7, hch7, hv7⟩
              have hb7 : Below w.heap.size w w7 := HXC.out.bel.trans (hch7.below (fun k hk => by rw [hk]; exact HGE.out) HXC.out.bel.size)
              have HOP := Lib.hid (opened_any w7 _ hd7 HXC.out.cs.fine hb7.size z HZN.out)
              have HC7 := Lib.hid hch7
              have HV7 := Lib.hid hv7
              clear hd7 hch7 hv7 hb7 HCR
              go_wp2_with fail
              refine HOP.out.mono ?_
              rintro e w8 (⟨_, gc2, gl2, e1, e2, e3, v8, rfl, hcs8, hch8, hm1, hm2, hm3⟩ | ⟨hlt, _⟩)
              rotate_left
              · exfalso
                have h1 : (rcd (bootM (rep z (ms ++ [oC 6 (newId (rep z ms)) ((i : Int) + 1) (slist 8)])))).length ≤ 29 := boot_len (by have := HXC.out.cs.small; omega)
                have h2 := HLN.out
                omega
              have HX8 := Lib.hid (HXC.out.again HC7.out HV7.out hcs8 hch8 ⟨hm1, hm2, hm3⟩)
              clear hcs8 hch8 hm1 hm2 hm3 HOP
              have HBI2 := Lib.hid (HBI.out.comm (rev := (i : Int) + 1) (ns := slist 8) HM.out (boot_len (by have := HXC.out.cs.small; omega)))
              have hnn : newId (rep z ms) < newId (rep z ((ms ++ [oC 6 (newId (rep z ms)) ((i : Int) + 1) (slist 8)]) ++ [bootM (rep z (ms ++ [oC 6 (newId (rep z ms)) ((i : Int) + 1) (slist 8)]))])) := by have a1 := newId_rep HBI.out; have a2 := newId_rep HBI2.out.1; rw [a2]; omega
              have hsa := status_any w8 HX8.out.cs.co (newId (rep z ms)) HID.out.2.2.1
              rw [← rep_snoc, HBI2.out.2] at hsa
              have HSA := Lib.hid hsa
              have HNN := Lib.hid hnn
              clear hsa hnn
              go_wp2_with fail
              refine HSA.out.mono ?_
              rintro e w9 ⟨rfl, hb9⟩
              have HX9 := Lib.hid (HX8.out.below hb9)
              clear hb9
              go_wp2_with fail
              go_roundw
              case rel =>
                refine ⟨i + 1, Sm ++ [newId (rep z ms)], kept ++ [newId (rep z ms)], (ms ++ [oC 6 (newId (rep z ms)) ((i : Int) + 1) (slist 8)]) ++ [bootM (rep z (ms ++ [oC 6 (newId (rep z ms)) ((i : Int) + 1) (slist 8)]))], by omega, by omega, by go_num, ⟨gc2, gl2, e1, e2, e3, v8, rfl, ?_, HBI2.out.1, HSEP.out.snoc HNN.out, by rw [List.length_append, List.length_singleton]; have := HKL.out; omega⟩, by rw [List.length_append, List.length_singleton]; omega, fun k hk h0 => ?_⟩
                · have := HX9.out
                  rwa [← rep_snoc] at this
                · rcases List.mem_append.1 hk with h1 | h1
                  · exact HQ.out k h1 h0
                  · rw [List.mem_singleton] at h1; rw [h1]; exact ⟨HID.out.1, HID.out.2.1⟩
              case measure => simp [intOf]; omega
        · obtain rfl : n = i := by omega
          have hkk : (rep z ms).deb.length = kept.length := by rw [← HBI.out.ids, List.length_map]
          have HKK := Lib.hid hkk
          have HOD := Lib.hid (owed_any wr HBX.out.cs.co)
          obtain ⟨ka, kc, rfl, _, _⟩ := owned_anyE HBX.out.row
          have hk1 : kept.length ≤ 1001 := by have := HKL.out; omega
          clear hkk
          go_wp2_with fail
          refine HOD.out.mono ?_
          rintro e wo ⟨u, rfl, ⟨qs, hqs, hrow⟩, hbo⟩
          rw [HKK.out] at hrow
          obtain ⟨ua, uc, rfl, _, _⟩ := owned_anyE hrow
          have HX9 := Lib.hid (HBX.out.below hbo)
          have HRW := Lib.hid hrow
          have HQS := Lib.hid hqs
          clear hrow hbo hqs HOD
          go_wp2_with fail
          go_loopw [145] (fun mv wx => ∃ m q : Nat, m ≤ kept.length ∧ mv = .int .i64 m ∧ wx = wo.drewN q) (fun mv _ => kept.length - (intOf mv).toNat)
          case atStart => exact ⟨0, 0, by omega, rfl, rfl⟩
          case round =>
            obtain ⟨m, q, hmk, rfl, rfl⟩ := hrel
            by_cases hml : m < kept.length
            · obtain ⟨d, hd⟩ : ∃ d, (rep z ms).deb[m]? = some d := ⟨_, List.getElem?_eq_getElem (by have := HKK.out; omega)⟩
              obtain ⟨qq, hqq⟩ : ∃ p, qs[m]? = some p := ⟨_, List.getElem?_eq_getElem (by have := HKK.out; have := HQS.out; omega)⟩
              have hkm : kept[m]? = some d.id := by rw [← HBI.out.ids, List.getElem?_map, hd]; rfl
              obtain ⟨ua', uc', hv1, hL1⟩ := Lies.owned HRW.out
              injection hv1 with f1 f2 f3
              subst f1 f3
              obtain ⟨ka', kc', hv2, hL2⟩ := Lies.owned HX9.out.row
              injection hv2 with f4 f5 f6
              subst f4 f6
              obtain ⟨ub, uoff, rfl, hub, _⟩ := hL1.addr (by omega)
              obtain ⟨kb, koff, rfl, hkb, _⟩ := hL2.addr (by omega)
              have hz3 : (owdL (rep z ms).deb qs)[m * 12 + 3]? = some (.int .i64 d.id) := by
                unfold owdL
                rw [fm_at (k := 12) (j := 3) (fun x => rfl) (show ((rep z ms).deb.zip qs)[m]? = some (d, qq) by rw [List.getElem?_zip_eq_some]; exact ⟨hd, hqq⟩) (by decide)]
                rfl
              have p1 : wo.cell? ⟨ub, uoff + m * 12 + 3, none⟩ = some (.int .i64 d.id) := by have := hL1.cell hz3; rwa [← Nat.add_assoc] at this
              have p2 : wo.cell? ⟨kb, koff + m, none⟩ = some (.int .i64 d.id) := hL2.cell (by rw [List.getElem?_map, hkm]; rfl)
              have hmm2 : (0:Int) ≤ (m:Int) ∧ (m:Int) < (kept.length:Int) := by omega
              clear hd hqq hkm hL1 hL2 hz3
              go_upto_region 40 with fail
              go_quiet (fail)
              go_wp2_with fail
              go_roundw
              case rel => exact ⟨m + 1, _, by omega, by go_num, rfl⟩
              case measure => simp [intOf]; omega
            · obtain rfl : m = kept.length := by omega
              go_wp2_with fail
              go_roundw
              case rel =>
                exact ⟨j + 1, Sm, by omega, by go_num, HX9.out.seen.kept rfl, HX9.out.bel.trans ((below_drewN wo q).mono HX9.out.bel.size), by omega, fun h => by omega, fun h k hk => by
                  have h0 : j = 0 := by omega
                  have h1 := HQ.out k hk h0
                  rw [HNX.out h0] at h1
                  exact h1⟩
              case measure => simp [intOf]; omega
    · obtain rfl : j = 2 := by omega
      have HBL := Lib.hid hbel
      clear hsn hbel
      go_wp2
      go_ret
      exact ⟨rfl, HBL.out⟩
end Go.Proofs.YtcbpgkkkfkkkmaaGreat
