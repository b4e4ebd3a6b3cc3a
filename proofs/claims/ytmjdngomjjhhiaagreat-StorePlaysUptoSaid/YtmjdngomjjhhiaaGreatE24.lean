/- The store's add: a tuple has one span more. -/
import Derived.Test.YtmjdngomjjhhiaaGreatE23
namespace Go.Proofs.YtmjdngomjjhhiaaGreat
open Go.RowKit
open Go.Maps (Keyed)

theorem infoS : (Tryz.prog.info? 90).map (fun i => (i.zero, i.size, i.bytes)) = some (some (.agg #[.int .i64 0, .int .i64 0]), 2, 16) := by kernel_rfl
theorem two_new (w : World) (x y : Value) (t : TypeId) : ∀ j u, [x, y][j]? = some u → (w.alloc (.cells #[x, y] t)).cell? ((⟨w.heap.size, 0, none⟩ : Addr).add j) = some u := by
  intro j u hj
  rw [add_plain, Nat.zero_add, new_cell]
  simpa using hj
section
variable {w : World} {wm : Int} {K : List Tp} {sp : Tp → List Sp} {H : Gh} {cb : Nat} {t : Tp}
theorem StRaw.lookT (h : StRaw w wm K sp H cb) (hf : t.fits) (W : World) (hW : W.heap[H.be]? = w.heap[H.be]?) :
    (Instr.lookup 56 (.map (some H.be)) (tpV t) true).run Tryz.prog W = .ok (.tuple #[if t ∈ K then ptr (H.ge t) else .pointer none, .bool (decide (t ∈ K))]) W := by
  have := (h.em.map.kept hW).look keyT Tryz.underlying56 (zeroE _) true (keyT_of hf)
  rw [if_pos rfl] at this
  rw [this]
  by_cases ht : t ∈ K
  · rw [h.em.has t ht, if_pos ht, decide_eq_true ht]; rfl
  · have hn : H.me (kT t) = none := by
      cases hm : H.me (kT t) with
      | none => rfl
      | some v =>
        obtain ⟨y, hy, e⟩ := h.em.only _ _ hm
        exact absurd (kT_inj hf (h.ents y hy).fit e ▸ hy) ht
    rw [hn, if_neg ht, decide_eq_false ht]; rfl
/-- The store's own cells. -/
theorem StB.cells {w : World} {g : Nat} {wm : Int} {be bo bp bu : Nat} {k0 k1 k2 : Value} (h : StB w g wm be bo bp bu k0 k1 k2) :
    w.cell? ⟨g, 0, none⟩ = some (.int .i64 wm) ∧ w.cell? ⟨g, 1, none⟩ = some (.map (some be)) ∧ (w.cell? ⟨g, 2, none⟩ = some (.int .i64 0) ∧ w.cell? ⟨g, 3, none⟩ = some k0 ∧ w.cell? ⟨g, 4, none⟩ = some (.map (some bo))) ∧ (w.cell? ⟨g, 5, none⟩ = some (.int .i64 1) ∧ w.cell? ⟨g, 6, none⟩ = some k1 ∧ w.cell? ⟨g, 7, none⟩ = some (.map (some bp))) ∧ w.cell? ⟨g, 8, none⟩ = some (.int .i64 2) ∧ w.cell? ⟨g, 9, none⟩ = some k2 ∧ w.cell? ⟨g, 10, none⟩ = some (.map (some bu)) :=
  ⟨by rw [h.blk.cell]; rfl, by rw [h.blk.cell]; rfl, ⟨by rw [h.blk.cell]; rfl, by rw [h.blk.cell]; rfl, by rw [h.blk.cell]; rfl⟩, ⟨by rw [h.blk.cell]; rfl, by rw [h.blk.cell]; rfl, by rw [h.blk.cell]; rfl⟩, by rw [h.blk.cell]; rfl, by rw [h.blk.cell]; rfl, by rw [h.blk.cell]; rfl⟩
set_option maxRecDepth 100000 in
set_option maxHeartbeats 8000000 in
theorem sadd_any (h : StRaw w wm K sp H cb) (hcb : cb ≤ 1099511627000) (hf : t.fits) (x : Sp) :
    Calls Tryz.prog 35 #[ptr H.g, tpV t, .agg #[.int .i64 x.s, .int .i64 x.u]] w fun e w' => e = .returned (.tuple #[]) ∧ ∃ H', StRaw w' wm (if t ∈ K then K else K ++ [t]) (updK sp t (sp t ++ [x])) H' (cb + 5) ∧ StC w w' H H' := by
  obtain ⟨w0, hw0⟩ : ∃ w0, w0 = (w.alloc (.cells #[.string t.o, .string t.r, .string t.u] 32)).alloc (.cells #[.int .i64 x.s, .int .i64 x.u] 90) := ⟨_, rfl⟩
  have hs1 : (w.alloc (.cells #[.string t.o, .string t.r, .string t.u] 32)).heap.size = w.heap.size + 1 := by simp
  have hb0 : Below w.heap.size w w0 := by rw [hw0]; exact bell_alloc (below_alloc _ _) _
  have hT0 : Whole w0 w.heap.size 32 #[.string t.o, .string t.r, .string t.u] := by
    rw [hw0]
    exact (show Whole (w.alloc (.cells #[.string t.o, .string t.r, .string t.u] 32)) w.heap.size 32 _ from heap_alloc_new _ _).kept ((below_alloc _ _).block _ (by rw [hs1]; omega))
  have hX0 : Whole w0 (w.heap.size + 1) 90 #[.int .i64 x.s, .int .i64 x.u] := by rw [hw0, ← hs1]; exact heap_alloc_new _ _
  have h0 := h.below hb0
  have hl := h0.lookT hf w0.drew rfl
  obtain ⟨_, c1, _⟩ := h0.top.cells
  have c1 : w0.drew.cell? ⟨H.g, 1, none⟩ = some (.map (some H.be)) := c1
  have t0 : w0.drew.cell? ⟨w.heap.size, 0, none⟩ = some (.string t.o) := by show w0.cell? _ = _; rw [hT0.cell]; rfl
  have t1 : w0.drew.cell? ⟨w.heap.size, 1, none⟩ = some (.string t.r) := by show w0.cell? _ = _; rw [hT0.cell]; rfl
  have t2 : w0.drew.cell? ⟨w.heap.size, 2, none⟩ = some (.string t.u) := by show w0.cell? _ = _; rw [hT0.cell]; rfl
  have HT0 := Lib.hid hT0
  have HX0 := Lib.hid hX0
  have H0 := Lib.hid h0
  have HB0 := Lib.hid hb0
  have HLT := Lib.hid (fun b lb e => h.lt b lb e)
  have HRW := Lib.hid (fun y (hy : y ∈ K) b (e : (H.rv y).ownBlock = some b) => h.lt b _ ((h.ents y hy).row b e))
  clear hb0 hT0 hX0 h0 hs1
  go_enter Tryz.func35, Tryz.ntmps35
  by_cases ht : t ∈ K
  · rw [if_pos ht, decide_eq_true ht] at hl
    go_upto_region 1 with fail
    rw [← hw0]
    clear hw0
    go_region
    go_upto_region 8 with fail
    clear hl c1 t0 t1 t2
    obtain ⟨V, hV⟩ : ∃ V, V = w0.drew := ⟨_, rfl⟩
    try rw [← hV]
    obtain ⟨cc, hcc⟩ : ∃ cc, cc = cb := ⟨_, rfl⟩
    obtain ⟨cc', hcc'⟩ : ∃ cc', cc' = cb + 5 := ⟨_, rfl⟩
    obtain ⟨KK, hKK⟩ : ∃ KK, KK = K := ⟨_, rfl⟩
    obtain ⟨HH, hHH⟩ : ∃ HH, HH = H := ⟨_, rfl⟩
    have HV := Lib.hid (show StRaw V wm KK sp HH cc by rw [hV, hKK, hHH, hcc]; exact H0.out.below (below_drew1 _))
    have XV := Lib.hid (show Whole V (w.heap.size + 1) 90 #[.int .i64 x.s, .int .i64 x.u] by rw [hV]; exact HX0.out)
    have HTK := Lib.hid (show t ∈ KK by rw [hKK]; exact ht)
    have HCV := Lib.hid (show StC w V H HH by rw [hV, hHH]; exact StC.ofBelow H (bell_up HB0.out (below_drew1 _)))
    have HNX := Lib.hid (show (HH.rv t).ownBlock ≠ some (w.heap.size + 1) from fun e => by rw [hHH] at e; have := HRW.out t ht _ e; omega)
    have HCC := Lib.hid (show cc + 1 ≤ 1099511627776 by omega)
    have HC2 := Lib.hid (show cc + 1 ≤ cc' by omega)
    try rw [← hHH]
    have HFIN := Lib.hid (show (if t ∈ K then K else K ++ [t]) = KK ∧ cb + 5 = cc' by rw [if_pos ht, hKK, hcc']; exact ⟨rfl, rfl⟩)
    clear hV hHH hKK hcc'
    obtain ⟨sa, sc, hv, hA⟩ := (HV.out.ents t HTK.out).at_
    have hbg : cc + 1 ≤ 1099511627776 := HCC.out
    have hnl : (sp t).length ≤ cc := HV.out.bigS t
    have hn1 : (sp t).length + 1 ≤ maxLen := by unfold maxLen; omega
    have hn2 : ((sp t).length + 1) * 16 ≤ 140737488355328 := by omega
    have hnl2 : (sp t).length + 1 ≤ cc' := by
      have := HC2.out
      omega
    have HNL := Lib.hid (show (sp t ++ [x]).length ≤ cc' by rw [List.length_append]; exact hnl2)
    clear hbg hnl hnl2
    have HVV := Lib.hid hv
    have HA := Lib.hid hA
    have HNR := Lib.hid (fun e => HNX.out (by rw [hv]; exact e) : (Value.slice sa (sp t).length sc).ownBlock ≠ some (w.heap.size + 1))
    have HNE := Lib.hid (show (Value.slice sa (sp t).length sc).ownBlock ≠ some (HH.ge t) from fun e => by
      obtain ⟨_, cur, hW⟩ := owned_block hA.row e
      exact whole_ne hW hA.blk (by decide) rfl)
    have ce1 : V.drew.cell? ⟨HH.ge t, 3, none⟩ = some (.slice sa (sp t).length sc) := by
      show V.cell? _ = _
      rw [hA.blk.cell]; rfl
    have ce2 : (V.alloc (.cells #[.int .i64 x.s, .int .i64 x.u] 90)).drew.cell? ⟨HH.ge t, 3, none⟩ = some (.slice sa (sp t).length sc) := by
      show (V.alloc (.cells #[.int .i64 x.s, .int .i64 x.u] 90)).cell? _ = _
      rw [(hA.blk.kept ((below_alloc V (.cells #[.int .i64 x.s, .int .i64 x.u] 90)).block _ hA.blk.lt)).cell]; rfl
    have HHD := Lib.hid (fun (W : World) (hk : ∀ k, k < V.heap.size → (Value.slice sa (sp t).length sc).ownBlock ≠ some k → k ≠ HH.ge t → W.heap[k]? = V.heap[k]?) => (show W.cell? ⟨w.heap.size + 1, 0, none⟩ = some (.int .i64 x.s) ∧ W.cell? ⟨w.heap.size + 1, 1, none⟩ = some (.int .i64 x.u) from by
      have hx := XV.out.kept (hk _ XV.out.lt HNR.out (whole_ne XV.out HA.out.blk (by decide)))
      exact ⟨by rw [hx.cell]; rfl, by rw [hx.cell]; rfl⟩))
    have HR3 := Lib.hid (show V.drew.ownsRow 0 90 2 (.slice sa (sp t).length sc) (sp t).length (spc (sp t)) from owns_keptN hA.row (fun _ _ => rfl))
    obtain ⟨i0, hi0, hz0, hz1, hz2⟩ := info_parts infoS
    clear hv hA
    obtain ⟨xa1, xa2⟩ := HHD.out V.drew (fun _ _ _ _ => rfl)
    obtain ⟨xb1, xb2⟩ := HHD.out (V.alloc (.cells #[.int .i64 x.s, .int .i64 x.u] 90)).drew (fun k hk _ _ => (below_alloc V _).block k hk)
    go_region_law (first
      | (refine step_append_any _ rfl (.tmp 50) (.tmp 52) 84 rfl 0 90 i0 (.agg #[.int .i64 0, .int .i64 0]) 2 16 Tryz.underlying84 hi0 hz0 hz1 hz2 rfl (by decide) (.slice sa (sp t).length sc) (sp t).length (spc (sp t)) rfl (HR3.out.alloc _) ⟨V.heap.size, 0, none⟩ 1 1 [.int .i64 x.s, .int .i64 x.u] rfl rfl (two_new V.drew _ _ 90) (by simp [Value.oneCell']) hn1 hn2 (Nat.zero_le _) ?_; intro v' w3 hown3 hgr3 hat3
         obtain ⟨a5, c5, rfl, _, _⟩ := owned_anyE hown3
         have hbl3 : ∀ k, k < V.heap.size → (Value.slice sa (sp t).length sc).ownBlock ≠ some k → w3.heap[k]? = V.heap[k]? := fun k hk hne => (hgr3.block k (by simp; omega) (fun e => hne e.symm)).trans ((below_alloc V.drew _).block k hk)
         have hk3 := HHD.out w3 (fun k hk hne _ => hbl3 k hk hne)
         have hW3 := HA.out.blk.kept (hbl3 _ HA.out.blk.lt HNE.out)
         have ce3 : w3.cell? ⟨HH.ge t, 3, none⟩ = some (.slice sa (sp t).length sc) := by rw [hW3.cell]; rfl
         have fr3 : w3.frozen? ⟨HH.ge t, 3, none⟩ = false := hW3.free 3
         have hW4 := hW3.store 3 (.slice a5 ((sp t).length + 1) c5)
         have hx4 : (w3.setCell ⟨HH.ge t, 3, none⟩ (.slice a5 ((sp t).length + 1) c5)).cell? ⟨w.heap.size + 1, 0, none⟩ = some (.int .i64 x.s) ∧ (w3.setCell ⟨HH.ge t, 3, none⟩ (.slice a5 ((sp t).length + 1) c5)).cell? ⟨w.heap.size + 1, 1, none⟩ = some (.int .i64 x.u) := HHD.out _ (fun k hk hne hng => (Below.heap_setCell w3 ⟨HH.ge t, 3, none⟩ _ k hng).trans (hbl3 k hk hne))
         have HF := Lib.hid (show ∃ H', StRaw (w3.setCell ⟨HH.ge t, 3, none⟩ (.slice a5 ((sp t).length + 1) c5)) wm KK (updK sp t (sp t ++ [x])) H' cc' ∧ StC w (w3.setCell ⟨HH.ge t, 3, none⟩ (.slice a5 ((sp t).length + 1) c5)) H H' from by
           have hvb : ∀ k, (Value.slice a5 ((sp t).length + 1) c5).ownBlock = some k → k ≠ HH.ge t := fun k hk e => by
             obtain ⟨_, cur, hWk⟩ := owned_block hown3 hk
             rw [e] at hWk
             exact whole_ne hWk hW3 (by decide) rfl
           obtain ⟨g1, g2⟩ := HV.out.spanned (w' := w3.setCell ⟨HH.ge t, 3, none⟩ (.slice a5 ((sp t).length + 1) c5)) (t := t) HTK.out (l := sp t ++ [x]) (v := .slice a5 ((sp t).length + 1) c5) (cb' := cc') hW4
             (by rw [List.length_append, spc_append]; exact owns_keptN hown3 (fun k hk => Below.heap_setCell w3 ⟨HH.ge t, 3, none⟩ _ k (hvb k hk)))
             (by
               rw [HVV.out]
               exact ((Chg.ofBelow _ (show Below V.heap.size V (V.drew.alloc (.cells #[.int .i64 x.s, .int .i64 x.u] 90)) from bell_alloc (below_drew1 V) _)).trans (Chg.ofGrown (P := fun k => (Value.slice sa (sp t).length sc).ownBlock = some k) hgr3 (fun k _ e => e)) (fun k _ e => .inr e)).set (.inl rfl) _ _)
             (fun q hq => hat3.imp (fun e => by rw [HVV.out]; exact e ▸ hq) (fun e => by have := e.symm.trans hq; injection this with this; simp at this; omega)) HNL.out (Nat.le_of_succ_le HC2.out)
           exact ⟨_, g1, HCV.out.trans g2⟩)
         clear hbl3 hown3 hgr3 hat3 hW3 hW4))
    all_goals exact ⟨rfl, .tuple #[], (by simp [results, Tryz.results35, go_sem]), rfl, by rw [HFIN.out.1, HFIN.out.2]; exact HF.out⟩
  · rw [if_neg ht, decide_eq_false ht] at hl
    go_upto_region 1 with fail
    rw [← hw0]
    clear hw0
    go_region
    go_upto_region 4 with fail
    obtain ⟨V1, hV1⟩ : ∃ V1, V1 = (w0.alloc (.cells #[.string t.o, .string t.r, .string t.u, nilS, .int .i64 0, .int .i64 0, .int .i64 0] 87)).drew := ⟨_, rfl⟩
    rw [← hV1]
    have hb1 : Below w0.heap.size w0 V1.drew := by
      rw [hV1]
      exact bell_up (bell_up (below_alloc w0 _) (below_drew1 _)) (below_drew1 _)
    have hWe : Whole V1.drew w0.heap.size 87 #[.string t.o, .string t.r, .string t.u, nilS, .int .i64 0, .int .i64 0, .int .i64 0] := by
      rw [hV1]
      exact (show Whole (w0.alloc (.cells #[.string t.o, .string t.r, .string t.u, nilS, .int .i64 0, .int .i64 0, .int .i64 0] 87)) w0.heap.size 87 _ from heap_alloc_new _ _)
    have hKc : K.length < maxLen := by have := H0.out.bigK; unfold maxLen; omega
    have hMe := H0.out.em.map.kept (hb1.block _ H0.out.em.map.lt)
    obtain ⟨V2, hrun, hM2, hg2, hsz2⟩ := hMe.store (val := ptr w0.heap.size) keyT Tryz.underlying56 (zeroE _) hKc (keyT_of hf)
    have hmn : H.me (kT t) = none := by
      cases hm : H.me (kT t) with
      | none => rfl
      | some v =>
        obtain ⟨y, hy, e⟩ := H0.out.em.only _ _ hm
        exact absurd (kT_inj hf (H0.out.ents y hy).fit e ▸ hy) ht
    rw [hmn] at hM2
    obtain ⟨g1, s1⟩ := H0.out.enter ht hf (Nat.le_refl _) (hWe.kept (hg2.block _ hWe.lt (fun e => by injection e with e; exact hMe.ne hWe e))) hM2 ((Chg.ofBelow _ hb1).trans (Chg.ofGrown (P := fun b => b = H.be) hg2 (fun k _ e => by injection e with e; exact e.symm)) (fun _ _ e => e))
    obtain ⟨H1, hH1⟩ : ∃ H1, H1 = H.enter t w0.heap.size := ⟨_, rfl⟩
    rw [← hH1] at g1 s1
    have hge : H1.ge t = w0.heap.size := by rw [hH1]; exact updK_same _ _ _
    have hrv : H1.rv t = nilS := by rw [hH1]; exact updK_same _ _ _
    have hk0 : (fun _ => K) = KJ K t 0 := by
      funext j
      unfold KJ
      rw [if_neg (by omega)]
    rw [hk0] at g1
    have c1' : V1.drew.cell? ⟨H.g, 1, none⟩ = some (.map (some H.be)) := (hb1.cell (p := ⟨H.g, 1, none⟩) H0.out.top.blk.lt).trans c1
    have t0' : V1.drew.cell? ⟨w.heap.size, 0, none⟩ = some (.string t.o) := (hb1.cell (p := ⟨w.heap.size, 0, none⟩) HT0.out.lt).trans t0
    have t1' : V1.drew.cell? ⟨w.heap.size, 1, none⟩ = some (.string t.r) := (hb1.cell (p := ⟨w.heap.size, 1, none⟩) HT0.out.lt).trans t1
    have t2' : V1.drew.cell? ⟨w.heap.size, 2, none⟩ = some (.string t.u) := (hb1.cell (p := ⟨w.heap.size, 2, none⟩) HT0.out.lt).trans t2
    have HSZ := Lib.hid (show K.length ≤ 1099511627776 by have := H0.out.bigK; omega)
    have HNO := Lib.hid H0.out.no
    have HNB := Lib.hid (fun y => H0.out.bigS y)
    have HLK := Lib.hid H0.out.bigK
    have HND := Lib.hid (show (K ++ [t]).Nodup from List.nodup_append.2 ⟨H0.out.nd, by simp, fun a ha b hb e => by rw [List.mem_singleton] at hb; rw [e, hb] at ha; exact ht ha⟩)
    have G1 := Lib.hid g1
    have S1 := Lib.hid s1
    have hg1 : H1.g = H.g := s1.g
    obtain ⟨_, _, ⟨p1, p2, p3⟩, _⟩ := g1.top.cells
    rw [hg1] at p1 p2 p3
    have HG := Lib.hid hg1
    have HGE := Lib.hid hge
    have HRV := Lib.hid hrv
    clear c1 t0 t1 t2 hl hb1 hWe hKc hMe hM2 hg2 hsz2 hmn g1 s1 hk0 hg1 hge hrv hV1 hH1
    go_region
    clear c1' t0' t1' t2' hrun
    go_wp2_with fail
    rw [← HGE.out]
    refine (gadd0_any G1.out ht HSZ.out (by unfold maxLen; omega)).mono ?_
    rintro _ V3 ⟨rfl, H2, g2, s2, e1, e2, e3, e4⟩
    have G2 := Lib.hid g2
    have S2 := Lib.hid (S1.out.trans s2)
    obtain ⟨_, _, _, ⟨q1, q2, q3⟩, _⟩ := g2.top.cells
    have hg2 : H2.g = H.g := S2.out.g
    rw [hg2] at q1 q2 q3
    have HGE2 := Lib.hid (show H2.ge t = H1.ge t by rw [e1])
    have HRV2 := Lib.hid (show H2.rv t = nilS by rw [e4]; exact HRV.out)
    clear p1 p2 p3 g2 s2 e1 e2 e3 e4 hg2
    go_wp2_with fail
    rw [← HGE2.out]
    refine (gadd1_any G2.out ht HSZ.out (by unfold maxLen; omega)).mono ?_
    rintro _ V4 ⟨rfl, H3, g3, s3, e1, e2, e3, e4⟩
    have G3 := Lib.hid g3
    have S3 := Lib.hid (S2.out.trans s3)
    obtain ⟨_, _, _, _, q1', q2', q3'⟩ := g3.top.cells
    have hg3 : H3.g = H.g := S3.out.g
    rw [hg3] at q1' q2' q3'
    have HGE3 := Lib.hid (show H3.ge t = H2.ge t by rw [e1])
    have HRV3 := Lib.hid (show H3.rv t = nilS by rw [e4]; exact HRV2.out)
    clear q1 q2 q3 g3 s3 e1 e2 e3 e4 hg3
    go_wp2_with fail
    rw [← HGE3.out]
    refine (gadd2_any G3.out ht HSZ.out (by unfold maxLen; omega)).mono ?_
    rintro _ V ⟨rfl, HH, g4, s4, e1, e2, e3, e4⟩
    have S4 := Lib.hid (S3.out.trans s4)
    obtain ⟨cc, hcc⟩ : ∃ cc, cc = cb + 4 := ⟨_, rfl⟩
    obtain ⟨cc', hcc'⟩ : ∃ cc', cc' = cb + 5 := ⟨_, rfl⟩
    obtain ⟨KK, hKK⟩ : ∃ KK, KK = K ++ [t] := ⟨_, rfl⟩
    have HV := Lib.hid (show StRaw V wm KK sp HH cc by
      rw [hKK, hcc]
      refine g4.raw (fun i hi => if_pos hi) HND.out (fun y hy => HNO.out y (fun hm => hy (List.mem_append_left _ hm))) ?_ (fun y => ?_)
      · have := HLK.out; simp; omega
      · have := HNB.out y; omega)
    have HTK := Lib.hid (show t ∈ KK by rw [hKK]; simp)
    have HCV := Lib.hid (show StC w V H HH from (StC.ofBelow H HB0.out).trans S4.out)
    have XV := Lib.hid (show Whole V (w.heap.size + 1) 90 #[.int .i64 x.s, .int .i64 x.u] from HX0.out.kept (S4.out.chg.block _ HX0.out.lt (fun ho => by
      unfold Gh.own at ho
      obtain ⟨lb, hlb⟩ := Option.isSome_iff_exists.1 ho
      have := HLT.out _ _ hlb
      omega)))
    have HNX := Lib.hid (show (HH.rv t).ownBlock ≠ some (w.heap.size + 1) from fun e => by rw [e4, HRV3.out] at e; cases e)
    have HCC := Lib.hid (show cc + 1 ≤ 1099511627776 by omega)
    have HC2 := Lib.hid (show cc + 1 ≤ cc' by omega)
    have HFIN := Lib.hid (show (if t ∈ K then K else K ++ [t]) = KK ∧ cb + 5 = cc' by rw [if_neg ht, hKK, hcc']; exact ⟨rfl, rfl⟩)
    have hg4 : HH.ge t = H3.ge t := by rw [e1]
    rw [← hg4]
    clear q1' q2' q3' g4 s4 e1 e2 e3 e4 hKK hcc' hg4
    go_upto_region 8 with fail
    obtain ⟨sa, sc, hv, hA⟩ := (HV.out.ents t HTK.out).at_
    have hbg : cc + 1 ≤ 1099511627776 := HCC.out
    have hnl : (sp t).length ≤ cc := HV.out.bigS t
    have hn1 : (sp t).length + 1 ≤ maxLen := by unfold maxLen; omega
    have hn2 : ((sp t).length + 1) * 16 ≤ 140737488355328 := by omega
    have hnl2 : (sp t).length + 1 ≤ cc' := by
      have := HC2.out
      omega
    have HNL := Lib.hid (show (sp t ++ [x]).length ≤ cc' by rw [List.length_append]; exact hnl2)
    clear hbg hnl hnl2
    have HVV := Lib.hid hv
    have HA := Lib.hid hA
    have HNR := Lib.hid (fun e => HNX.out (by rw [hv]; exact e) : (Value.slice sa (sp t).length sc).ownBlock ≠ some (w.heap.size + 1))
    have HNE := Lib.hid (show (Value.slice sa (sp t).length sc).ownBlock ≠ some (HH.ge t) from fun e => by
      obtain ⟨_, cur, hW⟩ := owned_block hA.row e
      exact whole_ne hW hA.blk (by decide) rfl)
    have ce1 : V.drew.cell? ⟨HH.ge t, 3, none⟩ = some (.slice sa (sp t).length sc) := by
      show V.cell? _ = _
      rw [hA.blk.cell]; rfl
    have ce2 : (V.alloc (.cells #[.int .i64 x.s, .int .i64 x.u] 90)).drew.cell? ⟨HH.ge t, 3, none⟩ = some (.slice sa (sp t).length sc) := by
      show (V.alloc (.cells #[.int .i64 x.s, .int .i64 x.u] 90)).cell? _ = _
      rw [(hA.blk.kept ((below_alloc V (.cells #[.int .i64 x.s, .int .i64 x.u] 90)).block _ hA.blk.lt)).cell]; rfl
    have HHD := Lib.hid (fun (W : World) (hk : ∀ k, k < V.heap.size → (Value.slice sa (sp t).length sc).ownBlock ≠ some k → k ≠ HH.ge t → W.heap[k]? = V.heap[k]?) => (show W.cell? ⟨w.heap.size + 1, 0, none⟩ = some (.int .i64 x.s) ∧ W.cell? ⟨w.heap.size + 1, 1, none⟩ = some (.int .i64 x.u) from by
      have hx := XV.out.kept (hk _ XV.out.lt HNR.out (whole_ne XV.out HA.out.blk (by decide)))
      exact ⟨by rw [hx.cell]; rfl, by rw [hx.cell]; rfl⟩))
    have HR3 := Lib.hid (show V.drew.ownsRow 0 90 2 (.slice sa (sp t).length sc) (sp t).length (spc (sp t)) from owns_keptN hA.row (fun _ _ => rfl))
    obtain ⟨i0, hi0, hz0, hz1, hz2⟩ := info_parts infoS
    clear hv hA
    obtain ⟨xa1, xa2⟩ := HHD.out V.drew (fun _ _ _ _ => rfl)
    obtain ⟨xb1, xb2⟩ := HHD.out (V.alloc (.cells #[.int .i64 x.s, .int .i64 x.u] 90)).drew (fun k hk _ _ => (below_alloc V _).block k hk)
    go_region_law (first
      | (refine step_append_any _ rfl (.tmp 50) (.tmp 52) 84 rfl 0 90 i0 (.agg #[.int .i64 0, .int .i64 0]) 2 16 Tryz.underlying84 hi0 hz0 hz1 hz2 rfl (by decide) (.slice sa (sp t).length sc) (sp t).length (spc (sp t)) rfl (HR3.out.alloc _) ⟨V.heap.size, 0, none⟩ 1 1 [.int .i64 x.s, .int .i64 x.u] rfl rfl (two_new V.drew _ _ 90) (by simp [Value.oneCell']) hn1 hn2 (Nat.zero_le _) ?_; intro v' w3 hown3 hgr3 hat3
         obtain ⟨a5, c5, rfl, _, _⟩ := owned_anyE hown3
         have hbl3 : ∀ k, k < V.heap.size → (Value.slice sa (sp t).length sc).ownBlock ≠ some k → w3.heap[k]? = V.heap[k]? := fun k hk hne => (hgr3.block k (by simp; omega) (fun e => hne e.symm)).trans ((below_alloc V.drew _).block k hk)
         have hk3 := HHD.out w3 (fun k hk hne _ => hbl3 k hk hne)
         have hW3 := HA.out.blk.kept (hbl3 _ HA.out.blk.lt HNE.out)
         have ce3 : w3.cell? ⟨HH.ge t, 3, none⟩ = some (.slice sa (sp t).length sc) := by rw [hW3.cell]; rfl
         have fr3 : w3.frozen? ⟨HH.ge t, 3, none⟩ = false := hW3.free 3
         have hW4 := hW3.store 3 (.slice a5 ((sp t).length + 1) c5)
         have hx4 : (w3.setCell ⟨HH.ge t, 3, none⟩ (.slice a5 ((sp t).length + 1) c5)).cell? ⟨w.heap.size + 1, 0, none⟩ = some (.int .i64 x.s) ∧ (w3.setCell ⟨HH.ge t, 3, none⟩ (.slice a5 ((sp t).length + 1) c5)).cell? ⟨w.heap.size + 1, 1, none⟩ = some (.int .i64 x.u) := HHD.out _ (fun k hk hne hng => (Below.heap_setCell w3 ⟨HH.ge t, 3, none⟩ _ k hng).trans (hbl3 k hk hne))
         have HF := Lib.hid (show ∃ H', StRaw (w3.setCell ⟨HH.ge t, 3, none⟩ (.slice a5 ((sp t).length + 1) c5)) wm KK (updK sp t (sp t ++ [x])) H' cc' ∧ StC w (w3.setCell ⟨HH.ge t, 3, none⟩ (.slice a5 ((sp t).length + 1) c5)) H H' from by
           have hvb : ∀ k, (Value.slice a5 ((sp t).length + 1) c5).ownBlock = some k → k ≠ HH.ge t := fun k hk e => by
             obtain ⟨_, cur, hWk⟩ := owned_block hown3 hk
             rw [e] at hWk
             exact whole_ne hWk hW3 (by decide) rfl
           obtain ⟨g1, g2⟩ := HV.out.spanned (w' := w3.setCell ⟨HH.ge t, 3, none⟩ (.slice a5 ((sp t).length + 1) c5)) (t := t) HTK.out (l := sp t ++ [x]) (v := .slice a5 ((sp t).length + 1) c5) (cb' := cc') hW4
             (by rw [List.length_append, spc_append]; exact owns_keptN hown3 (fun k hk => Below.heap_setCell w3 ⟨HH.ge t, 3, none⟩ _ k (hvb k hk)))
             (by
               rw [HVV.out]
               exact ((Chg.ofBelow _ (show Below V.heap.size V (V.drew.alloc (.cells #[.int .i64 x.s, .int .i64 x.u] 90)) from bell_alloc (below_drew1 V) _)).trans (Chg.ofGrown (P := fun k => (Value.slice sa (sp t).length sc).ownBlock = some k) hgr3 (fun k _ e => e)) (fun k _ e => .inr e)).set (.inl rfl) _ _)
             (fun q hq => hat3.imp (fun e => by rw [HVV.out]; exact e ▸ hq) (fun e => by have := e.symm.trans hq; injection this with this; simp at this; omega)) HNL.out (Nat.le_of_succ_le HC2.out)
           exact ⟨_, g1, HCV.out.trans g2⟩)
         clear hbl3 hown3 hgr3 hat3 hW3 hW4))
    all_goals exact ⟨rfl, .tuple #[], (by simp [results, Tryz.results35, go_sem]), rfl, by rw [HFIN.out.1, HFIN.out.2]; exact HF.out⟩
end
end Go.Proofs.YtmjdngomjjhhiaaGreat
