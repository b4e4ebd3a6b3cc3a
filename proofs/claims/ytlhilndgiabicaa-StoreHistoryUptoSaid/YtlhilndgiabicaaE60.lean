/- StoreHistory: the walk. -/
import Derived.Test.YtlhilndgiabicaaE59
namespace Go.Proofs.Ytlhilndgiabicaa
open Go.RowKit
open Go.Maps (Keyed)

theorem infoH : (Try.prog.info? 32).map (fun i => (i.zero, i.size, i.bytes)) = some (some (.slice none 0 0), 1, 24) := by kernel_rfl
theorem infoI : (Try.prog.info? 2).map (fun i => (i.zero, i.size, i.bytes)) = some (some (.int .i64 0), 1, 8) := by kernel_rfl
theorem owns_lower {w : World} {base base' n s : Nat} {e : TypeId} {v : Value} {l : List Value} (h : w.ownsRow base e s v n l) (hb : base' ≤ base) : w.ownsRow base' e s v n l := by
  refine ⟨h.1, h.2.imp_right ?_⟩
  rintro ⟨g, cap, cur, e, hg, r⟩
  exact ⟨g, cap, cur, e, Nat.le_trans hb hg, r⟩
set_option maxRecDepth 100000 in
set_option maxHeartbeats 16000000 in
theorem history_walk (a : Option Addr) (n c : Nat) (x y z : ByteArray) (w : World) (hB : ∃ D, OpsIn w a n D) (hn : n ≤ 1048576) (hf : (⟨x, y, z⟩ : Tp).fits) :
    Calls Try.prog 3 #[.slice a n c, .agg #[.string x, .string y, .string z]] w fun e w' => e = .returned (.bool true) ∧ Below w.heap.size w w' := by
  obtain ⟨D, hD⟩ := hB
  obtain ⟨W0, hW0⟩ : ∃ W0, W0 = w.alloc (.cells #[.string x, .string y, .string z] 24) := ⟨_, rfl⟩
  have hbx : Whole W0 w.heap.size 24 #[.string x, .string y, .string z] := by rw [hW0]; exact heap_alloc_new _ _
  have hb0 : Below w.heap.size w W0 := by rw [hW0]; exact below_alloc _ _
  obtain ⟨q0, hq0⟩ : ∃ q0, q0 = w.heap.size := ⟨_, rfl⟩
  have HQL := Lib.hid (show q0 < W0.heap.size by rw [hq0]; exact hbx.lt)
  rw [← hq0] at hbx
  have HBX := Lib.hid (fun (V : World) (hV : Below W0.heap.size W0 V) => (show V.cell? ⟨q0, 0, none⟩ = some (.string x) ∧ V.cell? ⟨q0, 1, none⟩ = some (.string y) from by
    have hx := hbx.kept (hV.block _ HQL.out)
    exact ⟨by rw [hx.cell]; rfl, by rw [hx.cell]; rfl⟩))
  have HB0 := Lib.hid hb0
  have HFX := Lib.hid (show x.size ≤ 1000000000000000000 ∧ y.size ≤ 1000000000000000000 from ⟨hf.1, hf.2.1⟩)
  have HD := Lib.hid (show ∀ d ∈ D, MutsAt W0 d.ma d.ml.length d.ml from fun d hd => (hD.ok d hd).mu.below hb0)
  have HDC := Lib.hid (show ∀ i, costs D i ≤ 1048576 from fun i => Nat.le_trans (costs_le D i) hD.cost)
  have HDL := Lib.hid hD.len
  have HDA := Lib.hid (show n = 0 ∨ ∃ b off, a = some ⟨b, off, none⟩ ∧ b < W0.heap.size ∧ ∀ (i : Nat) (d : OpD), D[i]? = some d → ∀ (j : Nat) (u : Value), d.vals[j]? = some u → W0.cell? ⟨b, off + i * 8 + j, none⟩ = some u from by
    rcases hD.at_ with h0 | ⟨b, off, he, hb, hc⟩
    · exact .inl h0
    · exact .inr ⟨b, off, he, Nat.lt_of_lt_of_le hb hb0.size, fun i d hd j u hu => (hb0.cell (p := ⟨b, off + i * 8 + j, none⟩) hb).trans (hc i d hd j u hu)⟩)
  clear hD hb0 hf hbx
  go_enter Try.func3, Try.ntmps3
  go_upto_region 1 with fail
  rw [← hW0, ← hq0]
  clear hW0 hq0
  go_wp2_with fail
  refine (awake_any W0).mono ?_
  rintro _ w1 ⟨rfl, hb1⟩
  have HB1 := Lib.hid hb1
  clear hb1
  go_wp2_with fail
  refine (new_st w1).mono ?_
  rintro _ w2 ⟨rfl, hs2, hb2⟩
  have HO2 := Lib.hid (fun b (hb : (Gh.new w1.heap.size).own b) => (Gh.new_own hb).1)
  obtain ⟨H1, hH1⟩ : ∃ H1, H1 = Gh.new w1.heap.size := ⟨_, rfl⟩
  rw [← hH1] at hs2 HO2 ⊢
  clear hH1
  obtain ⟨g1, hg1⟩ : ∃ g1, g1 = H1.g := ⟨_, rfl⟩
  have HS := Lib.hid (show ∃ (wm : Int) (M : SM) (H : Gh) (L : List HR), Hs W0 w2 g1 x y wm (2 * ((0 : Nat) : Int)) M H (5 * costs D 0) nilS nilS L (L.map HR.rev) ∧ L.length = 0 ∧ 0 ≤ wm from
    ⟨0, SM.empty, H1, [], ⟨hs2.mono (by omega), hg1.symm, fun b hb => Nat.le_trans HB1.out.size (HO2.out b hb), bell_up HB1.out hb2, by simp, World.ownsRow_nil _ _ _ _, World.ownsRow_nil _ _ _ _, by simp, by simp [Value.ownBlock], by simp [Value.ownBlock], by simp, by simp⟩, rfl, Int.le_refl _⟩)
  rw [← hg1]
  clear hs2 hb2 hg1 HB1 HO2
  obtain ⟨i0, hi0, hz0, hz1, hz2⟩ := info_parts infoH
  obtain ⟨j0, hj0, jz0, jz1, jz2⟩ := info_parts infoI
  go_wp2_with fail
  go_loopw [6, 7, 8, 23] (fun v6 v7 v8 iv wr => ∃ (i j : Nat), i ≤ n ∧ j ≤ i ∧ iv = .int .i64 i ∧ v8 = .int .i64 (2 * (j : Int)) ∧ ∃ (wm : Int) (M : SM) (H : Gh) (L : List HR), Hs W0 wr g1 x y wm (2 * (j : Int)) M H (5 * costs D i) v6 v7 L (L.map HR.rev) ∧ L.length = j ∧ 0 ≤ wm) (fun _ _ _ iv _ => n - (intOf iv).toNat)
  case atStart => exact ⟨0, 0, by omega, by omega, rfl, rfl, HS.out⟩
  case round =>
    clear HS
    obtain ⟨i, j, hin, hji, rfl, rfl, wm, M, H, L, hS, hLj, hwm⟩ := hrel
    obtain ⟨va, vac, rfl, _, _⟩ := owned_anyE hS.was
    obtain ⟨ta, tac, hte, _, _⟩ := owned_anyE hS.at_
    rw [List.length_map] at hte
    subst hte
    by_cases hil : i < n
    · obtain ⟨b, off, rfl, hbB, hcc⟩ := HDA.out.resolve_left (by omega)
      obtain ⟨d, hdi⟩ : ∃ d, D[i]? = some d := ⟨_, List.getElem?_eq_getElem (by rw [HDL.out]; exact hil)⟩
      have hcell : ∀ (j : Nat) (u : Value), d.vals[j]? = some u → wr.cell? ⟨b, off + i * 8 + j, none⟩ = some u := fun j u hu => (hS.bel.cell (p := ⟨b, off + i * 8 + j, none⟩) hbB).trans (hcc i d hdi j u hu)
      have hmu := HD.out d (List.mem_of_getElem? hdi)
      have hnx := costs_next hdi
      have hc1 := HDC.out (i + 1)
      obtain ⟨dk, drev, dma, dml, dmc, dra, drl, drc, doa, dol, doc, dt⟩ := d
      have hcd : dml.length ≤ OpD.cost ⟨dk, drev, dma, dml, dmc, dra, drl, drc, doa, dol, doc, dt⟩ := by unfold OpD.cost; simp only; omega
      have y0 : wr.cell? ⟨b, off + i * 8, none⟩ = some (.int .i64 dk) := hcell 0 _ rfl
      have y1 : wr.cell? ⟨b, off + i * 8 + 1, none⟩ = some (.int .i64 drev) := hcell 1 _ rfl
      have y2 : wr.cell? ⟨b, off + i * 8 + 2, none⟩ = some (.slice dma dml.length dmc) := hcell 2 _ rfl
      have y3 : wr.cell? ⟨b, off + i * 8 + 3, none⟩ = some (.slice dra drl.length drc) := hcell 3 _ rfl
      have y4 : wr.cell? ⟨b, off + i * 8 + 4, none⟩ = some (.slice doa dol.length doc) := hcell 4 _ rfl
      have y5 : wr.cell? ⟨b, off + i * 8 + 5, none⟩ = some (.string dt.o) := hcell 5 _ rfl
      have y6 : wr.cell? ⟨b, off + i * 8 + 6, none⟩ = some (.string dt.r) := hcell 6 _ rfl
      have y7 : wr.cell? ⟨b, off + i * 8 + 7, none⟩ = some (.string dt.u) := hcell 7 _ rfl
      obtain ⟨w4, hw4⟩ : ∃ w4, w4 = wr.alloc (.cells #[.int .i64 dk, .int .i64 drev, .slice dma dml.length dmc, .slice dra drl.length drc, .slice doa dol.length doc, .string dt.o, .string dt.r, .string dt.u] 34) := ⟨_, rfl⟩
      have h4 : Whole w4 wr.heap.size 34 #[.int .i64 dk, .int .i64 drev, .slice dma dml.length dmc, .slice dra drl.length drc, .slice doa dol.length doc, .string dt.o, .string dt.r, .string dt.u] := by rw [hw4]; exact heap_alloc_new _ _
      have hb4 : Below wr.heap.size wr w4 := by rw [hw4]; exact below_alloc _ _
      have hs4 := hS.below hb4
      have d0 : w4.cell? ⟨wr.heap.size, 0, none⟩ = some (.int .i64 dk) := by rw [h4.cell]; rfl
      have d1 : w4.cell? ⟨wr.heap.size, 1, none⟩ = some (.int .i64 drev) := by rw [h4.cell]; rfl
      have d2 : w4.cell? ⟨wr.heap.size, 2, none⟩ = some (.slice dma dml.length dmc) := by rw [h4.cell]; rfl
      have HS4 := Lib.hid hs4
      have HMU := Lib.hid hmu
      have HNX := Lib.hid (show costs D i + dml.length ≤ costs D (i + 1) by omega)
      have HC1 := Lib.hid hc1
      have HLJ := Lib.hid hLj
      have hil2 : (i : Int) < (n : Int) := by omega
      have hi4 : i ≤ 1048576 := by omega
      have hj4 : j ≤ 1048576 := by omega
      clear hcc hdi hcell hmu hnx hc1 hcd h4 hb4 hs4 hS hbB hLj
      go_upto_region 10 with fail
      rw [← hw4]
      clear hw4 y0 y1 y2 y3 y4 y5 y6 y7
      by_cases hk : dk = 2
      · subst hk
        obtain ⟨mn, hmn⟩ : ∃ mn, mn = min drev (2 * (j : Int)) := ⟨_, rfl⟩
        have hml : mn ≤ 2 * (j : Int) := by omega
        have hcl := collect_any HS4.out.st (by have := HNX.out; have := HC1.out; omega) mn
        rw [HS4.out.hg] at hcl
        have HCL := Lib.hid hcl
        clear hcl
        go_wp2_with fail
        rw [← hmn]
        clear hmn
        refine HCL.out.mono ?_
        rintro _ w5 ⟨rfl, H5, hs5, hc5⟩
        have HN := Lib.hid (show ∃ (wm : Int) (M : SM) (H : Gh) (L2 : List HR), Hs W0 w5 g1 x y wm (2 * (j : Int)) M H (5 * costs D (i + 1)) (.slice va L.length vac) (.slice ta L.length tac) L2 (L2.map HR.rev) ∧ L2.length = j ∧ 0 ≤ wm from by
          have hcb : 5 * costs D i ≤ 5 * costs D (i + 1) := by have := HNX.out; omega
          by_cases h0 : colE wm mn = 0
          · rw [if_pos h0, if_pos h0] at hs5
            have hw : wm ≤ mn ∧ 0 ≤ mn := by
              unfold colE at h0
              split at h0
              · cases h0
              · split at h0
                · cases h0
                · omega
            exact ⟨mn, _, H5, L, (HS4.out.step hs5 hc5 hml (Int.le_refl _) (fun x _ _ h3 => ⟨by omega, read_collect HS4.out.st.ok h3⟩)).mono hcb, HLJ.out, hw.2⟩
          · rw [if_neg h0, if_neg h0] at hs5
            exact ⟨wm, _, H5, L, (HS4.out.step hs5 hc5 HS4.out.le (Int.le_refl _) (fun x _ _ h3 => ⟨h3, rfl⟩)).mono hcb, HLJ.out, hwm⟩)
        clear hs5 hc5 HCL d0 d1 d2
        go_wp2
        go_roundw
        case rel =>
          refine ⟨i + 1, j, by omega, by omega, by go_num, rfl, ?_⟩
          exact HN.out
        case measure => simp [intOf]; omega
      · have hap := apply_any HS4.out.st (HMU.out.below HS4.out.bel) (c := dmc) (HMU.out.apart HS4.out.own) (by have := HNX.out; have := HC1.out; simp only; omega) (2 * (j : Int) + 2)
        rw [HS4.out.hg] at hap
        have HAP := Lib.hid hap
        clear hap
        go_wp2_with fail
        refine HAP.out.mono ?_
        rintro _ w5 ⟨rfl, H5, hs5, hc5⟩
        have hs5' : StAt w5 wm (M.tried wm (2 * (j : Int) + 2) dml) H5 (5 * costs D i + 5 * dml.length) := hs5
        have hS5 := (HS4.out.step hs5' hc5 (rev' := 2 * (j : Int) + 2) (by have := HS4.out.le; omega) (by omega) (fun x _ h2 h3 => ⟨h3, read_tried HS4.out.st.ok hs5'.ok (by omega)⟩)).mono (cb' := 5 * costs D (i + 1)) (by have := HNX.out; omega)
        have hr0 : readableB wm (2 * (j : Int) + 2) = 0 := by unfold readableB; rw [if_neg (by omega), if_neg (by have := HS4.out.le; omega)]
        have hus := users_any hS5.st (by have := HC1.out; omega) HFX.out.1 HFX.out.2 (2 * (j : Int) + 2)
        rw [hS5.hg, hr0] at hus
        have HUS := Lib.hid hus
        obtain ⟨c0, c1⟩ := HBX.out w5 hS5.bel
        have HS5 := Lib.hid hS5
        clear hs5 hs5' hc5 hS5 hr0 hus HAP d0 d1 d2 HS4
        go_wp2_with fail
        refine HUS.out.mono ?_
        rintro _ w6 ⟨v6, ts, rfl, hu6, _, hr6, hb6⟩
        obtain ⟨a6, c6, rfl, _, _⟩ := owned_anyE hr6
        have hS6 := HS5.out.below hb6
        have hln : (sortS (uOf ts)).length = ts.length := by rw [sortS_length]; unfold uOf; rw [List.length_map]
        rw [← hln] at hr6 ⊢
        have hbase : W0.heap.size ≤ w5.heap.size := HS5.out.bel.size
        have hxr : w6.ownsRow W0.heap.size 9 1 (HR.val ⟨2 * (j : Int) + 2, a6, c6, sortS (uOf ts)⟩) (sortS (uOf ts)).length ((sortS (uOf ts)).map encS) := owns_lower hr6 hbase
        have hxn : ∀ k, (HR.val ⟨2 * (j : Int) + 2, a6, c6, sortS (uOf ts)⟩).ownBlock = some k → ¬ H5.own k := fun k hk ho => by
          have h1 := (hr6.lt k hk).1
          have h2 := HS5.out.st.raw.own_lt ho
          omega
        have hxv : 0 ≤ (2 * (j : Int) + 2) ∧ (2 * (j : Int) + 2) ≤ (2 * (j : Int) + 2) ∧ (wm ≤ (2 * (j : Int) + 2) → sortS (uOf ts) = readS (M.tried wm (2 * (j : Int) + 2) dml) x y (2 * (j : Int) + 2)) := ⟨by omega, Int.le_refl _, fun _ => users_read HS5.out.st.ok.nd (hu6 (by first | rfl | trivial))⟩
        have HXR := Lib.hid hxr
        have HXN := Lib.hid hxn
        have HXV := Lib.hid hxv
        have HS6 := Lib.hid hS6
        have hlen1 : L.length + 1 ≤ maxLen := by have := HLJ.out; unfold maxLen; omega
        have hlen2 : (L.length + 1) * 24 ≤ 140737488355328 := by have := HLJ.out; omega
        have hlen3 : (L.length + 1) * 8 ≤ 140737488355328 := by have := HLJ.out; omega
        have hsz6 := hS6.bel.size
        clear hu6 hr6 hb6 hS6 hln hbase hxr hxn hxv HUS HS5 c0 c1
        generalize sortS (uOf ts) = ss at *
        go_wp2_with (first
          | (at_builtin; refine wpList_append_own_at _ rfl (.tmp 55) (.tmp 57) 28 rfl W0.heap.size 32 i0 (.slice none 0 0) 1 24 Try.underlying28 hi0 hz0 hz1 hz2 rfl (by decide) (.slice va L.length vac) L.length (L.map HR.val) rfl (HS6.out.was.alloc _) ⟨w6.heap.size, 0, none⟩ 1 1 [.slice a6 ss.length c6] rfl rfl (cell_one_new w6 (.slice a6 ss.length c6) 32) (by simp [Value.oneCell']) hlen1 hlen2 (by simp; omega) ?_; intro v7 w7 hown7 hgr7 _ hat7
             have hS7 := HS6.out.pushW (x := ⟨2 * (j : Int) + 2, a6, c6, ss⟩) HXR.out HXN.out HXV.out hown7 hgr7 hat7
             obtain ⟨va7, vc7, rfl, _, _⟩ := owned_anyE hown7
             have HS7 := Lib.hid hS7
             have hsz7 := hS7.bel.size
             have hat8 : w7.ownsRow W0.heap.size 2 1 (.slice ta L.length tac) L.length ((L.map HR.rev).map (Value.int .i64)) := by have := hS7.at_; rw [List.length_map] at this; exact this
             have HAT8 := Lib.hid hat8
             clear hown7 hgr7 hat7 hS7 hat8)
          | (at_builtin; refine wpList_append_own_at _ rfl (.tmp 59) (.tmp 61) 29 rfl W0.heap.size 2 j0 (.int .i64 0) 1 8 Try.underlying29 hj0 jz0 jz1 jz2 rfl (by decide) (.slice ta L.length tac) L.length ((L.map HR.rev).map (Value.int .i64)) rfl (HAT8.out.alloc _) ⟨w7.heap.size, 0, none⟩ 1 1 [.int .i64 (2 * (j : Int) + 2)] rfl rfl (cell_one_new w7 (.int .i64 (2 * (j : Int) + 2)) 2) (by simp [Value.oneCell']) hlen1 hlen3 (by simp; omega) ?_; intro v8 w8 hown8 hgr8 _ hat8
             have hS8 := HS7.out.pushA (x := 2 * (j : Int) + 2) (by rw [List.length_map]; exact hown8) hgr8 hat8
             obtain ⟨ta8, tc8, rfl, _, _⟩ := owned_anyE hown8
             have HS8 := Lib.hid hS8
             clear hown8 hgr8 hat8 hS8))
        have HN := Lib.hid (show ∃ (wm2 : Int) (M2 : SM) (H2 : Gh) (L2 : List HR), Hs W0 w8 g1 x y wm2 (2 * ((j + 1 : Nat) : Int)) M2 H2 (5 * costs D (i + 1)) (.slice va7 (L.length + 1) vc7) (.slice ta8 (L.length + 1) tc8) L2 (L2.map HR.rev) ∧ L2.length = j + 1 ∧ 0 ≤ wm2 from by
          have h8 := HS8.out
          rw [show 2 * ((j + 1 : Nat) : Int) = 2 * (j : Int) + 2 by omega]
          exact ⟨wm, _, _, _, by rw [List.map_append]; exact h8, by rw [List.length_append, HLJ.out]; rfl, hwm⟩)
        clear HS7 HS8 HAT8 HXR HXN HXV HS6
        go_roundw
        case rel => exact ⟨i + 1, j + 1, by omega, by omega, by go_num, by congr 1, HN.out⟩
        case measure => simp [intOf]; omega
    · obtain rfl : i = n := by omega
      have HSF := Lib.hid hS
      have hLb : L.length ≤ 1048576 := by omega
      have HCN := Lib.hid (HDC.out i)
      clear hS HD HDC HDL HDA hLj
      obtain ⟨w9, hw9⟩ : ∃ w9, w9 = wr := ⟨_, rfl⟩
      rw [← hw9] at HSF ⊢
      clear hw9
      go_wp2_with fail
      go_loopw [66] (fun iv wr => ∃ p : Nat, p ≤ L.length ∧ iv = .int .i64 p ∧ Below w9.heap.size w9 wr) (fun iv _ => L.length - (intOf iv).toNat)
      case atStart => exact ⟨0, by omega, rfl, Below.refl _ _⟩
      case round =>
        obtain ⟨p, hp, rfl, hbr⟩ := hrel
        by_cases hpl : p < L.length
        · obtain ⟨xh, hxh⟩ : ∃ xh, L[p]? = some xh := ⟨_, List.getElem?_eq_getElem hpl⟩
          have hxm := List.mem_of_getElem? hxh
          have hAt : w9.ownsRow W0.heap.size 2 1 (.slice ta L.length tac) L.length ((L.map HR.rev).map (Value.int .i64)) := by have := HSF.out.at_; rw [List.length_map] at this; exact this
          obtain ⟨b1, c1', he1, hb1, hc1⟩ := own_cells hAt (by omega)
          injection he1 with e1 e2 e3
          subst e1
          clear e2 e3
          obtain ⟨b2, c2', he2, hb2, hc2⟩ := own_cells HSF.out.was (by omega)
          injection he2 with e1 e2 e3
          subst e1
          clear e2 e3
          have y1 : wr.cell? ⟨b1, p, none⟩ = some (.int .i64 xh.rev) := (hbr.cell (p := ⟨b1, p, none⟩) hb1).trans (hc1 p _ (by rw [List.getElem?_map, List.getElem?_map, hxh]; rfl))
          have HY2 := Lib.hid (fun (V : World) (hV : Below w9.heap.size w9 V) => (show V.cell? ⟨b2, p, none⟩ = some (.slice xh.a xh.ss.length xh.c) from (hV.cell (p := ⟨b2, p, none⟩) hb2).trans (hc2 p _ (by rw [List.getElem?_map, hxh]; rfl))))
          obtain ⟨v1, v2, v3⟩ := HSF.out.val xh hxm
          have HTX := Lib.hid (HSF.out.txt xh hxm)
          have hSr := HSF.out.below hbr
          have hus := users_any hSr.st (by have := HCN.out; omega) HFX.out.1 HFX.out.2 xh.rev
          rw [hSr.hg] at hus
          have HUS := Lib.hid hus
          obtain ⟨c0, c1⟩ := HBX.out wr hSr.bel
          have HSR := Lib.hid hSr
          have HV3 := Lib.hid v3
          have HBR := Lib.hid hbr
          have hpz : (p : Int) < (L.length : Int) := by omega
          have hp4 : p ≤ 1048576 := by omega
          obtain ⟨rv, hrv⟩ : ∃ rv, rv = xh.rev := ⟨_, rfl⟩
          rw [← hrv] at y1 v1 v2
          have HRV := Lib.hid hrv
          have hcase : (rv < wm ∧ readableB wm rv = 71) ∨ (wm ≤ rv ∧ readableB wm rv = 0) := by
            unfold readableB
            by_cases h1 : rv < wm
            · exact .inl ⟨h1, by rw [if_neg (by omega), if_pos h1]⟩
            · exact .inr ⟨by omega, by rw [if_neg (by omega), if_neg h1]⟩
          rw [← hrv] at HUS
          clear hc1 hc2 hAt hxm hxh hus hSr v3 hrv hbr hb1 hb2
          go_wp2_with fail
          refine HUS.out.mono ?_
          rintro _ w10 ⟨v6, ts, rfl, hu6, _, hr6, hb6⟩
          obtain ⟨a6, c6, rfl, _, _⟩ := owned_anyE hr6
          have hS10 := HSR.out.below hb6
          have hwt := watermark_any hS10.st.raw.top
          rw [hS10.hg] at hwt
          have HWT := Lib.hid hwt
          have HS10 := Lib.hid hS10
          have HU6 := Lib.hid hu6
          have HR6 := Lib.hid hr6
          have HB10 := Lib.hid (bell_up HBR.out hb6)
          clear hu6 hr6 hb6 hS10 hwt HUS HSR c0 c1 y1
          rcases hcase with ⟨hlt, hrd⟩ | ⟨hle, hrd⟩
          · rw [hrd]
            clear hrd HU6
            go_wp2_with fail
            refine HWT.out.mono ?_
            rintro _ w11 ⟨rfl, rfl⟩
            go_wp2
            go_roundw
            case rel => exact ⟨p + 1, by omega, by go_num, HB10.out⟩
            case measure => simp [intOf]; omega
          · rw [hrd]
            have hss : xh.ss = sortS (uOf ts) := by
              rw [HV3.out (by rw [← HRV.out]; exact hle), ← HRV.out]
              exact (users_read HS10.out.st.ok.nd (HU6.out hrd)).symm
            have hln : (sortS (uOf ts)).length = ts.length := by rw [sortS_length]; unfold uOf; rw [List.length_map]
            have hl2 : xh.ss.length = ts.length := by rw [hss, hln]
            have hkb : ts.length ≤ 1099511627776 := by
              have hu := HU6.out hrd
              have h1 := nd_len hu.nd (fun t ht => ((hu.mem t).1 ht).1)
              have h2 := HS10.out.st.raw.bigK
              have h3 := HCN.out
              omega
            have y2 := HY2.out w10 HB10.out
            have HSS := Lib.hid hss
            have HLN := Lib.hid hln
            rw [hl2] at y2 HTX
            have HY3 := Lib.hid (fun (V : World) (hV : Below w9.heap.size w9 V) => (show V.cell? ⟨b2, p, none⟩ = some (.slice xh.a ts.length xh.c) from by rw [← hl2]; exact HY2.out V hV))
            obtain ⟨xa, hxa⟩ : ∃ xa, xa = xh.a := ⟨_, rfl⟩
            obtain ⟨xc, hxc⟩ : ∃ xc, xc = xh.c := ⟨_, rfl⟩
            rw [← hxa, ← hxc] at y2 HY3
            have htx : w9.ownsRow W0.heap.size 9 1 (.slice xa ts.length xc) ts.length ((sortS (uOf ts)).map encS) := by
              have := HTX.out
              unfold HR.val at this
              rw [hl2, hss, ← hxa, ← hxc] at this
              exact this
            have HTX := Lib.hid htx
            clear hss hln hl2 hrd HU6 hxa hxc htx HY2 HV3
            go_wp2_with fail
            refine HWT.out.mono ?_
            rintro _ w11 ⟨rfl, rfl⟩
            go_wp2_with fail
            go_loopw [101] (fun iv wr => ∃ m : Nat, m ≤ ts.length ∧ iv = .int .i64 m ∧ Below w10.heap.size w10 wr) (fun iv _ => ts.length - (intOf iv).toNat)
            case atStart => exact ⟨0, by omega, rfl, Below.refl _ _⟩
            case round =>
              obtain ⟨m, hm, rfl, hbm⟩ := hrel
              by_cases hml : m < ts.length
              · obtain ⟨s, hs⟩ : ∃ s, (sortS (uOf ts))[m]? = some s := ⟨_, List.getElem?_eq_getElem (by rw [HLN.out]; exact hml)⟩
                obtain ⟨d1, rfl, _, hd1, hk1⟩ := encS_at HR6.out (by omega)
                obtain ⟨d2, rfl, _, hd2, hk2⟩ := encS_at HTX.out (by omega)
                have y3 := (hbm.cell (p := ⟨d1, m, none⟩) hd1).trans (hk1 m s hs)
                have hb9 := bell_up HB10.out hbm
                have y4 := (hb9.cell (p := ⟨d2, m, none⟩) hd2).trans (hk2 m s hs)
                have y5 := HY3.out wr hb9
                unfold encS at y3 y4
                generalize (⟨s.toArray⟩ : ByteArray) = S at y3 y4
                have HBM := Lib.hid hbm
                have hmz : (m : Int) < (ts.length : Int) := by omega
                have hq : (S.toList == S.toList) = true := by simp
                clear hk1 hk2 hs hd1 hd2 hbm hb9 y2
                go_wp2_with fail
                go_quiet (fail)
                have HBD := Lib.hid (HBM.out.trans ((below_drewN wr nq).mono HBM.out.size))
                go_wp2
                go_roundw
                case rel => exact ⟨m + 1, by omega, by go_num, HBD.out⟩
                case measure => simp [intOf]; omega
              · have HBM := Lib.hid (bell_up HB10.out hbm)
                have hme : m = ts.length := by omega
                subst hme
                clear hbm
                go_wp2
                go_roundw
                case rel => exact ⟨p + 1, by omega, by go_num, HBM.out⟩
                case measure => simp [intOf]; omega
        · have hpe : p = L.length := by omega
          have HBF := Lib.hid (bell_up HSF.out.bel hbr)
          subst hpe
          clear hbr
          go_wp2
          go_ret
          exact ⟨rfl, HB0.out.trans (HBF.out.mono HB0.out.size)⟩
end Go.Proofs.Ytlhilndgiabicaa
