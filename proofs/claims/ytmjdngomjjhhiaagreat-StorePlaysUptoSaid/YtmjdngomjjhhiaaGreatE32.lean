/- Rows. -/
import Derived.Test.YtmjdngomjjhhiaaGreatE31
namespace Go.Proofs.YtmjdngomjjhhiaaGreat
open Go.RowKit
open Go.Maps (Keyed)
open Go.WideElems (Fit rd rg pl rd_val elemAt)

section
variable {w : World} {wm : Int} {M : SM} {H : Gh} {cb : Nat}
/-- Gathering the entries: which are gathered. -/
structure Gath (w wr : World) (M : SM) (H : Gh) (D : DataW Value) (r : Nat) (v : Value) (left : Lit → Bool) (cnt : Nat) (ts : List Tp) : Prop where
  rng : wr.ranges Tryz.prog 32 heldR H.be r M.K.length D left cnt
  row : wr.ownsRow w.heap.size 81 1 v ts.length (ts.map fun t => ptr (H.ge t))
  below : Below w.heap.size w wr
  nd : ts.Nodup
  mem : ∀ t ∈ M.K, left (kT t) = true ↔ t ∉ ts
  sub : ∀ t ∈ ts, t ∈ M.K
  new : w.heap.size ≤ r
theorem Gath.perm {wr : World} {D : DataW Value} {r : Nat} {v : Value} {left : Lit → Bool} {cnt : Nat} {ts : List Tp} (h : Gath w wr M H D r v left cnt ts) (hn : M.K.Nodup) (hl : ∀ kl, left kl = false) : ts.Perm M.K := by
  refine (List.perm_ext_iff_of_nodup h.nd hn).2 fun t => ⟨h.sub t, fun ht => ?_⟩
  have := (h.mem t ht)
  rw [hl] at this
  exact Decidable.not_not.1 (fun h2 => by have := this.2 h2; cases this)
theorem row_not_iter {P : Program} {k : TypeId} {R : Value → Option (DataW Value × List MemPlace)} {wr : World} {b r n m : Nat} {D : DataW Value} {left : Lit → Bool} {cnt base : Nat} {e : TypeId} {size : Nat} {v : Value} {xs : List Value} (h : wr.ranges P k R b r n D left cnt) (hr : wr.ownsRow base e size v m xs) : some r ≠ v.ownBlock ∧ some b ≠ v.ownBlock := by
  obtain ⟨es, clock, since, seen, c0, hb, _, _, _, hi, _⟩ := h
  refine ⟨fun e2 => ?_, fun e2 => ?_⟩
  · obtain ⟨_, cur, hW⟩ := owned_block hr e2.symm
    unfold Whole at hW
    rw [hW] at hi
    cases hi
  · obtain ⟨_, cur, hW⟩ := owned_block hr e2.symm
    unfold Whole at hW
    rw [hW] at hb
    cases hb
/-- One entry more. -/
theorem Gath.next {w w1 w2 w3 : World} {M : SM} {H : Gh} {D : DataW Value} {r : Nat} {v v' : Value} {left : Lit → Bool} {cnt cnt' : Nat} {ts : List Tp} {t : Tp} (h : Gath w w1 M H D r v left cnt ts) (hfit : ∀ t ∈ M.K, t.fits) (ht : t ∈ M.K) (hl : left (kT t) = true)
    (hrg : w2.ranges Tryz.prog 32 heldR H.be r M.K.length D (fun z => left z && !z.sameKey (kT t)) cnt') (hg : w1.grownBy w2 (some r))
    (hown : w3.ownsRow w.heap.size 81 1 v' (ts.length + 1) (ts.map (fun t => ptr (H.ge t)) ++ [ptr (H.ge t)])) (hg3 : (w2.alloc (.cells #[ptr (H.ge t)] 81)).grownBy w3 v.ownBlock) :
    Gath w w3 M H D r v' (fun z => left z && !z.sameKey (kT t)) cnt' (ts ++ [t]) := by
  have hnt := (h.mem t ht).1 hl
  have hb2 : Below w.heap.size w w2 := h.below.grown hg h.below.size (fun k e => by injection e with e; rw [← e]; exact h.new)
  have hr2 : w2.ownsRow w.heap.size 81 1 v ts.length (ts.map fun t => ptr (H.ge t)) := owns_keptN h.row (fun k hk => hg.block k (h.row.lt k hk).2 (fun e => (row_not_iter h.rng h.row).1 (by rw [hk, e])))
  have hra := hrg.alloc (.cells #[ptr (H.ge t)] 81)
  have hne := row_not_iter hrg hr2
  refine ⟨hra.kept hg3 hne.2 hne.1, by rw [List.length_append, List.map_append]; exact hown, ?_, ?_, fun y hy => ?_, fun y hy => ?_, h.new⟩
  · have hb3 : Below w.heap.size w (w2.alloc (.cells #[ptr (H.ge t)] 81)) := bell_alloc hb2 _
    exact hb3.grown hg3 hb3.size (fun k e => (h.row.lt k e).1)
  · exact List.nodup_append.2 ⟨h.nd, by simp, fun a ha b hb e => by rw [List.mem_singleton] at hb; rw [e, hb] at ha; exact hnt ha⟩
  · have hm := h.mem y hy
    rw [List.mem_append, List.mem_singleton]
    simp only [Bool.and_eq_true, Bool.not_eq_true']
    constructor
    · rintro ⟨h1, h2⟩ (h3 | h3)
      · exact hm.1 h1 h3
      · rw [h3, WideAt.sameKey_self (kT_lit t)] at h2; cases h2
    · intro h3
      refine ⟨hm.2 (fun h4 => h3 (.inl h4)), ?_⟩
      cases hs : (kT y).sameKey (kT t) with
      | false => rfl
      | true => exact absurd (kT_inj (hfit y hy) (hfit t ht) (WideAt.sameKey_eq hs)) (fun e => h3 (.inr e))
  · rcases List.mem_append.1 hy with h1 | h1
    · exact h.sub y h1
    · rw [List.mem_singleton] at h1; rw [h1]; exact ht
theorem rowsOf_append (M : SM) (a b : List Tp) : rowsOf M (a ++ b) = rowsOf M a ++ rowsOf M b := by unfold rowsOf; rw [List.flatMap_append]
theorem rowsOf_one (M : SM) (t : Tp) : rowsOf M [t] = (M.sp t).map fun x => ⟨t, x.s, x.u⟩ := by unfold rowsOf; simp
theorem rowsOf_le {M : SM} {ts : List Tp} {i : Nat} {t : Tp} (ht : ts[i]? = some t) : (rowsOf M (ts.take i)).length + (M.sp t).length ≤ (rowsOf M ts).length := by
  have h1 : ts = ts.take i ++ ([t] ++ ts.drop (i + 1)) := by
    have h2 := drop_get ht
    have h3 := List.take_append_drop i ts
    rw [h2] at h3
    simpa using h3.symm
  have h4 : (rowsOf M ts).length = (rowsOf M (ts.take i ++ ([t] ++ ts.drop (i + 1)))).length := by rw [← h1]
  rw [h4, rowsOf_append, rowsOf_append, rowsOf_one, List.length_append, List.length_append, List.length_map]
  omega
/-- Rows put together. -/
structure RowsS (w wr : World) (H : Gh) (ts : List Tp) (ev v : Value) (R : List Rw) : Prop where
  below : Below w.heap.size w wr
  ents : wr.ownsRow w.heap.size 81 1 ev ts.length (ts.map fun t => ptr (H.ge t))
  row : wr.ownsRow w.heap.size 46 5 v R.length (rwc R)
theorem RowsS.up {w wr w' : World} {H : Gh} {ts : List Tp} {ev v : Value} {R : List Rw} (h : RowsS w wr H ts ev v R) (hb : Below wr.heap.size wr w') : RowsS w w' H ts ev v R :=
  ⟨bell_up h.below hb, owns_keptN h.ents (fun k hk => hb.block k (h.ents.lt k hk).2), owns_keptN h.row (fun k hk => hb.block k (h.row.lt k hk).2)⟩
theorem RowsS.next {w wr w' : World} {H : Gh} {ts : List Tp} {ev v v' : Value} {R : List Rw} (h : RowsS w wr H ts ev v R) (r : Rw) (hg : wr.grownBy w' v.ownBlock) (hown : w'.ownsRow w.heap.size 46 5 v' (R.length + 1) (rwc R ++ [.string r.t.o, .string r.t.r, .string r.t.u, .int .i64 r.s, .int .i64 r.u])) : RowsS w w' H ts ev v' (R ++ [r]) := by
  refine ⟨h.below.grown hg h.below.size (fun k e => (h.row.lt k e).1), owns_keptN h.ents (fun k hk => hg.block k (h.ents.lt k hk).2 (fun e => ?_)), ?_⟩
  · obtain ⟨_, cur, hW⟩ := owned_block h.ents hk
    obtain ⟨_, cur2, hW2⟩ := owned_block h.row e.symm
    exact whole_ne hW hW2 (by decide) rfl
  · rw [List.length_append, rwc_append]
    exact hown
theorem five_new (w : World) (x y z a b : Value) (t : TypeId) : ∀ j u, [x, y, z, a, b][j]? = some u → (w.alloc (.cells #[x, y, z, a, b] t)).cell? ((⟨w.heap.size, 0, none⟩ : Addr).add j) = some u := by
  intro j u hj
  rw [add_plain, Nat.zero_add, new_cell]
  simpa using hj
set_option maxRecDepth 100000 in
set_option maxHeartbeats 16000000 in
theorem rows_any (h : StAt w wm M H cb) (hcb : cb ≤ 1099511627776) (htot : M.tot ≤ 1099511627776) :
    Calls Tryz.prog 10 #[ptr H.g] w fun e w' => ∃ v R, e = .returned v ∧ Rep ltT M R ∧ R.length = M.tot ∧ w'.ownsRow w.heap.size 46 5 v R.length (rwc R) ∧ Below w.heap.size w w' := by
  obtain ⟨i0, hi0, hz0, hz1, hz2⟩ := info_parts infoE
  have hK := h.raw.bigK
  obtain ⟨cs, hmk, hcs⟩ := made_row (P := Tryz.prog) w 80 81 i0 _ 1 8 Tryz.underlying80 hi0 hz0 hz1 hz2 0 M.K.length (Nat.zero_le _) (by omega) (by unfold maxLen; omega)
  obtain ⟨w0, hw0⟩ : ∃ w0, w0 = w.alloc (.cells cs 81) := ⟨_, rfl⟩
  rw [← hw0] at hmk
  have hb0 : Below w.heap.size w w0 := by rw [hw0]; exact below_alloc _ _
  have hr0 : w0.ownsRow w.heap.size 81 1 (.slice (some ⟨w.heap.size, 0, none⟩) 0 M.K.length) 0 [] := by rw [hw0]; exact World.ownsRow_made (base := w.heap.size) (e := 81) (size := 1) w cs M.K.length (Nat.le_refl _) (by unfold maxLen; omega) hcs
  have hsz0 : w.heap.size < w0.heap.size := by rw [hw0]; simp
  have h0 := h.below hb0
  obtain ⟨_, c1, _⟩ := h.raw.top.cells
  obtain ⟨_, c10, _⟩ := h0.raw.top.cells
  have hln := h.raw.em.map.len Tryz.underlying56 3
  obtain ⟨D, hown, hD, hv⟩ := h0.raw.em.map
  have HH := Lib.hid h
  have HB0 := Lib.hid hb0
  have HR0 := Lib.hid hr0
  have HV := Lib.hid hv
  have HD := Lib.hid hD
  have hz : ((0 : Nat) : Int) = 0 := rfl
  rw [hz] at hmk
  clear h hr0 hv hK hw0 h0 hcs
  go_enter Tryz.func10, Tryz.ntmps10
  go_upto_region 2 with fail
  go_wp2_with (first | (at_range; refine wpList_range_own _ rfl _ 56 rfl 32 81 keyT Tryz.underlying56 heldR H.be M.K.length D rfl hown ?_; intro w1 hrg1 hg1 hs1) | go_in)
  go_frame
  have HG1 := Lib.hid (show Gath w w1 M H D w0.heap.size (.slice (some ⟨w.heap.size, 0, none⟩) 0 M.K.length) (Maps.has D) (Maps.size D) [] from
    ⟨hrg1, owns_keptN HR0.out (fun k hk => hg1.block k (HR0.out.lt k hk).2 (by simp)), HB0.out.grown hg1 HB0.out.size (by simp), by simp, fun t ht => by
      have hh := (mview_eq hown keyT Tryz.underlying56 (zeroE _) false (keyT_of ((HH.out.raw.ents t ht).fit))).2
      rw [hh, HV.out, HH.out.raw.em.has t ht]
      simp, by simp, by omega⟩)
  clear hown hrg1 hg1 hs1 hln c1 c10 hmk hb0 hD
  obtain ⟨r, hr⟩ : ∃ r, r = w0.heap.size := ⟨_, rfl⟩
  rw [← hr] at HG1 ⊢
  clear hr
  go_loopw [3] (fun v wr => ∃ left cnt ts, Gath w wr M H D r v left cnt ts) (fun _ wr => wr.rangeLeft H.be r)
  case atStart => exact ⟨_, _, _, HG1.out⟩
  case round =>
    clear HG1
    obtain ⟨left, cnt, ts, hG⟩ := hrel
    have HG := Lib.hid hG
    have hrg := hG.rng
    obtain ⟨ra, rc, rfl, _, _⟩ := owned_anyE hG.row
    clear hG
    go_wp2_with (at_next; refine wpList_next_ranges (α := Value) (β := Value) _ rfl (.tmp 21) rfl 32 keyT heldR id id (fun key kl _ => ⟨key, rfl⟩) (fun v y _ => ⟨v, rfl⟩) H.be _ M.K.length D left cnt rfl hrg ?_ ?_)
    · intro _ hl0
      have hperm := HG.out.perm HH.out.raw.nd hl0
      have hlen : ts.length ≤ 1099511627776 := by
        have := hperm.length_eq
        have := HH.out.raw.bigK
        omega
      have HSO := Lib.hid (sortE_any (HH.out.below HG.out.below) HG.out.row hperm (fun q hq ho => by have := (HG.out.row.lt q hq).1; have := HH.out.raw.own_lt ho; omega) hlen)
      have HBW := Lib.hid HG.out.below
      have HGR := Lib.hid HG.out.row
      have HLE := Lib.hid hperm.length_eq
      clear hl0 hperm hlen hrg HG
      go_wp2_with fail
      refine HSO.out.mono ?_
      rintro _ w5 ⟨rfl, ts', hp', hs', hrow', hg'⟩
      have hle : ts'.length = ts.length := hp'.length_eq.trans HLE.out.symm
      rw [← hle] at hrow' ⊢
      have HP := Lib.hid hp'
      have HSR := Lib.hid hs'
      have HR0 := Lib.hid (show RowsS w w5 H ts' (.slice ra ts'.length rc) nilS [] from ⟨HBW.out.grown hg' HBW.out.size (fun k e => (HGR.out.lt k e).1), hrow', World.ownsRow_nil _ _ _ _⟩)
      have HLN := Lib.hid (show ts'.length ≤ cb by have := hp'.length_eq; have := HH.out.raw.bigK; omega)
      clear hp' hs' hrow' hg' hle HSO HGR HBW HLE
      obtain ⟨j0, hj0, jz0, jz1, jz2⟩ := info_parts infoR
      go_wp2_with fail
      go_loopw [6, 34] (fun v iv wr => ∃ i : Nat, i ≤ ts'.length ∧ iv = .int .i64 i ∧ RowsS w wr H ts' (.slice ra ts'.length rc) v (rowsOf M (ts'.take i))) (fun _ iv _ => ts'.length - (intOf iv).toNat)
      case atStart => exact ⟨0, by omega, rfl, HR0.out⟩
      case round =>
        clear HR0
        obtain ⟨i, hin, rfl, hS⟩ := hrel
        obtain ⟨va, vc, rfl, _, _⟩ := owned_anyE hS.row
        have HS := Lib.hid hS
        clear hS
        by_cases hil : i < ts'.length
        · obtain ⟨t, hti⟩ : ∃ t, ts'[i]? = some t := ⟨_, List.getElem?_eq_getElem hil⟩
          have htK : t ∈ M.K := HP.out.mem_iff.1 (List.mem_of_getElem? hti)
          have HTI := Lib.hid hti
          have HTK := Lib.hid htK
          obtain ⟨ea, ec, _, hA⟩ := (HH.out.raw.ents t htK).at_
          obtain ⟨eb, eo, rfl, heb, hec⟩ : ∃ b off, ra = some ⟨b, off, none⟩ ∧ b < wr.heap.size ∧ wr.cell? ⟨b, off + i, none⟩ = some (ptr (H.ge t)) := by
            have hr := HS.out.ents
            rcases hr.2 with ⟨_, h0⟩ | ⟨b, cap, cur, he, _, hh, _, _, _, htk⟩
            · omega
            · injection he with he _ _
              refine ⟨b, 0, he, (Array.getElem?_eq_some_iff.1 hh).1, ?_⟩
              have h3 : (ts'.map fun t => ptr (H.ge t))[i]? = some (ptr (H.ge t)) := by rw [List.getElem?_map, hti]; rfl
              rw [← htk, List.getElem?_take] at h3
              split at h3
              · simp only [World.cell?, hh]
                rw [Nat.zero_add]
                simpa using h3
              · cases h3
          have HA := Lib.hid hA
          have e3 : wr.cell? ⟨H.ge t, 3, none⟩ = some (.slice ea (M.sp t).length ec) := by rw [(hA.below HS.out.below).blk.cell]; rfl
          have hil2 : (i : Int) < (ts'.length : Int) := by omega
          clear hti htK hA
          go_wp2_with fail
          clear hec e3 heb
          have HS3 := Lib.hid (show RowsS w wr H ts' (.slice (some ⟨eb, eo, none⟩) ts'.length rc) (.slice va (rowsOf M (ts'.take i)).length vc) (rowsOf M (ts'.take i) ++ ((M.sp t).take 0).map fun x => ⟨t, x.s, x.u⟩) by simpa using HS.out)
          have hSL := rowsOf_le (M := M) HTI.out
          rw [rowsOf_tot HP.out] at hSL
          have HSL := Lib.hid hSL
          have hsl3 : (M.sp t).length ≤ cb := HH.out.raw.bigS t
          have HSL3 := Lib.hid hsl3
          have HSP := Lib.hid (show RowsS w wr H ts' (.slice (some ⟨eb, eo, none⟩) ts'.length rc) (.slice va (rowsOf M (ts'.take i)).length vc) (rowsOf M (ts'.take i)) from HS.out)
          clear hSL hsl3 HS
          go_loopw [6, 43] (fun v iv wq => ∃ j : Nat, j ≤ (M.sp t).length ∧ iv = .int .i64 j ∧ RowsS w wq H ts' (.slice (some ⟨eb, eo, none⟩) ts'.length rc) v (rowsOf M (ts'.take i) ++ ((M.sp t).take j).map fun x => ⟨t, x.s, x.u⟩)) (fun _ iv _ => (M.sp t).length - (intOf iv).toNat)
          case atStart => exact ⟨0, by omega, rfl, HS3.out⟩
          case round =>
            clear HS3 HSP
            obtain ⟨j, hjn, rfl, hS⟩ := hrel
            obtain ⟨va, vc, rfl, _, _⟩ := owned_anyE hS.row
            have HS := Lib.hid hS
            clear hS
            by_cases hjl : j < (M.sp t).length
            · obtain ⟨x, hx⟩ : ∃ x, (M.sp t)[j]? = some x := ⟨_, List.getElem?_eq_getElem hjl⟩
              have HX := Lib.hid hx
              have hA2 := HA.out.below HS.out.below
              obtain ⟨sb, so, rfl, hsb, g1, g2⟩ := hA2.sp.cells hx
              have hjl2 : (j : Int) < ((M.sp t).length : Int) := by omega
              obtain ⟨w1, hw1⟩ : ∃ w1, w1 = wr.alloc (.cells #[.int .i64 x.s, .int .i64 x.u] 90) := ⟨_, rfl⟩
              have hb1 : Below wr.heap.size wr w1 := by rw [hw1]; exact below_alloc _ _
              have hX1 : Whole w1 wr.heap.size 90 #[.int .i64 x.s, .int .i64 x.u] := by rw [hw1]; exact heap_alloc_new _ _
              have HS1 := Lib.hid (HS.out.up hb1)
              have HX1 := Lib.hid hX1
              obtain ⟨Rl, hRl⟩ : ∃ Rl, Rl = rowsOf M (ts'.take i) ++ ((M.sp t).take j).map fun x => (⟨t, x.s, x.u⟩ : Rw) := ⟨_, rfl⟩
              have HRL := Lib.hid hRl
              rw [← hRl] at HS1 ⊢
              have hRn : Rl.length ≤ 1099511627776 := by
                have := HSL.out
                rw [hRl, List.length_append, List.length_map, List.length_take]
                omega
              have hn1 : Rl.length + 1 ≤ maxLen := by unfold maxLen; omega
              have hn2 : (Rl.length + 1) * 64 ≤ 140737488355328 := by omega
              have HBS := Lib.hid (show w.heap.size ≤ w1.heap.size from HS1.out.below.size)
              have HHD := Lib.hid (fun W (hW : Below w1.heap.size w1 W) => (show (W.cell? ⟨H.ge t, 0, none⟩ = some (.string t.o) ∧ W.cell? ⟨H.ge t, 1, none⟩ = some (.string t.r) ∧ W.cell? ⟨H.ge t, 2, none⟩ = some (.string t.u)) ∧ W.cell? ⟨wr.heap.size, 0, none⟩ = some (.int .i64 x.s) ∧ W.cell? ⟨wr.heap.size, 1, none⟩ = some (.int .i64 x.u) from by
                have hE := (HA.out.below (bell_up HS1.out.below hW)).blk
                have hx1 := HX1.out.kept (hW.block _ HX1.out.lt)
                exact ⟨⟨by rw [hE.cell]; rfl, by rw [hE.cell]; rfl, by rw [hE.cell]; rfl⟩, by rw [hx1.cell]; rfl, by rw [hx1.cell]; rfl⟩))
              have HHR := Lib.hid (fun W (hW : RowsS w W H ts' (.slice (some ⟨eb, eo, none⟩) ts'.length rc) (.slice va Rl.length vc) Rl) => hW)
              clear hx hA2 hb1 hX1 hRl hRn HS
              go_upto_region 14 with fail
              rw [← hw1]
              clear hw1 g1 g2 hsb
              go_region_held3 (fun W : World => (W.cell? ⟨H.ge t, 0, none⟩ = some (.string t.o) ∧ W.cell? ⟨H.ge t, 1, none⟩ = some (.string t.r) ∧ W.cell? ⟨H.ge t, 2, none⟩ = some (.string t.u)) ∧ W.cell? ⟨wr.heap.size, 0, none⟩ = some (.int .i64 x.s) ∧ W.cell? ⟨wr.heap.size, 1, none⟩ = some (.int .i64 x.u)) (first | assumption | with_reducible exact HHD.out _ (below_drewN _ 1) | exact HHD.out _ (bell_alloc (below_drew1 _) _) | exact HHD.out _ (bell_up (below_alloc _ _) (below_drew1 _))) (first
                | (refine step_only 58 rfl ?_; refine step_append_any _ rfl (.tmp 47) (.tmp 57) 26 rfl w.heap.size 46 j0 (.agg #[.string ⟨#[]⟩, .string ⟨#[]⟩, .string ⟨#[]⟩, .int .i64 0, .int .i64 0]) 5 64 Tryz.underlying26 hj0 jz0 jz1 jz2 rfl (by decide) (.slice va Rl.length vc) Rl.length (rwc Rl) rfl ((show w1.drew.ownsRow w.heap.size 46 5 (.slice va Rl.length vc) Rl.length (rwc Rl) from owns_keptN HS1.out.row (fun _ _ => rfl)).alloc _) ⟨w1.heap.size, 0, none⟩ 1 1 [.string t.o, .string t.r, .string t.u, .int .i64 x.s, .int .i64 x.u] rfl rfl (five_new w1.drew _ _ _ _ _ 46) (by simp [Value.oneCell']) hn1 hn2 (by have := HBS.out; simp; omega) ?_; intro v' w6 hown6 hgr6 hat6
                   have hbw : Below w1.heap.size w1 (w1.drew.alloc (.cells #[.string t.o, .string t.r, .string t.u, .int .i64 x.s, .int .i64 x.u] 46)) := bell_alloc (below_drew1 w1) _
                   have HN := Lib.hid ((HS1.out.up hbw).next ⟨t, x.s, x.u⟩ hgr6 hown6)
                   have hk6 : (w6.cell? ⟨H.ge t, 0, none⟩ = some (.string t.o) ∧ w6.cell? ⟨H.ge t, 1, none⟩ = some (.string t.r) ∧ w6.cell? ⟨H.ge t, 2, none⟩ = some (.string t.u)) ∧ w6.cell? ⟨wr.heap.size, 0, none⟩ = some (.int .i64 x.s) ∧ w6.cell? ⟨wr.heap.size, 1, none⟩ = some (.int .i64 x.u) := by
                     have hE := (HA.out.below HN.out.below).blk
                     have hx1 := HX1.out.kept ((hgr6.block _ (by have := HX1.out.lt; simp; omega) (fun e => by
                       obtain ⟨_, cur, hW⟩ := owned_block HS1.out.row e.symm
                       exact whole_ne HX1.out hW (by decide) rfl)).trans (hbw.block _ HX1.out.lt))
                     exact ⟨⟨by rw [hE.cell]; rfl, by rw [hE.cell]; rfl, by rw [hE.cell]; rfl⟩, by rw [hx1.cell]; rfl, by rw [hx1.cell]; rfl⟩
                   clear hbw hown6 hgr6 hat6))
              all_goals
                have HM := Lib.hid (show RowsS w w6 H ts' (.slice (some ⟨eb, eo, none⟩) ts'.length rc) v' (rowsOf M (ts'.take i) ++ ((M.sp t).take (j + 1)).map fun x => (⟨t, x.s, x.u⟩ : Rw)) from by
                  have h5 : (M.sp t).take (j + 1) = (M.sp t).take j ++ [x] := by rw [List.take_add_one, HX.out]; rfl
                  rw [h5, List.map_append, ← List.append_assoc, ← HRL.out]
                  exact HN.out)
                clear hk6
                have hj4 : j ≤ 1099511627776 := by have := HSL3.out; omega
                go_wp2
                go_roundw
                case rel => exact ⟨j + 1, by omega, by go_num, HM.out⟩
                case measure => simp [intOf]; omega
            · obtain rfl : j = (M.sp t).length := by omega
              have hi4 : i ≤ 1099511627776 := by have := HLN.out; omega
              obtain ⟨N, hN⟩ : ∃ N, N = (rowsOf M (ts'.take i) ++ ((M.sp t).take (M.sp t).length).map fun x => (⟨t, x.s, x.u⟩ : Rw)).length := ⟨_, rfl⟩
              have hS4 := HS.out
              rw [← hN] at hS4 ⊢
              clear hN HS
              have HN := Lib.hid (show RowsS w wr H ts' (.slice (some ⟨eb, eo, none⟩) ts'.length rc) (.slice va N vc) (rowsOf M (ts'.take (i + 1))) from by
                have h4 := hS4
                rw [List.take_length, ← rowsOf_one] at h4
                have h5 : ts'.take (i + 1) = ts'.take i ++ [t] := by rw [List.take_add_one, HTI.out]; rfl
                rw [h5, rowsOf_append]
                exact h4)
              clear hS4
              go_wp2
              go_roundw
              case rel => exact ⟨i + 1, by omega, by go_num, HN.out⟩
              case measure => simp [intOf]; omega
        · obtain rfl : i = ts'.length := by omega
          have HF := Lib.hid (show ∃ R, Rep ltT M R ∧ R.length = M.tot ∧ wr.ownsRow w.heap.size 46 5 (.slice va (rowsOf M (ts'.take ts'.length)).length vc) R.length (rwc R) ∧ Below w.heap.size w wr from
            ⟨rowsOf M ts', rowsOf_rep HH.out.ok HP.out HSR.out, rowsOf_tot HP.out, by have := HS.out.row; rw [List.take_length] at this ⊢; exact this, HS.out.below⟩)
          go_wp2
          go_ret
          obtain ⟨R, q⟩ := HF.out
          exact ⟨_, R, rfl, q⟩
    · intro x cv kl y1 y2 w5 cnt1 hkx hlx hv hat hrg1 hg1l hg1 hs1 hen
      unfold heldR at hv
      injection hv with hv
      injection hv with hv _
      have hme : H.me kl = some cv := by
        rw [← HV.out]
        unfold mview
        rw [hat .nil, ← hv]
      obtain ⟨t, ht, rfl⟩ := HH.out.raw.em.only kl _ hme
      have hcv : cv = ptr (H.ge t) := by
        rw [HH.out.raw.em.has t ht] at hme
        injection hme with hme
        exact hme.symm
      subst hcv
      have hln : ts.length ≤ cb := by
        have := nd_len HG.out.nd HG.out.sub
        have := HH.out.raw.bigK
        omega
      have hn1 : ts.length + 1 ≤ maxLen := by unfold maxLen; omega
      have hn2 : (ts.length + 1) * 8 ≤ 140737488355328 := by omega
      have hr5 : w5.ownsRow w.heap.size 81 1 (.slice ra ts.length rc) ts.length (ts.map fun t => ptr (H.ge t)) := owns_keptN HG.out.row (fun k hk => hg1.block k (HG.out.row.lt k hk).2 (fun e => (row_not_iter HG.out.rng HG.out.row).1 (by rw [hk, e])))
      have HR5 := Lib.hid hr5
      have HRG1 := Lib.hid hrg1
      have HG1 := Lib.hid hg1
      have HLT := Lib.hid hg1l
      have HLX := Lib.hid hlx
      have HRG := Lib.hid hrg
      have HBS := Lib.hid (show w.heap.size ≤ w5.heap.size by rw [hs1]; exact HG.out.below.size)
      clear hkx hlx hat hrg1 hg1 hs1 hg1l hv hme hrg hr5 hln
      go_wp2_with (at_builtin; refine wpList_append_own_at _ rfl (.tmp 26) (.tmp 28) 80 rfl w.heap.size 81 i0 (.pointer none) 1 8 Tryz.underlying80 hi0 hz0 hz1 hz2 rfl (by decide) (.slice ra ts.length rc) ts.length (ts.map fun t => ptr (H.ge t)) rfl (HR5.out.alloc _) ⟨w5.heap.size, 0, none⟩ 1 1 [ptr (H.ge t)] rfl rfl (cell_one_new w5 (ptr (H.ge t)) 81) (by simp [Value.oneCell']) hn1 hn2 (by have := HBS.out; simp; omega) ?_; intro v' w6 hown6 hgr6 _ _
                   have HN := Lib.hid (HG.out.next (fun y hy => (HH.out.raw.ents y hy).fit) ht HLX.out HRG1.out HG1.out hown6 hgr6)
                   clear hown6 hgr6)
      go_roundw
      case rel => exact ⟨_, _, _, HN.out⟩
      case measure => rw [HN.out.rng.left_eq, HRG.out.left_eq]; exact HLT.out
end
end Go.Proofs.YtmjdngomjjhhiaaGreat
