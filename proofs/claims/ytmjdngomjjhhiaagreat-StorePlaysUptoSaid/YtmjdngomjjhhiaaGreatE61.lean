/- Of. -/
import Derived.Test.YtmjdngomjjhhiaaGreatE59
import Derived.Shelf.SlLaysF0
import Derived.Shelf.SlSortCmp.WholeK
import Derived.Shelf.SlSortCmp.NoneTotal
import Derived.Ground.SlsfProg
namespace Go.Proofs.YtmjdngomjjhhiaaGreat
open Go.RowKit
open Go.Maps (Keyed)
open Go.Sort (HoldsK flatK size_flatK get_flatK)

def tc (t : Tp) : List Value := [.string t.o, .string t.r, .string t.u]
theorem infoTp : (Tryz.prog.info? 32).map (fun i => (i.zero, i.size, i.bytes)) = some (some (.agg #[.string ⟨#[]⟩, .string ⟨#[]⟩, .string ⟨#[]⟩]), 3, 48) := by kernel_rfl
theorem three_newT (w : World) (x y z : Value) (t : TypeId) : ∀ j u, [x, y, z][j]? = some u → (w.alloc (.cells #[x, y, z] t)).cell? ((⟨w.heap.size, 0, none⟩ : Addr).add j) = some u := by
  intro j u hj
  rw [add_plain, Nat.zero_add, new_cell]
  simpa using hj

def Tryz.laySortT_ren : Go.Shelf.Ren := ⟨fun | 6 => 41 | 15 => 56 | 14 => 65 | 28 => 86 | 29 => 87 | 20 => 98 | 21 => 99 | 22 => 100 | 23 => 101 | 24 => 102 | 25 => 103 | 26 => 104 | 27 => 105 | 46 => 122 | 47 => 113 | 48 => 114 | 49 => 123 | 50 => 124 | 57 => 129 | n => n, fun | 22 => 49 | 24 => 32 | 25 => 83 | 3 => 3 | 39 => 117 | 0 => 0 | 53 => 143 | 55 => 145 | 4 => 4 | 46 => 136 | 45 => 135 | 50 => 140 | 5 => 5 | 9 => 9 | 66 => 162 | 70 => 166 | 76 => 175 | 77 => 176 | n => n, fun | n => n⟩
theorem Tryz.laySortT : Go.Proofs.SlLaysF0.n6 Tryz.prog Tryz.laySortT_ren := {
  mixed := by kernel_rfl
  f6 := ⟨Tryz.f41.name, by decide, Tryz.func41.trans (congrArg some (by kernel_rfl))⟩
  f14 := ⟨Tryz.f65.name, by decide, Tryz.func65.trans (congrArg some (by kernel_rfl))⟩
  f15 := Tryz.func56.trans (congrArg some (by kernel_rfl))
  f20 := ⟨Tryz.f98.name, by decide, Tryz.func98.trans (congrArg some (by kernel_rfl))⟩
  f21 := ⟨Tryz.f99.name, by decide, Tryz.func99.trans (congrArg some (by kernel_rfl))⟩
  f22 := ⟨Tryz.f100.name, by decide, Tryz.func100.trans (congrArg some (by kernel_rfl))⟩
  f23 := ⟨Tryz.f101.name, by decide, Tryz.func101.trans (congrArg some (by kernel_rfl))⟩
  f24 := ⟨Tryz.f102.name, by decide, Tryz.func102.trans (congrArg some (by kernel_rfl))⟩
  f25 := ⟨Tryz.f103.name, by decide, Tryz.func103.trans (congrArg some (by kernel_rfl))⟩
  f26 := ⟨Tryz.f104.name, by decide, Tryz.func104.trans (congrArg some (by kernel_rfl))⟩
  f27 := ⟨Tryz.f105.name, by decide, Tryz.func105.trans (congrArg some (by kernel_rfl))⟩
  f28 := Tryz.func86.trans (congrArg some (by kernel_rfl))
  f29 := Tryz.func87.trans (congrArg some (by kernel_rfl))
  f46 := ⟨Tryz.f122.name, by decide, Tryz.func122.trans (congrArg some (by kernel_rfl))⟩
  f47 := Tryz.func113.trans (congrArg some (by kernel_rfl))
  f48 := Tryz.func114.trans (congrArg some (by kernel_rfl))
  f49 := ⟨Tryz.f123.name, by decide, Tryz.func123.trans (congrArg some (by kernel_rfl))⟩
  f50 := ⟨Tryz.f124.name, by decide, Tryz.func124.trans (congrArg some (by kernel_rfl))⟩
  f57 := ⟨Tryz.f129.name, by decide, Tryz.func129.trans (congrArg some (by kernel_rfl))⟩
  t0 := Tryz.underlying0
  a0 := Tryz.isAgg0
  z0 := Tryz.sizeOf0
  v0 := Tryz.zeroValue0
  t3 := Tryz.underlying3
  a3 := Tryz.isAgg3
  z3 := Tryz.sizeOf3
  v3 := Tryz.zeroValue3
  t4 := Tryz.underlying4
  a4 := Tryz.isAgg4
  z4 := Tryz.sizeOf4
  v4 := Tryz.zeroValue4
  t5 := Tryz.underlying5
  a5 := Tryz.isAgg5
  z5 := Tryz.sizeOf5
  v5 := Tryz.zeroValue5
  t9 := Tryz.underlying9
  a9 := Tryz.isAgg9
  z9 := Tryz.sizeOf9
  v9 := Tryz.zeroValue9
  t22 := Tryz.underlying49
  a22 := Tryz.isAgg49
  z22 := Tryz.sizeOf49
  v22 := Tryz.zeroValue49
  t25 := Tryz.underlying83
  a25 := Tryz.isAgg83
  z25 := Tryz.sizeOf83
  v25 := Tryz.zeroValue83
  t39 := Tryz.underlying117
  a39 := Tryz.isAgg117
  z39 := Tryz.sizeOf117
  v39 := Tryz.zeroValue117
  t45 := Tryz.underlying135
  a45 := Tryz.isAgg135
  z45 := Tryz.sizeOf135
  v45 := Tryz.zeroValue135
  t46 := Tryz.underlying136
  a46 := Tryz.isAgg136
  z46 := Tryz.sizeOf136
  v46 := Tryz.zeroValue136
  t50 := Tryz.underlying140
  a50 := Tryz.isAgg140
  z50 := Tryz.sizeOf140
  v50 := Tryz.zeroValue140
  t53 := Tryz.underlying143
  a53 := Tryz.isAgg143
  z53 := Tryz.sizeOf143
  v53 := Tryz.zeroValue143
  t55 := Tryz.underlying145
  a55 := Tryz.isAgg145
  z55 := Tryz.sizeOf145
  v55 := Tryz.zeroValue145
  t66 := Tryz.underlying162
  a66 := Tryz.isAgg162
  z66 := Tryz.sizeOf162
  v66 := Tryz.zeroValue162
  t70 := Tryz.underlying166
  a70 := Tryz.isAgg166
  z70 := Tryz.sizeOf166
  v70 := Tryz.zeroValue166
  t76 := Tryz.underlying175
  a76 := Tryz.isAgg175
  z76 := Tryz.sizeOf175
  v76 := Tryz.zeroValue175
  t77 := Tryz.underlying176
  a77 := Tryz.isAgg176
  z77 := Tryz.sizeOf176
  v77 := Tryz.zeroValue176 }

def cfq (x y : Tp) : Int := cmpT (tq x) (tq y)
theorem ltOf_cfq (x y : Tp) : ltOf cfq x y = ltT x y := by
  unfold ltOf cfq ltT
  rcases cmpT_range (tq x) (tq y) with h | h | h <;> rw [h] <;> rfl
theorem swoQ : Sort.SWO (ltOf cfq) where
  irrefl x := by rw [ltOf_cfq]; exact ordT.irr _
  trans x y z h1 h2 := by
    rw [ltOf_cfq] at *
    exact ordT.tr _ _ _ h1 h2
  ntrans x y z h1 h2 := by
    rw [ltOf_cfq] at *
    cases h3 : ltT x z with
    | false => rfl
    | true =>
      by_cases hxy : x = y
      · rw [hxy, h2] at h3; cases h3
      · have := ordT.tr _ _ _ (ordT.tri _ _ hxy h1) h3
        rw [h2] at this; cases this
theorem tc_len (t : Tp) : (tc t).length = 3 := rfl
theorem flat_get (d : Array Tp) (j : Nat) (h : j < d.size * 3) : (d.toList.flatMap tc)[j]? = some ((flatK tc 3 d)[j]!) := by
  rw [get_flatK _ _ _ j h]
  have h1 : j / 3 < d.size := by omega
  have h2 : d.toList[j / 3]? = some d[j / 3]! := by
    rw [getElem!_pos d _ h1, Array.getElem?_toList, Array.getElem?_eq_getElem h1]
  have h3 := fm_at tc_len h2 (j := j % 3) (by omega)
  rw [show j / 3 * 3 + j % 3 = j by omega] at h3
  rw [h3]
  have h4 : j % 3 < (tc d[j / 3]!).length := by rw [tc_len]; omega
  rw [List.getElem?_eq_getElem h4, getElem!_pos (tc d[j / 3]!) (j % 3) h4]
theorem flat_list (d : Array Tp) : (flatK tc 3 d).toList = d.toList.flatMap tc := by
  apply List.ext_getElem?
  intro j
  by_cases h : j < d.size * 3
  · rw [flat_get d j h, Array.getElem?_toList, Array.getElem?_eq_getElem (by rw [size_flatK]; exact h), getElem!_pos _ _ (by rw [size_flatK]; exact h)]
  · rw [List.getElem?_eq_none (by rw [Array.length_toList, size_flatK]; omega), List.getElem?_eq_none (by rw [fm_len tc_len]; simp; omega)]
set_option maxHeartbeats 4000000 in
theorem sortT_any {w : World} {B : Nat} {v : Value} {ts : List Tp} (hrow : w.ownsRow B 32 3 v ts.length (ts.flatMap tc)) (hnd : ts.Nodup) (hlen : ts.length ≤ 1099511627776) :
    Calls Tryz.prog 41 #[v, .func (.func 32) #[] #[]] w fun e w' => e = .returned (.tuple #[]) ∧ ∃ ts' : List Tp, ts'.Perm ts ∧ TSorted ltT ts' ∧ w'.ownsRow B 32 3 v ts'.length (ts'.flatMap tc) ∧ w.grownBy w' v.ownBlock := by
  cases ts with
  | nil =>
    obtain ⟨a, c, rfl, _, _⟩ := owned_anyE hrow
    have hcon := AnyF.slices_SortFunc_none (P := Tryz.prog) (ρ := Tryz.laySortT_ren) { Tryz.laySortT with } a c (.func (.func 32) #[] #[]) w
    change Calls Tryz.prog 41 _ _ _ at hcon
    refine hcon.mono ?_
    rintro e w' ⟨rfl, rfl⟩
    exact ⟨rfl, [], List.Perm.refl _, by simp [TSorted], hrow, World.grownBy.refl _ _⟩
  | cons t0 tr =>
    obtain ⟨ts, hts⟩ : ∃ ts, ts = t0 :: tr := ⟨_, rfl⟩
    rw [← hts] at hrow hlen hnd
    rw [← hts]
    have hpos : 0 < ts.length := by rw [hts]; simp
    rcases hrow.2 with ⟨_, hz⟩ | ⟨gb, cap, cur, rfl, hbase, hgb, r1, r2, r3, r4⟩
    · omega
    · have hwb : Whole w gb 32 cur := hgb
      have hH : HoldsK tc 3 w gb 0 ts.toArray := by
        intro j hj
        have hj2 : j < ts.toArray.size * 3 := by simpa using hj
        rw [Nat.zero_add]
        refine ⟨?_, hwb.free j⟩
        show w.cell? ⟨gb, j, none⟩ = some ((flatK tc 3 ts.toArray)[j]!)
        rw [hwb.cell, ← flat_get ts.toArray j hj2, List.toList_toArray, ← r4, List.getElem?_take_of_lt (by simpa using hj2), Array.getElem?_toList]
      have hcmp : CmpLays Tryz.prog 32 #[] tc 3 cfq gb 0 ts.toArray.size w := by
        intro m os dk _ x y
        exact compareG_any x.o x.r x.u y.o y.r y.u _
      have hcon := AnyQ.slices_SortFunc (P := Tryz.prog) (ρ := Tryz.laySortT_ren) Tryz.laySortT 3 (fun w => by kernel_rfl) (fun w => by kernel_rfl) tc tc_len (fun x v hv => by
        simp only [tc, List.mem_cons, List.not_mem_nil, or_false] at hv
        rcases hv with rfl | rfl | rfl <;> rfl) cfq swoQ 32 #[] gb 0 cap ts.toArray w (enters_of Tryz.func32 (by kernel_rfl) rfl) hcmp hH hwb.lt (by simp; omega)
      change Calls Tryz.prog 41 _ _ _ at hcon
      simp only [List.size_toArray] at hcon
      refine hcon.mono ?_
      rintro e w' ⟨rfl, d', n, os, ⟨p1, _, p2⟩, h2, rfl⟩
      have hds : d'.size = ts.length := by simpa using p1
      have hperm : d'.toList.Perm ts := by
        have e1 : d'.extract 0 ts.length = d' := by rw [← hds]; simp
        have e2 : ts.toArray.extract 0 ts.length = ts.toArray := by simp
        rw [e1, e2] at p2
        simpa using p2
      have hnd2 : d'.toList.Nodup := hperm.nodup_iff.2 hnd
      have hW : sortWorldK tc 3 w gb 0 n d' os = sortWorld id w gb 0 n (flatK tc 3 d') os := rfl
      refine ⟨rfl, d'.toList, hperm, ?_, ?_, by rw [hW]; exact grownBy_sortedE (enc := id) (flatK tc 3 d')⟩
      · unfold TSorted
        rw [List.pairwise_iff_getElem]
        intro i j hi hj hij
        have h3 := h2 i j (Nat.zero_le _) hij (by rw [← hds]; simpa using hj)
        rw [ltOf_cfq, getElem!_pos d' j (by simpa using hj), getElem!_pos d' i (by simpa using hi)] at h3
        have hne : d'.toList[j] ≠ d'.toList[i] := fun e => by
          have := (List.getElem_inj hnd2).1 e
          omega
        exact ordT.tri _ _ hne (by simpa using h3)
      · have hle : d'.toList.length = ts.length := by simpa using hds
        rw [hW]
        refine ⟨fm_len tc_len _, .inr ⟨gb, cap, _, by rw [hle], hbase, heap_sortedE (enc := id) (flatK tc 3 d') hgb, by rw [hle]; exact r1, r2, by simp [Sort.putCells, r3], ?_⟩⟩
        have := take_putCellsE (enc := id) cur (flatK tc 3 d') (by rw [size_flatK, hds]; omega)
        rw [size_flatK, flat_list] at this
        rw [hle, ← hds]
        simpa using this
/-- What a user had. -/
structure OfOk (M : SM) (u : ByteArray) (rev : Int) (ts : List Tp) : Prop where
  nd : ts.Nodup
  mem : ∀ t, t ∈ ts ↔ t ∈ M.K ∧ t.u = u ∧ spThere (M.sp t) rev = true
section
variable {w : World} {wm : Int} {M : SM} {H : Gh} {cb : Nat}
/-- Tuples gathered. -/
structure OfS (w wr : World) (v : Value) (ts : List Tp) : Prop where
  below : Below w.heap.size w wr
  row : wr.ownsRow w.heap.size 32 3 v ts.length (ts.flatMap tc)
theorem OfS.up {wr w' : World} {v : Value} {ts : List Tp} (h : OfS w wr v ts) (hb : Below wr.heap.size wr w') : OfS w w' v ts :=
  ⟨bell_up h.below hb, owns_keptN h.row (fun k hk => hb.block k (h.row.lt k hk).2)⟩
theorem StAt.of_list (h : StAt w wm M H cb) {u : ByteArray} (hu : u.size ≤ 1000000000000000000) (rev : Int) : OfOk M u rev ((H.L 2 (kS u)).filter fun t => spThere (M.sp t) rev) := by
  have hI := (h.raw.ix 2 (by omega)).ok
  refine ⟨(hI.nd _).filter _, fun t => ?_⟩
  rw [List.mem_filter, hI.mem]
  constructor
  · rintro ⟨⟨h1, h2⟩, h3⟩
    exact ⟨h1, kS_inj (h.raw.ents t h1).fit.2.2 hu h2, h3⟩
  · rintro ⟨h1, rfl, h3⟩
    exact ⟨⟨h1, rfl⟩, h3⟩
set_option maxRecDepth 100000 in
set_option maxHeartbeats 16000000 in
theorem of_any (h : StAt w wm M H cb) (hcb : cb ≤ 1099511627776) {o : ByteArray} (ho : o.size ≤ 1000000000000000000) (rev : Int) :
    Calls Tryz.prog 14 #[ptr H.g, .string o, .int .i64 rev] w fun e w' => ∃ v ts, e = .returned (.tuple #[v, .int .i64 (readableB wm rev)]) ∧ (readableB wm rev = 0 → OfOk M o rev ts ∧ TSorted ltT ts) ∧ (readableB wm rev ≠ 0 → ts = []) ∧ w'.ownsRow w.heap.size 32 3 v ts.length (ts.flatMap tc) ∧ Below w.heap.size w w' := by
  have HRD := Lib.hid (readable_any h.raw.top rev)
  have HUL := Lib.hid (h.of_list ho rev)
  have HB0 := Lib.hid (show Below w.heap.size w w from Below.refl _ _)
  have HNIL := Lib.hid (show w.ownsRow w.heap.size 32 3 nilS 0 (([] : List Tp).flatMap tc) from World.ownsRow_nil _ _ _ _)
  generalize readableB wm rev = rc at *
  by_cases hrc : rc = 0
  · subst hrc
    obtain ⟨_, _, _, _, q1, q2, q3⟩ := h.raw.top.cells
    have hI := h.raw.ix 2 (by omega)
    obtain ⟨N, _, hM⟩ := hI.map
    have HLI := Lib.hid (listS_any hM 2 20 ho)
    have hrow := hI.row (kS o)
    have hmem := hI.ok.mem (kS o)
    have hln : (H.L 2 (kS o)).length ≤ cb := Nat.le_trans (nd_len (hI.ok.nd _) (fun x hx => ((hmem x).1 hx).1)) h.raw.bigK
    generalize H.L 2 (kS o) = Lk at *
    generalize (H.m 2 (kS o)).getD nilS = lv at *
    obtain ⟨la, lc, rfl, _, _⟩ := owned_anyE hrow
    have HROW := Lib.hid hrow
    have HMEM := Lib.hid (fun t (ht : t ∈ Lk) => ((hmem t).1 ht).1)
    have HH := Lib.hid h
    obtain ⟨i0, hi0, hz0, hz1, hz2⟩ := info_parts infoTp
    clear h hI hM hrow hmem HNIL
    go_enter Tryz.func14, Tryz.ntmps14
    go_wp2_with fail
    refine HRD.out.mono ?_
    rintro _ w1 ⟨rfl, rfl⟩
    go_wp2_with fail
    refine HLI.out.mono ?_
    rintro _ w1 ⟨rfl, hb1⟩
    have HU1 := Lib.hid (show OfS w w1 nilS ((Lk.take 0).filter fun t => spThere (M.sp t) rev) from ⟨hb1, by simpa using World.ownsRow_nil w1 w.heap.size 32 3⟩)
    clear hb1 q1 q2 q3 HLI HRD
    go_wp2_with fail
    go_loopw [9, 25] (fun v iv wr => ∃ i : Nat, i ≤ Lk.length ∧ iv = .int .i64 i ∧ OfS w wr v ((Lk.take i).filter fun t => spThere (M.sp t) rev)) (fun _ iv _ => Lk.length - (intOf iv).toNat)
    case atStart => exact ⟨0, by omega, rfl, HU1.out⟩
    case round =>
      clear HU1
      obtain ⟨i, hin, rfl, hS⟩ := hrel
      obtain ⟨va, vc, rfl, _, _⟩ := owned_anyE hS.row
      have HS := Lib.hid hS
      clear hS
      by_cases hil : i < Lk.length
      · obtain ⟨t, hti⟩ : ∃ t, Lk[i]? = some t := ⟨_, List.getElem?_eq_getElem hil⟩
        have htK : t ∈ M.K := HMEM.out t (List.mem_of_getElem? hti)
        have hst := HH.out.below HS.out.below
        obtain ⟨ea, ec, _, hA⟩ := (HH.out.raw.ents t htK).at_
        have hsl := HH.out.raw.bigS t
        have HTH := Lib.hid (thereAt_any (hA.below HS.out.below) (HH.out.ok.ok t htK) (by omega) rev)
        obtain ⟨eb, eo, rfl, heb, hec⟩ : ∃ b off, la = some ⟨b, off, none⟩ ∧ b < w.heap.size ∧ w.cell? ⟨b, off + i, none⟩ = some (ptr (H.ge t)) := by
          rcases HROW.out.2 with ⟨_, h0⟩ | ⟨b, cap, cur, he, _, hh, _, _, _, htk⟩
          · omega
          · injection he with he _ _
            refine ⟨b, 0, he, (Array.getElem?_eq_some_iff.1 hh).1, ?_⟩
            have h3 : (Lk.map fun t => ptr (H.ge t))[i]? = some (ptr (H.ge t)) := by rw [List.getElem?_map, hti]; rfl
            rw [← htk, List.getElem?_take] at h3
            split at h3
            · simp only [World.cell?, hh]
              rw [Nat.zero_add]
              simpa using h3
            · cases h3
        have hec2 := (HS.out.below.cell (p := ⟨eb, eo + i, none⟩) heb).trans hec
        have HA := Lib.hid hA
        have hil2 : (i : Int) < (Lk.length : Int) := by omega
        have hi4 : i ≤ 1099511627776 := by omega
        have htk : Lk.take (i + 1) = Lk.take i ++ [t] := by rw [List.take_add_one, hti]; rfl
        have HTK := Lib.hid htk
        clear hec hst hA hti hsl htk
        generalize hth : spThere (M.sp t) rev = th at *
        obtain ⟨Us, hUs⟩ : ∃ Us, Us = (Lk.take i).filter fun t => spThere (M.sp t) rev := ⟨_, rfl⟩
        have hS2 := HS.out
        rw [← hUs] at hS2 ⊢
        have HS2 := Lib.hid hS2
        have HUS := Lib.hid hUs
        have hUn : Us.length ≤ cb := by
          have := List.length_filter_le (fun t => spThere (M.sp t) rev) (Lk.take i)
          rw [hUs]
          rw [List.length_take] at this
          omega
        have hn1 : Us.length + 1 ≤ maxLen := by unfold maxLen; omega
        have hn2 : (Us.length + 1) * 48 ≤ 140737488355328 := by omega
        clear hS2 hUs HS hUn
        go_wp2_with fail
        refine HTH.out.mono ?_
        rintro _ w2 ⟨rfl, hb2⟩
        have HS3 := Lib.hid (HS2.out.up hb2)
        clear hb2 hec2 HTH
        cases th with
        | false =>
          have HN := Lib.hid (show OfS w w2 (.slice va Us.length vc) ((Lk.take (i + 1)).filter fun t => spThere (M.sp t) rev) from by
            rw [HTK.out, List.filter_append, ← HUS.out]
            have : [t].filter (fun t => spThere (M.sp t) rev) = [] := by simp [hth]
            rw [this, List.append_nil]
            exact HS3.out)
          go_wp2
          go_roundw
          case rel => exact ⟨i + 1, by omega, by go_num, HN.out⟩
          case measure => simp [intOf]; omega
        | true =>
          have hE := (HA.out.below HS3.out.below).blk
          have d0 : w2.cell? ⟨H.ge t, 0, none⟩ = some (.string t.o) := by rw [hE.cell]; rfl
          have d1 : w2.cell? ⟨H.ge t, 1, none⟩ = some (.string t.r) := by rw [hE.cell]; rfl
          have d2 : w2.cell? ⟨H.ge t, 2, none⟩ = some (.string t.u) := by rw [hE.cell]; rfl
          have HBS := Lib.hid (show w.heap.size ≤ w2.heap.size from HS3.out.below.size)
          clear hE
          go_wp2_with (at_builtin; refine wpList_append_own_at _ rfl (.tmp 32) (.tmp 37) 49 rfl w.heap.size 32 i0 (.agg #[.string ⟨#[]⟩, .string ⟨#[]⟩, .string ⟨#[]⟩]) 3 48 Tryz.underlying49 hi0 hz0 hz1 hz2 rfl (by decide) (.slice va Us.length vc) Us.length (Us.flatMap tc) rfl (HS3.out.row.alloc _) ⟨w2.heap.size, 0, none⟩ 1 1 [.string t.o, .string t.r, .string t.u] rfl rfl (three_newT w2 _ _ _ 32) (by simp [Value.oneCell']) hn1 hn2 (by have := HBS.out; simp; omega) ?_; intro v' w6 hown6 hgr6 _ _
                       have HN := Lib.hid (show OfS w w6 v' ((Lk.take (i + 1)).filter fun t => spThere (M.sp t) rev) from by
                         rw [HTK.out, List.filter_append, ← HUS.out]
                         have : [t].filter (fun t => spThere (M.sp t) rev) = [t] := by simp [hth]
                         rw [this]
                         refine ⟨(bell_alloc HS3.out.below (.cells #[.string t.o, .string t.r, .string t.u] 32)).grown hgr6 (by have := HBS.out; simp; omega) (fun k e => (HS3.out.row.lt k e).1), ?_⟩
                         rw [List.length_append]
                         rw [List.flatMap_append]
                         exact hown6)
                       clear hown6 hgr6)
          go_roundw
          case rel => exact ⟨i + 1, by omega, by go_num, HN.out⟩
          case measure => simp [intOf]; omega
      · obtain rfl : i = Lk.length := by omega
        have hS4 := HS.out
        rw [List.take_length] at hS4 ⊢
        have hle : (Lk.filter fun t => spThere (M.sp t) rev).length ≤ 1099511627776 := by
          have := List.length_filter_le (fun t => spThere (M.sp t) rev) Lk
          omega
        have HSO := Lib.hid (sortT_any hS4.row HUL.out.nd hle)
        have HBE := Lib.hid hS4.below
        have HRO := Lib.hid hS4.row
        generalize Lk.filter (fun t => spThere (M.sp t) rev) = Us at *
        clear hS4 HS hle
        go_wp2_with fail
        refine HSO.out.mono ?_
        rintro _ w3 ⟨rfl, Us', hp3, hs3, hro3, hgr3⟩
        have hl3 : Us'.length = Us.length := hp3.length_eq
        have HO3 := Lib.hid (show OfOk M o rev Us' ∧ TSorted ltT Us' from ⟨⟨hp3.nodup_iff.2 HUL.out.nd, fun t => by rw [hp3.mem_iff]; exact HUL.out.mem t⟩, hs3⟩)
        rw [← hl3] at hro3 ⊢
        have HF := Lib.hid (show w3.ownsRow w.heap.size 32 3 (.slice va Us'.length vc) Us'.length (Us'.flatMap tc) ∧ Below w.heap.size w w3 from ⟨hro3, HBE.out.grown hgr3 HBE.out.size (fun k e => (HRO.out.lt k e).1)⟩)
        clear hro3 hgr3 hp3 hs3 hl3
        go_wp2
        go_ret2
        exact ⟨_, Us', rfl, fun _ => HO3.out, (fun e => absurd rfl e), HF.out.1, HF.out.2⟩
  · clear h
    go_enter Tryz.func14, Tryz.ntmps14
    go_wp2_with fail
    refine HRD.out.mono ?_
    rintro _ w1 ⟨rfl, rfl⟩
    go_wp2
    go_ret2
    exact ⟨_, [], rfl, fun e => absurd e hrc, fun _ => rfl, HNIL.out, HB0.out⟩
end
end Go.Proofs.YtmjdngomjjhhiaaGreat
