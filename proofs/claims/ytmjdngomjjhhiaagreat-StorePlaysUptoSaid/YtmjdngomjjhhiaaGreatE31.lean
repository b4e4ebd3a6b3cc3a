/- The sort of the entries. -/
import Derived.Test.YtmjdngomjjhhiaaGreatE30
import Derived.Shelf.SlSortCmp.Whole1
import Derived.Shelf.SlSortCmp.NoneTotal
namespace Go.Proofs.YtmjdngomjjhhiaaGreat
open Go.RowKit
open Go.Shelf
open Go.Maps (Keyed)

instance : Inhabited Tp := ⟨⟨⟨#[]⟩, ⟨#[]⟩, ⟨#[]⟩⟩⟩
/-- Only draws, and new blocks. -/
def Gr (w w' : World) : Prop := ∃ q os, w' = Sort.grow (w.drewN q) os
theorem Gr.refl (w : World) : Gr w w := ⟨0, #[], by simp [World.drewN]⟩
theorem Gr.trans {a b c : World} (h : Gr a b) (k : Gr b c) : Gr a c := by
  obtain ⟨q, os, rfl⟩ := h
  obtain ⟨q2, os2, rfl⟩ := k
  refine ⟨q + q2, os ++ os2, ?_⟩
  simp [Sort.grow, World.drewN, Array.append_assoc, Nat.add_assoc]
theorem Gr.below {w w' : World} (h : Gr w w') : Below w.heap.size w w' := by
  obtain ⟨q, os, rfl⟩ := h
  exact ⟨rfl, rfl, rfl, by simp [Sort.grow, World.drewN], fun k hk => by simp [Sort.grow, World.drewN, Array.getElem?_append, hk]⟩
theorem gr_alloc (w : World) (o : Obj) : Gr w (w.alloc o) := ⟨0, #[o], by rw [show w.alloc o = Sort.grow w #[o] from Sort.alloc_eq_grow w o]; rfl⟩
theorem gr_drew (w : World) : Gr w w.drew := ⟨1, #[], by rw [Sort.grow_empty]; rfl⟩
set_option maxHeartbeats 2000000 in
set_option maxRecDepth 100000 in
theorem compareG_any (a b c a' b' c' : ByteArray) (w : World) :
    Calls Tryz.prog 32 #[TupV a b c, TupV a' b' c'] w fun e w' => e = .returned (.int .i64 (cmpT (a, b, c) (a', b', c'))) ∧ Gr w w' := by
  have K1 := Lib.hid (fun w => scompare_any a a' w)
  have K2 := Lib.hid (fun w => scompare_any b b' w)
  have K3 := Lib.hid (fun w => scompare_any c c' w)
  have i0 := fun w => idx0 a b c a' b' c' w
  have i1 := fun w => idx1 a b c a' b' c' w
  have i2 := fun w => idx2 a b c a' b' c' w
  have hr : cmpT (a, b, c) (a', b', c') = if cb a a' ≠ 0 then cb a a' else if cb b b' ≠ 0 then cb b b' else cb c c' := rfl
  have HR := Lib.hid hr
  clear hr
  generalize cmpT (a, b, c) (a', b', c') = r at *
  generalize cb a a' = r1 at *
  generalize cb b b' = r2 at *
  generalize cb c c' = r3 at *
  unfold TupV
  go_enter Tryz.func32, Tryz.ntmps32
  go_wp2
  go_loopw [24] (fun iv wr => ((iv = .int .i64 0) ∨ (iv = .int .i64 1 ∧ r1 = 0) ∨ (iv = .int .i64 2 ∧ r1 = 0 ∧ r2 = 0) ∨ (iv = .int .i64 3 ∧ r1 = 0 ∧ r2 = 0 ∧ r3 = 0)) ∧ Gr w wr) (fun iv _ => 3 - (intOf iv).toNat)
  case atStart => exact ⟨.inl rfl, (gr_alloc w _).trans (gr_alloc _ _)⟩
  case round =>
    obtain ⟨hcase, hbl⟩ := hrel
    have HBL := Lib.hid hbl
    clear hbl
    rcases hcase with rfl | ⟨rfl, h1⟩ | ⟨rfl, h1, h2⟩ | ⟨rfl, h1, h2, h3⟩
    · go_wp2_with fail
      refine (K1.out _).mono ?_
      rintro e w1 ⟨rfl, rfl⟩
      by_cases h1 : r1 = 0
      · subst h1
        go_wp2
        go_roundw
        case rel => exact ⟨.inr (.inl ⟨rfl, by simp⟩), HBL.out.trans (gr_alloc _ _)⟩
        case measure => simp [intOf]
      · have e : r = r1 := by rw [HR.out, if_pos h1]
        subst e
        go_wp2
        go_ret
        exact ⟨rfl, HBL.out.trans (gr_alloc _ _)⟩
    · subst h1
      go_wp2_with fail
      refine (K2.out _).mono ?_
      rintro e w1 ⟨rfl, rfl⟩
      by_cases h2 : r2 = 0
      · subst h2
        go_wp2
        go_roundw
        case rel => exact ⟨.inr (.inr (.inl ⟨rfl, by simp, by simp⟩)), HBL.out.trans (gr_alloc _ _)⟩
        case measure => simp [intOf]
      · have e : r = r2 := by rw [HR.out, if_neg (by simp), if_pos h2]
        subst e
        go_wp2
        go_ret
        exact ⟨rfl, HBL.out.trans (gr_alloc _ _)⟩
    · subst h1 h2
      go_wp2_with fail
      refine (K3.out _).mono ?_
      rintro e w1 ⟨rfl, rfl⟩
      by_cases h3 : r3 = 0
      · subst h3
        go_wp2
        go_roundw
        case rel => exact ⟨.inr (.inr (.inr ⟨rfl, by simp, by simp, by simp⟩)), HBL.out.trans (gr_alloc _ _)⟩
        case measure => simp [intOf]
      · have e : r = r3 := by rw [HR.out, if_neg (by simp), if_neg (by simp)]
        subst e
        go_wp2
        go_ret
        exact ⟨rfl, HBL.out.trans (gr_alloc _ _)⟩
    · subst h1 h2 h3
      have e : r = 0 := by rw [HR.out, if_neg (by simp), if_neg (by simp)]
      subst e
      go_wp2
      go_ret
      exact ⟨rfl, HBL.out⟩


set_option maxRecDepth 100000 in
set_option maxHeartbeats 4000000 in
theorem rowsCmp_any (W : World) (a b : Nat) (x y : Tp) (ha : W.cell? ⟨a, 0, none⟩ = some (.string x.o) ∧ W.cell? ⟨a, 1, none⟩ = some (.string x.r) ∧ W.cell? ⟨a, 2, none⟩ = some (.string x.u)) (hb : W.cell? ⟨b, 0, none⟩ = some (.string y.o) ∧ W.cell? ⟨b, 1, none⟩ = some (.string y.r) ∧ W.cell? ⟨b, 2, none⟩ = some (.string y.u)) :
    Calls Tryz.prog 31 #[ptr a, ptr b] W fun e w' => e = .returned (.int .i64 (cmpT (tq x) (tq y))) ∧ Gr W w' := by
  obtain ⟨a0, a1, a2⟩ := ha
  obtain ⟨b0, b1, b2⟩ := hb
  have a0 : W.drew.cell? ⟨a, 0, none⟩ = some (.string x.o) := a0
  have a1 : W.drew.cell? ⟨a, 1, none⟩ = some (.string x.r) := a1
  have a2 : W.drew.cell? ⟨a, 2, none⟩ = some (.string x.u) := a2
  have b0 : W.drew.cell? ⟨b, 0, none⟩ = some (.string y.o) := b0
  have b1 : W.drew.cell? ⟨b, 1, none⟩ = some (.string y.r) := b1
  have b2 : W.drew.cell? ⟨b, 2, none⟩ = some (.string y.u) := b2
  have HC := Lib.hid (compareG_any x.o x.r x.u y.o y.r y.u W.drew)
  have HK := Lib.hid (fun V (hV : Gr W.drew V) => (show (V.cell? ⟨a, 0, none⟩ = some (.string x.o) ∧ V.cell? ⟨a, 1, none⟩ = some (.string x.r) ∧ V.cell? ⟨a, 2, none⟩ = some (.string x.u)) ∧ V.cell? ⟨b, 0, none⟩ = some (.string y.o) ∧ V.cell? ⟨b, 1, none⟩ = some (.string y.r) ∧ V.cell? ⟨b, 2, none⟩ = some (.string y.u) from by
    have hc := fun {p : Addr} {v : Value} (h : W.drew.cell? p = some v) => ((hV.below).cell (block_lt_of_cell h)).trans h
    exact ⟨⟨hc a0, hc a1, hc a2⟩, hc b0, hc b1, hc b2⟩))
  unfold TupV at HC
  change Hid (Calls Tryz.prog 32 _ _ fun e w' => e = .returned (.int .i64 (cmpT (tq x) (tq y))) ∧ _) at HC
  generalize cmpT (tq x) (tq y) = r at *
  go_enter Tryz.func31, Tryz.ntmps31
  go_upto_region 1 with fail
  go_region_held3 (fun V : World => (V.cell? ⟨a, 0, none⟩ = some (.string x.o) ∧ V.cell? ⟨a, 1, none⟩ = some (.string x.r) ∧ V.cell? ⟨a, 2, none⟩ = some (.string x.u)) ∧ V.cell? ⟨b, 0, none⟩ = some (.string y.o) ∧ V.cell? ⟨b, 1, none⟩ = some (.string y.r) ∧ V.cell? ⟨b, 2, none⟩ = some (.string y.u)) (first | assumption | with_reducible exact HK.out _ (Gr.refl _)) (first
    | (go_at_call 32; refine HC.out.mono ?_; rintro e w1 ⟨rfl, hg1⟩
       have hk1 := HK.out w1 hg1
       have HG := Lib.hid ((gr_drew W).trans hg1)
       clear hg1))
  all_goals
    go_wp2
    go_ret
    exact ⟨rfl, HG.out⟩

def Tryz.laySort_ren : Go.Shelf.Ren := ⟨fun | 6 => 30 | 15 => 56 | 14 => 55 | 28 => 86 | 29 => 87 | 20 => 78 | 21 => 79 | 22 => 80 | 23 => 81 | 24 => 82 | 25 => 83 | 26 => 84 | 27 => 85 | 46 => 112 | 47 => 113 | 48 => 114 | 49 => 115 | 50 => 116 | 57 => 127 | n => n, fun | 22 => 80 | 24 => 81 | 25 => 88 | 3 => 3 | 39 => 117 | 0 => 0 | 53 => 143 | 55 => 145 | 4 => 4 | 46 => 136 | 45 => 135 | 50 => 140 | 5 => 5 | 9 => 9 | 66 => 162 | 70 => 166 | 76 => 175 | 77 => 176 | n => n, fun | n => n⟩
theorem Tryz.laySort : Go.Proofs.SlLaysF.n6 Tryz.prog Tryz.laySort_ren := {
  mixed := by kernel_rfl
  f6 := ⟨Tryz.f30.name, by decide, Tryz.func30.trans (congrArg some (by kernel_rfl))⟩
  f14 := ⟨Tryz.f55.name, by decide, Tryz.func55.trans (congrArg some (by kernel_rfl))⟩
  f15 := Tryz.func56.trans (congrArg some (by kernel_rfl))
  f20 := ⟨Tryz.f78.name, by decide, Tryz.func78.trans (congrArg some (by kernel_rfl))⟩
  f21 := ⟨Tryz.f79.name, by decide, Tryz.func79.trans (congrArg some (by kernel_rfl))⟩
  f22 := ⟨Tryz.f80.name, by decide, Tryz.func80.trans (congrArg some (by kernel_rfl))⟩
  f23 := ⟨Tryz.f81.name, by decide, Tryz.func81.trans (congrArg some (by kernel_rfl))⟩
  f24 := ⟨Tryz.f82.name, by decide, Tryz.func82.trans (congrArg some (by kernel_rfl))⟩
  f25 := ⟨Tryz.f83.name, by decide, Tryz.func83.trans (congrArg some (by kernel_rfl))⟩
  f26 := ⟨Tryz.f84.name, by decide, Tryz.func84.trans (congrArg some (by kernel_rfl))⟩
  f27 := ⟨Tryz.f85.name, by decide, Tryz.func85.trans (congrArg some (by kernel_rfl))⟩
  f28 := Tryz.func86.trans (congrArg some (by kernel_rfl))
  f29 := Tryz.func87.trans (congrArg some (by kernel_rfl))
  f46 := ⟨Tryz.f112.name, by decide, Tryz.func112.trans (congrArg some (by kernel_rfl))⟩
  f47 := Tryz.func113.trans (congrArg some (by kernel_rfl))
  f48 := Tryz.func114.trans (congrArg some (by kernel_rfl))
  f49 := ⟨Tryz.f115.name, by decide, Tryz.func115.trans (congrArg some (by kernel_rfl))⟩
  f50 := ⟨Tryz.f116.name, by decide, Tryz.func116.trans (congrArg some (by kernel_rfl))⟩
  f57 := ⟨Tryz.f127.name, by decide, Tryz.func127.trans (congrArg some (by kernel_rfl))⟩
  t0 := Tryz.underlying0
  a0 := Tryz.isAgg0
  z0 := Tryz.sizeOf0
  v0 := Tryz.zeroValue0
  t3 := Tryz.underlying3
  a3 := Tryz.isAgg3
  z3 := Tryz.sizeOf3
  v3 := Tryz.zeroValue3
  t4 := Tryz.underlying4
  a4 := Tryz.isAgg4
  z4 := Tryz.sizeOf4
  v4 := Tryz.zeroValue4
  t5 := Tryz.underlying5
  a5 := Tryz.isAgg5
  z5 := Tryz.sizeOf5
  v5 := Tryz.zeroValue5
  t9 := Tryz.underlying9
  a9 := Tryz.isAgg9
  z9 := Tryz.sizeOf9
  v9 := Tryz.zeroValue9
  t22 := Tryz.underlying80
  a22 := Tryz.isAgg80
  z22 := Tryz.sizeOf80
  v22 := Tryz.zeroValue80
  a24 := Tryz.isAgg81
  z24 := Tryz.sizeOf81
  t25 := Tryz.underlying88
  a25 := Tryz.isAgg88
  z25 := Tryz.sizeOf88
  v25 := Tryz.zeroValue88
  t39 := Tryz.underlying117
  a39 := Tryz.isAgg117
  z39 := Tryz.sizeOf117
  v39 := Tryz.zeroValue117
  t45 := Tryz.underlying135
  a45 := Tryz.isAgg135
  z45 := Tryz.sizeOf135
  v45 := Tryz.zeroValue135
  t46 := Tryz.underlying136
  a46 := Tryz.isAgg136
  z46 := Tryz.sizeOf136
  v46 := Tryz.zeroValue136
  t50 := Tryz.underlying140
  a50 := Tryz.isAgg140
  z50 := Tryz.sizeOf140
  v50 := Tryz.zeroValue140
  t53 := Tryz.underlying143
  a53 := Tryz.isAgg143
  z53 := Tryz.sizeOf143
  v53 := Tryz.zeroValue143
  t55 := Tryz.underlying145
  a55 := Tryz.isAgg145
  z55 := Tryz.sizeOf145
  v55 := Tryz.zeroValue145
  t66 := Tryz.underlying162
  a66 := Tryz.isAgg162
  z66 := Tryz.sizeOf162
  v66 := Tryz.zeroValue162
  t70 := Tryz.underlying166
  a70 := Tryz.isAgg166
  z70 := Tryz.sizeOf166
  v70 := Tryz.zeroValue166
  t76 := Tryz.underlying175
  a76 := Tryz.isAgg175
  z76 := Tryz.sizeOf175
  v76 := Tryz.zeroValue175
  t77 := Tryz.underlying176
  a77 := Tryz.isAgg176
  z77 := Tryz.sizeOf176
  v77 := Tryz.zeroValue176 }

/-- A tuple of the store's. -/
def clip (K : List Tp) (t0 : Tp) (x : Tp) : Tp := if x ∈ K then x else t0
theorem clip_in {K : List Tp} {t0 : Tp} (h : t0 ∈ K) (x : Tp) : clip K t0 x ∈ K := by
  unfold clip
  split
  · assumption
  · exact h
theorem clip_self {K : List Tp} {t0 x : Tp} (h : x ∈ K) : clip K t0 x = x := if_pos h
def cfT (K : List Tp) (t0 x y : Tp) : Int := cmpT (tq (clip K t0 x)) (tq (clip K t0 y))
theorem ltOf_cf (K : List Tp) (t0 x y : Tp) : ltOf (cfT K t0) x y = ltT (clip K t0 x) (clip K t0 y) := by
  unfold ltOf cfT ltT
  rcases cmpT_range (tq (clip K t0 x)) (tq (clip K t0 y)) with h | h | h <;> rw [h] <;> rfl
theorem swoT (K : List Tp) (t0 : Tp) : Sort.SWO (ltOf (cfT K t0)) where
  irrefl x := by rw [ltOf_cf]; exact ordT.irr _
  trans x y z h1 h2 := by
    rw [ltOf_cf] at *
    exact ordT.tr _ _ _ h1 h2
  ntrans x y z h1 h2 := by
    rw [ltOf_cf] at *
    cases h3 : ltT (clip K t0 x) (clip K t0 z) with
    | false => rfl
    | true =>
      by_cases hxy : clip K t0 x = clip K t0 y
      · rw [hxy, h2] at h3; cases h3
      · have := ordT.tr _ _ _ (ordT.tri _ _ hxy h1) h3
        rw [h2] at this; cases this
theorem heap_sortedE {α : Type} [Inhabited α] {enc : α → Value} {w : World} {g n : Nat} {os : Array Obj} {cur : Array Value} {e : TypeId} {fr : Nat × Nat} (d : Array α) (hb : w.heap[g]? = some (.cells cur e fr)) :
    (sortWorld enc w g 0 n d os).heap[g]? = some (.cells (Sort.putCells enc 0 d cur) e fr) := by
  have hg : g < w.heap.size := (Array.getElem?_eq_some_iff.1 hb).1
  unfold sortWorld
  rw [Sort.heap_grow_old _ _ (by simpa using hg)]
  simp [Sort.putRow, Sort.mapBlock, Sort.ahead, Array.getElem?_modify, hb, Sort.onCells]
theorem grownBy_sortedE {α : Type} [Inhabited α] {enc : α → Value} {w : World} {g n : Nat} {os : Array Obj} (d : Array α) : w.grownBy (sortWorld enc w g 0 n d os) (some g) := by
  unfold sortWorld
  refine ⟨rfl, rfl, rfl, by simp, fun k hk hne => ?_⟩
  rw [Sort.heap_grow_old _ _ (by simpa using hk)]
  have : g ≠ k := fun e => hne (by rw [e])
  simp [Sort.putRow, Sort.mapBlock, Sort.ahead, Array.getElem?_modify, this]
theorem take_putCellsE {α : Type} [Inhabited α] {enc : α → Value} (cur : Array Value) (d : Array α) (h : d.size ≤ cur.size) : (Sort.putCells enc 0 d cur).toList.take d.size = d.toList.map enc := by
  apply List.ext_getElem?
  intro j
  by_cases hj : j < d.size
  · rw [List.getElem?_take_of_lt hj, Array.getElem?_toList]
    simp [Sort.putCells, hj, show j < cur.size by omega]
  · rw [List.getElem?_take_eq_none (by omega), List.getElem?_eq_none (by simp; omega)]
section
variable {w : World} {wm : Int} {M : SM} {H : Gh} {cb : Nat}
set_option maxHeartbeats 4000000 in
theorem sortE_any (h : StAt w wm M H cb) {B : Nat} {v : Value} {ts : List Tp} (hrow : w.ownsRow B 81 1 v ts.length (ts.map fun t => ptr (H.ge t))) (hp : ts.Perm M.K) (hno : ∀ b, v.ownBlock = some b → ¬ H.own b) (hlen : ts.length ≤ 1099511627776) :
    Calls Tryz.prog 30 #[v, .func (.func 31) #[] #[]] w fun e w' => e = .returned (.tuple #[]) ∧ ∃ ts' : List Tp, ts'.Perm M.K ∧ ts'.Pairwise (fun a b => ltT a b = true) ∧ w'.ownsRow B 81 1 v ts'.length (ts'.map fun t => ptr (H.ge t)) ∧ w.grownBy w' v.ownBlock := by
  cases ts with
  | nil =>
    obtain ⟨a, c, rfl, _, _⟩ := owned_anyE hrow
    have hcon := AnyF.slices_SortFunc_none (P := Tryz.prog) (ρ := Tryz.laySort_ren) { Tryz.laySort with } a c (.func (.func 31) #[] #[]) w
    change Calls Tryz.prog 30 _ _ _ at hcon
    refine hcon.mono ?_
    rintro e w' ⟨rfl, rfl⟩
    exact ⟨rfl, [], hp, by simp, hrow, World.grownBy.refl _ _⟩
  | cons t0 tr =>
    obtain ⟨ts, hts⟩ : ∃ ts, ts = t0 :: tr := ⟨_, rfl⟩
    rw [← hts] at hrow hp hlen
    have ht0 : t0 ∈ M.K := hp.mem_iff.1 (by rw [hts]; simp)
    have hpos : 0 < ts.length := by rw [hts]; simp
    rcases hrow.2 with ⟨_, hz⟩ | ⟨gb, cap, cur, rfl, hbase, hgb, r1, r2, r3, r4⟩
    · omega
    · have hall : ∀ t ∈ ts, t ∈ M.K := fun t ht => hp.mem_iff.1 ht
      have hwb : Whole w gb 81 cur := hgb
      have hH : Sort.Holds (fun x => ptr (H.ge (clip M.K t0 x))) w gb 0 ts.toArray := by
        intro j hj
        have hj2 : j < ts.length := by simpa using hj
        have hmem : ts.toArray[j]! ∈ ts := by rw [getElem!_pos ts.toArray j hj]; simp
        rw [Nat.zero_add]
        refine ⟨?_, hwb.free j⟩
        show w.cell? ⟨gb, j, none⟩ = some (ptr (H.ge (clip M.K t0 ts.toArray[j]!)))
        rw [clip_self (hall _ hmem), hwb.cell]
        have h1 : (ts.map fun t => ptr (H.ge t))[j]? = some (ptr (H.ge ts.toArray[j]!)) := by
          rw [List.getElem?_map, List.getElem?_eq_getElem hj2, getElem!_pos ts.toArray j hj]
          rfl
        rw [← r4, Nat.mul_one, List.getElem?_take_of_lt hj2] at h1
        simpa using h1
      have hcmp : CmpLays1 Tryz.prog 31 #[] (fun x => ptr (H.ge (clip M.K t0 x))) (cfT M.K t0) gb 0 ts.toArray.size w := by
        intro m os dk _ x y
        have hgr := grownBy_sortedE (enc := fun x => ptr (H.ge (clip M.K t0 x))) (w := w) (g := gb) (n := m) (os := os) dk
        have hent : ∀ z ∈ M.K, (sortWorld (fun x => ptr (H.ge (clip M.K t0 x))) w gb 0 m dk os).cell? ⟨H.ge z, 0, none⟩ = some (.string z.o) ∧ (sortWorld (fun x => ptr (H.ge (clip M.K t0 x))) w gb 0 m dk os).cell? ⟨H.ge z, 1, none⟩ = some (.string z.r) ∧ (sortWorld (fun x => ptr (H.ge (clip M.K t0 x))) w gb 0 m dk os).cell? ⟨H.ge z, 2, none⟩ = some (.string z.u) := by
          intro z hz
          have hE := h.raw.ents z hz
          obtain ⟨a, c, _, hA⟩ := hE.at_
          have hk := hA.blk.kept (hgr.block _ hA.blk.lt (fun e => hno gb rfl (by injection e with e; rw [← e]; exact Gh.own_of hE.lab)))
          exact ⟨by rw [hk.cell]; rfl, by rw [hk.cell]; rfl, by rw [hk.cell]; rfl⟩
        exact rowsCmp_any _ _ _ _ _ (hent _ (clip_in ht0 x)) (hent _ (clip_in ht0 y))
      have hcon := Any.slices_SortFunc (P := Tryz.prog) (ρ := Tryz.laySort_ren) Tryz.laySort (fun x => ptr (H.ge (clip M.K t0 x))) (fun _ => rfl) (cfT M.K t0) (swoT M.K t0) 31 #[] gb 0 cap ts.toArray w (enters_of Tryz.func31 (by kernel_rfl) rfl) hcmp hH hwb.lt (by simp; omega)
      change Calls Tryz.prog 30 _ _ _ at hcon
      simp only [List.size_toArray] at hcon
      refine hcon.mono ?_
      rintro e w' ⟨rfl, d', n, os, ⟨p1, _, p2⟩, h2, rfl⟩
      have hds : d'.size = ts.length := by simpa using p1
      have hperm : d'.toList.Perm ts := by
        have e1 : d'.extract 0 ts.length = d' := by rw [← hds]; simp
        have e2 : ts.toArray.extract 0 ts.length = ts.toArray := by simp
        rw [e1, e2] at p2
        simpa using p2
      have hpK : d'.toList.Perm M.K := hperm.trans hp
      have hin : ∀ t ∈ d'.toList, t ∈ M.K := fun t ht => hpK.mem_iff.1 ht
      have hnd : d'.toList.Nodup := hpK.nodup_iff.2 h.raw.nd
      refine ⟨rfl, d'.toList, hpK, ?_, ?_, grownBy_sortedE d'⟩
      · rw [List.pairwise_iff_getElem]
        intro i j hi hj hij
        have h3 := h2 i j (Nat.zero_le _) hij (by rw [← hds]; simpa using hj)
        rw [ltOf_cf, getElem!_pos d' j (by simpa using hj), getElem!_pos d' i (by simpa using hi)] at h3
        have mi : d'[i]'(by simpa using hi) ∈ M.K := hin _ (by simp)
        have mj : d'[j]'(by simpa using hj) ∈ M.K := hin _ (by simp)
        rw [clip_self mi, clip_self mj] at h3
        have hne : d'.toList[j] ≠ d'.toList[i] := fun e => by
          have := (List.getElem_inj hnd).1 e
          omega
        exact ordT.tri _ _ hne (by simpa using h3)
      · have hm : (d'.toList.map fun t => ptr (H.ge t)) = d'.toList.map (fun x => ptr (H.ge (clip M.K t0 x))) := List.map_congr_left fun t ht => by rw [clip_self (hin t ht)]
        have hle : d'.toList.length = ts.length := by simpa using hds
        rw [hm]
        refine ⟨by simp, .inr ⟨gb, cap, _, by rw [hle], hbase, heap_sortedE d' hgb, by rw [hle]; exact r1, r2, by simp [Sort.putCells, r3], ?_⟩⟩
        rw [Nat.mul_one]
        have := take_putCellsE (enc := fun x => ptr (H.ge (clip M.K t0 x))) cur d' (by rw [hds]; omega)
        simpa using this
end
end Go.Proofs.YtmjdngomjjhhiaaGreat
