/- The sort of the entries. -/
import Derived.Test.YtlhilndgiabicaaE30
import Derived.Shelf.SlSortCmp.Whole1
import Derived.Shelf.SlSortCmp.NoneTotal
namespace Go.Proofs.Ytlhilndgiabicaa
open Go.RowKit
open Go.Shelf
open Go.Maps (Keyed)

instance : Inhabited Tp := ⟨⟨⟨#[]⟩, ⟨#[]⟩, ⟨#[]⟩⟩⟩
/-- Only draws, and new blocks. -/
def Gr (w w' : World) : Prop := ∃ q os, w' = Sort.grow (w.drewN q) os
theorem Gr.refl (w : World) : Gr w w := ⟨0, #[], by simp [World.drewN]⟩
theorem Gr.trans {a b c : World} (h : Gr a b) (k : Gr b c) : Gr a c := by
  obtain ⟨q, os, rfl⟩ := h
  obtain ⟨q2, os2, rfl⟩ := k
  refine ⟨q + q2, os ++ os2, ?_⟩
  simp [Sort.grow, World.drewN, Array.append_assoc, Nat.add_assoc]
theorem Gr.below {w w' : World} (h : Gr w w') : Below w.heap.size w w' := by
  obtain ⟨q, os, rfl⟩ := h
  exact ⟨rfl, rfl, rfl, by simp [Sort.grow, World.drewN], fun k hk => by simp [Sort.grow, World.drewN, Array.getElem?_append, hk]⟩
theorem gr_alloc (w : World) (o : Obj) : Gr w (w.alloc o) := ⟨0, #[o], by rw [show w.alloc o = Sort.grow w #[o] from Sort.alloc_eq_grow w o]; rfl⟩
theorem gr_drew (w : World) : Gr w w.drew := ⟨1, #[], by rw [Sort.grow_empty]; rfl⟩
set_option maxHeartbeats 2000000 in
set_option maxRecDepth 100000 in
theorem compareG_any (a b c a' b' c' : ByteArray) (w : World) :
    Calls Try.prog 39 #[TupV a b c, TupV a' b' c'] w fun e w' => e = .returned (.int .i64 (cmpT (a, b, c) (a', b', c'))) ∧ Gr w w' := by
  have K1 := Lib.hid (fun w => scompare_any a a' w)
  have K2 := Lib.hid (fun w => scompare_any b b' w)
  have K3 := Lib.hid (fun w => scompare_any c c' w)
  have i0 := fun w => idx0 a b c a' b' c' w
  have i1 := fun w => idx1 a b c a' b' c' w
  have i2 := fun w => idx2 a b c a' b' c' w
  have hr : cmpT (a, b, c) (a', b', c') = if cb a a' ≠ 0 then cb a a' else if cb b b' ≠ 0 then cb b b' else cb c c' := rfl
  have HR := Lib.hid hr
  clear hr
  generalize cmpT (a, b, c) (a', b', c') = r at *
  generalize cb a a' = r1 at *
  generalize cb b b' = r2 at *
  generalize cb c c' = r3 at *
  unfold TupV
  go_enter Try.func39, Try.ntmps39
  go_wp2
  go_loopw [24] (fun iv wr => ((iv = .int .i64 0) ∨ (iv = .int .i64 1 ∧ r1 = 0) ∨ (iv = .int .i64 2 ∧ r1 = 0 ∧ r2 = 0) ∨ (iv = .int .i64 3 ∧ r1 = 0 ∧ r2 = 0 ∧ r3 = 0)) ∧ Gr w wr) (fun iv _ => 3 - (intOf iv).toNat)
  case atStart => exact ⟨.inl rfl, (gr_alloc w _).trans (gr_alloc _ _)⟩
  case round =>
    obtain ⟨hcase, hbl⟩ := hrel
    have HBL := Lib.hid hbl
    clear hbl
    rcases hcase with rfl | ⟨rfl, h1⟩ | ⟨rfl, h1, h2⟩ | ⟨rfl, h1, h2, h3⟩
    · go_wp2_with fail
      refine (K1.out _).mono ?_
      rintro e w1 ⟨rfl, rfl⟩
      by_cases h1 : r1 = 0
      · subst h1
        go_wp2
        go_roundw
        case rel => exact ⟨.inr (.inl ⟨rfl, by simp⟩), HBL.out.trans (gr_alloc _ _)⟩
        case measure => simp [intOf]
      · have e : r = r1 := by rw [HR.out, if_pos h1]
        subst e
        go_wp2
        go_ret
        exact ⟨rfl, HBL.out.trans (gr_alloc _ _)⟩
    · subst h1
      go_wp2_with fail
      refine (K2.out _).mono ?_
      rintro e w1 ⟨rfl, rfl⟩
      by_cases h2 : r2 = 0
      · subst h2
        go_wp2
        go_roundw
        case rel => exact ⟨.inr (.inr (.inl ⟨rfl, by simp, by simp⟩)), HBL.out.trans (gr_alloc _ _)⟩
        case measure => simp [intOf]
      · have e : r = r2 := by rw [HR.out, if_neg (by simp), if_pos h2]
        subst e
        go_wp2
        go_ret
        exact ⟨rfl, HBL.out.trans (gr_alloc _ _)⟩
    · subst h1 h2
      go_wp2_with fail
      refine (K3.out _).mono ?_
      rintro e w1 ⟨rfl, rfl⟩
      by_cases h3 : r3 = 0
      · subst h3
        go_wp2
        go_roundw
        case rel => exact ⟨.inr (.inr (.inr ⟨rfl, by simp, by simp, by simp⟩)), HBL.out.trans (gr_alloc _ _)⟩
        case measure => simp [intOf]
      · have e : r = r3 := by rw [HR.out, if_neg (by simp), if_neg (by simp)]
        subst e
        go_wp2
        go_ret
        exact ⟨rfl, HBL.out.trans (gr_alloc _ _)⟩
    · subst h1 h2 h3
      have e : r = 0 := by rw [HR.out, if_neg (by simp), if_neg (by simp)]
      subst e
      go_wp2
      go_ret
      exact ⟨rfl, HBL.out⟩


set_option maxRecDepth 100000 in
set_option maxHeartbeats 4000000 in
theorem rowsCmp_any (W : World) (a b : Nat) (x y : Tp) (ha : W.cell? ⟨a, 0, none⟩ = some (.string x.o) ∧ W.cell? ⟨a, 1, none⟩ = some (.string x.r) ∧ W.cell? ⟨a, 2, none⟩ = some (.string x.u)) (hb : W.cell? ⟨b, 0, none⟩ = some (.string y.o) ∧ W.cell? ⟨b, 1, none⟩ = some (.string y.r) ∧ W.cell? ⟨b, 2, none⟩ = some (.string y.u)) :
    Calls Try.prog 38 #[ptr a, ptr b] W fun e w' => e = .returned (.int .i64 (cmpT (tq x) (tq y))) ∧ Gr W w' := by
  obtain ⟨a0, a1, a2⟩ := ha
  obtain ⟨b0, b1, b2⟩ := hb
  have a0 : W.drew.cell? ⟨a, 0, none⟩ = some (.string x.o) := a0
  have a1 : W.drew.cell? ⟨a, 1, none⟩ = some (.string x.r) := a1
  have a2 : W.drew.cell? ⟨a, 2, none⟩ = some (.string x.u) := a2
  have b0 : W.drew.cell? ⟨b, 0, none⟩ = some (.string y.o) := b0
  have b1 : W.drew.cell? ⟨b, 1, none⟩ = some (.string y.r) := b1
  have b2 : W.drew.cell? ⟨b, 2, none⟩ = some (.string y.u) := b2
  have HC := Lib.hid (compareG_any x.o x.r x.u y.o y.r y.u W.drew)
  have HK := Lib.hid (fun V (hV : Gr W.drew V) => (show (V.cell? ⟨a, 0, none⟩ = some (.string x.o) ∧ V.cell? ⟨a, 1, none⟩ = some (.string x.r) ∧ V.cell? ⟨a, 2, none⟩ = some (.string x.u)) ∧ V.cell? ⟨b, 0, none⟩ = some (.string y.o) ∧ V.cell? ⟨b, 1, none⟩ = some (.string y.r) ∧ V.cell? ⟨b, 2, none⟩ = some (.string y.u) from by
    have hc := fun {p : Addr} {v : Value} (h : W.drew.cell? p = some v) => ((hV.below).cell (block_lt_of_cell h)).trans h
    exact ⟨⟨hc a0, hc a1, hc a2⟩, hc b0, hc b1, hc b2⟩))
  unfold TupV at HC
  change Hid (Calls Try.prog 39 _ _ fun e w' => e = .returned (.int .i64 (cmpT (tq x) (tq y))) ∧ _) at HC
  generalize cmpT (tq x) (tq y) = r at *
  go_enter Try.func38, Try.ntmps38
  go_upto_region 1 with fail
  go_region_held3 (fun V : World => (V.cell? ⟨a, 0, none⟩ = some (.string x.o) ∧ V.cell? ⟨a, 1, none⟩ = some (.string x.r) ∧ V.cell? ⟨a, 2, none⟩ = some (.string x.u)) ∧ V.cell? ⟨b, 0, none⟩ = some (.string y.o) ∧ V.cell? ⟨b, 1, none⟩ = some (.string y.r) ∧ V.cell? ⟨b, 2, none⟩ = some (.string y.u)) (first | assumption | with_reducible exact HK.out _ (Gr.refl _)) (first
    | (go_at_call 39; refine HC.out.mono ?_; rintro e w1 ⟨rfl, hg1⟩
       have hk1 := HK.out w1 hg1
       have HG := Lib.hid ((gr_drew W).trans hg1)
       clear hg1))
  all_goals
    go_wp2
    go_ret
    exact ⟨rfl, HG.out⟩

def Try.laySort_ren : Go.Shelf.Ren := ⟨fun | 6 => 37 | 15 => 60 | 14 => 61 | 28 => 76 | 29 => 77 | 20 => 78 | 21 => 79 | 22 => 80 | 23 => 81 | 24 => 82 | 25 => 83 | 26 => 84 | 27 => 85 | 46 => 96 | 47 => 91 | 48 => 92 | 49 => 97 | 50 => 98 | 57 => 103 | n => n, fun | 22 => 86 | 24 => 75 | 25 => 92 | 3 => 3 | 39 => 112 | 0 => 0 | 53 => 131 | 55 => 133 | 4 => 4 | 46 => 123 | 45 => 122 | 50 => 128 | 5 => 5 | 9 => 9 | 66 => 141 | 70 => 145 | 76 => 152 | 77 => 153 | n => n, fun | n => n⟩
theorem Try.laySort : Go.Proofs.SlLaysF.n6 Try.prog Try.laySort_ren := {
  mixed := by kernel_rfl
  f6 := ⟨Try.f37.name, by decide, Try.func37.trans (congrArg some (by kernel_rfl))⟩
  f14 := ⟨Try.f61.name, by decide, Try.func61.trans (congrArg some (by kernel_rfl))⟩
  f15 := Try.func60.trans (congrArg some (by kernel_rfl))
  f20 := ⟨Try.f78.name, by decide, Try.func78.trans (congrArg some (by kernel_rfl))⟩
  f21 := ⟨Try.f79.name, by decide, Try.func79.trans (congrArg some (by kernel_rfl))⟩
  f22 := ⟨Try.f80.name, by decide, Try.func80.trans (congrArg some (by kernel_rfl))⟩
  f23 := ⟨Try.f81.name, by decide, Try.func81.trans (congrArg some (by kernel_rfl))⟩
  f24 := ⟨Try.f82.name, by decide, Try.func82.trans (congrArg some (by kernel_rfl))⟩
  f25 := ⟨Try.f83.name, by decide, Try.func83.trans (congrArg some (by kernel_rfl))⟩
  f26 := ⟨Try.f84.name, by decide, Try.func84.trans (congrArg some (by kernel_rfl))⟩
  f27 := ⟨Try.f85.name, by decide, Try.func85.trans (congrArg some (by kernel_rfl))⟩
  f28 := Try.func76.trans (congrArg some (by kernel_rfl))
  f29 := Try.func77.trans (congrArg some (by kernel_rfl))
  f46 := ⟨Try.f96.name, by decide, Try.func96.trans (congrArg some (by kernel_rfl))⟩
  f47 := Try.func91.trans (congrArg some (by kernel_rfl))
  f48 := Try.func92.trans (congrArg some (by kernel_rfl))
  f49 := ⟨Try.f97.name, by decide, Try.func97.trans (congrArg some (by kernel_rfl))⟩
  f50 := ⟨Try.f98.name, by decide, Try.func98.trans (congrArg some (by kernel_rfl))⟩
  f57 := ⟨Try.f103.name, by decide, Try.func103.trans (congrArg some (by kernel_rfl))⟩
  t0 := Try.underlying0
  a0 := Try.isAgg0
  z0 := Try.sizeOf0
  v0 := Try.zeroValue0
  t3 := Try.underlying3
  a3 := Try.isAgg3
  z3 := Try.sizeOf3
  v3 := Try.zeroValue3
  t4 := Try.underlying4
  a4 := Try.isAgg4
  z4 := Try.sizeOf4
  v4 := Try.zeroValue4
  t5 := Try.underlying5
  a5 := Try.isAgg5
  z5 := Try.sizeOf5
  v5 := Try.zeroValue5
  t9 := Try.underlying9
  a9 := Try.isAgg9
  z9 := Try.sizeOf9
  v9 := Try.zeroValue9
  t22 := Try.underlying86
  a22 := Try.isAgg86
  z22 := Try.sizeOf86
  v22 := Try.zeroValue86
  a24 := Try.isAgg75
  z24 := Try.sizeOf75
  t25 := Try.underlying92
  a25 := Try.isAgg92
  z25 := Try.sizeOf92
  v25 := Try.zeroValue92
  t39 := Try.underlying112
  a39 := Try.isAgg112
  z39 := Try.sizeOf112
  v39 := Try.zeroValue112
  t45 := Try.underlying122
  a45 := Try.isAgg122
  z45 := Try.sizeOf122
  v45 := Try.zeroValue122
  t46 := Try.underlying123
  a46 := Try.isAgg123
  z46 := Try.sizeOf123
  v46 := Try.zeroValue123
  t50 := Try.underlying128
  a50 := Try.isAgg128
  z50 := Try.sizeOf128
  v50 := Try.zeroValue128
  t53 := Try.underlying131
  a53 := Try.isAgg131
  z53 := Try.sizeOf131
  v53 := Try.zeroValue131
  t55 := Try.underlying133
  a55 := Try.isAgg133
  z55 := Try.sizeOf133
  v55 := Try.zeroValue133
  t66 := Try.underlying141
  a66 := Try.isAgg141
  z66 := Try.sizeOf141
  v66 := Try.zeroValue141
  t70 := Try.underlying145
  a70 := Try.isAgg145
  z70 := Try.sizeOf145
  v70 := Try.zeroValue145
  t76 := Try.underlying152
  a76 := Try.isAgg152
  z76 := Try.sizeOf152
  v76 := Try.zeroValue152
  t77 := Try.underlying153
  a77 := Try.isAgg153
  z77 := Try.sizeOf153
  v77 := Try.zeroValue153 }

/-- A tuple of the store's. -/
def clip (K : List Tp) (t0 : Tp) (x : Tp) : Tp := if x ∈ K then x else t0
theorem clip_in {K : List Tp} {t0 : Tp} (h : t0 ∈ K) (x : Tp) : clip K t0 x ∈ K := by
  unfold clip
  split
  · assumption
  · exact h
theorem clip_self {K : List Tp} {t0 x : Tp} (h : x ∈ K) : clip K t0 x = x := if_pos h
def cfT (K : List Tp) (t0 x y : Tp) : Int := cmpT (tq (clip K t0 x)) (tq (clip K t0 y))
theorem ltOf_cf (K : List Tp) (t0 x y : Tp) : ltOf (cfT K t0) x y = ltT (clip K t0 x) (clip K t0 y) := by
  unfold ltOf cfT ltT
  rcases cmpT_range (tq (clip K t0 x)) (tq (clip K t0 y)) with h | h | h <;> rw [h] <;> rfl
theorem swoT (K : List Tp) (t0 : Tp) : Sort.SWO (ltOf (cfT K t0)) where
  irrefl x := by rw [ltOf_cf]; exact ordT.irr _
  trans x y z h1 h2 := by
    rw [ltOf_cf] at *
    exact ordT.tr _ _ _ h1 h2
  ntrans x y z h1 h2 := by
    rw [ltOf_cf] at *
    cases h3 : ltT (clip K t0 x) (clip K t0 z) with
    | false => rfl
    | true =>
      by_cases hxy : clip K t0 x = clip K t0 y
      · rw [hxy, h2] at h3; cases h3
      · have := ordT.tr _ _ _ (ordT.tri _ _ hxy h1) h3
        rw [h2] at this; cases this
theorem heap_sortedE {α : Type} [Inhabited α] {enc : α → Value} {w : World} {g n : Nat} {os : Array Obj} {cur : Array Value} {e : TypeId} {fr : Nat × Nat} (d : Array α) (hb : w.heap[g]? = some (.cells cur e fr)) :
    (sortWorld enc w g 0 n d os).heap[g]? = some (.cells (Sort.putCells enc 0 d cur) e fr) := by
  have hg : g < w.heap.size := (Array.getElem?_eq_some_iff.1 hb).1
  unfold sortWorld
  rw [Sort.heap_grow_old _ _ (by simpa using hg)]
  simp [Sort.putRow, Sort.mapBlock, Sort.ahead, Array.getElem?_modify, hb, Sort.onCells]
theorem grownBy_sortedE {α : Type} [Inhabited α] {enc : α → Value} {w : World} {g n : Nat} {os : Array Obj} (d : Array α) : w.grownBy (sortWorld enc w g 0 n d os) (some g) := by
  unfold sortWorld
  refine ⟨rfl, rfl, rfl, by simp, fun k hk hne => ?_⟩
  rw [Sort.heap_grow_old _ _ (by simpa using hk)]
  have : g ≠ k := fun e => hne (by rw [e])
  simp [Sort.putRow, Sort.mapBlock, Sort.ahead, Array.getElem?_modify, this]
theorem take_putCellsE {α : Type} [Inhabited α] {enc : α → Value} (cur : Array Value) (d : Array α) (h : d.size ≤ cur.size) : (Sort.putCells enc 0 d cur).toList.take d.size = d.toList.map enc := by
  apply List.ext_getElem?
  intro j
  by_cases hj : j < d.size
  · rw [List.getElem?_take_of_lt hj, Array.getElem?_toList]
    simp [Sort.putCells, hj, show j < cur.size by omega]
  · rw [List.getElem?_take_eq_none (by omega), List.getElem?_eq_none (by simp; omega)]
section
variable {w : World} {wm : Int} {M : SM} {H : Gh} {cb : Nat}
set_option maxHeartbeats 4000000 in
theorem sortE_any (h : StAt w wm M H cb) {B : Nat} {v : Value} {ts : List Tp} (hrow : w.ownsRow B 75 1 v ts.length (ts.map fun t => ptr (H.ge t))) (hp : ts.Perm M.K) (hno : ∀ b, v.ownBlock = some b → ¬ H.own b) (hlen : ts.length ≤ 1099511627776) :
    Calls Try.prog 37 #[v, .func (.func 38) #[] #[]] w fun e w' => e = .returned (.tuple #[]) ∧ ∃ ts' : List Tp, ts'.Perm M.K ∧ ts'.Pairwise (fun a b => ltT a b = true) ∧ w'.ownsRow B 75 1 v ts'.length (ts'.map fun t => ptr (H.ge t)) ∧ w.grownBy w' v.ownBlock := by
  cases ts with
  | nil =>
    obtain ⟨a, c, rfl, _, _⟩ := owned_anyE hrow
    have hcon := AnyF.slices_SortFunc_none (P := Try.prog) (ρ := Try.laySort_ren) { Try.laySort with } a c (.func (.func 38) #[] #[]) w
    change Calls Try.prog 37 _ _ _ at hcon
    refine hcon.mono ?_
    rintro e w' ⟨rfl, rfl⟩
    exact ⟨rfl, [], hp, by simp, hrow, World.grownBy.refl _ _⟩
  | cons t0 tr =>
    obtain ⟨ts, hts⟩ : ∃ ts, ts = t0 :: tr := ⟨_, rfl⟩
    rw [← hts] at hrow hp hlen
    have ht0 : t0 ∈ M.K := hp.mem_iff.1 (by rw [hts]; simp)
    have hpos : 0 < ts.length := by rw [hts]; simp
    rcases hrow.2 with ⟨_, hz⟩ | ⟨gb, cap, cur, rfl, hbase, hgb, r1, r2, r3, r4⟩
    · omega
    · have hall : ∀ t ∈ ts, t ∈ M.K := fun t ht => hp.mem_iff.1 ht
      have hwb : Whole w gb 75 cur := hgb
      have hH : Sort.Holds (fun x => ptr (H.ge (clip M.K t0 x))) w gb 0 ts.toArray := by
        intro j hj
        have hj2 : j < ts.length := by simpa using hj
        have hmem : ts.toArray[j]! ∈ ts := by rw [getElem!_pos ts.toArray j hj]; simp
        rw [Nat.zero_add]
        refine ⟨?_, hwb.free j⟩
        show w.cell? ⟨gb, j, none⟩ = some (ptr (H.ge (clip M.K t0 ts.toArray[j]!)))
        rw [clip_self (hall _ hmem), hwb.cell]
        have h1 : (ts.map fun t => ptr (H.ge t))[j]? = some (ptr (H.ge ts.toArray[j]!)) := by
          rw [List.getElem?_map, List.getElem?_eq_getElem hj2, getElem!_pos ts.toArray j hj]
          rfl
        rw [← r4, Nat.mul_one, List.getElem?_take_of_lt hj2] at h1
        simpa using h1
      have hcmp : CmpLays1 Try.prog 38 #[] (fun x => ptr (H.ge (clip M.K t0 x))) (cfT M.K t0) gb 0 ts.toArray.size w := by
        intro m os dk _ x y
        have hgr := grownBy_sortedE (enc := fun x => ptr (H.ge (clip M.K t0 x))) (w := w) (g := gb) (n := m) (os := os) dk
        have hent : ∀ z ∈ M.K, (sortWorld (fun x => ptr (H.ge (clip M.K t0 x))) w gb 0 m dk os).cell? ⟨H.ge z, 0, none⟩ = some (.string z.o) ∧ (sortWorld (fun x => ptr (H.ge (clip M.K t0 x))) w gb 0 m dk os).cell? ⟨H.ge z, 1, none⟩ = some (.string z.r) ∧ (sortWorld (fun x => ptr (H.ge (clip M.K t0 x))) w gb 0 m dk os).cell? ⟨H.ge z, 2, none⟩ = some (.string z.u) := by
          intro z hz
          have hE := h.raw.ents z hz
          obtain ⟨a, c, _, hA⟩ := hE.at_
          have hk := hA.blk.kept (hgr.block _ hA.blk.lt (fun e => hno gb rfl (by injection e with e; rw [← e]; exact Gh.own_of hE.lab)))
          exact ⟨by rw [hk.cell]; rfl, by rw [hk.cell]; rfl, by rw [hk.cell]; rfl⟩
        exact rowsCmp_any _ _ _ _ _ (hent _ (clip_in ht0 x)) (hent _ (clip_in ht0 y))
      have hcon := Any.slices_SortFunc (P := Try.prog) (ρ := Try.laySort_ren) Try.laySort (fun x => ptr (H.ge (clip M.K t0 x))) (fun _ => rfl) (cfT M.K t0) (swoT M.K t0) 38 #[] gb 0 cap ts.toArray w (enters_of Try.func38 (by kernel_rfl) rfl) hcmp hH hwb.lt (by simp; omega)
      change Calls Try.prog 37 _ _ _ at hcon
      simp only [List.size_toArray] at hcon
      refine hcon.mono ?_
      rintro e w' ⟨rfl, d', n, os, ⟨p1, _, p2⟩, h2, rfl⟩
      have hds : d'.size = ts.length := by simpa using p1
      have hperm : d'.toList.Perm ts := by
        have e1 : d'.extract 0 ts.length = d' := by rw [← hds]; simp
        have e2 : ts.toArray.extract 0 ts.length = ts.toArray := by simp
        rw [e1, e2] at p2
        simpa using p2
      have hpK : d'.toList.Perm M.K := hperm.trans hp
      have hin : ∀ t ∈ d'.toList, t ∈ M.K := fun t ht => hpK.mem_iff.1 ht
      have hnd : d'.toList.Nodup := hpK.nodup_iff.2 h.raw.nd
      refine ⟨rfl, d'.toList, hpK, ?_, ?_, grownBy_sortedE d'⟩
      · rw [List.pairwise_iff_getElem]
        intro i j hi hj hij
        have h3 := h2 i j (Nat.zero_le _) hij (by rw [← hds]; simpa using hj)
        rw [ltOf_cf, getElem!_pos d' j (by simpa using hj), getElem!_pos d' i (by simpa using hi)] at h3
        have mi : d'[i]'(by simpa using hi) ∈ M.K := hin _ (by simp)
        have mj : d'[j]'(by simpa using hj) ∈ M.K := hin _ (by simp)
        rw [clip_self mi, clip_self mj] at h3
        have hne : d'.toList[j] ≠ d'.toList[i] := fun e => by
          have := (List.getElem_inj hnd).1 e
          omega
        exact ordT.tri _ _ hne (by simpa using h3)
      · have hm : (d'.toList.map fun t => ptr (H.ge t)) = d'.toList.map (fun x => ptr (H.ge (clip M.K t0 x))) := List.map_congr_left fun t ht => by rw [clip_self (hin t ht)]
        have hle : d'.toList.length = ts.length := by simpa using hds
        rw [hm]
        refine ⟨by simp, .inr ⟨gb, cap, _, by rw [hle], hbase, heap_sortedE d' hgb, by rw [hle]; exact r1, r2, by simp [Sort.putCells, r3], ?_⟩⟩
        rw [Nat.mul_one]
        have := take_putCellsE (enc := fun x => ptr (H.ge (clip M.K t0 x))) cur d' (by rw [hds]; omega)
        simpa using this
end
end Go.Proofs.Ytlhilndgiabicaa
