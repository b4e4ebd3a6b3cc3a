/- Rows of elements of k cells, sorted: what a row is behind a sort. -/
import Derived.Test.YteimgebfbnmdcaaHB2
import Derived.Test.YteimgebfbnmdcaaH3
import Derived.Test.YteimgebfbnmdcaaHSC5
import Derived.Test.YteimgebfbnmdcaaHSR5
namespace Go.Proofs.Yteimgebfbnmdcaa
open Go.RowKit
open Go.Shelf
open Go.Sort (HoldsK flatK size_flatK get_flatK SWO PermIn)

section
variable {α : Type} [Inhabited α] {enc : α → List Value} {k : Nat}
theorem flat_getG (hk : ∀ x, (enc x).length = k) (d : Array α) (j : Nat) (h : j < d.size * k) : (d.toList.flatMap enc)[j]? = some ((flatK enc k d)[j]!) := by
  have hk0 : 0 < k := by
    rcases Nat.eq_zero_or_pos k with h0 | h0
    · rw [h0] at h; omega
    · exact h0
  rw [get_flatK _ _ _ j h]
  have h1 : j / k < d.size := Nat.div_lt_of_lt_mul (by rw [Nat.mul_comm]; exact h)
  have h2 : d.toList[j / k]? = some d[j / k]! := by
    rw [getElem!_pos d _ h1, Array.getElem?_toList, Array.getElem?_eq_getElem h1]
  have h3 := fm_at hk h2 (j := j % k) (Nat.mod_lt _ hk0)
  rw [show j / k * k + j % k = j by rw [Nat.mul_comm]; exact Nat.div_add_mod j k] at h3
  rw [h3]
  have h4 : j % k < (enc d[j / k]!).length := by rw [hk]; exact Nat.mod_lt _ hk0
  rw [List.getElem?_eq_getElem h4, getElem!_pos (enc d[j / k]!) (j % k) h4]
theorem flat_listG (hk : ∀ x, (enc x).length = k) (d : Array α) : (flatK enc k d).toList = d.toList.flatMap enc := by
  apply List.ext_getElem?
  intro j
  by_cases h : j < d.size * k
  · rw [flat_getG hk d j h, Array.getElem?_toList, Array.getElem?_eq_getElem (by rw [size_flatK]; exact h), getElem!_pos _ _ (by rw [size_flatK]; exact h)]
  · rw [List.getElem?_eq_none (by rw [Array.length_toList, size_flatK]; omega), List.getElem?_eq_none (by rw [fm_len hk]; simp; omega)]
theorem holds_of_own (hk : ∀ x, (enc x).length = k) {w : World} {gb : Nat} {cur : Array Value} {e : TypeId} (hgb : Whole w gb e cur) {l : List α} (ht : cur.toList.take (l.length * k) = l.flatMap enc) : HoldsK enc k w gb 0 l.toArray := by
  intro j hj
  have hj2 : j < l.toArray.size * k := by simpa using hj
  rw [Nat.zero_add]
  refine ⟨?_, hgb.free j⟩
  show w.cell? ⟨gb, j, none⟩ = some ((flatK enc k l.toArray)[j]!)
  rw [hgb.cell, ← flat_getG hk l.toArray j hj2, List.toList_toArray, ← ht, List.getElem?_take_of_lt (by simpa using hj2), Array.getElem?_toList]
theorem own_of_sorted (hk : ∀ x, (enc x).length = k) {w : World} {gb cap B n m : Nat} {cur : Array Value} {e : TypeId} {os : Array Obj} (hbase : B ≤ gb) (hgb : Whole w gb e cur) (r1 : m ≤ cap) (r2 : cap ≤ maxLen) (r3 : cur.size = cap * k) {d' : Array α} (hds : d'.size = m) :
    (sortWorldK enc k w gb 0 n d' os).ownsRow B e k (.slice (some ⟨gb, 0, none⟩) m cap) d'.toList.length (d'.toList.flatMap enc) ∧ w.grownBy (sortWorldK enc k w gb 0 n d' os) (some gb) := by
  have hW : sortWorldK enc k w gb 0 n d' os = sortWorld id w gb 0 n (flatK enc k d') os := rfl
  have hle : d'.toList.length = m := by simpa using hds
  refine ⟨?_, by rw [hW]; exact grownBy_sortedE (enc := id) (flatK enc k d')⟩
  rw [hW]
  refine ⟨fm_len hk _, .inr ⟨gb, cap, _, by rw [hle], hbase, heap_sortedE (enc := id) (flatK enc k d') hgb, by rw [hle]; exact r1, r2, by simp [Sort.putCells, r3], ?_⟩⟩
  have := take_putCellsE (enc := id) cur (flatK enc k d') (by rw [size_flatK, hds, r3]; exact Nat.mul_le_mul_right k r1)
  rw [size_flatK, flat_listG hk] at this
  rw [hle, ← hds]
  simpa using this
end
theorem fm_zip {α : Type} (enc : α → List Value) (l : List α) (i : Nat) : (l.zipIdx i).flatMap (fun p => enc p.1) = l.flatMap enc := by
  induction l generalizing i with
  | nil => rfl
  | cons x l ih => rw [List.zipIdx_cons, List.flatMap_cons, List.flatMap_cons, ih]
theorem fm_fst {α : Type} (enc : α → List Value) (T : List (α × Nat)) : T.flatMap (fun p => enc p.1) = (T.map (·.1)).flatMap enc := by
  induction T with
  | nil => rfl
  | cons x l ih => rw [List.flatMap_cons, List.map_cons, List.flatMap_cons, ih]

/-! ### slices.SortStableFunc at watch.Change -/
set_option maxHeartbeats 2000000 in
set_option maxRecDepth 100000 in
theorem stableNoneC (p : Option Addr) (cap g : Nat) (w : World) : Calls Try.prog 27 #[.slice p 0 cap, .func (.func g) #[] #[]] w fun e w' => e = .returned (.tuple #[]) ∧ w' = w := by
  have hI := AnyF.insertionSortCmpFunc_none (P := Try.prog) (ρ := Try.layInsC_ren) Try.layInsC p cap (.func (.func g) #[] #[]) w
  change Calls Try.prog 56 _ _ _ at hI
  have hS : Calls Try.prog 46 #[.slice p 0 cap, .int .i64 0, .func (.func g) #[] #[]] w fun e w' => e = .returned (.tuple #[]) ∧ w' = w := by
    have HI := Lib.hid hI
    clear hI
    go_enter Try.func46, Try.ntmps46
    go_wp2
    refine wp_loop_rounds 1 ?_
    rw [rounds_succ]
    go_wp2_with fail
    refine HI.out.mono ?_
    rintro _ w1 ⟨rfl, rfl⟩
    go_wp2
    refine wp_loop_rounds 1 ?_
    rw [rounds_succ]
    go_wp2
    go_end0
    exact ⟨rfl, rfl⟩
  have HS := Lib.hid hS
  clear hI hS
  go_enter Try.func27, Try.ntmps27
  go_wp2_with fail
  refine HS.out.mono ?_
  rintro _ w1 ⟨rfl, rfl⟩
  go_wp2
  go_end0
  exact ⟨rfl, rfl⟩
set_option maxHeartbeats 4000000 in
set_option maxRecDepth 100000 in
theorem sortStableC {E : Type} [Inhabited E] {enc : E → List Value} (hk : ∀ x, (enc x).length = 5) (h1 : ∀ x, ∀ v ∈ enc x, v.oneCell' = true) {cf : E → E → Int} (hO : SWO (ltOf cf)) (g : Nat) (eg : ∀ args w, (callFunc g args).run Try.prog w = .ok (.enter g args) w)
    (hcmp : ∀ (W : World) (x y : E), Calls Try.prog g #[.agg (enc x).toArray, .agg (enc y).toArray] W fun e w' => e = .returned (.int .i64 (cf x y)) ∧ Gr W w')
    {w : World} {B : Nat} {v : Value} {l : List E} (hrow : w.ownsRow B 53 5 v l.length (l.flatMap enc)) (hlen : l.length ≤ 1099511627776) :
    Calls Try.prog 27 #[v, .func (.func g) #[] #[]] w fun e w' => e = .returned (.tuple #[]) ∧ ∃ out : List E, Stb (ltOf cf) l out ∧ w'.ownsRow B 53 5 v out.length (out.flatMap enc) ∧ w.grownBy w' v.ownBlock := by
  rcases Nat.eq_zero_or_pos l.length with h0 | hpos
  · obtain rfl := List.eq_nil_of_length_eq_zero h0
    obtain ⟨a, c, rfl, _, _⟩ := owned_anyE hrow
    refine (stableNoneC a c g w).mono ?_
    rintro e w' ⟨rfl, rfl⟩
    exact ⟨rfl, [], Stb.nil, hrow, World.grownBy.refl _ _⟩
  · rcases hrow.2 with ⟨_, hz⟩ | ⟨gb, cap, cur, rfl, hbase, hgb, r1, r2, r3, r4⟩
    · omega
    · have hwb : Whole w gb 53 cur := hgb
      have hT : l.zipIdx.toArray.size = l.length := by simp
      have hk2 : ∀ x : E × Nat, (enc x.1).length = 5 := fun x => hk x.1
      have hH : HoldsK (fun p : E × Nat => enc p.1) 5 w gb 0 l.zipIdx.toArray := holds_of_own hk2 hwb (by rw [List.length_zipIdx, fm_zip]; exact r4)
      have hcl : CmpLays Try.prog g #[] (fun p : E × Nat => enc p.1) 5 (fun p q => cf p.1 q.1) gb 0 l.zipIdx.toArray.size w := fun m os dk _ x y => hcmp _ x.1 y.1
      have hfst : ltOf (fun p q : E × Nat => cf p.1 q.1) = fstB (ltOf cf) := rfl
      have hOT : SWO (ltOf (fun p q : E × Nat => cf p.1 q.1)) := ⟨fun x => hO.irrefl x.1, fun x y z => hO.trans x.1 y.1 z.1, fun x y z => hO.ntrans x.1 y.1 z.1⟩
      have R : RowK (fun p : E × Nat => enc p.1) 5 w gb 0 l.zipIdx.toArray := ⟨hk2, fun x v hv => h1 x.1 v hv, hH, hwb.lt⟩
      have hst := stableC Try.envC 5 (fun w => by kernel_rfl) (fun w => by kernel_rfl) (fun p : E × Nat => enc p.1) (fun p q => cf p.1 q.1) g #[] gb 0 cap l.length l.zipIdx.toArray w w eg hcl R (SWK.start hH) (tagL_tru hO) hT.symm hlen (by rw [hfst]; exact seg_start l)
        (fun a b d2 w2 hab hb hd2 S2 => AnyQ.insertionSortCmpFunc_w (ρ := Try.layInsC_ren) Try.layInsC 5 (fun w => by kernel_rfl) (fun w => by kernel_rfl) (fun p : E × Nat => enc p.1) (fun p q => cf p.1 q.1) g #[] gb 0 cap a b _ d2 w w2 eg hcl R hd2 S2 hOT hab hb (by omega))
        (enters_of Try.func56 (by kernel_rfl) rfl)
      have hst2 : Calls Try.prog 46 #[.slice (some ⟨gb, 0, none⟩) l.length cap, .int .i64 (l.length : Int), .func (.func g) #[] #[]] w fun e w' => e = .returned (.tuple #[]) ∧ ∃ out : List E, Stb (ltOf cf) l out ∧ w'.ownsRow B 53 5 (.slice (some ⟨gb, 0, none⟩) l.length cap) out.length (out.flatMap enc) ∧ w.grownBy w' (some gb) := by
        refine hst.mono ?_
        rintro e w' ⟨rfl, d', hp, hs, n, os, rfl⟩
        have hds : d'.size = l.length := by rw [hp.1, hT]
        obtain ⟨o1, o2⟩ := own_of_sorted (enc := fun p : E × Nat => enc p.1) hk2 (n := n) (os := os) hbase hwb r1 r2 r3 hds
        refine ⟨rfl, d'.toList.map (·.1), stb_of_asc l hp hs, ?_, o2⟩
        rw [fm_fst] at o1
        rw [List.length_map]
        exact o1
      have HS := Lib.hid hst2
      clear hst hst2 R hOT hcl hH hT hwb hgb r1 r2 r3 r4 hbase
      go_enter Try.func27, Try.ntmps27
      go_wp2_with fail
      refine HS.out.mono ?_
      rintro _ w1 ⟨rfl, out, h3, h4, h5⟩
      have HE := Lib.hid (show Stb (ltOf cf) l out ∧ w1.ownsRow B 53 5 (.slice (some ⟨gb, 0, none⟩) l.length cap) out.length (out.flatMap enc) ∧ w.grownBy w1 (some gb) from ⟨h3, h4, h5⟩)
      clear h3 h4 h5
      go_wp2
      go_end0
      exact ⟨rfl, out, HE.out⟩

/-! ### slices.SortStableFunc at api.Row -/
set_option maxHeartbeats 2000000 in
set_option maxRecDepth 100000 in
theorem stableNoneR (p : Option Addr) (cap g : Nat) (w : World) : Calls Try.prog 38 #[.slice p 0 cap, .func (.func g) #[] #[]] w fun e w' => e = .returned (.tuple #[]) ∧ w' = w := by
  have hI := AnyF.insertionSortCmpFunc_none (P := Try.prog) (ρ := Try.layInsR_ren) Try.layInsR p cap (.func (.func g) #[] #[]) w
  change Calls Try.prog 62 _ _ _ at hI
  have hS : Calls Try.prog 52 #[.slice p 0 cap, .int .i64 0, .func (.func g) #[] #[]] w fun e w' => e = .returned (.tuple #[]) ∧ w' = w := by
    have HI := Lib.hid hI
    clear hI
    go_enter Try.func52, Try.ntmps52
    go_wp2
    refine wp_loop_rounds 1 ?_
    rw [rounds_succ]
    go_wp2_with fail
    refine HI.out.mono ?_
    rintro _ w1 ⟨rfl, rfl⟩
    go_wp2
    refine wp_loop_rounds 1 ?_
    rw [rounds_succ]
    go_wp2
    go_end0
    exact ⟨rfl, rfl⟩
  have HS := Lib.hid hS
  clear hI hS
  go_enter Try.func38, Try.ntmps38
  go_wp2_with fail
  refine HS.out.mono ?_
  rintro _ w1 ⟨rfl, rfl⟩
  go_wp2
  go_end0
  exact ⟨rfl, rfl⟩
set_option maxHeartbeats 4000000 in
set_option maxRecDepth 100000 in
theorem sortStableR {E : Type} [Inhabited E] {enc : E → List Value} (hk : ∀ x, (enc x).length = 5) (h1 : ∀ x, ∀ v ∈ enc x, v.oneCell' = true) {cf : E → E → Int} (hO : SWO (ltOf cf)) (g : Nat) (eg : ∀ args w, (callFunc g args).run Try.prog w = .ok (.enter g args) w)
    (hcmp : ∀ (W : World) (x y : E), Calls Try.prog g #[.agg (enc x).toArray, .agg (enc y).toArray] W fun e w' => e = .returned (.int .i64 (cf x y)) ∧ Gr W w')
    {w : World} {B : Nat} {v : Value} {l : List E} (hrow : w.ownsRow B 49 5 v l.length (l.flatMap enc)) (hlen : l.length ≤ 1099511627776) :
    Calls Try.prog 38 #[v, .func (.func g) #[] #[]] w fun e w' => e = .returned (.tuple #[]) ∧ ∃ out : List E, Stb (ltOf cf) l out ∧ w'.ownsRow B 49 5 v out.length (out.flatMap enc) ∧ w.grownBy w' v.ownBlock := by
  rcases Nat.eq_zero_or_pos l.length with h0 | hpos
  · obtain rfl := List.eq_nil_of_length_eq_zero h0
    obtain ⟨a, c, rfl, _, _⟩ := owned_anyE hrow
    refine (stableNoneR a c g w).mono ?_
    rintro e w' ⟨rfl, rfl⟩
    exact ⟨rfl, [], Stb.nil, hrow, World.grownBy.refl _ _⟩
  · rcases hrow.2 with ⟨_, hz⟩ | ⟨gb, cap, cur, rfl, hbase, hgb, r1, r2, r3, r4⟩
    · omega
    · have hwb : Whole w gb 49 cur := hgb
      have hT : l.zipIdx.toArray.size = l.length := by simp
      have hk2 : ∀ x : E × Nat, (enc x.1).length = 5 := fun x => hk x.1
      have hH : HoldsK (fun p : E × Nat => enc p.1) 5 w gb 0 l.zipIdx.toArray := holds_of_own hk2 hwb (by rw [List.length_zipIdx, fm_zip]; exact r4)
      have hcl : CmpLays Try.prog g #[] (fun p : E × Nat => enc p.1) 5 (fun p q => cf p.1 q.1) gb 0 l.zipIdx.toArray.size w := fun m os dk _ x y => hcmp _ x.1 y.1
      have hfst : ltOf (fun p q : E × Nat => cf p.1 q.1) = fstB (ltOf cf) := rfl
      have hOT : SWO (ltOf (fun p q : E × Nat => cf p.1 q.1)) := ⟨fun x => hO.irrefl x.1, fun x y z => hO.trans x.1 y.1 z.1, fun x y z => hO.ntrans x.1 y.1 z.1⟩
      have R : RowK (fun p : E × Nat => enc p.1) 5 w gb 0 l.zipIdx.toArray := ⟨hk2, fun x v hv => h1 x.1 v hv, hH, hwb.lt⟩
      have hst := stableR Try.envR 5 (fun w => by kernel_rfl) (fun w => by kernel_rfl) (fun p : E × Nat => enc p.1) (fun p q => cf p.1 q.1) g #[] gb 0 cap l.length l.zipIdx.toArray w w eg hcl R (SWK.start hH) (tagL_tru hO) hT.symm hlen (by rw [hfst]; exact seg_start l)
        (fun a b d2 w2 hab hb hd2 S2 => AnyQ.insertionSortCmpFunc_w (ρ := Try.layInsR_ren) Try.layInsR 5 (fun w => by kernel_rfl) (fun w => by kernel_rfl) (fun p : E × Nat => enc p.1) (fun p q => cf p.1 q.1) g #[] gb 0 cap a b _ d2 w w2 eg hcl R hd2 S2 hOT hab hb (by omega))
        (enters_of Try.func62 (by kernel_rfl) rfl)
      have hst2 : Calls Try.prog 52 #[.slice (some ⟨gb, 0, none⟩) l.length cap, .int .i64 (l.length : Int), .func (.func g) #[] #[]] w fun e w' => e = .returned (.tuple #[]) ∧ ∃ out : List E, Stb (ltOf cf) l out ∧ w'.ownsRow B 49 5 (.slice (some ⟨gb, 0, none⟩) l.length cap) out.length (out.flatMap enc) ∧ w.grownBy w' (some gb) := by
        refine hst.mono ?_
        rintro e w' ⟨rfl, d', hp, hs, n, os, rfl⟩
        have hds : d'.size = l.length := by rw [hp.1, hT]
        obtain ⟨o1, o2⟩ := own_of_sorted (enc := fun p : E × Nat => enc p.1) hk2 (n := n) (os := os) hbase hwb r1 r2 r3 hds
        refine ⟨rfl, d'.toList.map (·.1), stb_of_asc l hp hs, ?_, o2⟩
        rw [fm_fst] at o1
        rw [List.length_map]
        exact o1
      have HS := Lib.hid hst2
      clear hst hst2 R hOT hcl hH hT hwb hgb r1 r2 r3 r4 hbase
      go_enter Try.func38, Try.ntmps38
      go_wp2_with fail
      refine HS.out.mono ?_
      rintro _ w1 ⟨rfl, out, h3, h4, h5⟩
      have HE := Lib.hid (show Stb (ltOf cf) l out ∧ w1.ownsRow B 49 5 (.slice (some ⟨gb, 0, none⟩) l.length cap) out.length (out.flatMap enc) ∧ w.grownBy w1 (some gb) from ⟨h3, h4, h5⟩)
      clear h3 h4 h5
      go_wp2
      go_end0
      exact ⟨rfl, out, HE.out⟩
end Go.Proofs.Yteimgebfbnmdcaa
