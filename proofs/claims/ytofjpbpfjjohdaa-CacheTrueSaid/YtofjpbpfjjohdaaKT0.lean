/- CacheTrue: what the law knows. -/
import Derived.Test.YtofjpbpfjjohdaaK10IA
import Derived.Test.YtofjpbpfjjohdaaOMru
import Derived.Maps.RangeWalk
import Derived.Laws.StructEq
import Derived.BigRegion
namespace Go.Proofs.Ytofjpbpfjjohdaa
open Go.RowKit
open Go.Maps (Keyed)

theorem take_snoc {ps : List Int} {i : Nat} {p : Int} (h : ps[i]? = some p) : ps.take (i + 1) = ps.take i ++ [p] := by
  rw [List.take_succ_eq_append_getElem (List.getElem?_eq_some_iff.1 h).1, (List.getElem?_eq_some_iff.1 h).2]
def Ints (w : World) (a : Option Addr) (n : Nat) (l : List Int) : Prop :=
  l.length = n ∧ (n = 0 ∨ ∃ b off, a = some ⟨b, off, none⟩ ∧ b < w.heap.size ∧ ∀ i x, l[i]? = some x → w.cell? ⟨b, off + i, none⟩ = some (.int .i64 x)) ∧ ∀ x ∈ l, -9223372036854775808 ≤ x ∧ x ≤ 9223372036854775807
def InI (k : Int) : Prop := -9223372036854775808 ≤ k ∧ k ≤ 9223372036854775807
theorem key_int (k : Int) (h : InI k) : keyOf Try.prog 3 (Value.int .i64 k) = some (.int .i64 k) := KA.key_of k h
theorem Try.zeroI (w : World) : (zeroValue 3).run Try.prog w = .ok (.int .i64 0) w := by kernel_rfl
theorem bell_up {w W W' : World} (hb : Below w.heap.size w W) (h : Below W.heap.size W W') : Below w.heap.size w W' := hb.trans (h.mono hb.size)
theorem MapAt.grown {w w' : World} {P : Program} {kt : TypeId} {mt mu N : Nat} {mm : Lit → Option Value} (h : MapAt w P kt mt mm N) (hne : mu ≠ mt) (hg : w.grownBy w' (some mu)) : MapAt w' P kt mt mm N :=
  h.kept (hg.block mt h.lt (by intro e; injection e with e; exact hne e.symm))
/-- The keys among the last ones. -/
structure UJ (wr : World) (mu : Nat) (S : List Int) (mm : Lit → Option Value) (N : Nat) : Prop where
  map : MapAt wr Try.prog 3 mu mm N
  num : N = (mru S).length
  has : ∀ k, InI k → (k ∉ S ∧ mm (.int .i64 k) = none) ∨ (k ∈ S ∧ ∃ c : Nat, 1 ≤ c ∧ c ≤ S.length ∧ mm (.int .i64 k) = some (.int .i64 (c : Int)))
section
variable {w wr wr' : World} {g b mt mu size N M : Nat} {P S : List Int} {es : List KA.En} {f m : Int} {mm mu' : Lit → Option Value} {T : Int → Int}
theorem UJ.start (w : World) : UJ (w.alloc (.map #[] 0)) w.heap.size [] (fun _ => none) 0 := ⟨MapAt.made _ _ _, rfl, fun k _ => .inl ⟨by simp, rfl⟩⟩
theorem UJ.zero (h : UJ wr mu S mu' M) {x : Int} (hx : InI x) : (Instr.lookup 29 (.map (some mu)) (.int .i64 x) false).run Try.prog wr = .ok (((mu' (.int .i64 x))).getD (.int .i64 0)) wr :=
  h.map.look KA.Try.keyed Try.underlying29 (Try.zeroI wr) false (key_int x hx)
/-- How often a key was counted. -/
def cntOf (mu' : Lit → Option Value) (x : Int) : Int := match mu' (.int .i64 x) with
  | some (.int .i64 c) => c
  | _ => 0
theorem UJ.look (h : UJ wr mu S mu' M) {x : Int} (hx : InI x) : (Instr.lookup 29 (.map (some mu)) (.int .i64 x) false).run Try.prog wr = .ok (.int .i64 (cntOf mu' x)) wr ∧ 0 ≤ cntOf mu' x ∧ cntOf mu' x ≤ S.length ∧ (cntOf mu' x = 0 ↔ x ∉ S) := by
  have hz := h.zero hx
  rcases h.has x hx with ⟨h1, h2⟩ | ⟨h1, c, h2, h3, h4⟩
  · have e : cntOf mu' x = 0 := by unfold cntOf; rw [h2]
    rw [e]
    rw [h2] at hz
    exact ⟨hz, by omega, by omega, by simp [h1]⟩
  · have e : cntOf mu' x = (c : Int) := by unfold cntOf; rw [h4]
    rw [e]
    rw [h4] at hz
    refine ⟨hz, by omega, by omega, ?_⟩
    have : c ≠ 0 := by omega
    simp [h1, this]
theorem UJ.put (h : UJ wr mu S mu' M) {x : Int} (hx : InI x) (hm : MapAt wr' Try.prog 3 mu (mset mu' (.int .i64 x) (some (.int .i64 (cntOf mu' x + 1)))) (if (mu' (.int .i64 x)).isSome then M else M + 1)) :
    UJ wr' mu (x :: S) (mset mu' (.int .i64 x) (some (.int .i64 (cntOf mu' x + 1)))) (if (mu' (.int .i64 x)).isSome then M else M + 1) := by
  refine ⟨hm, ?_, fun k hk => ?_⟩
  · rw [mru_cons, h.num]
    rcases h.has x hx with ⟨h1, h2⟩ | ⟨h1, c, h2, h3, h4⟩
    · rw [h2, if_neg (by simp), if_neg (by rw [mem_mru]; exact h1)]
      simp
    · rw [h4, if_pos (by simp), if_pos (by rw [mem_mru]; exact h1)]
  · have hl := (h.look hx).2
    by_cases hkx : k = x
    · subst hkx
      rw [mset_same (KA.Try.keyed.key (key_int k hk))]
      refine .inr ⟨by simp, (cntOf mu' k + 1).toNat, by omega, ?_, ?_⟩
      · simp only [List.length_cons]; omega
      · rw [show (((cntOf mu' k + 1).toNat : Nat) : Int) = cntOf mu' k + 1 by omega]
    · rw [mset_other (by intro e; injection e with _ e; exact hkx e)]
      rcases h.has k hk with ⟨h1, h2⟩ | ⟨h1, c, h2, h3, h4⟩
      · exact .inl ⟨by simp [hkx, h1], h2⟩
      · exact .inr ⟨by simp [h1], c, h2, by simp only [List.length_cons]; omega, h4⟩
theorem exit_mem {P : List Int} {i t s0 M : Nat} (hP : P.length = i) (ht : t ≤ i) (hM : M = (mru (P.drop (i - t))).length) (hle : M ≤ s0) (hx : t = i ∨ M = s0) (y : Int) : y ∈ P.drop (i - t) ↔ y ∈ (mru P).take s0 := by
  rw [← mem_mru]
  rcases hx with h | h
  · subst h
    rw [Nat.sub_self, List.drop_zero] at hM ⊢
    rw [List.take_of_length_le (by omega)]
  · obtain ⟨R, hR⟩ := mru_prefix (P.take (i - t)) (P.drop (i - t))
    rw [List.take_append_drop] at hR
    rw [hR, List.take_append_of_le_length (by omega), List.take_of_length_le (by omega)]
theorem exit_eq {P : List Int} {i t s0 M : Nat} (hP : P.length = i) (ht : t ≤ i) (hM : M = (mru (P.drop (i - t))).length) (hle : M ≤ s0) (hx : t = i ∨ M = s0) : mru (P.drop (i - t)) = (mru P).take s0 := by
  rcases hx with h | h
  · subst h
    rw [Nat.sub_self, List.drop_zero] at hM ⊢
    rw [List.take_of_length_le (by omega)]
  · obtain ⟨R, hR⟩ := mru_prefix (P.take (i - t)) (P.drop (i - t))
    rw [List.take_append_drop] at hR
    rw [hR, List.take_append_of_le_length (by omega), List.take_of_length_le (by omega)]
/-- The keys that the cache told, each once. -/
structure HT (wr : World) (mu : Nat) (S : List Int) (mm : Lit → Option Value) (N : Nat) : Prop where
  map : MapAt wr Try.prog 3 mu mm N
  num : N = S.length
  has : ∀ k, InI k → mm (.int .i64 k) = if k ∈ S then some (.int .i64 1) else none
theorem HT.start (w : World) : HT (w.alloc (.map #[] 0)) w.heap.size [] (fun _ => none) 0 := ⟨MapAt.made _ _ _, rfl, fun k _ => by simp⟩
theorem HT.look (h : HT wr mu S mu' M) {x : Int} (hx : InI x) : (Instr.lookup 29 (.map (some mu)) (.int .i64 x) false).run Try.prog wr = .ok (.int .i64 (if x ∈ S then 1 else 0)) wr := by
  have := h.map.look KA.Try.keyed Try.underlying29 (Try.zeroI wr) false (key_int x hx)
  rw [h.has x hx] at this
  by_cases hs : x ∈ S
  · rw [if_pos hs] at this ⊢; simpa using this
  · rw [if_neg hs] at this ⊢; simpa using this
theorem HT.put (h : HT wr mu S mu' M) {x : Int} (hx : InI x) (hn : x ∉ S) (hm : MapAt wr' Try.prog 3 mu (mset mu' (.int .i64 x) (some (.int .i64 1))) (if (mu' (.int .i64 x)).isSome then M else M + 1)) :
    HT wr' mu (S ++ [x]) (mset mu' (.int .i64 x) (some (.int .i64 1))) (M + 1) := by
  have h0 := h.has x hx
  rw [if_neg hn] at h0
  rw [h0] at hm
  refine ⟨by simpa using hm, by rw [h.num]; simp, fun k hk => ?_⟩
  by_cases hkx : k = x
  · subst hkx
    rw [mset_same (KA.Try.keyed.key (key_int k hk)), if_pos (by simp)]
  · rw [mset_other (by intro e; injection e with _ e; exact hkx e), h.has k hk]
    by_cases hs : k ∈ S
    · rw [if_pos hs, if_pos (List.mem_append_left _ hs)]
    · rw [if_neg hs, if_neg (by simp [hs, hkx])]
/-- What the law knows behind so many keys. -/
structure TJ (w wr : World) (g b mt size : Nat) (P : List Int) (es : List KA.En) (f m : Int) (mm : Lit → Option Value) (N : Nat) (T : Int → Int) : Prop where
  cat : KA.CAt wr w.heap.size g b size es f m
  map : MapAt wr Try.prog 3 mt mm N
  mge : w.heap.size ≤ mt
  mne : mt ≠ b
  few : N ≤ P.length
  keys : es.map (·.2.1) = (mru P).take size
  val : ∀ p k v, (p, k, v) ∈ es → v = (k, T k)
  has : ∀ k, InI k → mm (.int .i64 k) = if k ∈ P then some (.int .i64 (T k)) else none
  tr : ∀ k ∈ P, 0 ≤ T k ∧ T k < P.length
  ff : 0 ≤ f ∧ f ≤ P.length
  fm : 0 ≤ m ∧ m ≤ P.length
  up : Below w.heap.size w wr
theorem TJ.below (h : TJ w wr g b mt size P es f m mm N T) (hb : Below wr.heap.size wr wr') : TJ w wr' g b mt size P es f m mm N T :=
  { h with cat := h.cat.below hb, map := h.map.below hb, up := bell_up h.up hb }
theorem CAt_mapped {B : Nat} {kt : TypeId} {Q : Program} (h : KA.CAt wr B g b size es f m) (hm : MapAt wr Q kt mu mu' M) (hne : mu ≠ b) (hg : wr.grownBy wr' (some mu)) : KA.CAt wr' B g b size es f m := by
  obtain ⟨N, ⟨⟨k0, v0, v1, hk⟩, he⟩, hl⟩ := h.ring.ex
  obtain ⟨mb, hmb, _⟩ := h.map
  refine h.keep fun q hcb => ?_
  rcases hcb with rfl | rfl | hcb
  · exact hg.block _ hk.lt (by intro e; injection e with e; exact hm.ne hk e)
  · exact hg.block _ hmb.lt (by intro e; injection e with e; exact hne e.symm)
  · obtain ⟨⟨p, k', v'⟩, hp, rfl⟩ := List.mem_map.1 hcb
    exact hg.block _ (he p k' v' hp).lt (by intro e; injection e with e; exact hm.ne (he p k' v' hp) e)
theorem TJ.grown {Q : Program} {kt : TypeId} (h : TJ w wr g b mt size P es f m mm N T) (hm : MapAt wr Q kt mu mu' M) (h1 : mu ≠ b) (h2 : mu ≠ mt) (h3 : w.heap.size ≤ mu) (hg : wr.grownBy wr' (some mu)) : TJ w wr' g b mt size P es f m mm N T :=
  { h with cat := CAt_mapped h.cat hm h1 hg, map := h.map.grown h2 hg, up := h.up.grown hg h.up.size (by rintro q ⟨⟩; exact h3) }
theorem TJ.look (h : TJ w wr g b mt size P es f m mm N T) {x : Int} (hx : InI x) (hp : x ∈ P) : (Instr.lookup 29 (.map (some mt)) (.int .i64 x) false).run Try.prog wr = .ok (.int .i64 (T x)) wr := by
  have := h.map.look KA.Try.keyed Try.underlying29 (Try.zeroI wr) false (key_int x hx)
  rw [h.has x hx, if_pos hp] at this
  simpa using this
theorem CB_ge {B : Nat} (h : KA.CAt wr B g b size es f m) {k : Nat} (hk : KA.CB g b es k) : B ≤ k := by
  rcases hk with h1 | h1 | h1
  · rw [h1]; exact h.geg
  · rw [h1]; exact h.geb
  · exact h.gep k h1
theorem map_far {B : Nat} {kt : TypeId} {Q : Program} (h : KA.CAt wr B g b size es f m) (hm : MapAt wr Q kt mu mu' M) (hne : mu ≠ b) (hc : KA.Chg wr wr' (KA.CB g b es)) : MapAt wr' Q kt mu mu' M := by
  obtain ⟨N, ⟨⟨k0, v0, v1, hk⟩, he⟩, hl⟩ := h.ring.ex
  refine hm.kept (hc.block mu hm.lt ?_)
  rintro (h1 | h1 | h1)
  · exact hm.ne hk h1.symm
  · exact hne h1
  · obtain ⟨⟨p, k', v'⟩, hp, h2⟩ := List.mem_map.1 h1
    simp only at h2
    exact hm.ne (he p k' v' hp) h2
theorem head_one {X Y Z : List Int} {k : Int} (h : X ++ k :: Y = k :: Z) (hn : (X ++ k :: Y).Nodup) : X = [] ∧ Y = Z := by
  cases X with
  | nil => simpa using h
  | cons x X =>
    rw [List.cons_append] at h
    injection h with h1 h2
    subst h1
    exact absurd (by simp) (List.nodup_cons.1 hn).1
/-- Behind a Get of a key that is there. -/
theorem TJ.got (h : TJ w wr g b mt size P es f m mm N T) {e1 e2 : List KA.En} {e : Nat} {k : Int} {v : Int × Int} (hes : es = e1 ++ (e, k, v) :: e2) {es' : List KA.En} (hes' : es' = (e, k, v) :: (e1 ++ e2)) (hg : KA.Chg wr wr' (KA.CB g b es)) :
    k ∈ P ∧ v = (k, T k) ∧ MapAt wr' Try.prog 3 mt mm N ∧ Below w.heap.size w wr' ∧ (es'.map (·.2.1)) = k :: ((e1 ++ e2).map (·.2.1)) ∧ (k :: (mru P).filter (fun x => decide (x ≠ k))).take size = k :: ((e1 ++ e2).map (·.2.1)) ∧ ∀ p k v, (p, k, v) ∈ es' → v = (k, T k) := by
  have hk := h.keys
  rw [hes, List.map_append, List.map_cons] at hk
  have hin : k ∈ (mru P).take size := by rw [← hk]; simp
  refine ⟨(mem_mru _ _).1 (List.mem_of_mem_take hin), h.val e k v (by rw [hes]; simp), map_far h.cat h.map h.mne hg, h.up.trans (hg.below (fun q hq => CB_ge h.cat hq) h.up.size), by rw [hes']; rfl, ?_, fun p k' v' hp => ?_⟩
  · rw [List.map_append]
    exact take_there (mru_nodup P) hk.symm
  · refine h.val p k' v' ?_
    rw [hes'] at hp
    rw [hes]
    rcases List.mem_cons.1 hp with h1 | h1
    · rw [h1]; simp
    · rcases List.mem_append.1 h1 with h2 | h2
      · exact List.mem_append_left _ h2
      · exact List.mem_append_right _ (List.mem_cons_of_mem _ h2)
def upd (T : Int → Int) (x v : Int) : Int → Int := fun k => if k = x then v else T k
/-- What stands in the cache behind Get and Put of a key. -/
theorem put_keys {w1 : World} {es1 es2 : List KA.En} {k i : Int} (hn : (es1.map (·.2.1)).Nodup) (hp : KA.PutTo w1 size k (k, i) es1 es2) (hval : ∀ p k v, (p, k, v) ∈ es1 → v = (k, T k))
    (hk : (k ∈ es1.map (·.2.1) ∧ (k :: (mru P).filter (fun x => decide (x ≠ k))).take size = es1.map (·.2.1) ∧ ∃ R, es1.map (·.2.1) = k :: R) ∨ (k ∉ es1.map (·.2.1) ∧ es1.map (·.2.1) = (mru P).take size)) (hs : 1 ≤ size) :
    es2.map (·.2.1) = (mru (P ++ [k])).take size ∧ ∀ p k' v, (p, k', v) ∈ es2 → v = (k', upd T k i k') := by
  rw [mru_snoc]
  rcases hk with ⟨hin, hq, R, hR⟩ | ⟨hni, hq⟩
  · rcases hp with ⟨e1, e, e2, v0, rfl, rfl⟩ | ⟨hx, _⟩
    · have hn2 := hn
      rw [List.map_append, List.map_cons] at hR hn2
      obtain ⟨h1, h2⟩ := head_one hR hn2
      have he1 : e1 = [] := by simpa using h1
      subst he1
      refine ⟨by rw [hq]; rfl, fun p k' v hm => ?_⟩
      rcases List.mem_cons.1 hm with h3 | h3
      · injection h3 with _ h3
        injection h3 with h3 h4
        rw [h4, h3]
        simp [upd]
      · have hv := hval p k' v (List.mem_cons_of_mem _ h3)
        have hne : k' ≠ k := by
          rintro rfl
          have := (List.nodup_cons.1 (show (k' :: e2.map (·.2.1)).Nodup from hn2)).1
          exact this (List.mem_map.2 ⟨_, h3, rfl⟩)
        rw [hv]
        simp [upd, hne]
    · exact absurd hin hx
  · rcases hp with ⟨e1, e, e2, v0, rfl, _⟩ | ⟨_, e, _, rfl⟩
    · exact absurd (by simp) hni
    · have hl : es1.length = ((mru P).take size).length := by rw [← hq, List.length_map]
      refine ⟨?_, fun p k' v hm => ?_⟩
      · rw [List.map_cons, take_none hs (by rw [← hq]; exact hni), ← hl]
        split
        · rw [List.map_dropLast, hq]
        · rw [hq]
      · rcases List.mem_cons.1 hm with h3 | h3
        · injection h3 with _ h3
          injection h3 with h3 h4
          rw [h4, h3]
          simp [upd]
        · have h5 : (p, k', v) ∈ es1 := by
            split at h3
            · exact (List.dropLast_sublist _).subset h3
            · exact h3
          have hv := hval p k' v h5
          have hne : k' ≠ k := by
            rintro rfl
            exact hni (List.mem_map.2 ⟨_, h5, rfl⟩)
          rw [hv]
          simp [upd, hne]
theorem TJ.next {w1 w5 w6 : World} {es1 es2 : List KA.En} {f1 m1 : Int} {x : Int} {N' : Nat} (h : TJ w wr g b mt size P es f m mm N T) (hx : InI x) (hc5 : KA.CAt w5 w.heap.size g b size es2 f1 m1) (hm5 : MapAt w5 Try.prog 3 mt mm N) (hb5 : Below w.heap.size w w5)
    (hm6 : MapAt w6 Try.prog 3 mt (mset mm (.int .i64 x) (some (.int .i64 (P.length : Int)))) N') (hN' : N' ≤ N + 1) (hg6 : w5.grownBy w6 (some mt)) (hf1 : 0 ≤ f1 ∧ f1 ≤ P.length + 1) (hm1 : 0 ≤ m1 ∧ m1 ≤ P.length + 1)
    (hn : (es1.map (·.2.1)).Nodup) (hp : KA.PutTo w1 size x (x, (P.length : Int)) es1 es2) (hval : ∀ p k v, (p, k, v) ∈ es1 → v = (k, T k))
    (hk : (x ∈ es1.map (·.2.1) ∧ (x :: (mru P).filter (fun y => decide (y ≠ x))).take size = es1.map (·.2.1) ∧ ∃ R, es1.map (·.2.1) = x :: R) ∨ (x ∉ es1.map (·.2.1) ∧ es1.map (·.2.1) = (mru P).take size)) :
    TJ w w6 g b mt size (P ++ [x]) es2 f1 m1 (mset mm (.int .i64 x) (some (.int .i64 (P.length : Int)))) N' (upd T x P.length) := by
  obtain ⟨h1, h2⟩ := put_keys hn hp hval hk hc5.lo
  have hl : ((P ++ [x]).length : Int) = P.length + 1 := by simp
  have hfew := h.few
  refine ⟨CAt_mapped hc5 hm5 h.mne hg6, hm6, h.mge, h.mne, by simp; omega, h1, h2, fun k hki => ?_, fun k hkm => ?_, by rw [hl]; exact hf1, by rw [hl]; exact hm1, hb5.grown hg6 hb5.size (by rintro q ⟨⟩; exact h.mge)⟩
  · by_cases hkx : k = x
    · subst hkx
      rw [mset_same (KA.Try.keyed.key (key_int k hki)), if_pos (by simp)]
      simp [upd]
    · rw [mset_other (by intro e; injection e with _ e; exact hkx e), h.has k hki]
      by_cases hp2 : k ∈ P
      · rw [if_pos hp2, if_pos (List.mem_append_left _ hp2)]
        simp [upd, hkx]
      · rw [if_neg hp2, if_neg (by simp [hp2, hkx])]
  · rw [hl]
    by_cases hkx : k = x
    · subst hkx
      simp [upd]
      omega
    · have hp2 : k ∈ P := by
        rcases List.mem_append.1 hkm with h3 | h3
        · exact h3
        · exact absurd (by simpa using h3) hkx
      have := h.tr k hp2
      simp [upd, hkx]
      omega
theorem UJ.grown {mv : Nat} (h : UJ wr mu S mu' M) (hne : mv ≠ mu) (hg : wr.grownBy wr' (some mv)) : UJ wr' mu S mu' M := ⟨h.map.grown hne hg, h.num, h.has⟩
theorem UJ.below (h : UJ wr mu S mu' M) (hb : Below wr.heap.size wr wr') : UJ wr' mu S mu' M := ⟨h.map.below hb, h.num, h.has⟩
theorem HT.below (h : HT wr mu S mu' M) (hb : Below wr.heap.size wr wr') : HT wr' mu S mu' M := ⟨h.map.below hb, h.num, h.has⟩
/-- A row of keys that was told. -/
def KRow (w : World) (B gk cap : Nat) (ks : List Int) : Prop := w.ownsRow B 3 1 (.slice (some ⟨gk, 0, none⟩) ks.length cap) ks.length (ks.map (Value.int .i64))
theorem KRow.cell {B gk cap j : Nat} {ks : List Int} {y : Int} (h : KRow w B gk cap ks) (hj : ks[j]? = some y) : w.cell? ⟨gk, j, none⟩ = some (.int .i64 y) := by
  have hl := (List.getElem?_eq_some_iff.1 hj).1
  have := World.ownsRow.cellAt h j (by omega)
  rw [this, List.getElem?_map, hj]
  rfl
theorem KRow.mapped {B gk cap mv K : Nat} {ks : List Int} {mq : Lit → Option Value} {Q : Program} {kt : TypeId} (h : KRow wr B gk cap ks) (hm : MapAt wr Q kt mv mq K) (hg : wr.grownBy wr' (some mv)) : KRow wr' B gk cap ks := by
  refine World.ownsRow.kept h hg (.inr ?_)
  intro e
  rcases h.2 with ⟨e2, _⟩ | ⟨g2, cap2, cur, e2, _, hh, _⟩
  · cases e2
  · injection e2 with e2
    injection e2 with e2
    injection e2 with e2
    subst e2
    have hW : Whole wr gk 3 cur := hh
    have e3 : gk = mv := by simpa [Value.ownBlock] using e
    exact hm.ne hW e3
end
section
variable {P : Program} {ops : Array Oper} {rest : List Oper} {o : Oper} {a : Act} {w : World} {Q : Exit → Act → World → Prop}
theorem wp_neq_self {K : Act → World → Prop} (t : TypeId) (x y : Operand) (t' : TypeId) (ho : o.op = .binOp .neq t x y t') (C : Array Value) (hx : a.eval x = .agg C) (hy : a.eval y = .agg C) (hg : P.eqGuardType P.depth t = false)
    (he : (Op.equalIn 10000 t (.agg C) (.agg C)).run P w = .ok true w) (h : K (a.put o.dst (.bool false)) w) : o.wp P a w K Q := by
  unfold Oper.wp
  simp [execOp, ho, hx, hy, run_eqGuard_agg, hg, run_neq_struct, he, Result.andThen]
  exact h
theorem wpList_neq_self (hw : Region.wanted o (yielded ops a.tmps) = true) (t : TypeId) (x y : Operand) (t' : TypeId) (ho : o.op = .binOp .neq t x y t') (C : Array Value) (hx : a.eval x = .agg C) (hy : a.eval y = .agg C) (hg : P.eqGuardType P.depth t = false)
    (he : (Op.equalIn 10000 t (.agg C) (.agg C)).run P w = .ok true w) (h : wpList P ops Q rest (a.put o.dst (.bool false)) w) : wpList P ops Q (o :: rest) a w :=
  Go.BigFrame.wpList_want hw fun _ hK => wp_neq_self t x y t' ho C hx hy hg he (hK _ _ h)
end
theorem guard2 : Try.prog.eqGuardType Try.prog.depth 28 = false := by kernel_rfl
theorem wf_of (x : Int) (h : InI x) : (Lit.int .i64 x).wf = true := by unfold InI at h; simp [Lit.wf, IntKind.min, IntKind.max, IntKind.signed, IntKind.bits]; omega
theorem eq_two (x y : Int) (hx : InI x) (hy : InI y) (w : World) : (Op.equalIn 10000 28 (.agg #[.int .i64 x, .int .i64 y]) (.agg #[.int .i64 x, .int .i64 y])).run Try.prog w = .ok true w := by
  have k1 : Try.prog.cellsOf 3 = 1 := by kernel_rfl
  have k2 : Try.prog.cellsOf 28 = 2 := by kernel_rfl
  have h1 : Try.prog.keyLits 1 3 [.int .i64 x] = some [.int .i64 x] := by simp [Program.keyLits, Try.underlying3, wf_of x hx]
  have h2 : Try.prog.keyLits 1 3 [.int .i64 y] = some [.int .i64 y] := by simp [Program.keyLits, Try.underlying3, wf_of y hy]
  have hl : Try.prog.keyLits 2 28 [.int .i64 x, .int .i64 y] = some [.int .i64 x, .int .i64 y] := by
    unfold Program.keyLits
    rw [Try.underlying28]
    simp only
    rw [if_pos (by rw [k2]; rfl)]
    simp [List.range, List.range.loop, k1, h1, h2]
  obtain ⟨r, hr, hi⟩ := run_equalIn_deep (P := Try.prog) 9998 2 28 (by kernel_rfl) w 2 2 (.agg #[.int .i64 x, .int .i64 y]) (.agg #[.int .i64 x, .int .i64 y]) _ _
    (by simp [Value.formed, Try.underlying28]; kernel_rfl) (by simp [Value.formed, Try.underlying28]; kernel_rfl) (by simpa [Value.cells] using hl) (by simpa [Value.cells] using hl)
  have ht : r = true := hi.2 rfl
  subst ht
  rw [show (10000 : Nat) = 9998 + 2 from rfl]
  exact hr
end Go.Proofs.Ytofjpbpfjjohdaa
