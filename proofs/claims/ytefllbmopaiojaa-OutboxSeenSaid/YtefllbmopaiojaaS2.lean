/- OutboxSeen: what the law knows. -/
import Derived.Test.YtefllbmopaiojaaOA
namespace Go.Proofs.Ytefllbmopaiojaa
open Go.RowKit
open Go.Maps (Keyed)

def Ints (w : World) (a : Option Addr) (n : Nat) (l : List Int) : Prop :=
  l.length = n ∧ (n = 0 ∨ ∃ b off, a = some ⟨b, off, none⟩ ∧ b < w.heap.size ∧ ∀ i x, l[i]? = some x → w.cell? ⟨b, off + i, none⟩ = some (.int .i64 x)) ∧ ∀ x ∈ l, -9223372036854775808 ≤ x ∧ x ≤ 9223372036854775807
def InI (k : Int) : Prop := -9223372036854775808 ≤ k ∧ k ≤ 9223372036854775807
theorem key_int (k : Int) (h : InI k) : keyOf Try.prog 3 (Value.int .i64 k) = some (.int .i64 k) := KI.key_of k h
theorem Try.zeroI (w : World) : (zeroValue 3).run Try.prog w = .ok (.int .i64 0) w := by kernel_rfl
theorem KI.SAt.mapped {w w' : World} {B s g b size mu N : Nat} {es : List KI.En} {f m : Int} {P : Program} {kt : TypeId} {mm : Lit → Option Value} (h : KI.SAt w B s g b size es f m) (hm : MapAt w P kt mu mm N) (hne : mu ≠ b) (hg : w.grownBy w' (some mu)) : KI.SAt w' B s g b size es f m := by
  obtain ⟨N, ⟨⟨k0, v0, hk⟩, he⟩, hl⟩ := h.cat.ring.ex
  refine ⟨h.own.kept (hg.block s h.own.lt (by intro e; injection e with e; exact hm.ne h.own e)), h.cat.kept fun k hcb => ?_, h.ges⟩
  obtain ⟨mb, hmb, _⟩ := h.cat.map
  rcases hcb with rfl | rfl | hcb
  · exact hg.block _ hk.lt (by intro e; injection e with e; exact hm.ne hk e)
  · exact hg.block _ hmb.lt (by intro e; injection e with e; exact hne e.symm)
  · obtain ⟨⟨p, k', v'⟩, hp, rfl⟩ := List.mem_map.1 hcb
    exact hg.block _ (he p k' v' hp).lt (by intro e; injection e with e; exact hm.ne (he p k' v' hp) e)
theorem MapAt.grown {w w' : World} {P : Program} {kt : TypeId} {mt mu N : Nat} {mm : Lit → Option Value} (h : MapAt w P kt mt mm N) (hne : mu ≠ mt) (hg : w.grownBy w' (some mu)) : MapAt w' P kt mt mm N :=
  h.kept (hg.block mt h.lt (by intro e; injection e with e; exact hne e.symm))
/-- What the law knows behind so many keys. -/
structure SJ (w wr : World) (s g b mt size : Nat) (P : List Int) (es : List KI.En) (f m : Int) (mm : Lit → Option Value) (N : Nat) (T : Int → Int) : Prop where
  seen : KI.SAt wr w.heap.size s g b size es f m
  map : MapAt wr Try.prog 3 mt mm N
  mge : w.heap.size ≤ mt
  mne : mt ≠ b
  few : N ≤ P.length
  kvs : KI.kv es = ((mru P).take size).map fun k => (k, T k)
  has : ∀ k, InI k → mm (.int .i64 k) = if k ∈ P then some (.int .i64 (T k)) else none
  cnt : ∀ k ∈ P, 1 ≤ T k ∧ T k ≤ P.length
  rng : ∀ k ∈ P, InI k
  ff : 0 ≤ f ∧ f ≤ 2 * P.length
  fm : 0 ≤ m ∧ m ≤ P.length
  up : Below w.heap.size w wr
/-- The keys among the last ones. -/
structure UJ (wr : World) (mu : Nat) (S : List Int) (mm : Lit → Option Value) (N : Nat) : Prop where
  map : MapAt wr Try.prog 3 mu mm N
  num : N = (mru S).length
  has : ∀ k, InI k → (k ∉ S ∧ mm (.int .i64 k) = none) ∨ (k ∈ S ∧ ∃ c : Nat, 1 ≤ c ∧ c ≤ S.length ∧ mm (.int .i64 k) = some (.int .i64 (c : Int)))
section
variable {w wr wr' : World} {s g b mt mu size N M : Nat} {P S : List Int} {es : List KI.En} {f m : Int} {mm mu' : Lit → Option Value} {T : Int → Int}
theorem SJ.below (h : SJ w wr s g b mt size P es f m mm N T) (hb : Below wr.heap.size wr wr') : SJ w wr' s g b mt size P es f m mm N T :=
  { h with seen := h.seen.below hb, map := h.map.below hb, up := bell_up h.up hb }
theorem SJ.grown {Q : Program} {kt : TypeId} (h : SJ w wr s g b mt size P es f m mm N T) (hm : MapAt wr Q kt mu mu' M) (h1 : mu ≠ b) (h2 : mu ≠ mt) (h3 : w.heap.size ≤ mu) (hg : wr.grownBy wr' (some mu)) : SJ w wr' s g b mt size P es f m mm N T :=
  { h with seen := h.seen.mapped hm h1 hg, map := h.map.grown h2 hg, up := h.up.grown hg h.up.size (by rintro q ⟨⟩; exact h3) }
theorem UJ.start (w : World) : UJ (w.alloc (.map #[] 0)) w.heap.size [] (fun _ => none) 0 := ⟨MapAt.made _ _ _, rfl, fun k _ => .inl ⟨by simp, rfl⟩⟩
theorem UJ.zero (h : UJ wr mu S mu' M) {x : Int} (hx : InI x) : (Instr.lookup 54 (.map (some mu)) (.int .i64 x) false).run Try.prog wr = .ok (((mu' (.int .i64 x))).getD (.int .i64 0)) wr :=
  h.map.look KI.Try.keyed Try.underlying54 (Try.zeroI wr) false (key_int x hx)
/-- How often a key was counted. -/
def cntOf (mu' : Lit → Option Value) (x : Int) : Int := match mu' (.int .i64 x) with
  | some (.int .i64 c) => c
  | _ => 0
theorem UJ.look (h : UJ wr mu S mu' M) {x : Int} (hx : InI x) : (Instr.lookup 54 (.map (some mu)) (.int .i64 x) false).run Try.prog wr = .ok (.int .i64 (cntOf mu' x)) wr ∧ 0 ≤ cntOf mu' x ∧ cntOf mu' x ≤ S.length ∧ (cntOf mu' x = 0 ↔ x ∉ S) := by
  have hz := h.zero hx
  rcases h.has x hx with ⟨h1, h2⟩ | ⟨h1, c, h2, h3, h4⟩
  · have e : cntOf mu' x = 0 := by unfold cntOf; rw [h2]
    rw [e]
    rw [h2] at hz
    exact ⟨hz, by omega, by omega, by simp [h1]⟩
  · have e : cntOf mu' x = (c : Int) := by unfold cntOf; rw [h4]
    rw [e]
    rw [h4] at hz
    refine ⟨hz, by omega, by omega, ?_⟩
    have : c ≠ 0 := by omega
    simp [h1, this]
theorem UJ.put (h : UJ wr mu S mu' M) {x : Int} (hx : InI x) (hm : MapAt wr' Try.prog 3 mu (mset mu' (.int .i64 x) (some (.int .i64 (cntOf mu' x + 1)))) (if (mu' (.int .i64 x)).isSome then M else M + 1)) :
    UJ wr' mu (x :: S) (mset mu' (.int .i64 x) (some (.int .i64 (cntOf mu' x + 1)))) (if (mu' (.int .i64 x)).isSome then M else M + 1) := by
  refine ⟨hm, ?_, fun k hk => ?_⟩
  · rw [mru_cons, h.num]
    rcases h.has x hx with ⟨h1, h2⟩ | ⟨h1, c, h2, h3, h4⟩
    · rw [h2, if_neg (by simp), if_neg (by rw [mem_mru]; exact h1)]
      simp
    · rw [h4, if_pos (by simp), if_pos (by rw [mem_mru]; exact h1)]
  · have hl := (h.look hx).2
    by_cases hkx : k = x
    · subst hkx
      rw [mset_same (KI.Try.keyed.key (key_int k hk))]
      refine .inr ⟨by simp, (cntOf mu' k + 1).toNat, by omega, ?_, ?_⟩
      · simp only [List.length_cons]; omega
      · rw [show (((cntOf mu' k + 1).toNat : Nat) : Int) = cntOf mu' k + 1 by omega]
    · rw [mset_other (by intro e; injection e with _ e; exact hkx e)]
      rcases h.has k hk with ⟨h1, h2⟩ | ⟨h1, c, h2, h3, h4⟩
      · exact .inl ⟨by simp [hkx, h1], h2⟩
      · exact .inr ⟨by simp [h1], c, h2, by simp only [List.length_cons]; omega, h4⟩
theorem SJ.look (h : SJ w wr s g b mt size P es f m mm N T) {x : Int} (hx : InI x) : (Instr.lookup 54 (.map (some mt)) (.int .i64 x) false).run Try.prog wr = .ok (if x ∈ P then .int .i64 (T x) else .int .i64 0) wr := by
  have := h.map.look KI.Try.keyed Try.underlying54 (Try.zeroI wr) false (key_int x hx)
  rw [h.has x hx] at this
  rw [this]
  by_cases hp : x ∈ P
  · rw [if_pos hp, if_pos hp]; rfl
  · rw [if_neg hp, if_neg hp]; rfl
end
end Go.Proofs.Ytefllbmopaiojaa
