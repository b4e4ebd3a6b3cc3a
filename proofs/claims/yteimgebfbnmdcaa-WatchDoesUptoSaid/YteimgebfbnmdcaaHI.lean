/- The tuples of a set, one by one: maps.Keys. -/
import Derived.Test.YteimgebfbnmdcaaHH
import Derived.RangeFuncNested
import Derived.RangeFuncBound
import Derived.RangeFuncCalls
import Derived.RangeFuncLeaves
import Derived.RangeFuncBox
import Derived.RangeFuncStops
import Derived.Shelf.Abstract
import Derived.Shelf.RegionOpen
import Derived.OwnWalkIn
import Derived.TacticsInMore
import Derived.LoopNIn
import Derived.LoopIn
import Derived.Sort.MapsRangeIn
namespace Go.Proofs.Yteimgebfbnmdcaa
open Go.RowKit Go.Shelf
open Go.Maps (Keyed)
attribute [local go_sem] Oper.semAt_some

/-- What has come of a set, and what is left. -/
structure Came (S : List Tp) (left : Lit → Bool) (ss : List Tp) : Prop where
  nd : ss.Nodup
  sub : ∀ t ∈ ss, t ∈ S
  left_ : ∀ t ∈ S, left (kT t) = true ↔ t ∉ ss
theorem Came.perm {S : List Tp} {left : Lit → Bool} {ss : List Tp} (h : Came S left ss) (hn : S.Nodup) (hl : ∀ kl, left kl = false) : ss.Perm S :=
  (List.perm_ext_iff_of_nodup h.nd hn).2 fun t => ⟨h.sub t, fun ht => Decidable.not_not.1 (fun h2 => by have := (h.left_ t ht).2 h2; rw [hl] at this; cases this)⟩
theorem Came.step {S : List Tp} {left : Lit → Bool} {ss : List Tp} (h : Came S left ss) (hf : ∀ t ∈ S, t.fits) {t : Tp} (ht : t ∈ S) (hl : left (kT t) = true) : Came S (fun z => left z && !z.sameKey (kT t)) (ss ++ [t]) := by
  have hnt := (h.left_ t ht).1 hl
  refine ⟨List.nodup_append.2 ⟨h.nd, by simp, fun a ha b hb e => by rw [List.mem_singleton] at hb; rw [e, hb] at ha; exact hnt ha⟩, fun x hx => ?_, fun x hx => ?_⟩
  · rcases List.mem_append.1 hx with hx | hx
    · exact h.sub x hx
    · rw [List.mem_singleton] at hx; rw [hx]; exact ht
  · rw [List.mem_append, List.mem_singleton, Bool.and_eq_true, Bool.not_eq_true', h.left_ x hx]
    constructor
    · rintro ⟨h1, h2⟩ (h3 | h3)
      · exact h1 h3
      · rw [h3, WideAt.sameKey_self (kT_lit t)] at h2; cases h2
    · intro h3
      refine ⟨fun h4 => h3 (.inl h4), ?_⟩
      cases hs : (kT x).sameKey (kT t) with
      | false => rfl
      | true => exact absurd (kT_inj (hf x hx) (hf t ht) (WideAt.sameKey_eq hs)) (fun e => h3 (.inr e))
set_option maxRecDepth 100000 in
set_option maxHeartbeats 4000000 in
theorem keys1_in (F : Fence) (n : Nat) (h1 : F.fn 61) (hro : F.round = none) (hn : 1 ≤ n) (l Bm b : Nat) (S : List Tp) (J Jx : List Tp → World → Prop)
    (hY : ∀ pre x W, J pre W → pre.length < S.length → YieldAt F (n - 1) Try.prog l #[tpV x] W fun e W' =>
      (e = .returned (.bool true) ∧ J (pre ++ [x]) W' ∧ KeepsWalks W W') ∨ (e = .returned (.bool false) ∧ Jx (pre ++ [x]) W'))
    (W : World) (hJ : AbidesFrom W.heap.size J) (hm : W.cell? ⟨Bm, 0, none⟩ = some (.map (some b))) (hS : SetAt W b S) (h0 : J [] W) :
    CallsIn F n Try.prog 61 #[.func (.yield l) #[] #[], .pointer (some ⟨Bm, 0, none⟩)] W fun e W' => (∃ v, e = .returned v) ∧
      ((∃ ss : List Tp, ss.Perm S ∧ J ss W') ∨ (∃ pre : List Tp, Jx pre W')) := by
  obtain ⟨m, ⟨D, hown, hsz, hv⟩, h2, h3, h4⟩ := hS.map
  have hfits := hS.fits
  have hnd := hS.nd
  have hhas : ∀ {key : Value} {kl : Lit}, keyOf Try.prog 47 key = some kl → Maps.has D kl = (m kl).isSome := fun {key kl} hk => by rw [(mview_eq hown keyT Try.underlying68 (zeroU W) false hk).2, hv]
  have HS : Hid (Came S (Maps.has D) []) := ⟨List.nodup_nil, fun t h => by (cases h), fun t ht => by rw [hhas (keyT_of (hfits t ht)), h2 t (hfits t ht)]; simp [ht]⟩
  have HK : Hid (∀ {key : Value} {kl : Lit}, keyOf Try.prog 47 key = some kl → Maps.has D kl = true → ∃ t ∈ S, key = tpV t ∧ kl = kT t) := fun {key kl} hk hh => by
    rw [hhas hk] at hh
    obtain ⟨t, ht, e⟩ := h3 kl hh
    subst e
    exact ⟨t, ht, keyT.inj hk (keyT_of (hfits t ht)), rfl⟩
  have HF : Hid _ := hfits
  have HN : Hid _ := hnd
  clear hv h2 h3 h4 hhas hfits hnd hS
  refine callsIn_of_wp Try.func61 rfl h1 ?_ hro
  simp only [Try.ntmps61, List.size_toArray, List.length_cons, List.length_nil, Nat.reduceAdd, Nat.reduceSub, Array.replicate_succ, Array.replicate_zero, List.push_toArray, List.append_toArray, List.nil_append, List.cons_append]
  gi_wp2_with (first
    | (gi_at_range; refine wpListIn_range_own _ rfl _ 68 rfl 47 93 keyT Try.underlying68 heldR b S.length D rfl hown ?_; intro w0 hrg0 hg0 hs0)
    | gi_in)
  go_frame
  gi_loopw [3] (fun _ wr => ∃ (left : Lit → Bool) (cnt : Nat) (ss : List Tp), wr.ranges Try.prog 47 heldR b W.heap.size S.length D left cnt ∧ ss.length + cnt ≤ S.length ∧ (∀ kl, left kl = true → Maps.has D kl = true) ∧ Hid (Came S left ss) ∧ J ss wr)
    (fun _ wr => wr.rangeLeft b W.heap.size)
  case atStart =>
    exact ⟨_, _, [], hrg0, by simp [hsz], fun kl h => h, HS, hJ [] W w0 none h0 hg0 (fun r e => by cases e)⟩
  case round =>
    obtain ⟨left, cnt, ss, hrg, hcs, hlh, hC, hJs⟩ := hrel
    gi_wp2_with (first
      | (gi_at_next; refine wpListIn_next_ranges _ rfl _ rfl 47 keyT heldR id id (fun key kl hk => ⟨key, rfl⟩) (fun v _ _ => ⟨v, rfl⟩) b W.heap.size S.length _ _ _ rfl hrg ?_ ?_)
      | gi_in)
    · intro hc0 hl0
      gi_wp2
      go_end0
      exact ⟨⟨_, rfl⟩, .inl ⟨ss, hC.out.perm HN.out hl0, hJs⟩⟩
    · intro x c kl yd yp w2 cnt2 hkey hlk hv hat hrg2 hlt hg2 hs2 hen
      obtain ⟨t, htS, hx, rfl⟩ := HK.out hkey (hlh _ hlk)
      have hx2 : x = tpV t := hx
      subst hx2
      have hJ2 : J ss w2 := hJ ss wr w2 (some W.heap.size) hJs hg2 (fun r e => by cases e; exact ⟨Nat.le_refl _, hrg.iter_walk⟩)
      have hJ3 : J ss (w2.alloc (.cells #[.string t.o, .string t.r, .string t.u] 47)) := hJ ss w2 _ none hJ2 (World.grownBy_alloc _ _ none) (fun r e => by cases e)
      obtain ⟨fn, tmps, assign, body, hy, hR⟩ := hY ss t _ hJ3 (by omega)
      clear hs2
      gi_wp2
      refine hR.mono ?_
      have hC2 : Hid (Came S (fun z => left z && !z.sameKey (kT t)) (ss ++ [t])) := hC.out.step HF.out htS hlk
      rintro e W3 (⟨rfl, hJ4, hk3⟩ | ⟨rfl, hJx3⟩)
      · gi_wp2
        have hrg3 := (hrg2.alloc (.cells #[.string t.o, .string t.r, .string t.u] 47)).of_walks hk3
        go_roundw
        case rel => exact ⟨_, cnt2, ss ++ [t], hrg3, by simp; omega, fun kl h => hlh kl (by simp at h; exact h.1), hC2, hJ4⟩
        case measure => rw [hrg3.left_eq, hrg.left_eq]; exact hlt
      · gi_wp2
        refine bodyPost_ret (results_none rfl _ _ _) rfl ?_
        exact ⟨⟨_, rfl⟩, .inr ⟨ss ++ [t], hJx3⟩⟩
end Go.Proofs.Yteimgebfbnmdcaa
