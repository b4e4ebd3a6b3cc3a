/- CoordOwes: the law's own map; what each call does to the one transaction. CoordOwes: what each call does, and the law's state. -/
import Derived.Test.YtkailiifgdjgmaaGreatWe
namespace Go.Proofs.YtkailiifgdjgmaaGreat
open Go.RowKit
open Go.Maps (Keyed)

theorem shas_sadd {s : Nat} {n : Int} (hn : isN n) (k : Int) : shas (sadd s n) k = (decide (k = n) || shas s k) := by
  by_cases hk : isN k
  · rw [shas_bit _ hk, shas_bit _ hk, sadd, if_pos hn, Nat.testBit_or, Nat.testBit_two_pow, Bool.or_comm]
    congr 1
    apply decide_eq_decide.2
    obtain ⟨h1, h2⟩ := hn
    obtain ⟨h3, h4⟩ := hk
    omega
  · rw [shas_no _ hk, shas_no _ hk]
    have : ¬ k = n := by rintro rfl; exact hk hn
    simp [this]
theorem shas_swo (s : Nat) (n k : Int) : shas (swo s n) k = (shas s k && !decide (k = n)) := by
  by_cases hk : isN k
  · rw [shas_bit _ hk, shas_bit _ hk, swo_bit s n (by have := hk.1; have := hk.2; omega)]
    congr 2
    apply decide_eq_decide.2
    obtain ⟨h3, h4⟩ := hk
    omega
  · rw [shas_no _ hk, shas_no _ hk]; rfl
theorem shas_sset (l : List Int) {k : Int} (hk : isN k) : shas (sset l) k = decide (k ∈ l) := by
  rw [shas_bit _ hk, sset_bit (by have := hk.1; have := hk.2; omega)]
  apply decide_eq_decide.2
  rw [show ((k.toNat : Nat) : Int) = k by have := hk.1; omega]
theorem set_ext {s t : Nat} (hs : s < 256) (ht : t < 256) (h : ∀ k, isN k → shas s k = shas t k) : s = t := bits_eq hs ht fun k hk => by
  have hn : isN (k : Int) := ⟨by omega, by omega⟩
  have := h k hn
  rw [shas_bit _ hn, shas_bit _ hn] at this
  simpa using this
theorem Tryz.zeroBo (w : World) : (zeroValue 4).run Tryz.prog w = .ok (.bool false) w := by kernel_rfl
theorem Tryz.keyI : Keyed Tryz.prog 3 := Go.Maps.int_keyed Tryz.underlying3
theorem key_int (k : Int) (h : InI k) : keyOf Tryz.prog 3 (Value.int .i64 k) = some (.int .i64 k) := Go.Maps.keyOf_int_mk Tryz.underlying3 (by unfold InI at h; simp [Lit.wf, IntKind.min, IntKind.max, IntKind.signed, IntKind.bits]; omega)
theorem mset_i (m : Lit → Option Value) (id k : Int) (hid : InI id) (v : Option Value) : mset m (.int .i64 id) v (.int .i64 k) = if k = id then v else m (.int .i64 k) := by
  by_cases h : k = id
  · subst h
    rw [if_pos rfl]
    exact mset_same (Tryz.keyI.key (key_int k hid))
  · rw [if_neg h]
    exact mset_other (by intro e; injection e with _ e; exact h e)
/-- The law's map holds just these nodes. -/
def LSet (w : World) (lb s : Nat) : Prop := s < 256 ∧ ∃ mm, MapAt w Tryz.prog 3 lb mm (card s) ∧ ∀ k, InI k → mm (.int .i64 k) = if shas s k then some (.bool true) else none
section
variable {w w' : World} {lb s : Nat}
theorem LSet.made (w : World) : LSet (w.alloc (.map #[] 0)) w.heap.size 0 := ⟨by omega, _, MapAt.made w Tryz.prog 3, fun k _ => by rw [if_neg (by simp [shas])]⟩
theorem LSet.kept (h : LSet w lb s) (hb : w'.heap[lb]? = w.heap[lb]?) : LSet w' lb s := by
  obtain ⟨h0, mm, h1, h2⟩ := h
  exact ⟨h0, mm, h1.kept hb, h2⟩
theorem LSet.lt (h : LSet w lb s) : lb < w.heap.size := by
  obtain ⟨h0, mm, h1, h2⟩ := h
  exact h1.lt
theorem LSet.below (h : LSet w lb s) (hb : Below w.heap.size w w') : LSet w' lb s := h.kept (hb.block _ h.lt)
theorem LSet.put {mm : Lit → Option Value} {N : Nat} (h0 : s < 256) (hf : ∀ k, InI k → mm (.int .i64 k) = if shas s k then some (.bool true) else none) {n : Int} (hn : isN n) (hm : MapAt w' Tryz.prog 3 lb (mset mm (.int .i64 n) (some (.bool true))) N) (hN : N = if (mm (.int .i64 n)).isSome then card s else card s + 1) : LSet w' lb (sadd s n) := by
  have hi : InI n := ⟨by have := hn.1; omega, by have := hn.2; omega⟩
  have hc : N = card (sadd s n) := by
    rw [hN, hf n hi, card_add h0 hn]
    cases shas s n <;> rfl
  subst hc
  refine ⟨sadd_lt h0 n, _, hm, fun k hk => ?_⟩
  rw [mset_i _ _ _ hi, hf k hk, shas_sadd hn]
  by_cases h : k = n
  · simp [h]
  · simp [h]
theorem LSet.drop {mm : Lit → Option Value} {N : Nat} (h0 : s < 256) (hf : ∀ k, InI k → mm (.int .i64 k) = if shas s k then some (.bool true) else none) {n : Int} (hi : InI n) (hm : MapAt w' Tryz.prog 3 lb (mset mm (.int .i64 n) none) N) (hN : N = if (mm (.int .i64 n)).isSome then card s - 1 else card s) : LSet w' lb (swo s n) := by
  have hc : N = card (swo s n) := by
    rw [hN, hf n hi]
    by_cases hn : isN n
    · rw [card_wo h0 hn]
      cases shas s n <;> rfl
    · rw [swo_no h0 hn, shas_no _ hn]; rfl
  subst hc
  refine ⟨swo_lt h0 n, _, hm, fun k hk => ?_⟩
  rw [mset_i _ _ _ hi, hf k hk, shas_swo]
  by_cases h : k = n
  · simp [h]
  · simp [h]
end
/-- The transaction is Active: all its nodes, those that haven't promised. -/
structure VoI (c : Co) (id : Int) (S lf : Nat) : Prop where
  bal : c.bal id = some (S, lf)
  deb : c.deb = []
  don : c.don id = none
  com : c.com = 0
theorem VoI.vote {c : Co} {id n : Int} {S lf : Nat} (h : VoI c id S lf) (hs : shas S n = true) : (cvote c id n true).1 = 0 ∧ VoI (cvote c id n true).2 id S (swo lf n) := by
  unfold cvote
  rw [h.bal]
  simp only [hs, if_true]
  exact ⟨trivial, by simp [updF], h.deb, h.don, h.com⟩
/-- It is Committed at 9. -/
structure AkI (c : Co) (id : Int) (S lf : Nat) : Prop where
  bal : c.bal id = none
  deb : c.deb = [⟨id, S, lf, 0, 9⟩]
  don : c.don id = none
theorem VoI.commit {c : Co} {id : Int} {S : Nat} (hS : S < 256) (h : VoI c id S 0) : AkI (ctake c (oC 6 id 9 (slist S))) id S S := by
  have hst : (stat c id).1 = 1 := by unfold stat; rw [h.bal]
  unfold ctake
  rw [if_neg (by simp [oC]), if_pos ⟨rfl, .inr hst⟩]
  refine ⟨by simp [updF, oC], ?_, h.don⟩
  show c.deb ++ [_] = _
  rw [h.deb, h.com]
  simp [oC, sset_slist hS]
theorem AkI.dget {c : Co} {id : Int} {S lf : Nat} (h : AkI c id S lf) : dget c.deb id = some ⟨id, S, lf, 0, 9⟩ := by rw [h.deb]; simp [Go.Proofs.YtkailiifgdjgmaaGreat.dget]
end Go.Proofs.YtkailiifgdjgmaaGreat

namespace Go.Proofs.YtkailiifgdjgmaaGreat
open Go.RowKit
open Go.Maps (Keyed)

/-- It is Done at 9. -/
structure DnI (c : Co) (id : Int) : Prop where
  bal : c.bal id = none
  deb : c.deb = []
  don : c.don id = some 9
theorem AkI.ack {c : Co} {id : Int} {S lf : Nat} (h : AkI c id S lf) (lf' : Nat) : AkI (cack c id lf') id S lf' := by
  refine ⟨h.bal, ?_, h.don⟩
  show dset c.deb id lf' = _
  rw [h.deb]
  simp [dset]
theorem AkI.done {c : Co} {id : Int} {S lf : Nat} (h : AkI c id S lf) : DnI (ctake c (oC 7 id 0 [])) id := by
  have hst : stat c id = (2, 9) := by unfold stat; rw [h.bal, h.dget]
  unfold ctake
  rw [if_neg (by simp [oC]), if_neg (by simp [oC]), if_pos ⟨rfl, by rw [show (oC 7 id 0 []).id = id from rfl, hst]⟩]
  refine ⟨h.bal, ?_, ?_⟩
  · show (c.deb.filter _) = []
    rw [h.deb]
    simp [oC]
  · show updF c.don id (some (stat c id).2) id = some 9
    rw [hst]
    simp [updF]
section
variable {w w' wr : World} {B gc gl b1 b2 b3 g r lb : Nat} {v : Value} {c : Co} {ms : List MsgD}
theorem ack_owes (w : World) (h : CS w B gc gl b1 b2 b3 g v c ms r) {id : Int} (hid : InI id) {S lf : Nat} (hA : AkI c id S lf) (hfit : (cat ms).length + 148 ≤ r) (n : Int) (hn : InI n) :
    Calls Tryz.prog 15 #[.pointer (some ⟨gc, 0, none⟩), .int .i64 id, .int .i64 n] w fun e w' => ∃ (k : Int) (v' : Value) (c' : Co) (ms' : List MsgD), e = .returned (.int .i64 k) ∧ CS w' B gc gl b1 b2 b3 g v' c' ms' r ∧ Chg w w' (SB gc gl b1 b2 b3 g v) ∧
      ((shas S n = false ∧ k ≠ 0 ∧ AkI c' id S lf ∧ ms' = ms) ∨ (shas S n = true ∧ k = 0 ∧ swo lf n ≠ 0 ∧ AkI c' id S (swo lf n) ∧ ms' = ms) ∨ (shas S n = true ∧ k = 0 ∧ swo lf n = 0 ∧ DnI c' id)) := by
  refine (ack_any w h id n hid hn).mono ?_
  rintro e w' ⟨k, rfl, ⟨h1, h2, h3⟩ | ⟨d, _, hd, hs, h2⟩⟩
  · rcases h1 with ⟨h1, _⟩ | ⟨_, h4, h5⟩
    · exact absurd hA.don h1
    · refine ⟨k, v, c, ms, rfl, h2, Chg.ofBelow _ h3, .inl ⟨?_, h4, hA, rfl⟩⟩
      cases hsn : shas S n with
      | false => rfl
      | true => exact absurd ⟨_, hA.dget, hsn⟩ h5
  · rw [hA.dget] at hd
    injection hd with hd
    subst hd
    rcases h2 with ⟨h3, rfl, h4, h5⟩ | ⟨h3, ⟨rfl, _, v', h4, h5⟩ | ⟨_, hlt, _⟩⟩
    · exact ⟨0, v, _, ms, rfl, h4, h5, .inr (.inl ⟨hs, rfl, h3, hA.ack _, rfl⟩)⟩
    · exact ⟨0, v', _, _, rfl, h4, h5, .inr (.inr ⟨hs, rfl, h3, (hA.ack 0).done⟩)⟩
    · exfalso
      have := oc_rcd (k := 7) (id := id) (rev := 0) (ns := []) ⟨by omega, by omega⟩ hid ⟨by omega, by omega⟩ (by simp) (by simp)
      omega
theorem ack_done (w : World) (h : CS w B gc gl b1 b2 b3 g v c ms r) {id : Int} (hid : InI id) (hA : DnI c id) (n : Int) (hn : InI n) :
    Calls Tryz.prog 15 #[.pointer (some ⟨gc, 0, none⟩), .int .i64 id, .int .i64 n] w fun e w' => e = .returned (.int .i64 0) ∧ CS w' B gc gl b1 b2 b3 g v c ms r ∧ Below w.heap.size w w' := by
  refine (ack_any w h id n hid hn).mono ?_
  rintro e w' ⟨k, rfl, ⟨h1, h2, h3⟩ | ⟨d, h0, _⟩⟩
  · rcases h1 with ⟨_, rfl⟩ | ⟨h4, _⟩
    · exact ⟨rfl, h2, h3⟩
    · rw [hA.don] at h4; cases h4
  · rw [hA.don] at h0; cases h0
theorem CS.map_other {m : Lit → Option Value} {N : Nat} {P : Program} {K : TypeId} (h : CS w B gc gl b1 b2 b3 g v c ms r) (hm : MapAt w P K lb m N) (hb : lb ≠ b1 ∧ lb ≠ b2 ∧ lb ≠ b3) : ¬ SB gc gl b1 b2 b3 g v lb := by
  have hl : Lg w B gl g v (cat ms) (cat ms).length r ms.length := h.log
  have hd : Whole w g 73 _ := hl.disk.blk
  rintro (h6 | h6 | h6 | h6 | h6 | h6 | h6)
  · exact hm.ne hl.lg h6.symm
  · exact hm.ne hd h6.symm
  · obtain ⟨_, cur, hW⟩ := owned_block hl.disk.own h6
    exact hm.ne hW rfl
  · exact hm.ne h.co.own h6.symm
  · exact hb.1 h6
  · exact hb.2.1 h6
  · exact hb.2.2 h6
/-- A change of the law's map alone. -/
theorem CS.map_grown {m : Lit → Option Value} {N : Nat} {P : Program} {K : TypeId} (h : CS w B gc gl b1 b2 b3 g v c ms r) (hm : MapAt w P K lb m N) (hb : lb ≠ b1 ∧ lb ≠ b2 ∧ lb ≠ b3) (hg : w.grownBy w' (some lb)) : CS w' B gc gl b1 b2 b3 g v c ms r := by
  have hl : Lg w B gl g v (cat ms) (cat ms).length r ms.length := h.log
  have hno := h.map_other hm hb
  have hk : ∀ k, SB gc gl b1 b2 b3 g v k → w'.heap[k]? = w.heap[k]? := fun k hk => hg.block k (h.ge hk).2 (by intro e; injection e with e; subst e; exact hno hk)
  have hd : Whole w g 73 _ := hl.disk.blk
  refine ⟨⟨hl.lg.kept (hk _ (.inl rfl)), hl.ge, ⟨hd.kept (hk _ (.inr (.inl rfl))), hl.disk.ge, owns_keep hl.disk.own fun j hj => hk _ (.inr (.inr (.inl hj))), hl.disk.byte, hl.disk.hd, hl.disk.hr, hl.disk.hm⟩⟩, h.co.kept fun k hk2 => hk k (.inr (.inr (.inr hk2))), h.fine, h.few⟩
/-- The law's state: the coordinator, the map of the nodes that are left. -/
structure OL (w wr : World) (gc gl b1 b2 b3 g : Nat) (v : Value) (c : Co) (ms : List MsgD) (lb s : Nat) : Prop where
  cs : CS wr w.heap.size gc gl b1 b2 b3 g v c ms 5000
  bel : Below w.heap.size w wr
  map : LSet wr lb s
  ne : lb ≠ b1 ∧ lb ≠ b2 ∧ lb ≠ b3
  lge : w.heap.size ≤ lb
variable {s : Nat}
theorem OL.below (h : OL w wr gc gl b1 b2 b3 g v c ms lb s) (hb : Below wr.heap.size wr w') : OL w w' gc gl b1 b2 b3 g v c ms lb s := ⟨h.cs.below hb, h.bel.trans (hb.mono h.bel.size), h.map.below hb, h.ne, h.lge⟩
theorem OL.chg {v' : Value} {c' : Co} {ms' : List MsgD} (h : OL w wr gc gl b1 b2 b3 g v c ms lb s) (hc : CS w' w.heap.size gc gl b1 b2 b3 g v' c' ms' 5000) (hch : Chg wr w' (SB gc gl b1 b2 b3 g v)) : OL w w' gc gl b1 b2 b3 g v' c' ms' lb s := by
  obtain ⟨_, mm, hm, _⟩ := h.map
  exact ⟨hc, h.bel.trans (h.cs.sb_below hch), h.map.kept (hch.block lb h.map.lt (h.cs.map_other hm h.ne)), h.ne, h.lge⟩
theorem OL.grown {s' : Nat} (h : OL w wr gc gl b1 b2 b3 g v c ms lb s) (hm : LSet w' lb s') (hg : wr.grownBy w' (some lb)) : OL w w' gc gl b1 b2 b3 g v c ms lb s' := by
  obtain ⟨_, mm, h1, _⟩ := h.map
  exact ⟨h.cs.map_grown h1 h.ne hg, h.bel.grown hg h.bel.size (fun k hk => by cases hk; exact h.lge), hm, h.ne, h.lge⟩
end
theorem foldl_swo (l : List Int) : ∀ S k, shas (l.foldl swo S) k = (shas S k && !decide (k ∈ l)) := by
  induction l with
  | nil => intro S k; simp
  | cons x l ih =>
    intro S k
    rw [List.foldl_cons, ih, shas_swo]
    by_cases h : k = x
    · simp [h]
    · simp [h]
theorem foldl_swo_lt (l : List Int) : ∀ {S : Nat}, S < 256 → l.foldl swo S < 256 := by
  induction l with
  | nil => intro S h; exact h
  | cons x l ih => intro S h; exact ih (swo_lt h x)
theorem foldl_swo_zero (l : List Int) : l.foldl swo (sset l) = 0 := by
  refine set_ext (foldl_swo_lt l (sset_lt l)) (by omega) fun k hk => ?_
  rw [foldl_swo, shas_sset l hk]
  have h0 : shas 0 k = false := by simp [shas]
  rw [h0]
  simp
end Go.Proofs.YtkailiifgdjgmaaGreat
