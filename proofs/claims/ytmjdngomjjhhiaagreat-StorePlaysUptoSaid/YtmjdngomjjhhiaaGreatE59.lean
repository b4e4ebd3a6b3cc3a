/- What was read at a revision, kept beside a store. -/
import Derived.Test.YtmjdngomjjhhiaaGreatEy
namespace Go.Proofs.YtmjdngomjjhhiaaGreat
open Go.RowKit
open Go.Maps (Keyed)

/-- Who had it: some one order. -/
def pick (M : SM) (o r : ByteArray) (rev : Int) : List Tp := M.K.filter fun t => decide (t.o = o ∧ t.r = r) && spThere (M.sp t) rev
theorem pick_ok {M : SM} (h : M.K.Nodup) (o r : ByteArray) (rev : Int) : UsersOk M o r rev (pick M o r rev) := by
  refine ⟨h.filter _, fun t => ?_⟩
  unfold pick
  rw [List.mem_filter]
  simp
/-- The texts that were read. -/
def readS (M : SM) (o r : ByteArray) (rev : Int) : List (List UInt8) := sortS (uOf (pick M o r rev))
theorem users_read {M : SM} (h : M.K.Nodup) {o r : ByteArray} {rev : Int} {ts : List Tp} (hu : UsersOk M o r rev ts) : sortS (uOf ts) = readS M o r rev := by
  have hp : ts.Perm (pick M o r rev) := (List.perm_ext_iff_of_nodup hu.nd (pick_ok h o r rev).nd).2 fun t => by rw [hu.mem, (pick_ok h o r rev).mem]
  exact sortS_perm (hp.map _)
theorem read_same {M N : SM} (hm : SMOk M) (hn : SMOk N) {o r : ByteArray} {rev : Int} (h : ∀ t, spThere (N.sp t) rev = spThere (M.sp t) rev) : readS N o r rev = readS M o r rev := by
  have hp : (pick N o r rev).Perm (pick M o r rev) := (List.perm_ext_iff_of_nodup (pick_ok hn.nd o r rev).nd (pick_ok hm.nd o r rev).nd).2 fun t => by
    rw [(pick_ok hn.nd o r rev).mem, (pick_ok hm.nd o r rev).mem, hm.mem_iff, hn.mem_iff, h t]
    constructor
    · rintro ⟨_, h1, h2⟩
      refine ⟨fun e => ?_, h1, h2⟩
      rw [e, spThere_nil] at h2; cases h2
    · rintro ⟨_, h1, h2⟩
      refine ⟨fun e => ?_, h1, h2⟩
      rw [← h t, e, spThere_nil] at h2; cases h2
  exact sortS_perm (hp.map _)
theorem read_collect {M : SM} (hm : SMOk M) {o r : ByteArray} {mark rev : Int} (h : mark ≤ rev) : readS (M.collect mark) o r rev = readS M o r rev :=
  read_same hm (hm.collect mark) (fun _ => collect_there h)
theorem read_tried {M : SM} (hm : SMOk M) {o r : ByteArray} {wm rev : Int} {l : List Mu} (hn : SMOk (M.tried wm rev l)) {x : Int} (hx : x < rev) : readS (M.tried wm rev l) o r x = readS M o r x := by
  refine read_same hm hn fun t => ?_
  unfold SM.tried
  by_cases h0 : chkE M wm rev l = 0
  · rw [if_pos h0]
    obtain ⟨h1, _, h3, _⟩ := chkE_zero h0
    exact SM.apply_there hm h1 h3 hx t
  · rw [if_neg h0]
/-- One reading: when, and the row of the texts. -/
structure HR where
  rev : Int
  a : Option Addr
  c : Nat
  ss : List (List UInt8)
def HR.val (x : HR) : Value := .slice x.a x.ss.length x.c
/-- A store, and what was read of it. -/
structure Hs (w wr : World) (g : Nat) (o r : ByteArray) (wm rev : Int) (M : SM) (H : Gh) (cb : Nat) (vw va : Value) (L : List HR) (A : List Int) : Prop where
  st : StAt wr wm M H cb
  hg : H.g = g
  own : ∀ k, H.own k → w.heap.size ≤ k
  bel : Below w.heap.size w wr
  le : wm ≤ rev
  was : wr.ownsRow w.heap.size 30 1 vw L.length (L.map HR.val)
  at_ : wr.ownsRow w.heap.size 2 1 va A.length (A.map (Value.int .i64))
  txt : ∀ x ∈ L, wr.ownsRow w.heap.size 9 1 x.val x.ss.length (x.ss.map encS)
  now : ∀ k, vw.ownBlock = some k → ¬ H.own k
  noa : ∀ k, va.ownBlock = some k → ¬ H.own k
  nox : ∀ x ∈ L, ∀ k, x.val.ownBlock = some k → ¬ H.own k
  val : ∀ x ∈ L, 0 ≤ x.rev ∧ x.rev ≤ rev ∧ (wm ≤ x.rev → x.ss = readS M o r x.rev)
section
variable {w wr w' : World} {g : Nat} {o r : ByteArray} {wm rev wm' rev' : Int} {M M' : SM} {H H' : Gh} {cb cb' : Nat} {vw va : Value} {L : List HR} {A : List Int}
theorem Hs.below (h : Hs w wr g o r wm rev M H cb vw va L A) (hb : Below wr.heap.size wr w') : Hs w w' g o r wm rev M H cb vw va L A :=
  ⟨h.st.below hb, h.hg, h.own, bell_up h.bel hb, h.le, owns_keptN h.was (fun k hk => hb.block k (h.was.lt k hk).2), owns_keptN h.at_ (fun k hk => hb.block k (h.at_.lt k hk).2), fun x hx => owns_keptN (h.txt x hx) (fun k hk => hb.block k ((h.txt x hx).lt k hk).2), h.now, h.noa, h.nox, h.val⟩
theorem Hs.step (h : Hs w wr g o r wm rev M H cb vw va L A) (hs : StAt w' wm' M' H' cb') (c : StC wr w' H H') (h1 : wm' ≤ rev') (h2 : rev ≤ rev') (hk : ∀ x, 0 ≤ x → x ≤ rev → wm' ≤ x → wm ≤ x ∧ readS M' o r x = readS M o r x) : Hs w w' g o r wm' rev' M' H' cb' vw va L A := by
  obtain ⟨l', o'⟩ := c.since h.bel h.own
  refine ⟨hs, c.g.trans h.hg, o', l', h1, owns_keptN h.was (fun k hk => c.chg.block k (h.was.lt k hk).2 (h.now k hk)), owns_keptN h.at_ (fun k hk => c.chg.block k (h.at_.lt k hk).2 (h.noa k hk)), fun x hx => owns_keptN (h.txt x hx) (fun k hk => c.chg.block k ((h.txt x hx).lt k hk).2 (h.nox x hx k hk)),
    fun k hk ho => h.now k hk (c.new k (h.was.lt k hk).2 ho), fun k hk ho => h.noa k hk (c.new k (h.at_.lt k hk).2 ho), fun x hx k hk ho => h.nox x hx k hk (c.new k ((h.txt x hx).lt k hk).2 ho), fun x hx => ?_⟩
  obtain ⟨v1, v2, v3⟩ := h.val x hx
  refine ⟨v1, by omega, fun h3 => ?_⟩
  obtain ⟨k1, k2⟩ := hk x.rev v1 v2 h3
  rw [v3 k1, k2]
theorem Hs.mono (h : Hs w wr g o r wm rev M H cb vw va L A) (hc : cb ≤ cb') : Hs w wr g o r wm rev M H cb' vw va L A :=
  ⟨h.st.mono hc, h.hg, h.own, h.bel, h.le, h.was, h.at_, h.txt, h.now, h.noa, h.nox, h.val⟩
theorem types_ne {W : World} {B1 B2 n1 n2 s1 s2 k : Nat} {v1 v2 : Value} {e1 e2 : TypeId} {l1 l2 : List Value} (h1 : W.ownsRow B1 e1 s1 v1 n1 l1) (h2 : W.ownsRow B2 e2 s2 v2 n2 l2) (hn : e1 ≠ e2) (k1 : v1.ownBlock = some k) : some k ≠ v2.ownBlock := by
  intro e
  obtain ⟨_, _, hW1⟩ := owned_block h1 k1
  obtain ⟨_, _, hW2⟩ := owned_block h2 e.symm
  exact whole_ne hW1 hW2 hn rfl
theorem new_not {v : Value} {B n s k : Nat} {e : TypeId} {l : List Value} {o : Obj} (hlt : ∀ b, H.own b → b < wr.heap.size) (hv : v.ownBlock = vw.ownBlock ∨ v.ownBlock = some (wr.alloc o).heap.size) (hw : ∀ k, vw.ownBlock = some k → ¬ H.own k) (_ : w'.ownsRow B e s v n l) : v.ownBlock = some k → ¬ H.own k := by
  intro hk ho
  rcases hv with h1 | h1
  · exact hw k (h1 ▸ hk) ho
  · rw [h1] at hk
    injection hk with hk
    have := hlt k ho
    simp at hk
    omega
/-- The readings have one more. -/
theorem Hs.pushW (h : Hs w wr g o r wm rev M H cb vw va L A) {x : HR} {v : Value} (hx : wr.ownsRow w.heap.size 9 1 x.val x.ss.length (x.ss.map encS)) (hn : ∀ k, x.val.ownBlock = some k → ¬ H.own k) (hv : 0 ≤ x.rev ∧ x.rev ≤ rev ∧ (wm ≤ x.rev → x.ss = readS M o r x.rev)) {ob : Obj}
    (hw : w'.ownsRow w.heap.size 30 1 v (L.length + 1) (L.map HR.val ++ [x.val])) (hgr : (wr.alloc ob).grownBy w' vw.ownBlock) (hb : v.ownBlock = vw.ownBlock ∨ v.ownBlock = some (wr.alloc ob).heap.size) : Hs w w' g o r wm rev M H cb v va (L ++ [x]) A := by
  have hblk : ∀ k, k < wr.heap.size → some k ≠ vw.ownBlock → w'.heap[k]? = wr.heap[k]? := fun k hk hne => (hgr.block k (by simp; omega) hne).trans ((below_alloc wr ob).block k hk)
  have hot : ∀ k, H.own k → w'.heap[k]? = wr.heap[k]? := fun k hk => hblk k (h.st.raw.own_lt hk) (fun e => h.now k e.symm hk)
  have hbl : Below w.heap.size w w' := (bell_alloc h.bel ob).grown hgr (by have := h.bel.size; simp; omega) (fun q hq => (owned_block h.was hq).1)
  have hsz : wr.heap.size ≤ w'.heap.size := Nat.le_trans (by simp) hgr.size
  refine ⟨⟨h.st.ok, h.st.raw.keep hsz hot⟩, h.hg, h.own, hbl, h.le, by rw [List.length_append, List.map_append]; exact hw, owns_keptN h.at_ (fun k hk => hblk k (h.at_.lt k hk).2 (types_ne h.at_ h.was (by decide) hk)), fun y hy => ?_, fun k hk => new_not (fun b ho => h.st.raw.own_lt ho) hb h.now hw hk, h.noa, fun y hy => ?_, fun y hy => ?_⟩
  · rcases List.mem_append.1 hy with h1 | h1
    · exact owns_keptN (h.txt y h1) (fun k hk => hblk k ((h.txt y h1).lt k hk).2 (types_ne (h.txt y h1) h.was (by decide) hk))
    · rw [List.mem_singleton] at h1
      rw [h1]
      exact owns_keptN hx (fun k hk => hblk k (hx.lt k hk).2 (types_ne hx h.was (by decide) hk))
  · rcases List.mem_append.1 hy with h1 | h1
    · exact h.nox y h1
    · rw [List.mem_singleton] at h1; rw [h1]; exact hn
  · rcases List.mem_append.1 hy with h1 | h1
    · exact h.val y h1
    · rw [List.mem_singleton] at h1; rw [h1]; exact hv
/-- The revisions have one more. -/
theorem Hs.pushA (h : Hs w wr g o r wm rev M H cb vw va L A) {x : Int} {v : Value} {ob : Obj}
    (hw : w'.ownsRow w.heap.size 2 1 v (A.length + 1) (A.map (Value.int .i64) ++ [.int .i64 x])) (hgr : (wr.alloc ob).grownBy w' va.ownBlock) (hb : v.ownBlock = va.ownBlock ∨ v.ownBlock = some (wr.alloc ob).heap.size) : Hs w w' g o r wm rev M H cb vw v L (A ++ [x]) := by
  have hblk : ∀ k, k < wr.heap.size → some k ≠ va.ownBlock → w'.heap[k]? = wr.heap[k]? := fun k hk hne => (hgr.block k (by simp; omega) hne).trans ((below_alloc wr ob).block k hk)
  have hot : ∀ k, H.own k → w'.heap[k]? = wr.heap[k]? := fun k hk => hblk k (h.st.raw.own_lt hk) (fun e => h.noa k e.symm hk)
  have hbl : Below w.heap.size w w' := (bell_alloc h.bel ob).grown hgr (by have := h.bel.size; simp; omega) (fun q hq => (owned_block h.at_ hq).1)
  have hsz : wr.heap.size ≤ w'.heap.size := Nat.le_trans (by simp) hgr.size
  refine ⟨⟨h.st.ok, h.st.raw.keep hsz hot⟩, h.hg, h.own, hbl, h.le, owns_keptN h.was (fun k hk => hblk k (h.was.lt k hk).2 (types_ne h.was h.at_ (by decide) hk)), by rw [List.length_append, List.map_append]; exact hw,
    fun y hy => owns_keptN (h.txt y hy) (fun k hk => hblk k ((h.txt y hy).lt k hk).2 (types_ne (h.txt y hy) h.at_ (by decide) hk)), h.now, fun k hk => new_not (fun b ho => h.st.raw.own_lt ho) hb h.noa hw hk, h.nox, h.val⟩
end
end Go.Proofs.YtmjdngomjjhhiaaGreat
