/- A controller of moves in memory. A controller of moves: its table, its stage; a move that has ended. A controller of moves: a move has ended. A controller of moves: a record has its effect. -/
import Derived.Test.YtbmmgmdjhhnkfaaVa
import Derived.Test.YtbmmgmdjhhnkfaaL7
import Derived.StillTailTactics
namespace Go.Proofs.Ytbmmgmdjhhnkfaa
open Go.RowKit

/-- Only these blocks, and new memory, are other than they were. -/
structure Chg (w w' : World) (P : Nat → Prop) : Prop where
  os : w'.os = w.os
  tape : w'.tape = w.tape
  output : w'.output = w.output
  size : w.heap.size ≤ w'.heap.size
  block : ∀ k, k < w.heap.size → ¬ P k → w'.heap[k]? = w.heap[k]?
theorem Chg.refl (w : World) (P : Nat → Prop) : Chg w w P := ⟨rfl, rfl, rfl, Nat.le_refl _, fun _ _ _ => rfl⟩
theorem Chg.drewN {w w' : World} {P : Nat → Prop} (h : Chg w w' P) (n : Nat) : Chg w (w'.drewN n) P := ⟨h.os, h.tape, h.output, h.size, h.block⟩
theorem Chg.trans {a b c : World} {P : Nat → Prop} (h : Chg a b P) (k : Chg b c P) : Chg a c P :=
  ⟨k.os.trans h.os, k.tape.trans h.tape, k.output.trans h.output, Nat.le_trans h.size k.size, fun i hi hn => (k.block i (Nat.lt_of_lt_of_le hi h.size) hn).trans (h.block i hi hn)⟩
theorem Chg.mono {w w' : World} {P Q : Nat → Prop} (h : Chg w w' P) (hpq : ∀ k, k < w.heap.size → P k → Q k) : Chg w w' Q := ⟨h.os, h.tape, h.output, h.size, fun k hk hn => h.block k hk (fun hp => hn (hpq k hk hp))⟩
theorem Chg.ofBelow {w w' : World} (P : Nat → Prop) (h : Below w.heap.size w w') : Chg w w' P := ⟨h.os, h.tape, h.output, h.size, fun k hk _ => h.block k hk⟩
theorem Chg.below {w w' : World} {P : Nat → Prop} {B : Nat} (h : Chg w w' P) (hP : ∀ k, P k → B ≤ k) (hB : B ≤ w.heap.size) : Below B w w' := ⟨h.os, h.tape, h.output, h.size, fun k hk => h.block k (by omega) (fun hp => by have := hP k hp; omega)⟩
theorem Chg.up {w a b : World} {P : Nat → Prop} (h : Chg w a P) (hb : Below w.heap.size a b) : Chg w b P :=
  ⟨hb.os.trans h.os, hb.tape.trans h.tape, hb.output.trans h.output, Nat.le_trans h.size hb.size, fun k hk hn => (hb.block k hk).trans (h.block k hk hn)⟩
theorem Chg.set {w w' : World} {P : Nat → Prop} (h : Chg w w' P) {b : Nat} (hb : P b) (i : Nat) (u : Value) : Chg w (w'.setCell ⟨b, i, none⟩ u) P :=
  ⟨h.os, h.tape, h.output, by simpa [World.setCell] using h.size, fun k hk hn => (Below.heap_setCell w' ⟨b, i, none⟩ u k (by rintro rfl; exact hn hb)).trans (h.block k hk hn)⟩
theorem Chg.sets {P : Nat → Prop} {b : Nat} (hb : P b) : ∀ (l : List Value) (o : Nat) {w w' : World}, Chg w w' P → Chg w (w'.setCells b o l) P
  | [], _, _, _, h => h
  | v :: l, o, _, _, h => by
    rw [World.setCells]
    exact Chg.sets hb l (o + 1) (h.set hb o v)
theorem bell_up {w W W' : World} (hb : Below w.heap.size w W) (h : Below W.heap.size W W') : Below w.heap.size w W' := hb.trans (h.mono hb.size)
theorem whole_ne {w : World} {g k : Nat} {t u : TypeId} {cs ds : Array Value} (h : Whole w g t cs) (h2 : Whole w k u ds) (hn : t ≠ u) : g ≠ k := by
  rintro rfl
  unfold Whole at h h2
  rw [h] at h2
  injection h2 with h2
  injection h2 with _ h2
  exact hn h2
theorem owned_block {w : World} {base n s k : Nat} {v : Value} {e : TypeId} {l : List Value} (h : w.ownsRow base e s v n l) (hk : v.ownBlock = some k) : base ≤ k ∧ ∃ cur, Whole w k e cur := by
  rcases h.2 with ⟨rfl, _⟩ | ⟨g, cap, cur, rfl, hb, hh, _⟩
  · cases hk
  · have : g = k := by simpa [Value.ownBlock] using hk
    subst this
    exact ⟨hb, cur, hh⟩
/-- A box of so many cells, made anew. -/
theorem box_new (w : World) (t : TypeId) (cs : Array Value) : ∃ X, X = w.alloc (.cells cs t) ∧ Whole X w.heap.size t cs ∧ Below w.heap.size w X := ⟨_, rfl, heap_alloc_new w _, below_alloc w _⟩
/-- A row in the midst of a block is stored. -/
theorem whole_put {g : Nat} {t : TypeId} {Z : List Value} : ∀ (Y X A : List Value) {w : World}, Whole w g t (A ++ (X ++ Z)).toArray → Y.length = X.length → Whole (w.setCells g A.length Y) g t (A ++ (Y ++ Z)).toArray
  | [], X, A, w, h, hl => by
    have : X = [] := List.eq_nil_of_length_eq_zero hl.symm
    subst this
    exact h
  | y :: Y, [], A, w, h, hl => by simp at hl
  | y :: Y, x :: X, A, w, h, hl => by
    rw [World.setCells]
    have h1 := h.store A.length y
    have e : (A ++ (x :: X ++ Z)).toArray.setIfInBounds A.length y = ((A ++ [y]) ++ (X ++ Z)).toArray := by simp
    rw [e] at h1
    have h2 := whole_put Y X (A ++ [y]) h1 (by simpa using hl)
    have e2 : (A ++ [y]).length = A.length + 1 := by simp
    rw [e2] at h2
    have e3 : (A ++ [y]) ++ (Y ++ Z) = A ++ (y :: Y ++ Z) := by simp
    rw [e3] at h2
    exact h2
theorem whole_range {w : World} {g : Nat} {t : TypeId} {A X Z : List Value} (h : Whole w g t (A ++ (X ++ Z)).toArray) : w.rangeAt g A.length X := by
  intro j v hv
  have hj := (List.getElem?_eq_some_iff.1 hv).1
  rw [h.cell]
  have e : (A ++ (X ++ Z)).toArray[A.length + j]? = (A ++ (X ++ Z))[A.length + j]? := by simp
  rw [e, List.getElem?_append_right (by omega), Nat.add_sub_cancel_left, List.getElem?_append_left hj]
  exact hv
theorem whole_there {w : World} {g : Nat} {t : TypeId} {A X Z : List Value} (h : Whole w g t (A ++ (X ++ Z)).toArray) : w.there g A.length X.length := by
  intro j hj
  have h1 := whole_range h j (X[j]) (List.getElem?_eq_getElem hj)
  exact ⟨by rw [h1]; rfl, h.free _⟩
/-- A table's cells, as a list. -/
def tL (e : Int) (o : List Int) : List Value := Value.int .i64 e :: o.map (Value.int .i64)
theorem tcs_list (e : Int) (o : List Int) : (tcs e o).toList = tL e o := rfl
theorem tL_len (e : Int) {o : List Int} (h : o.length = 16) : (tL e o).length = 17 := by simp [tL, h]
/-- A controller: its table, the version, the stage, the move under way, the table behind it. -/
structure Mv where
  e : Int
  o : List Int
  ver : Int
  st : Int
  kd : Int
  fr : Int
  tw : Int
  id : Int
  sl : Int
  ra : Option Addr
  rn : Nat
  rc : Nat
  e2 : Int
  o2 : List Int
def mcs (M : Mv) : List Value := [.int .i64 M.kd, .int .i64 M.fr, .int .i64 M.tw, .int .i64 M.id, .int .i64 0, .int .i64 0, .int .i64 M.sl, .bool false, .slice none 0 0, .slice none 0 0, .slice none 0 0, .slice M.ra M.rn M.rc]
def mvL (gl : Nat) (M : Mv) : List Value := [Value.pointer (some ⟨gl, 0, none⟩)] ++ (tL M.e M.o ++ ([Value.int .i64 M.ver, .int .i64 M.st] ++ (mcs M ++ (tL M.e2 M.o2 ++ []))))
/-- It lies in block gm. -/
structure MvAt (w : World) (B gm gl : Nat) (M : Mv) : Prop where
  own : Whole w gm 89 (mvL gl M).toArray
  l1 : M.o.length = 16
  l2 : M.o2.length = 16
  ge : B ≤ gm
section
variable {w w' : World} {B gm gl : Nat} {M : Mv}
theorem MvAt.kept (h : MvAt w B gm gl M) (hb : w'.heap[gm]? = w.heap[gm]?) : MvAt w' B gm gl M := ⟨h.own.kept hb, h.l1, h.l2, h.ge⟩
theorem MvAt.below (h : MvAt w B gm gl M) (hb : Below w.heap.size w w') : MvAt w' B gm gl M := h.kept (hb.block _ h.own.lt)
theorem MvAt.lower {B' : Nat} (h : MvAt w B gm gl M) (hb : B' ≤ B) : MvAt w B' gm gl M := ⟨h.own, h.l1, h.l2, by have := h.ge; omega⟩
/-- How the cells split. -/
theorem mvL_tab (gl : Nat) (M : Mv) : mvL gl M = [Value.pointer (some ⟨gl, 0, none⟩)] ++ (tL M.e M.o ++ ([Value.int .i64 M.ver, .int .i64 M.st] ++ (mcs M ++ (tL M.e2 M.o2 ++ [])))) := rfl
theorem mvL_mv (gl : Nat) (M : Mv) : mvL gl M = ([Value.pointer (some ⟨gl, 0, none⟩)] ++ tL M.e M.o ++ [Value.int .i64 M.ver, .int .i64 M.st]) ++ (mcs M ++ (tL M.e2 M.o2 ++ [])) := by simp [mvL]
theorem mvL_next (gl : Nat) (M : Mv) : mvL gl M = ([Value.pointer (some ⟨gl, 0, none⟩)] ++ tL M.e M.o ++ [Value.int .i64 M.ver, .int .i64 M.st] ++ mcs M) ++ (tL M.e2 M.o2 ++ []) := by simp [mvL]
theorem mvL_n2 {gl : Nat} {M : Mv} (h : M.o.length = 16) : ([Value.pointer (some ⟨gl, 0, none⟩)] ++ tL M.e M.o ++ [Value.int .i64 M.ver, .int .i64 M.st]).length = 20 := by simp [tL, h]
theorem mvL_n3 {gl : Nat} {M : Mv} (h : M.o.length = 16) : ([Value.pointer (some ⟨gl, 0, none⟩)] ++ tL M.e M.o ++ [Value.int .i64 M.ver, .int .i64 M.st] ++ mcs M).length = 32 := by simp [tL, h, mcs]
/-- The table, the move, the table behind it: as rows. -/
theorem MvAt.tab (h : MvAt w B gm gl M) : w.rangeAt gm 1 (tL M.e M.o) ∧ w.there gm 1 17 := by
  have h0 := h.own
  rw [mvL_tab] at h0
  exact ⟨whole_range h0, by have := whole_there h0; rwa [tL_len _ h.l1] at this⟩
theorem MvAt.mov (h : MvAt w B gm gl M) : w.rangeAt gm 20 (mcs M) ∧ w.there gm 20 12 := by
  have h0 := h.own
  rw [mvL_mv] at h0
  have h1 := whole_range h0
  have h2 := whole_there h0
  rw [mvL_n2 h.l1] at h1 h2
  exact ⟨h1, h2⟩
theorem MvAt.next (h : MvAt w B gm gl M) : w.rangeAt gm 32 (tL M.e2 M.o2) ∧ w.there gm 32 17 := by
  have h0 := h.own
  rw [mvL_next] at h0
  have h1 := whole_range h0
  have h2 := whole_there h0
  rw [mvL_n3 h.l1] at h1 h2
  rw [tL_len _ h.l2] at h2
  exact ⟨h1, h2⟩
theorem MvAt.c0 (h : MvAt w B gm gl M) : w.cell? ⟨gm, 0, none⟩ = some (.pointer (some ⟨gl, 0, none⟩)) := by rw [h.own.cell]; rfl
theorem MvAt.mcell (h : MvAt w B gm gl M) (j : Nat) (hj : j < 12) : w.cell? ⟨gm, 20 + j, none⟩ = (mcs M)[j]? := by
  have hl : (mcs M).length = 12 := rfl
  rw [List.getElem?_eq_getElem (by omega)]
  exact h.mov.1 j _ (List.getElem?_eq_getElem (by omega))
theorem MvAt.mcells (h : MvAt w B gm gl M) : w.cell? ⟨gm, 20, none⟩ = some (.int .i64 M.kd) ∧ w.cell? ⟨gm, 21, none⟩ = some (.int .i64 M.fr) ∧ w.cell? ⟨gm, 22, none⟩ = some (.int .i64 M.tw) ∧ w.cell? ⟨gm, 23, none⟩ = some (.int .i64 M.id) ∧ w.cell? ⟨gm, 24, none⟩ = some (.int .i64 0) ∧ w.cell? ⟨gm, 25, none⟩ = some (.int .i64 0) ∧ w.cell? ⟨gm, 26, none⟩ = some (.int .i64 M.sl) ∧ w.cell? ⟨gm, 27, none⟩ = some (.bool false) ∧ w.cell? ⟨gm, 28, none⟩ = some (.slice none 0 0) ∧ w.cell? ⟨gm, 29, none⟩ = some (.slice none 0 0) ∧ w.cell? ⟨gm, 30, none⟩ = some (.slice none 0 0) ∧ w.cell? ⟨gm, 31, none⟩ = some (.slice M.ra M.rn M.rc) :=
  ⟨h.mcell 0 (by omega), h.mcell 1 (by omega), h.mcell 2 (by omega), h.mcell 3 (by omega), h.mcell 4 (by omega), h.mcell 5 (by omega), h.mcell 6 (by omega), h.mcell 7 (by omega), h.mcell 8 (by omega), h.mcell 9 (by omega), h.mcell 10 (by omega), h.mcell 11 (by omega)⟩
theorem MvAt.two (h : MvAt w B gm gl M) : w.cell? ⟨gm, 18, none⟩ = some (.int .i64 M.ver) ∧ w.cell? ⟨gm, 19, none⟩ = some (.int .i64 M.st) ∧ (∀ i, w.frozen? ⟨gm, i, none⟩ = false) := by
  have h0 := h.own
  have e : mvL gl M = ([Value.pointer (some ⟨gl, 0, none⟩)] ++ tL M.e M.o) ++ ([Value.int .i64 M.ver, .int .i64 M.st] ++ (mcs M ++ (tL M.e2 M.o2 ++ []))) := by simp [mvL]
  rw [e] at h0
  have h1 := whole_range h0
  have hl : ([Value.pointer (some ⟨gl, 0, none⟩)] ++ tL M.e M.o).length = 18 := by simp [tL, h.l1]
  rw [hl] at h1
  exact ⟨h1 0 _ rfl, h1 1 _ rfl, fun i => h.own.free i⟩
theorem MvAt.own_at (h : MvAt w B gm gl M) (s : Nat) (hs : s < 16) : w.cell? ⟨gm, 2 + s, none⟩ = some (.int .i64 (M.o.getD s 0)) := by
  have := h.tab.1 (1 + s) (.int .i64 (M.o.getD s 0)) (by
    rw [tL, Nat.add_comm, List.getElem?_cons_succ, List.getElem?_map, List.getD_eq_getElem?_getD, List.getElem?_eq_getElem (by rw [h.l1]; exact hs)]
    rfl)
  rwa [← Nat.add_assoc] at this
theorem MvAt.epo (h : MvAt w B gm gl M) : w.cell? ⟨gm, 1, none⟩ = some (.int .i64 M.e) := h.tab.1 0 _ rfl
/-- What is stored. -/
theorem MvAt.setTab (h : MvAt w B gm gl M) {e : Int} {o : List Int} (ho : o.length = 16) : MvAt (w.setCells gm 1 (tL e o)) B gm gl { M with e := e, o := o } := by
  have h0 := h.own
  rw [mvL_tab] at h0
  exact ⟨whole_put (tL e o) _ _ h0 (by rw [tL_len _ ho, tL_len _ h.l1]), ho, h.l2, h.ge⟩
theorem MvAt.setNext (h : MvAt w B gm gl M) {e : Int} {o : List Int} (ho : o.length = 16) : MvAt (w.setCells gm 32 (tL e o)) B gm gl { M with e2 := e, o2 := o } := by
  have h0 := h.own
  rw [mvL_next] at h0
  have h1 := whole_put (tL e o) _ _ h0 (by rw [tL_len _ ho, tL_len _ h.l2])
  rw [mvL_n3 h.l1] at h1
  refine ⟨?_, h.l1, ho, h.ge⟩
  rw [mvL_next]
  exact h1
theorem MvAt.setMov (h : MvAt w B gm gl M) (kd fr tw id sl : Int) (ra : Option Addr) (rn rc : Nat) : MvAt (w.setCells gm 20 (mcs { M with kd := kd, fr := fr, tw := tw, id := id, sl := sl, ra := ra, rn := rn, rc := rc })) B gm gl { M with kd := kd, fr := fr, tw := tw, id := id, sl := sl, ra := ra, rn := rn, rc := rc } := by
  have h0 := h.own
  rw [mvL_mv] at h0
  have h1 := whole_put (mcs { M with kd := kd, fr := fr, tw := tw, id := id, sl := sl, ra := ra, rn := rn, rc := rc }) _ _ h0 rfl
  rw [mvL_n2 h.l1] at h1
  refine ⟨?_, h.l1, h.l2, h.ge⟩
  rw [mvL_mv]
  exact h1
theorem MvAt.setVer (h : MvAt w B gm gl M) (x : Int) : MvAt (w.setCell ⟨gm, 18, none⟩ (.int .i64 x)) B gm gl { M with ver := x } := by
  have h0 := h.own
  have e : mvL gl M = ([Value.pointer (some ⟨gl, 0, none⟩)] ++ tL M.e M.o) ++ ([Value.int .i64 M.ver] ++ ([Value.int .i64 M.st] ++ (mcs M ++ (tL M.e2 M.o2 ++ [])))) := by simp [mvL]
  rw [e] at h0
  have h1 := whole_put [Value.int .i64 x] _ _ h0 rfl
  have hl : ([Value.pointer (some ⟨gl, 0, none⟩)] ++ tL M.e M.o).length = 18 := by simp [tL, h.l1]
  rw [hl] at h1
  refine ⟨?_, h.l1, h.l2, h.ge⟩
  have e2 : mvL gl { M with ver := x } = ([Value.pointer (some ⟨gl, 0, none⟩)] ++ tL M.e M.o) ++ ([Value.int .i64 x] ++ ([Value.int .i64 M.st] ++ (mcs M ++ (tL M.e2 M.o2 ++ [])))) := by simp [mvL, mcs]
  rw [e2]
  exact h1
theorem MvAt.setSt (h : MvAt w B gm gl M) (x : Int) : MvAt (w.setCell ⟨gm, 19, none⟩ (.int .i64 x)) B gm gl { M with st := x } := by
  have h0 := h.own
  have e : mvL gl M = ([Value.pointer (some ⟨gl, 0, none⟩)] ++ tL M.e M.o ++ [Value.int .i64 M.ver]) ++ ([Value.int .i64 M.st] ++ (mcs M ++ (tL M.e2 M.o2 ++ []))) := by simp [mvL]
  rw [e] at h0
  have h1 := whole_put [Value.int .i64 x] _ _ h0 rfl
  have hl : ([Value.pointer (some ⟨gl, 0, none⟩)] ++ tL M.e M.o ++ [Value.int .i64 M.ver]).length = 19 := by simp [tL, h.l1]
  rw [hl] at h1
  refine ⟨?_, h.l1, h.l2, h.ge⟩
  have e2 : mvL gl { M with st := x } = ([Value.pointer (some ⟨gl, 0, none⟩)] ++ tL M.e M.o ++ [Value.int .i64 M.ver]) ++ ([Value.int .i64 x] ++ (mcs M ++ (tL M.e2 M.o2 ++ []))) := by simp [mvL, mcs]
  rw [e2]
  exact h1
theorem MvAt.setRows (h : MvAt w B gm gl M) (a : Option Addr) (n c : Nat) : MvAt (w.setCell ⟨gm, 31, none⟩ (.slice a n c)) B gm gl { M with ra := a, rn := n, rc := c } := by
  have h0 := h.own
  have e : mvL gl M = ([Value.pointer (some ⟨gl, 0, none⟩)] ++ tL M.e M.o ++ [Value.int .i64 M.ver, .int .i64 M.st] ++ (mcs M).take 11) ++ ([Value.slice M.ra M.rn M.rc] ++ (tL M.e2 M.o2 ++ [])) := by simp [mvL, mcs]
  rw [e] at h0
  have h1 := whole_put [Value.slice a n c] _ _ h0 rfl
  have hl : ([Value.pointer (some ⟨gl, 0, none⟩)] ++ tL M.e M.o ++ [Value.int .i64 M.ver, .int .i64 M.st] ++ (mcs M).take 11).length = 31 := by simp [tL, h.l1, mcs]
  rw [hl] at h1
  refine ⟨?_, h.l1, h.l2, h.ge⟩
  have e2 : mvL gl { M with ra := a, rn := n, rc := c } = ([Value.pointer (some ⟨gl, 0, none⟩)] ++ tL M.e M.o ++ [Value.int .i64 M.ver, .int .i64 M.st] ++ (mcs M).take 11) ++ ([Value.slice a n c] ++ (tL M.e2 M.o2 ++ [])) := by simp [mvL, mcs]
  rw [e2]
  exact h1
end
end Go.Proofs.Ytbmmgmdjhhnkfaa

namespace Go.Proofs.Ytbmmgmdjhhnkfaa
open Go.RowKit

theorem tL_info (e : Int) {o : List Int} (h : o.length = 16) : (Try.prog.info? 24).map (·.size) = some (tL e o).length := by rw [tL_len e h]; exact Try.infoT
theorem Try.infoMs : (Try.prog.info? 45).map (·.size) = some 12 := by kernel_rfl
theorem tL_one (e : Int) (o : List Int) : (tL e o).toArray.all (·.oneCell') = true := tcs_one e o
theorem tL_tcs (e : Int) (o : List Int) : (tL e o).toArray = tcs e o := rfl
theorem exec_mid {P : Program} (ρ : Operand → Value) (o : Oper) (w : World) (ty : TypeId) (x : Operand) (ho : o.op = .load ty x) (g i : Nat) (hx : ρ x = .pointer (some ⟨g, i, none⟩)) (cs : List Value) (d : TypeDesc) (hc : w.rangeAt g i cs)
    (hu : P.underlying ty = some d) (hd : d.isRow = true) (hi : (P.info? ty).map (·.size) = some cs.length) : (execOp ρ o).run P w = .ok (.value (.agg cs.toArray)) w := by
  unfold execOp
  simp only [ho, hx, Instr.loadAt, Instr.sureAddr, Sem.run_bind, Sem.run_pure, Result.andThen_ok, run_loadVar_mid w g i ty cs d hc hu hd hi]
theorem whole_row {w : World} {g : Nat} {t : TypeId} {cs : Array Value} (h : Whole w g t cs) {l : List Value} (hl : l.length = cs.size) : Whole (w.setCells g 0 l) g t l.toArray := by
  have h0 : Whole w g t ([] ++ (cs.toList ++ [])).toArray := by simpa using h
  have := whole_put l _ _ h0 (by simpa using hl)
  simpa using this
theorem whole_all {w : World} {g : Nat} {t : TypeId} {cs : Array Value} (h : Whole w g t cs) : w.there g 0 cs.size := by
  have h0 : Whole w g t ([] ++ (cs.toList ++ [])).toArray := by simpa using h
  have := whole_there h0
  simpa using this
theorem whole_all_range {w : World} {g : Nat} {t : TypeId} {l : List Value} (h : Whole w g t l.toArray) : w.rangeAt g 0 l := by
  have h0 : Whole w g t ([] ++ (l ++ [])).toArray := by simpa using h
  exact whole_range h0
theorem heap_setCells {b : Nat} (k : Nat) (hk : k ≠ b) : ∀ (l : List Value) (o : Nat) {w : World}, (w.setCells b o l).heap[k]? = w.heap[k]?
  | [], _, _ => rfl
  | v :: l, o, w => by
    rw [World.setCells, heap_setCells k hk l (o + 1)]
    exact Below.heap_setCell w ⟨b, o, none⟩ v k hk
section
variable {w w' : World} {B gm gl : Nat} {M : Mv}
theorem MvAt.loadTab (h : MvAt w B gm gl M) : (Instr.loadAt 24 (.pointer (some ⟨gm, 1, none⟩))).run Try.prog w = .ok (.agg (tcs M.e M.o)) w :=
  run_loadAt_mid w gm 1 _ _ _ h.tab.1 Try.underlying24 rfl (tL_info _ h.l1)
theorem MvAt.loadNext (h : MvAt w B gm gl M) : (Instr.loadAt 24 (.pointer (some ⟨gm, 32, none⟩))).run Try.prog w = .ok (.agg (tcs M.e2 M.o2)) w :=
  run_loadAt_mid w gm 32 _ _ _ h.next.1 Try.underlying24 rfl (tL_info _ h.l2)
theorem tab_box {X : World} {b : Nat} {e : Int} {o : List Int} (h : Whole X b 24 (tcs e o)) (ho : o.length = 16) : (Instr.loadAt 24 (.pointer (some ⟨b, 0, none⟩))).run Try.prog X = .ok (.agg (tcs e o)) X :=
  run_loadAt_mid X b 0 _ (tL e o) _ (fun j v hv => by rw [Nat.zero_add, h.cell]; simpa [tL, tcs] using hv) Try.underlying24 rfl (tL_info _ ho)
set_option maxRecDepth 100000 in
set_option maxHeartbeats 2000000 in
theorem at_any (w : World) (h : MvAt w B gm gl M) (s k : Int) :
    Calls Try.prog 34 #[.pointer (some ⟨gm, 0, none⟩), .int .i64 s, .int .i64 k] w fun e w' => e = .returned (.bool (decide (M.st = s ∧ M.id = k))) ∧ w' = w := by
  obtain ⟨c18, c19, _⟩ := h.two
  have c23 := h.mcells.2.2.2.1
  clear h
  by_cases h1 : M.st = s
  · have e1 : (M.st == s) = true := by simpa using h1
    by_cases h2 : M.id = k
    · have e2 : (M.id == k) = true := by simpa using h2
      have e3 : decide (M.st = s ∧ M.id = k) = true := decide_eq_true ⟨h1, h2⟩
      rw [e3]
      clear e3 h1 h2
      go_enter Try.func34, Try.ntmps34
      go_wp2
      go_ret
      exact ⟨rfl, rfl⟩
    · have e2 : (M.id == k) = false := by simpa using h2
      have e3 : decide (M.st = s ∧ M.id = k) = false := decide_eq_false (fun h => h2 h.2)
      rw [e3]
      clear e3 h1 h2
      go_enter Try.func34, Try.ntmps34
      go_wp2
      go_ret
      exact ⟨rfl, rfl⟩
  · have e1 : (M.st == s) = false := by simpa using h1
    have e3 : decide (M.st = s ∧ M.id = k) = false := decide_eq_false (fun h => h1 h.1)
    rw [e3]
    clear e3 h1
    go_enter Try.func34, Try.ntmps34
    go_wp2
    go_ret
    exact ⟨rfl, rfl⟩
set_option maxRecDepth 100000 in
set_option maxHeartbeats 4000000 in
theorem table_any (w : World) (h : MvAt w B gm gl M) :
    Calls Try.prog 22 #[.pointer (some ⟨gm, 0, none⟩)] w fun e w' => e = .returned (.tuple #[.agg (tcs M.e M.o), .int .i64 M.ver]) ∧ Below w.heap.size w w' := by
  obtain ⟨X, hX, hw, hb⟩ := box_new w 24 (tcs 0 noOwn)
  rw [zero_tab] at hX hw
  have hx := h.below hb
  have hld := hx.loadTab
  obtain ⟨c18, c19, _⟩ := hx.two
  have HW := Lib.hid (show Whole X w.heap.size 24 (tcs 0 noOwn) from hw)
  have HX := Lib.hid hx
  have HGL := Lib.hid h.own.lt
  have HB := Lib.hid hb
  have HL := Lib.hid h.l1
  clear h hx hw hb
  go_enter Try.func22, Try.ntmps22
  go_upto_region 1 with fail
  rw [← hX]
  clear hX
  obtain ⟨wd, hwd, hbd⟩ : ∃ wd, wd = X.drew ∧ Below X.heap.size X wd := ⟨_, rfl, below_drewN X 1⟩
  have hne : gm ≠ w.heap.size := by have := HGL.out; omega
  have HWD := Lib.hid (HW.out.kept (hbd.block _ HW.out.lt))
  have hxd := HX.out.below hbd
  have hS0 : wd.rangeAt gm 1 (tL M.e M.o) ∧ wd.cell? ⟨gm, 18, none⟩ = some (.int .i64 M.ver) := ⟨hxd.tab.1, hxd.two.1⟩
  have HB2 := Lib.hid (bell_up HB.out hbd)
  clear hxd hbd
  subst hwd
  refine wp_region_held_drew (S := fun V : World => V.rangeAt gm 1 (tL M.e M.o) ∧ V.cell? ⟨gm, 18, none⟩ = some (.int .i64 M.ver)) (by kernel_rfl) (hS0) (fun hHeld => ?_)
  refine wpAnyH_take (i := 0) (oi := { dst := Option.some 4, op := Go.Op.move (Go.Operand.tmp 0), type := 32, pos := "move.go:55", after := #[], guard := Option.none }) (v := ?_) rfl (by kernel_rfl) (by kernel_rfl) (by kernel_rfl) (fun _ _ _ h => h) (Or.inl ⟨by rfl, ?_⟩) (by assumption) ?_
  rotate_left
  · intro V hV; (try dsimp only at hV); go_simp; all_goals (with_reducible rfl)
  try simp only [Act.put, List.setIfInBounds_toArray, List.set_cons_zero, List.set_cons_succ]
  refine wpAnyH_take (i := 1) (oi := { dst := Option.some 5, op := Go.Op.nilCheck (Go.Operand.tmp 4), type := 0, pos := "move.go:55", after := #[{ on := 0, ground := Go.Ground.data }], guard := Option.none }) (v := ?_) rfl (by kernel_rfl) (by kernel_rfl) (by kernel_rfl) (fun _ _ _ h => h) (Or.inl ⟨by rfl, ?_⟩) (by assumption) ?_
  rotate_left
  · intro V hV; (try dsimp only at hV); go_simp; all_goals (with_reducible rfl)
  try simp only [Act.put, List.setIfInBounds_toArray, List.set_cons_zero, List.set_cons_succ]
  refine wpAnyH_take (i := 2) (oi := { dst := Option.some 6, op := Go.Op.fieldAddr 89 (Go.Operand.tmp 5) 1, type := 0, pos := "move.go:55", after := #[{ on := 1, ground := Go.Ground.data }], guard := Option.none }) (v := ?_) rfl (by kernel_rfl) (by kernel_rfl) (by kernel_rfl) (fun _ _ _ h => h) (Or.inl ⟨by rfl, ?_⟩) (by assumption) ?_
  rotate_left
  · intro V hV; (try dsimp only at hV); go_simp; all_goals (with_reducible rfl)
  try simp only [Act.put, List.setIfInBounds_toArray, List.set_cons_zero, List.set_cons_succ]
  refine wpAnyH_take (i := 3) (oi := { dst := Option.some 7, op := Go.Op.load 24 (Go.Operand.tmp 6), type := 24, pos := "move.go:55", after := #[{ on := 2, ground := Go.Ground.data }], guard := Option.none }) (v := .agg (tL M.e M.o).toArray) rfl (by kernel_rfl) (by kernel_rfl) (by kernel_rfl) (fun _ _ _ h => h) (Or.inl ⟨by rfl, fun V hV => exec_mid _ _ V 24 (.tmp 6) rfl gm 1 rfl (tL M.e M.o) _ hV.1 Try.underlying24 rfl (tL_info _ HL.out)⟩) (by assumption) ?_
  try simp only [Act.put, List.setIfInBounds_toArray, List.set_cons_zero, List.set_cons_succ]
  refine wpAnyH_take (i := 4) (oi := { dst := Option.some 8, op := Go.Op.move (Go.Operand.tmp 0), type := 32, pos := "move.go:55", after := #[{ on := 8, ground := Go.Ground.gcOnly Go.Departure.lateStores }], guard := Option.none }) (v := ?_) rfl (by kernel_rfl) (by kernel_rfl) (by kernel_rfl) (fun _ _ _ h => h) (Or.inl ⟨by rfl, ?_⟩) (by assumption) ?_
  rotate_left
  · intro V hV; (try dsimp only at hV); go_simp; all_goals (with_reducible rfl)
  try simp only [Act.put, List.setIfInBounds_toArray, List.set_cons_zero, List.set_cons_succ]
  refine wpAnyH_take (i := 5) (oi := { dst := Option.some 9, op := Go.Op.nilCheck (Go.Operand.tmp 8), type := 0, pos := "move.go:55", after := #[{ on := 4, ground := Go.Ground.data }, { on := 8, ground := Go.Ground.gcOnly Go.Departure.lateStores }], guard := Option.none }) (v := ?_) rfl (by kernel_rfl) (by kernel_rfl) (by kernel_rfl) (fun _ _ _ h => h) (Or.inl ⟨by rfl, ?_⟩) (by assumption) ?_
  rotate_left
  · intro V hV; (try dsimp only at hV); go_simp; all_goals (with_reducible rfl)
  try simp only [Act.put, List.setIfInBounds_toArray, List.set_cons_zero, List.set_cons_succ]
  refine wpAnyH_take (i := 6) (oi := { dst := Option.some 10, op := Go.Op.fieldAddr 89 (Go.Operand.tmp 9) 2, type := 0, pos := "move.go:55", after := #[{ on := 5, ground := Go.Ground.data }, { on := 8, ground := Go.Ground.gcOnly Go.Departure.lateStores }], guard := Option.none }) (v := ?_) rfl (by kernel_rfl) (by kernel_rfl) (by kernel_rfl) (fun _ _ _ h => h) (Or.inl ⟨by rfl, ?_⟩) (by assumption) ?_
  rotate_left
  · intro V hV; (try dsimp only at hV); go_simp; all_goals (with_reducible rfl)
  try simp only [Act.put, List.setIfInBounds_toArray, List.set_cons_zero, List.set_cons_succ]
  refine wpAnyH_take (i := 7) (oi := { dst := Option.some 11, op := Go.Op.load 2 (Go.Operand.tmp 10), type := 2, pos := "move.go:55", after := #[{ on := 6, ground := Go.Ground.data }, { on := 8, ground := Go.Ground.gcOnly Go.Departure.lateStores }], guard := Option.none }) (v := ?_) rfl (by kernel_rfl) (by kernel_rfl) (by kernel_rfl) (fun _ _ _ h => h) (Or.inl ⟨by rfl, ?_⟩) (by assumption) ?_
  rotate_left
  · intro V hV; (try dsimp only at hV); obtain ⟨hV1, hV2⟩ := hV; go_simp; all_goals (with_reducible rfl)
  try simp only [Act.put, List.setIfInBounds_toArray, List.set_cons_zero, List.set_cons_succ]
  refine wpAnyH_ready (rs := [8]) (by kernel_rfl) (by simp) ?_
  refine AllReadyH.cons (o := { dst := Option.none, op := Go.Op.store 24 (Go.Operand.tmp 2) (Go.Operand.tmp 7), type := 0, pos := "move.go:55", after := #[{ on := 3, ground := Go.Ground.data }, { on := 0, ground := Go.Ground.phase }, { on := 1, ground := Go.Ground.phase }, { on := 2, ground := Go.Ground.phase }, { on := 3, ground := Go.Ground.phase }, { on := 4, ground := Go.Ground.textOnly Go.Departure.lateStores }, { on := 5, ground := Go.Ground.textOnly Go.Departure.lateStores }, { on := 6, ground := Go.Ground.textOnly Go.Departure.lateStores }, { on := 7, ground := Go.Ground.textOnly Go.Departure.lateStores }], guard := Option.none }) rfl (fun K hK => ?_) (AllReadyH.nil)
  refine wp_store_mid 24 (.tmp 2) (.tmp 7) rfl w.heap.size 0 (tcs M.e M.o) rfl rfl (by rw [tcs_size _ _ HL.out]; exact whole_all HWD.out) (by rw [tcs_size _ _ HL.out]; exact Try.infoT) (tcs_one _ _) ?_
  refine hK.out _ _ (⟨World.rangeAt_setCells_apart hHeld.1 _ _ _ (.inl hne), (World.cell?_setCells_out _ _ _ _ _ (fun h _ => absurd h hne)).trans hHeld.2⟩) (fun hHeld => ?_)
  clear hK K
  try simp only [Act.put]
  refine wpAnyH_ready (rs := [9]) (by kernel_rfl) (by simp) ?_
  refine AllReadyH.cons (o := { dst := Option.some 3, op := Go.Op.assign (Go.Operand.tmp 11), type := 2, pos := "move.go:55", after := #[{ on := 7, ground := Go.Ground.data }, { on := 8, ground := Go.Ground.chain }, { on := 0, ground := Go.Ground.phase }, { on := 1, ground := Go.Ground.phase }, { on := 2, ground := Go.Ground.phase }, { on := 3, ground := Go.Ground.phase }, { on := 4, ground := Go.Ground.phase }, { on := 5, ground := Go.Ground.phase }, { on := 6, ground := Go.Ground.phase }, { on := 7, ground := Go.Ground.phase }, { on := 8, ground := Go.Ground.phase }], guard := Option.none }) rfl (fun K hK => ?_) (AllReadyH.nil)
  go_simp
  refine hK.out _ _ (hHeld) (fun hHeld => ?_)
  clear hK K
  try simp only [Act.put, List.setIfInBounds_toArray, List.set_cons_zero, List.set_cons_succ]
  refine wpAnyH_done (by kernel_rfl) ?_ _
  have HF := Lib.hid (show Whole (X.drew.setCells w.heap.size 0 (tcs M.e M.o).toList) w.heap.size 24 (tcs M.e M.o) from whole_row HWD.out (by rw [tcs_list, tL_len _ HL.out, tcs_size _ _ rfl]))
  have HBF := Lib.hid (show Below w.heap.size w (X.drew.setCells w.heap.size 0 (tcs M.e M.o).toList) from (Chg.sets (P := fun k => k = w.heap.size) rfl _ _ (Chg.ofBelow _ HB2.out)).below (fun k hk => by rw [hk]; exact Nat.le_refl _) (Nat.le_refl _))
  go_wp2_with fail
  refine bodyPost_ret (v := .tuple #[.agg (tcs M.e M.o), .int .i64 M.ver]) (res_two Try.results22 _ _ w.heap.size 24 (tcs M.e M.o) _ _ rfl rfl HF.out Try.underlying24 rfl (by rw [tcs_size _ _ HL.out]; exact Try.infoT)) rfl ⟨rfl, HBF.out⟩
end
end Go.Proofs.Ytbmmgmdjhhnkfaa

namespace Go.Proofs.Ytbmmgmdjhhnkfaa
open Go.RowKit

/-- The controller with its move done with, and the table that holds. -/
def mend (M : Mv) (e : Int) (o : List Int) : Mv := { e := e, o := o, ver := M.id, st := 0, kd := 0, fr := 0, tw := 0, id := 0, sl := 0, ra := none, rn := 0, rc := 0, e2 := 0, o2 := noOwn }
theorem mcs_one (M : Mv) : (mcs M).toArray.all (·.oneCell') = true := by simp [mcs, Value.oneCell']
section
variable {w w' : World} {B gm gl : Nat} {M : Mv}
set_option maxRecDepth 100000 in
set_option maxHeartbeats 4000000 in
theorem end_any (w : World) (h : MvAt w B gm gl M) (e : Int) (o : List Int) (ho : o.length = 16) :
    Calls Try.prog 48 #[.pointer (some ⟨gm, 0, none⟩), .agg (tcs e o)] w fun r w' => r = .returned (.tuple #[]) ∧ MvAt w' B gm gl (mend M e o) ∧ Chg w w' (fun k => k = gm) := by
  obtain ⟨X, hX, hw, hb⟩ := box_new w 24 (tcs e o)
  have hx := h.below hb
  have HW := Lib.hid hw
  have HX := Lib.hid hx
  have HGL := Lib.hid h.own.lt
  have HC := Lib.hid (Chg.ofBelow (fun k => k = gm) hb)
  have HO := Lib.hid ho
  clear h hx hw hb ho
  go_enter Try.func48, Try.ntmps48
  go_upto_region 1 with fail
  rw [← hX]
  clear hX
  obtain ⟨wd, hwd, hbd⟩ : ∃ wd, wd = X.drew ∧ Below X.heap.size X wd := ⟨_, rfl, below_drewN X 1⟩
  have hne : w.heap.size ≠ gm := by have := HGL.out; omega
  have HWD := Lib.hid (HW.out.kept (hbd.block _ HW.out.lt))
  have HM0 := Lib.hid (HX.out.below hbd)
  have hS0 : wd.rangeAt w.heap.size 0 (tL e o) ∧ wd.cell? ⟨gm, 23, none⟩ = some (.int .i64 M.id) := ⟨whole_all_range HWD.out, HM0.out.mcells.2.2.2.1⟩
  have HC2 := Lib.hid (HC.out.trans (Chg.ofBelow _ hbd))
  clear hbd
  subst hwd
  refine wp_region_held_drew (S := fun V : World => V.rangeAt w.heap.size 0 (tL e o) ∧ V.cell? ⟨gm, 23, none⟩ = some (.int .i64 M.id)) (by kernel_rfl) (hS0) (fun hHeld => ?_)
  refine wpAnyH_take (i := 0) (oi := { dst := Option.some 4, op := Go.Op.move (Go.Operand.tmp 0), type := 32, pos := "move.go:132", after := #[], guard := Option.none }) (v := ?_) rfl (by kernel_rfl) (by kernel_rfl) (by kernel_rfl) (fun _ _ _ h => h) (Or.inl ⟨by rfl, ?_⟩) (by assumption) ?_
  rotate_left
  · intro V hV; (try dsimp only at hV); go_simp; all_goals (with_reducible rfl)
  try simp only [Act.put, List.setIfInBounds_toArray, List.set_cons_zero, List.set_cons_succ]
  refine wpAnyH_take (i := 1) (oi := { dst := Option.some 5, op := Go.Op.move (Go.Operand.tmp 0), type := 32, pos := "move.go:132", after := #[{ on := 10, ground := Go.Ground.gcOnly Go.Departure.lateStores }], guard := Option.none }) (v := ?_) rfl (by kernel_rfl) (by kernel_rfl) (by kernel_rfl) (fun _ _ _ h => h) (Or.inl ⟨by rfl, ?_⟩) (by assumption) ?_
  rotate_left
  · intro V hV; (try dsimp only at hV); go_simp; all_goals (with_reducible rfl)
  try simp only [Act.put, List.setIfInBounds_toArray, List.set_cons_zero, List.set_cons_succ]
  refine wpAnyH_take (i := 2) (oi := { dst := Option.some 6, op := Go.Op.load 24 (Go.Operand.tmp 3), type := 24, pos := "move.go:132", after := #[], guard := Option.none }) (v := .agg (tL e o).toArray) rfl (by kernel_rfl) (by kernel_rfl) (by kernel_rfl) (fun _ _ _ h => h) (Or.inl ⟨by rfl, fun V hV => exec_mid _ _ V 24 (.tmp 3) rfl w.heap.size 0 rfl (tL e o) _ hV.1 Try.underlying24 rfl (tL_info _ HO.out)⟩) (by assumption) ?_
  try simp only [Act.put, List.setIfInBounds_toArray, List.set_cons_zero, List.set_cons_succ]
  refine wpAnyH_take (i := 3) (oi := { dst := Option.some 7, op := Go.Op.move (Go.Operand.tmp 0), type := 32, pos := "move.go:132", after := #[], guard := Option.none }) (v := ?_) rfl (by kernel_rfl) (by kernel_rfl) (by kernel_rfl) (fun _ _ _ h => h) (Or.inl ⟨by rfl, ?_⟩) (by assumption) ?_
  rotate_left
  · intro V hV; (try dsimp only at hV); go_simp; all_goals (with_reducible rfl)
  try simp only [Act.put, List.setIfInBounds_toArray, List.set_cons_zero, List.set_cons_succ]
  refine wpAnyH_take (i := 4) (oi := { dst := Option.some 8, op := Go.Op.nilCheck (Go.Operand.tmp 7), type := 0, pos := "move.go:132", after := #[{ on := 3, ground := Go.Ground.data }], guard := Option.none }) (v := ?_) rfl (by kernel_rfl) (by kernel_rfl) (by kernel_rfl) (fun _ _ _ h => h) (Or.inl ⟨by rfl, ?_⟩) (by assumption) ?_
  rotate_left
  · intro V hV; (try dsimp only at hV); go_simp; all_goals (with_reducible rfl)
  try simp only [Act.put, List.setIfInBounds_toArray, List.set_cons_zero, List.set_cons_succ]
  refine wpAnyH_take (i := 5) (oi := { dst := Option.some 9, op := Go.Op.fieldAddr 89 (Go.Operand.tmp 8) 4, type := 0, pos := "move.go:132", after := #[{ on := 4, ground := Go.Ground.data }], guard := Option.none }) (v := ?_) rfl (by kernel_rfl) (by kernel_rfl) (by kernel_rfl) (fun _ _ _ h => h) (Or.inl ⟨by rfl, ?_⟩) (by assumption) ?_
  rotate_left
  · intro V hV; (try dsimp only at hV); go_simp; all_goals (with_reducible rfl)
  try simp only [Act.put, List.setIfInBounds_toArray, List.set_cons_zero, List.set_cons_succ]
  refine wpAnyH_take (i := 6) (oi := { dst := Option.some 10, op := Go.Op.fieldAddr 45 (Go.Operand.tmp 9) 3, type := 0, pos := "move.go:132", after := #[{ on := 5, ground := Go.Ground.data }], guard := Option.none }) (v := ?_) rfl (by kernel_rfl) (by kernel_rfl) (by kernel_rfl) (fun _ _ _ h => h) (Or.inl ⟨by rfl, ?_⟩) (by assumption) ?_
  rotate_left
  · intro V hV; (try dsimp only at hV); go_simp; all_goals (with_reducible rfl)
  try simp only [Act.put, List.setIfInBounds_toArray, List.set_cons_zero, List.set_cons_succ]
  refine wpAnyH_take (i := 7) (oi := { dst := Option.some 11, op := Go.Op.load 2 (Go.Operand.tmp 10), type := 2, pos := "move.go:132", after := #[{ on := 6, ground := Go.Ground.data }], guard := Option.none }) (v := ?_) rfl (by kernel_rfl) (by kernel_rfl) (by kernel_rfl) (fun _ _ _ h => h) (Or.inl ⟨by rfl, ?_⟩) (by assumption) ?_
  rotate_left
  · intro V hV; (try dsimp only at hV); obtain ⟨hV1, hV2⟩ := hV; go_simp; all_goals (with_reducible rfl)
  try simp only [Act.put, List.setIfInBounds_toArray, List.set_cons_zero, List.set_cons_succ]
  refine wpAnyH_take (i := 8) (oi := { dst := Option.some 12, op := Go.Op.nilCheck (Go.Operand.tmp 4), type := 0, pos := "move.go:132", after := #[{ on := 0, ground := Go.Ground.data }, { on := 0, ground := Go.Ground.phase }, { on := 1, ground := Go.Ground.textOnly Go.Departure.lateStores }, { on := 2, ground := Go.Ground.phase }, { on := 3, ground := Go.Ground.textOnly Go.Departure.lateStores }, { on := 4, ground := Go.Ground.textOnly Go.Departure.lateStoresUnsure }, { on := 5, ground := Go.Ground.textOnly Go.Departure.lateStoresUnsure }, { on := 6, ground := Go.Ground.textOnly Go.Departure.lateStoresUnsure }, { on := 7, ground := Go.Ground.phase }], guard := Option.none }) (v := ?_) rfl (by kernel_rfl) (by kernel_rfl) (by kernel_rfl) (fun _ _ _ h => h) (Or.inl ⟨by rfl, ?_⟩) (by assumption) ?_
  rotate_left
  · intro V hV; (try dsimp only at hV); go_simp; all_goals (with_reducible rfl)
  try simp only [Act.put, List.setIfInBounds_toArray, List.set_cons_zero, List.set_cons_succ]
  refine wpAnyH_take (i := 9) (oi := { dst := Option.some 13, op := Go.Op.fieldAddr 89 (Go.Operand.tmp 12) 1, type := 0, pos := "move.go:132", after := #[{ on := 8, ground := Go.Ground.data }, { on := 0, ground := Go.Ground.phase }, { on := 1, ground := Go.Ground.textOnly Go.Departure.lateStores }, { on := 2, ground := Go.Ground.phase }, { on := 3, ground := Go.Ground.textOnly Go.Departure.lateStores }, { on := 4, ground := Go.Ground.textOnly Go.Departure.lateStoresUnsure }, { on := 5, ground := Go.Ground.textOnly Go.Departure.lateStoresUnsure }, { on := 6, ground := Go.Ground.textOnly Go.Departure.lateStoresUnsure }, { on := 7, ground := Go.Ground.phase }], guard := Option.none }) (v := ?_) rfl (by kernel_rfl) (by kernel_rfl) (by kernel_rfl) (fun _ _ _ h => h) (Or.inl ⟨by rfl, ?_⟩) (by assumption) ?_
  rotate_left
  · intro V hV; (try dsimp only at hV); go_simp; all_goals (with_reducible rfl)
  try simp only [Act.put, List.setIfInBounds_toArray, List.set_cons_zero, List.set_cons_succ]
  refine wpAnyH_ready (rs := [10]) (by kernel_rfl) (by simp) ?_
  refine AllReadyH.cons (o := { dst := Option.none, op := Go.Op.store 24 (Go.Operand.tmp 13) (Go.Operand.tmp 6), type := 0, pos := "move.go:132", after := #[{ on := 9, ground := Go.Ground.data }, { on := 2, ground := Go.Ground.data }, { on := 0, ground := Go.Ground.phase }, { on := 1, ground := Go.Ground.textOnly Go.Departure.lateStores }, { on := 2, ground := Go.Ground.phase }, { on := 3, ground := Go.Ground.textOnly Go.Departure.lateStores }, { on := 4, ground := Go.Ground.textOnly Go.Departure.lateStoresUnsure }, { on := 5, ground := Go.Ground.textOnly Go.Departure.lateStoresUnsure }, { on := 6, ground := Go.Ground.textOnly Go.Departure.lateStoresUnsure }, { on := 7, ground := Go.Ground.phase }], guard := Option.none }) rfl (fun K hK => ?_) (AllReadyH.nil)
  refine wp_store_mid 24 (.tmp 13) (.tmp 6) rfl gm 1 (tL e o).toArray rfl rfl (by rw [List.size_toArray, tL_len _ HO.out]; exact HM0.out.tab.2) (by rw [List.size_toArray, tL_len _ HO.out]; exact Try.infoT) (tL_one _ _) ?_
  have HM1 := Lib.hid (HM0.out.setTab (e := e) HO.out)
  have c18 := HM1.out.two.1
  have z18 := HM1.out.two.2.2 18
  refine hK.out _ _ (⟨World.rangeAt_setCells_apart hHeld.1 _ _ _ (.inl hne), HM1.out.mcells.2.2.2.1⟩) (fun hHeld => ?_)
  clear hK K
  try simp only [Act.put]
  refine wpAnyH_take (i := 11) (oi := { dst := Option.some 14, op := Go.Op.nilCheck (Go.Operand.tmp 5), type := 0, pos := "move.go:132", after := #[{ on := 1, ground := Go.Ground.data }, { on := 0, ground := Go.Ground.phase }, { on := 1, ground := Go.Ground.phase }, { on := 2, ground := Go.Ground.phase }, { on := 3, ground := Go.Ground.phase }, { on := 4, ground := Go.Ground.phase }, { on := 5, ground := Go.Ground.phase }, { on := 6, ground := Go.Ground.phase }, { on := 7, ground := Go.Ground.phase }, { on := 8, ground := Go.Ground.phase }, { on := 9, ground := Go.Ground.phase }, { on := 10, ground := Go.Ground.phase }], guard := Option.none }) (v := ?_) rfl (by kernel_rfl) (by kernel_rfl) (by kernel_rfl) (fun _ _ _ h => h) (Or.inl ⟨by rfl, ?_⟩) (by assumption) ?_
  rotate_left
  · intro V hV; (try dsimp only at hV); go_simp; all_goals (with_reducible rfl)
  try simp only [Act.put, List.setIfInBounds_toArray, List.set_cons_zero, List.set_cons_succ]
  refine wpAnyH_take (i := 12) (oi := { dst := Option.some 15, op := Go.Op.fieldAddr 89 (Go.Operand.tmp 14) 2, type := 0, pos := "move.go:132", after := #[{ on := 11, ground := Go.Ground.data }, { on := 0, ground := Go.Ground.phase }, { on := 1, ground := Go.Ground.phase }, { on := 2, ground := Go.Ground.phase }, { on := 3, ground := Go.Ground.phase }, { on := 4, ground := Go.Ground.phase }, { on := 5, ground := Go.Ground.phase }, { on := 6, ground := Go.Ground.phase }, { on := 7, ground := Go.Ground.phase }, { on := 8, ground := Go.Ground.phase }, { on := 9, ground := Go.Ground.phase }, { on := 10, ground := Go.Ground.phase }], guard := Option.none }) (v := ?_) rfl (by kernel_rfl) (by kernel_rfl) (by kernel_rfl) (fun _ _ _ h => h) (Or.inl ⟨by rfl, ?_⟩) (by assumption) ?_
  rotate_left
  · intro V hV; (try dsimp only at hV); go_simp; all_goals (with_reducible rfl)
  try simp only [Act.put, List.setIfInBounds_toArray, List.set_cons_zero, List.set_cons_succ]
  refine wpAnyH_ready (rs := [13]) (by kernel_rfl) (by simp) ?_
  refine AllReadyH.cons (o := { dst := Option.none, op := Go.Op.store 2 (Go.Operand.tmp 15) (Go.Operand.tmp 11), type := 0, pos := "move.go:132", after := #[{ on := 12, ground := Go.Ground.data }, { on := 7, ground := Go.Ground.data }, { on := 10, ground := Go.Ground.chain }, { on := 0, ground := Go.Ground.phase }, { on := 1, ground := Go.Ground.phase }, { on := 2, ground := Go.Ground.phase }, { on := 3, ground := Go.Ground.phase }, { on := 4, ground := Go.Ground.phase }, { on := 5, ground := Go.Ground.phase }, { on := 6, ground := Go.Ground.phase }, { on := 7, ground := Go.Ground.phase }, { on := 8, ground := Go.Ground.phase }, { on := 9, ground := Go.Ground.phase }, { on := 10, ground := Go.Ground.phase }], guard := Option.none }) rfl (fun K hK => ?_) (AllReadyH.nil)
  go_simp
  have HM2 := Lib.hid (HM1.out.setVer M.id)
  refine hK.out _ _ (⟨fun j v hv => by rw [World.cell?_setCell_other _ _ _ _ (by intro q; injection q with q; exact hne q.symm)]; exact hHeld.1 j v hv, HM2.out.mcells.2.2.2.1⟩) (fun hHeld => ?_)
  clear hK K
  try simp only [Act.put]
  refine wpAnyH_done (by kernel_rfl) ?_ _
  have HC3 := Lib.hid (show Chg w ((X.drew.setCells gm 1 (tL e o).toArray.toList).setCell ⟨gm, 18, none⟩ (.int .i64 M.id)) (fun k => k = gm) from (Chg.sets (P := fun k => k = gm) rfl _ _ HC2.out).set rfl 18 _)
  clear hHeld hS0 c18 z18 HM1 HM0 HWD
  generalize World.setCell _ _ _ = w2 at *
  have hif : (Try.prog.info? 24).map (·.size) = some (tL 0 noOwn).toArray.size := Try.infoT
  have HIF := Lib.hid hif
  clear hif
  have hth : w2.there gm 20 (mcs (mend M e o)).toArray.size := HM2.out.mov.2
  have him : (Try.prog.info? 45).map (·.size) = some (mcs (mend M e o)).toArray.size := Try.infoMs
  go_wp2_with (first
    | (refine wpList_store_mid rfl 45 (.tmp 22) (.tmp 19) rfl gm 20 (mcs (mend M e o)).toArray rfl rfl hth him (mcs_one _) ?_; have HM3 := Lib.hid (show MvAt (w2.setCells gm 20 (mcs (mend M e o)).toArray.toList) B gm gl { M with e := e, o := o, ver := M.id, kd := 0, fr := 0, tw := 0, id := 0, sl := 0, ra := none, rn := 0, rc := 0 } from HM2.out.setMov 0 0 0 0 0 none 0 0); have HC4 := Lib.hid (show Chg w (w2.setCells gm 20 (mcs (mend M e o)).toArray.toList) (fun k => k = gm) from Chg.sets (P := fun k => k = gm) rfl _ _ HC3.out); clear hth him; generalize World.setCells w2 gm 20 _ = w3 at *; have c19 := HM3.out.two.2.1; have z19 := HM3.out.two.2.2 19)
    | (refine wpList_store_mid rfl 24 (.tmp 26) (.tmp 20) rfl gm 32 (tL 0 noOwn).toArray rfl rfl (show World.there _ gm 32 (tL 0 noOwn).toArray.size from (HM3.out.setSt 0).next.2) HIF.out (tL_one _ _) ?_; have HM4 := Lib.hid ((HM3.out.setSt 0).setNext (e := 0) (o := noOwn) rfl)))
  go_end0
  exact ⟨rfl, HM4.out, Chg.sets (P := fun k => k = gm) rfl _ _ (HC4.out.set rfl 19 _)⟩
end
end Go.Proofs.Ytbmmgmdjhhnkfaa

namespace Go.Proofs.Ytbmmgmdjhhnkfaa
open Go.RowKit

/-- What a record does. -/
def mtake (M : Mv) (m : MsgD) : Mv :=
  if m.kind = 11 then { M with kd := 11, fr := m.from_, tw := m.«to», id := m.id, sl := m.slot, ra := none, rn := 0, rc := 0, st := 1, e2 := (Mt.move M.e M.o m.slot m.«to»).1, o2 := (Mt.move M.e M.o m.slot m.«to»).2.1 }
  else if m.kind = 12 then mend M M.e2 M.o2
  else if m.kind = 13 then mend M M.e M.o
  else M
section
variable {w w' : World} {B gm gl : Nat} {M : Mv}
set_option maxRecDepth 100000 in
set_option maxHeartbeats 16000000 in
theorem mtake_any (w : World) (m : MsgD) (na ma pa ra : Option Addr) (nn nc mn mc pn pc rn rc : Nat) (h : MvAt w B gm gl M) :
    Calls Try.prog 43 #[.pointer (some ⟨gm, 0, none⟩), .agg #[.int .i64 m.kind, .int .i64 m.from_, .int .i64 m.«to», .int .i64 m.id, .int .i64 m.rev, .int .i64 m.epoch, .int .i64 m.slot, .bool m.flag, .slice na nn nc, .slice ma mn mc, .slice pa pn pc, .slice ra rn rc]] w fun e w' => e = .returned (.tuple #[]) ∧ MvAt w' B gm gl (mtake M m) ∧ Chg w w' (fun k => k = gm) := by
  obtain ⟨X, hX, hw, hb⟩ := box_new w 45 #[.int .i64 m.kind, .int .i64 m.from_, .int .i64 m.«to», .int .i64 m.id, .int .i64 m.rev, .int .i64 m.epoch, .int .i64 m.slot, .bool m.flag, .slice na nn nc, .slice ma mn mc, .slice pa pn pc, .slice ra rn rc]
  have HW := Lib.hid hw
  have HX := Lib.hid (h.below hb)
  have HGL := Lib.hid h.own.lt
  have HC := Lib.hid (Chg.ofBelow (fun k => k = gm) hb)
  have k0 := hw.cell 0
  have k1 := hw.cell 1
  have k2 := hw.cell 2
  have k3 := hw.cell 3
  have k6 := hw.cell 6
  have hne : w.heap.size ≠ gm := by have := HGL.out; omega
  clear h hw hb
  unfold mtake
  generalize m.kind = kd at *
  by_cases h11 : kd = 11
  · subst h11
    rw [if_pos rfl]
    go_enter Try.func43, Try.ntmps43
    go_upto_region 1 with fail
    rw [← hX]
    clear hX
    have hth : X.there gm 20 (mcs { M with kd := 11, fr := m.from_, tw := m.«to», id := m.id, sl := m.slot, ra := none, rn := 0, rc := 0 }).toArray.size := HX.out.mov.2
    have him : (Try.prog.info? 45).map (·.size) = some (mcs { M with kd := 11, fr := m.from_, tw := m.«to», id := m.id, sl := m.slot, ra := none, rn := 0, rc := 0 }).toArray.size := Try.infoMs
    go_upto_region 4 with (refine wpList_store_mid rfl 45 (.tmp 20) (.tmp 18) rfl gm 20 (mcs { M with kd := 11, fr := m.from_, tw := m.«to», id := m.id, sl := m.slot, ra := none, rn := 0, rc := 0 }).toArray rfl rfl hth him (mcs_one _) ?_; have HM1 := Lib.hid (show MvAt (X.setCells gm 20 (mcs { M with kd := 11, fr := m.from_, tw := m.«to», id := m.id, sl := m.slot, ra := none, rn := 0, rc := 0 }).toArray.toList) B gm gl { M with kd := 11, fr := m.from_, tw := m.«to», id := m.id, sl := m.slot, ra := none, rn := 0, rc := 0 } from HX.out.setMov _ _ _ _ _ _ _ _); have HC1 := Lib.hid (show Chg w (X.setCells gm 20 (mcs { M with kd := 11, fr := m.from_, tw := m.«to», id := m.id, sl := m.slot, ra := none, rn := 0, rc := 0 }).toArray.toList) (fun k => k = gm) from Chg.sets (P := fun k => k = gm) rfl _ _ HC.out); have HW1 := Lib.hid (show Whole (X.setCells gm 20 (mcs { M with kd := 11, fr := m.from_, tw := m.«to», id := m.id, sl := m.slot, ra := none, rn := 0, rc := 0 }).toArray.toList) w.heap.size 45 _ from HW.out.kept (heap_setCells _ hne _ _)); clear hth him k0 k1 k2 k3 k6; generalize World.setCells X gm 20 _ = w3 at *; have c19 := HM1.out.two.2.1; have z19 := HM1.out.two.2.2 19)
    have HM2 := Lib.hid (HM1.out.setSt 1)
    have HC2 := Lib.hid (show Chg w (w3.setCell ⟨gm, 19, none⟩ (.int .i64 1)) (fun k => k = gm) from HC1.out.set rfl 19 _)
    have HW2 := Lib.hid (show Whole (w3.setCell ⟨gm, 19, none⟩ (.int .i64 1)) w.heap.size 45 _ from HW1.out.kept (Below.heap_setCell w3 ⟨gm, 19, none⟩ _ _ hne))
    clear c19 z19 HM1 HC1 HW1
    generalize World.setCell w3 _ _ = w4 at *
    obtain ⟨wd, hwd, hbd⟩ : ∃ wd, wd = w4.drew ∧ Below w4.heap.size w4 wd := ⟨_, rfl, below_drewN w4 1⟩
    have HM3 := Lib.hid (HM2.out.below hbd)
    have HW3 := Lib.hid (HW2.out.kept (hbd.block _ HW2.out.lt))
    have HC3 := Lib.hid (HC2.out.trans (Chg.ofBelow _ hbd))
    have hS0 : wd.rangeAt gm 1 (tL M.e M.o) ∧ wd.cell? ⟨w.heap.size, 6, none⟩ = some (.int .i64 m.slot) ∧ wd.cell? ⟨w.heap.size, 2, none⟩ = some (.int .i64 m.«to») := ⟨HM3.out.tab.1, HW3.out.cell 6, HW3.out.cell 2⟩
    clear hbd
    subst hwd
    refine wp_region_held_drew (S := fun V : World => V.rangeAt gm 1 (tL M.e M.o) ∧ V.cell? ⟨w.heap.size, 6, none⟩ = some (.int .i64 m.slot) ∧ V.cell? ⟨w.heap.size, 2, none⟩ = some (.int .i64 m.«to»)) (by kernel_rfl) (hS0) (fun hHeld => ?_)
    refine wpAnyH_take (i := 0) (oi := { dst := Option.some 24, op := Go.Op.move (Go.Operand.tmp 0), type := 32, pos := "move.go:122", after := #[], guard := Option.none }) (v := ?_) rfl (by kernel_rfl) (by kernel_rfl) (by kernel_rfl) (fun _ _ _ h => h) (Or.inl ⟨by rfl, ?_⟩) (by assumption) ?_
    rotate_left
    · intro V hV; (try dsimp only at hV); go_simp; all_goals (with_reducible rfl)
    try simp only [Act.put, List.setIfInBounds_toArray, List.set_cons_zero, List.set_cons_succ]
    refine wpAnyH_take (i := 1) (oi := { dst := Option.some 25, op := Go.Op.move (Go.Operand.tmp 0), type := 32, pos := "move.go:122", after := #[], guard := Option.none }) (v := ?_) rfl (by kernel_rfl) (by kernel_rfl) (by kernel_rfl) (fun _ _ _ h => h) (Or.inl ⟨by rfl, ?_⟩) (by assumption) ?_
    rotate_left
    · intro V hV; (try dsimp only at hV); go_simp; all_goals (with_reducible rfl)
    try simp only [Act.put, List.setIfInBounds_toArray, List.set_cons_zero, List.set_cons_succ]
    refine wpAnyH_take (i := 2) (oi := { dst := Option.some 26, op := Go.Op.nilCheck (Go.Operand.tmp 25), type := 0, pos := "move.go:122", after := #[{ on := 1, ground := Go.Ground.data }], guard := Option.none }) (v := ?_) rfl (by kernel_rfl) (by kernel_rfl) (by kernel_rfl) (fun _ _ _ h => h) (Or.inl ⟨by rfl, ?_⟩) (by assumption) ?_
    rotate_left
    · intro V hV; (try dsimp only at hV); go_simp; all_goals (with_reducible rfl)
    try simp only [Act.put, List.setIfInBounds_toArray, List.set_cons_zero, List.set_cons_succ]
    refine wpAnyH_take (i := 3) (oi := { dst := Option.some 27, op := Go.Op.fieldAddr 89 (Go.Operand.tmp 26) 1, type := 0, pos := "move.go:122", after := #[{ on := 2, ground := Go.Ground.data }], guard := Option.none }) (v := ?_) rfl (by kernel_rfl) (by kernel_rfl) (by kernel_rfl) (fun _ _ _ h => h) (Or.inl ⟨by rfl, ?_⟩) (by assumption) ?_
    rotate_left
    · intro V hV; (try dsimp only at hV); go_simp; all_goals (with_reducible rfl)
    try simp only [Act.put, List.setIfInBounds_toArray, List.set_cons_zero, List.set_cons_succ]
    refine wpAnyH_take (i := 4) (oi := { dst := Option.some 28, op := Go.Op.load 24 (Go.Operand.tmp 27), type := 24, pos := "move.go:122", after := #[{ on := 3, ground := Go.Ground.data }], guard := Option.none }) (v := .agg (tL M.e M.o).toArray) rfl (by kernel_rfl) (by kernel_rfl) (by kernel_rfl) (fun _ _ _ h => h) (Or.inl ⟨by rfl, fun V hV => exec_mid _ _ V 24 (.tmp 27) rfl gm 1 rfl (tL M.e M.o) _ hV.1 Try.underlying24 rfl (tL_info _ HM3.out.l1)⟩) (by assumption) ?_
    try simp only [Act.put, List.setIfInBounds_toArray, List.set_cons_zero, List.set_cons_succ]
    refine wpAnyH_take (i := 5) (oi := { dst := Option.some 29, op := Go.Op.fieldAddr 45 (Go.Operand.tmp 3) 6, type := 0, pos := "move.go:122", after := #[], guard := Option.none }) (v := ?_) rfl (by kernel_rfl) (by kernel_rfl) (by kernel_rfl) (fun _ _ _ h => h) (Or.inl ⟨by rfl, ?_⟩) (by assumption) ?_
    rotate_left
    · intro V hV; (try dsimp only at hV); go_simp; all_goals (with_reducible rfl)
    try simp only [Act.put, List.setIfInBounds_toArray, List.set_cons_zero, List.set_cons_succ]
    refine wpAnyH_take (i := 6) (oi := { dst := Option.some 30, op := Go.Op.load 3 (Go.Operand.tmp 29), type := 3, pos := "move.go:122", after := #[{ on := 5, ground := Go.Ground.data }], guard := Option.none }) (v := ?_) rfl (by kernel_rfl) (by kernel_rfl) (by kernel_rfl) (fun _ _ _ h => h) (Or.inl ⟨by rfl, ?_⟩) (by assumption) ?_
    rotate_left
    · intro V hV; (try dsimp only at hV); obtain ⟨hV1, hV2, hV3⟩ := hV; go_simp; all_goals (with_reducible rfl)
    try simp only [Act.put, List.setIfInBounds_toArray, List.set_cons_zero, List.set_cons_succ]
    refine wpAnyH_take (i := 7) (oi := { dst := Option.some 31, op := Go.Op.fieldAddr 45 (Go.Operand.tmp 3) 2, type := 0, pos := "move.go:122", after := #[], guard := Option.none }) (v := ?_) rfl (by kernel_rfl) (by kernel_rfl) (by kernel_rfl) (fun _ _ _ h => h) (Or.inl ⟨by rfl, ?_⟩) (by assumption) ?_
    rotate_left
    · intro V hV; (try dsimp only at hV); go_simp; all_goals (with_reducible rfl)
    try simp only [Act.put, List.setIfInBounds_toArray, List.set_cons_zero, List.set_cons_succ]
    refine wpAnyH_take (i := 8) (oi := { dst := Option.some 32, op := Go.Op.load 3 (Go.Operand.tmp 31), type := 3, pos := "move.go:122", after := #[{ on := 7, ground := Go.Ground.data }], guard := Option.none }) (v := ?_) rfl (by kernel_rfl) (by kernel_rfl) (by kernel_rfl) (fun _ _ _ h => h) (Or.inl ⟨by rfl, ?_⟩) (by assumption) ?_
    rotate_left
    · intro V hV; (try dsimp only at hV); obtain ⟨hV1, hV2, hV3⟩ := hV; go_simp; all_goals (with_reducible rfl)
    try simp only [Act.put, List.setIfInBounds_toArray, List.set_cons_zero, List.set_cons_succ]
    refine wpAnyH_ready (rs := [9]) (by kernel_rfl) (by simp) ?_
    refine AllReadyH.cons (o := { dst := Option.some 33, op := Go.Op.call { callee := Go.Callee.value (Go.Operand.func 28), args := #[Go.Operand.tmp 28, Go.Operand.tmp 30, Go.Operand.tmp 32], argTypes := #[24, 3, 3] }, type := 80, pos := "move.go:122", after := #[{ on := 4, ground := Go.Ground.data }, { on := 6, ground := Go.Ground.data }, { on := 8, ground := Go.Ground.data }], guard := Option.none }) rfl (fun K hK => ?_) (AllReadyH.nil)
    go_simp
    refine (move_any m.slot m.«to» _ (T := (tL M.e M.o).toArray) (e := M.e) (o := M.o) ⟨rfl, HM3.out.l1⟩).mono ?_
    rintro r w5 ⟨rfl, hb5⟩
    have HM5 := Lib.hid (HM3.out.below hb5)
    have HC5 := Lib.hid (HC3.out.trans (Chg.ofBelow _ hb5))
    have HW5 := Lib.hid (HW3.out.kept (hb5.block _ HW3.out.lt))
    clear hb5
    go_wp2_with fail
    refine hK.out _ _ (show w5.rangeAt gm 1 (tL M.e M.o) ∧ w5.cell? ⟨w.heap.size, 6, none⟩ = some (.int .i64 m.slot) ∧ w5.cell? ⟨w.heap.size, 2, none⟩ = some (.int .i64 m.«to») from ⟨HM5.out.tab.1, HW5.out.cell 6, HW5.out.cell 2⟩) (fun hHeld => ?_)
    clear hK K
    try simp only [Act.put, List.setIfInBounds_toArray, List.set_cons_zero, List.set_cons_succ]
    refine wpAnyH_take (i := 10) (oi := { dst := Option.some 23, op := Go.Op.move (Go.Operand.tmp 33), type := 80, pos := "move.go:122", after := #[{ on := 9, ground := Go.Ground.data }], guard := Option.none }) (v := ?_) rfl (by kernel_rfl) (by kernel_rfl) (by kernel_rfl) (fun _ _ _ h => h) (Or.inl ⟨by rfl, ?_⟩) (by assumption) ?_
    rotate_left
    · intro V hV; (try dsimp only at hV); go_simp; all_goals (with_reducible rfl)
    try simp only [Act.put, List.setIfInBounds_toArray, List.set_cons_zero, List.set_cons_succ]
    refine wpAnyH_take (i := 11) (oi := { dst := Option.some 34, op := Go.Op.extract (Go.Operand.tmp 23) 0, type := 24, pos := "move.go:122", after := #[{ on := 10, ground := Go.Ground.data }], guard := Option.none }) (v := ?_) rfl (by kernel_rfl) (by kernel_rfl) (by kernel_rfl) (fun _ _ _ h => h) (Or.inl ⟨by rfl, ?_⟩) (by assumption) ?_
    rotate_left
    · intro V hV; (try dsimp only at hV); go_simp; all_goals (with_reducible rfl)
    try simp only [Act.put, List.setIfInBounds_toArray, List.set_cons_zero, List.set_cons_succ]
    refine wpAnyH_take (i := 12) (oi := { dst := Option.some 35, op := Go.Op.extract (Go.Operand.tmp 23) 1, type := 28, pos := "move.go:122", after := #[{ on := 10, ground := Go.Ground.data }, { on := 15, ground := Go.Ground.gcOnly Go.Departure.lateStores }], guard := Option.none }) (v := ?_) rfl (by kernel_rfl) (by kernel_rfl) (by kernel_rfl) (fun _ _ _ h => h) (Or.inl ⟨by rfl, ?_⟩) (by assumption) ?_
    rotate_left
    · intro V hV; (try dsimp only at hV); go_simp; all_goals (with_reducible rfl)
    try simp only [Act.put, List.setIfInBounds_toArray, List.set_cons_zero, List.set_cons_succ]
    refine wpAnyH_take (i := 13) (oi := { dst := Option.some 36, op := Go.Op.nilCheck (Go.Operand.tmp 24), type := 0, pos := "move.go:122", after := #[{ on := 0, ground := Go.Ground.data }, { on := 0, ground := Go.Ground.phase }, { on := 1, ground := Go.Ground.phase }, { on := 2, ground := Go.Ground.phase }, { on := 3, ground := Go.Ground.phase }, { on := 4, ground := Go.Ground.phase }, { on := 5, ground := Go.Ground.phase }, { on := 6, ground := Go.Ground.phase }, { on := 7, ground := Go.Ground.phase }, { on := 8, ground := Go.Ground.phase }, { on := 9, ground := Go.Ground.phase }, { on := 10, ground := Go.Ground.phase }, { on := 11, ground := Go.Ground.phase }, { on := 12, ground := Go.Ground.textOnly Go.Departure.lateStores }], guard := Option.none }) (v := ?_) rfl (by kernel_rfl) (by kernel_rfl) (by kernel_rfl) (fun _ _ _ h => h) (Or.inl ⟨by rfl, ?_⟩) (by assumption) ?_
    rotate_left
    · intro V hV; (try dsimp only at hV); go_simp; all_goals (with_reducible rfl)
    try simp only [Act.put, List.setIfInBounds_toArray, List.set_cons_zero, List.set_cons_succ]
    refine wpAnyH_take (i := 14) (oi := { dst := Option.some 37, op := Go.Op.fieldAddr 89 (Go.Operand.tmp 36) 5, type := 0, pos := "move.go:122", after := #[{ on := 13, ground := Go.Ground.data }, { on := 0, ground := Go.Ground.phase }, { on := 1, ground := Go.Ground.phase }, { on := 2, ground := Go.Ground.phase }, { on := 3, ground := Go.Ground.phase }, { on := 4, ground := Go.Ground.phase }, { on := 5, ground := Go.Ground.phase }, { on := 6, ground := Go.Ground.phase }, { on := 7, ground := Go.Ground.phase }, { on := 8, ground := Go.Ground.phase }, { on := 9, ground := Go.Ground.phase }, { on := 10, ground := Go.Ground.phase }, { on := 11, ground := Go.Ground.phase }, { on := 12, ground := Go.Ground.textOnly Go.Departure.lateStores }], guard := Option.none }) (v := ?_) rfl (by kernel_rfl) (by kernel_rfl) (by kernel_rfl) (fun _ _ _ h => h) (Or.inl ⟨by rfl, ?_⟩) (by assumption) ?_
    rotate_left
    · intro V hV; (try dsimp only at hV); go_simp; all_goals (with_reducible rfl)
    try simp only [Act.put, List.setIfInBounds_toArray, List.set_cons_zero, List.set_cons_succ]
    refine wpAnyH_ready (rs := [15]) (by kernel_rfl) (by simp) ?_
    refine AllReadyH.cons (o := { dst := Option.none, op := Go.Op.store 24 (Go.Operand.tmp 37) (Go.Operand.tmp 34), type := 0, pos := "move.go:122", after := #[{ on := 14, ground := Go.Ground.data }, { on := 11, ground := Go.Ground.data }, { on := 9, ground := Go.Ground.chain }, { on := 0, ground := Go.Ground.phase }, { on := 1, ground := Go.Ground.phase }, { on := 2, ground := Go.Ground.phase }, { on := 3, ground := Go.Ground.phase }, { on := 4, ground := Go.Ground.phase }, { on := 5, ground := Go.Ground.phase }, { on := 6, ground := Go.Ground.phase }, { on := 7, ground := Go.Ground.phase }, { on := 8, ground := Go.Ground.phase }, { on := 9, ground := Go.Ground.phase }, { on := 10, ground := Go.Ground.phase }, { on := 11, ground := Go.Ground.phase }, { on := 12, ground := Go.Ground.textOnly Go.Departure.lateStores }], guard := Option.none }) rfl (fun K hK => ?_) (AllReadyH.nil)
    have HLM := Lib.hid (move_len (e := M.e) m.slot m.«to» HM5.out.l1)
    refine wp_store_mid 24 (.tmp 37) (.tmp 34) rfl gm 32 (tcs (Mt.move M.e M.o m.slot m.«to»).1 (Mt.move M.e M.o m.slot m.«to»).2.1) rfl rfl (by rw [tcs_size _ _ HLM.out]; exact HM5.out.next.2) (by rw [tcs_size _ _ HLM.out]; exact Try.infoT) (tcs_one _ _) ?_
    have HM6 := Lib.hid (HM5.out.setNext (e := (Mt.move M.e M.o m.slot m.«to»).1) HLM.out)
    have HW6 := Lib.hid (HW5.out.kept (heap_setCells _ hne (tL (Mt.move M.e M.o m.slot m.«to»).1 (Mt.move M.e M.o m.slot m.«to»).2.1) 32))
    refine hK.out _ _ (⟨HM6.out.tab.1, HW6.out.cell 6, HW6.out.cell 2⟩) (fun hHeld => ?_)
    clear hK K
    try simp only [Act.put]
    refine wpAnyH_done (by kernel_rfl) ?_ _
    have HC6 := Lib.hid (Chg.sets (P := fun k => k = gm) (b := gm) rfl (tL (Mt.move M.e M.o m.slot m.«to»).1 (Mt.move M.e M.o m.slot m.«to»).2.1) 32 HC5.out)
    go_wp2_with fail
    go_end0
    exact ⟨rfl, HM6.out, HC6.out⟩
  · rw [if_neg h11]
    have f11 : (kd == 11) = false := by simpa using h11
    by_cases h12 : kd = 12
    · subst h12
      rw [if_pos rfl]
      go_enter Try.func43, Try.ntmps43
      go_upto_region 1 with fail
      rw [← hX]
      clear hX
      go_wp2_with (refine wpList_load_mid rfl 24 (.tmp 43) rfl gm 32 rfl (tL M.e2 M.o2) _ HX.out.next.1 Try.underlying24 rfl (tL_info _ HX.out.l2) ?_)
      refine (end_any _ HX.out M.e2 M.o2 HX.out.l2).mono ?_
      rintro e w1 ⟨rfl, hm, hc⟩
      have HF := Lib.hid hm
      have HCF := Lib.hid (HC.out.trans hc)
      clear hm hc
      go_wp2
      go_end0
      exact ⟨rfl, HF.out, HCF.out⟩
    · rw [if_neg h12]
      have f12 : (kd == 12) = false := by simpa using h12
      by_cases h13 : kd = 13
      · subst h13
        rw [if_pos rfl]
        go_enter Try.func43, Try.ntmps43
        go_upto_region 1 with fail
        rw [← hX]
        clear hX
        go_wp2_with (refine wpList_load_mid rfl 24 (.tmp 51) rfl gm 1 rfl (tL M.e M.o) _ HX.out.tab.1 Try.underlying24 rfl (tL_info _ HX.out.l1) ?_)
        refine (end_any _ HX.out M.e M.o HX.out.l1).mono ?_
        rintro e w1 ⟨rfl, hm, hc⟩
        have HF := Lib.hid hm
        have HCF := Lib.hid (HC.out.trans hc)
        clear hm hc
        go_wp2
        go_end0
        exact ⟨rfl, HF.out, HCF.out⟩
      · rw [if_neg h13]
        have f13 : (kd == 13) = false := by simpa using h13
        go_enter Try.func43, Try.ntmps43
        go_upto_region 1 with fail
        rw [← hX]
        clear hX
        go_wp2
        go_end0
        exact ⟨rfl, HX.out, HC.out⟩
end
end Go.Proofs.Ytbmmgmdjhhnkfaa
