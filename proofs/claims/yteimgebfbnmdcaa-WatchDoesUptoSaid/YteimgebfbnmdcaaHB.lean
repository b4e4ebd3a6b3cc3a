/- What watch's walks want of the store's and the tuples' words. -/
import Derived.Test.YteimgebfbnmdcaaEA
import Derived.Test.YteimgebfbnmdcaaMap
import Derived.Test.YteimgebfbnmdcaaTOrd
import Derived.Test.YteimgebfbnmdcaaNLie
import Derived.DeepKeys3
import Derived.Maps.AppendAt
import Derived.Laws.OwnMore
import Derived.StillTailTactics
import Derived.Deep.RegionLaw
import Derived.Deep.Cut
import Derived.Deep.DeepCutAuto
import Derived.Deep.CutBlock
import Derived.BigQuiet
import Derived.Deep.RegionHeld3
import Derived.Maps.RangeWalk
import Derived.Sort.LotA
namespace Go.Proofs.Yteimgebfbnmdcaa
open Go.RowKit
open Go.Maps (Keyed)
open Go.WideShapes

theorem owns_keptN {w w' : World} {base n size : Nat} {e : TypeId} {v : Value} {l : List Value} (h : w.ownsRow base e size v n l) (hb : ∀ k, v.ownBlock = some k → w'.heap[k]? = w.heap[k]?) : w'.ownsRow base e size v n l := by
  refine ⟨h.1, ?_⟩
  rcases h.2 with h2 | ⟨g, cap, cur, rfl, h3, h4, r⟩
  · exact .inl h2
  · exact .inr ⟨g, cap, cur, rfl, h3, (hb g rfl).trans h4, r⟩
theorem keyT : Keyed Try.prog 47 := Keyed.of_law (deep_law (m := 5) (by decide) (by kernel_rfl) (by kernel_rfl) (by kernel_rfl))
/-- Only these blocks, and new memory, are other than they were. -/
structure Chg (w w' : World) (P : Nat → Prop) : Prop where
  os : w'.os = w.os
  tape : w'.tape = w.tape
  output : w'.output = w.output
  size : w.heap.size ≤ w'.heap.size
  block : ∀ k, k < w.heap.size → ¬ P k → w'.heap[k]? = w.heap[k]?
theorem Chg.refl (w : World) (P : Nat → Prop) : Chg w w P := ⟨rfl, rfl, rfl, Nat.le_refl _, fun _ _ _ => rfl⟩
theorem Chg.set {w w' : World} {P : Nat → Prop} (h : Chg w w' P) {b : Nat} (hb : P b) (i : Nat) (u : Value) : Chg w (w'.setCell ⟨b, i, none⟩ u) P :=
  ⟨h.os, h.tape, h.output, by simpa [World.setCell] using h.size, fun k hk hn => (Below.heap_setCell w' ⟨b, i, none⟩ u k (by rintro rfl; exact hn hb)).trans (h.block k hk hn)⟩
theorem Chg.drew {w w' : World} {P : Nat → Prop} (h : Chg w w' P) : Chg w w'.drew P := ⟨h.os, h.tape, h.output, h.size, h.block⟩
theorem Chg.mono {w w' : World} {P Q : Nat → Prop} (h : Chg w w' P) (hpq : ∀ k, k < w.heap.size → P k → Q k) : Chg w w' Q := ⟨h.os, h.tape, h.output, h.size, fun k hk hn => h.block k hk (fun hp => hn (hpq k hk hp))⟩
theorem Chg.trans {a b c : World} {P Q : Nat → Prop} (h : Chg a b P) (k : Chg b c Q) (hQ : ∀ i, i < a.heap.size → Q i → P i) : Chg a c P :=
  ⟨k.os.trans h.os, k.tape.trans h.tape, k.output.trans h.output, Nat.le_trans h.size k.size, fun i hi hn => (k.block i (Nat.lt_of_lt_of_le hi h.size) (fun hq => hn (hQ i hi hq))).trans (h.block i hi hn)⟩
theorem Chg.ofBelow {w w' : World} (P : Nat → Prop) (h : Below w.heap.size w w') : Chg w w' P := ⟨h.os, h.tape, h.output, h.size, fun k hk _ => h.block k hk⟩
theorem Chg.then_ {a b c : World} {P : Nat → Prop} (h : Chg a b P) (k : Below b.heap.size b c) : Chg a c P := h.trans (Chg.ofBelow (fun _ => False) k) (fun _ _ h => h.elim)
theorem Chg.below {w w' : World} {P : Nat → Prop} {B : Nat} (h : Chg w w' P) (hP : ∀ k, P k → B ≤ k) (hB : B ≤ w.heap.size) : Below B w w' := ⟨h.os, h.tape, h.output, h.size, fun k hk => h.block k (by omega) (fun hp => by have := hP k hp; omega)⟩
theorem Chg.ofGrown {w w' : World} {row : Option Nat} (h : w.grownBy w' row) {P : Nat → Prop} (hP : ∀ k, k < w.heap.size → row = some k → P k) : Chg w w' P := ⟨h.os, h.tape, h.output, h.size, fun k hk hn => h.block k hk (fun e => hn (hP k hk e.symm))⟩
abbrev ptr (g : Nat) : Value := .pointer (some ⟨g, 0, none⟩)
abbrev nilS : Value := .slice none 0 0
abbrev tpV (t : Tp) : Value := .agg #[.string t.o, .string t.r, .string t.u]
def Tp.fits (t : Tp) : Prop := t.o.size ≤ 1000000000000000000 ∧ t.r.size ≤ 1000000000000000000 ∧ t.u.size ≤ 1000000000000000000
/-- A tuple's key, a place's, a text's. -/
def kT (t : Tp) : Lit := .string (keyBytes [.string t.o.data.toList, .string t.r.data.toList, .string t.u.data.toList])
theorem formT (t : Tp) : (tpV t).formed Try.prog 47 = true := by kernel_rfl
theorem typeT : Try.prog.keyType 47 = true := by kernel_rfl
theorem litS (d : Nat) {s : ByteArray} (h : s.size ≤ 1000000000000000000) : Try.prog.keyLits (d + 1) 9 [.string s] = some [.string s.data.toList] := by
  have h : s.size ≤ maxLen := by unfold maxLen; omega
  unfold Program.keyLits
  rw [Try.underlying9]
  simp [h]
theorem cellsS : Try.prog.cellsOf 9 = 1 := by kernel_rfl
theorem cellsT : Try.prog.cellsOf 47 = 3 := by kernel_rfl
theorem sizeP : ∃ d, Try.prog.types.size = d + 1 := ⟨Try.prog.types.size - 1, by kernel_rfl⟩
theorem keyT_of {t : Tp} (h : t.fits) : keyOf Try.prog 47 (tpV t) = some (kT t) := by
  obtain ⟨h1, h2, h3⟩ := h
  obtain ⟨d, hd⟩ := sizeP
  unfold keyOf
  rw [Try.underlying47]
  dsimp only
  rw [formT, typeT]
  unfold Program.keyLits
  rw [Try.underlying47]
  have e1 : (tpV t).cells.toList = [.string t.o, .string t.r, .string t.u] := rfl
  rw [e1, hd]
  simp [cellsS, cellsT, litS d h1, litS d h2, litS d h3, kT]
theorem kT_inj {a b : Tp} (ha : a.fits) (hb : b.fits) (h : kT a = kT b) : a = b := by
  have := keyT.inj (keyT_of ha) (by rw [h]; exact keyT_of hb)
  cases a; cases b
  simpa using this
theorem whole_ne {w : World} {g k : Nat} {t u : TypeId} {cs ds : Array Value} (h : Whole w g t cs) (h2 : Whole w k u ds) (hn : t ≠ u) : g ≠ k := by
  rintro rfl
  unfold Whole at h h2
  rw [h] at h2
  injection h2 with h2
  injection h2 with _ h2
  exact hn h2
theorem owned_block {w : World} {base n s k : Nat} {v : Value} {e : TypeId} {l : List Value} (h : w.ownsRow base e s v n l) (hk : v.ownBlock = some k) : base ≤ k ∧ ∃ cur, Whole w k e cur := by
  rcases h.2 with ⟨rfl, _⟩ | ⟨g, cap, cur, rfl, hb, hh, _⟩
  · cases hk
  · have : g = k := by simpa [Value.ownBlock] using hk
    subst this
    exact ⟨hb, cur, hh⟩
theorem owned_anyE {w : World} {base n s : Nat} {v : Value} {e : TypeId} {l : List Value} (h : w.ownsRow base e s v n l) : ∃ a c, v = .slice a n c ∧ n ≤ c ∧ c ≤ maxLen := by
  rcases h.2 with ⟨rfl, rfl⟩ | ⟨g, cap, cur, rfl, hb, hh, h1, h2, _⟩
  · exact ⟨none, 0, rfl, Nat.le_refl _, by simp [maxLen]⟩
  · exact ⟨_, _, rfl, h1, h2⟩
theorem bell_up {w W W' : World} (hb : Below w.heap.size w W) (h : Below W.heap.size W W') : Below w.heap.size w W' := hb.trans (h.mono hb.size)
theorem bell_alloc {w W : World} (h : Below w.heap.size w W) (o : Obj) : Below w.heap.size w (W.alloc o) := h.alloc h.size o
theorem below_drew1 (W : World) : Below W.heap.size W W.drew := ⟨rfl, rfl, rfl, Nat.le_refl _, fun _ _ => rfl⟩
theorem step_append_any {P : Program} (w : World) {ops : Array Oper} {o : Oper} {a : Act} {K : Act → World → Prop} {Q : Exit → Act → World → Prop} {E : Prop} (hgd : o.guard = none) (s x : Operand) (t : TypeId)
    (ho : o.op = .call { callee := .builtin .append, args := #[s, x], argTypes := #[t, t] })
    (base : Nat) (e : TypeId) (i : TypeInfo) (z : Value) (size bytes : Nat) (ht : P.underlying t = some (.slice e)) (hi : P.info? e = some i) (hz : i.zero = some z)
    (hsize : i.size = size) (hby : i.bytes = bytes) (hzs : z.cells.size = size) (hsz : 0 < size)
    (v : Value) (n : Nat) (xs : List Value) (hs : a.eval s = v) (hown : w.ownsRow base e size v n xs)
    (ad : Addr) (m c : Nat) (news : List Value) (hx : a.eval x = .slice (some ad) m c) (hl : news.length = m * size)
    (hnews : ∀ j u, news[j]? = some u → w.cell? (ad.add j) = some u) (h1 : ∀ u ∈ news, u.oneCell' = true)
    (h63 : n + m ≤ maxLen) (hbytes : (n + m) * bytes ≤ 140737488355328) (hbase : base ≤ w.heap.size)
    (h : ∀ v' w', w'.ownsRow base e size v' (n + m) (xs ++ news) → w.grownBy w' v.ownBlock → (v'.ownBlock = v.ownBlock ∨ v'.ownBlock = some w.heap.size) → K (a.put o.dst v') w') :
    if Region.wanted o (yielded ops a.tmps) = true then Oper.wp P o a w K Q else E := by
  have hw : Region.wanted o (yielded ops a.tmps) = true := by simp [Region.wanted, hgd]
  rw [if_pos hw]
  obtain ⟨v', w', hr, h2, h3, _, h4⟩ := run_append_own_at (P := P) w base t o.type e i z size bytes ht hi hz hsize hby hzs hsz v n xs hown ad m c news hl hnews h1 h63 hbytes hbase
  unfold Oper.wp execOp
  simp only [ho, resolve, invoke, builtin, Sem.run_bind, Sem.run_pure, Result.andThen_ok, List.map_toArray, List.map_cons, List.map_nil, hs, hx, hr]
  exact h v' w' h2 h3 h4
/-- This operation alone. -/
theorem step_only {P : Program} {w : World} {ops : Array Oper} {o : Oper} {a : Act} {K : Act → World → Prop} {Q : Exit → Act → World → Prop} {E : Prop} (n : Nat) (_ : o.dst = some n) (h : if Region.wanted o (yielded ops a.tmps) = true then Oper.wp P o a w K Q else E) : if Region.wanted o (yielded ops a.tmps) = true then Oper.wp P o a w K Q else E := h
/-- 'm[k] = v' in a region that draws its order. -/
theorem step_store_map {P : Program} (w : World) {ops : Array Oper} {o : Oper} {a : Act} {K : Act → World → Prop} {Q : Exit → Act → World → Prop} {E : Prop} (hg : o.guard = none) (mm x v : Operand) (t : TypeId) (hop : o.op = Op.mapUpdate t mm x v)
    (k e : TypeId) (KK : Keyed P k) (ht : P.underlying t = some (.map k e)) (z : Value) (hz : (zeroValue e).run P w = .ok z w) (b N : Nat) (m : Lit → Option Value)
    (hm : a.eval mm = .map (some b)) (hown : MapAt w P k b m N) (hn : N < maxLen) (key val : Value) (kl : Lit) (hx : a.eval x = key) (hv : a.eval v = val) (hkey : keyOf P k key = some kl)
    (hK : ∀ w', MapAt w' P k b (mset m kl (some val)) (if (m kl).isSome then N else N + 1) → w.grownBy w' (some b) → w'.heap.size = w.heap.size → K (a.put o.dst undef) w') :
    if Region.wanted o (yielded ops a.tmps) = true then Oper.wp P o a w K Q else E := by
  have hw : Region.wanted o (yielded ops a.tmps) = true := by simp [Region.wanted, hg]
  rw [if_pos hw]
  obtain ⟨w', hrun, r1, r2, r3⟩ := hown.store KK ht hz hn hkey
  unfold Oper.wp
  simp [execOp, hop, hm, hx, hv, Result.andThen]
  rw [hrun]
  exact hK _ r1 r2 r3
/-- 'delete(m, k)' in a region that draws its order. -/
theorem step_drop_map {P : Program} (w : World) {ops : Array Oper} {o : Oper} {a : Act} {K : Act → World → Prop} {Q : Exit → Act → World → Prop} {E : Prop} (hg : o.guard = none) (mm x : Operand) (t k : TypeId) (hop : o.op = Op.call { callee := Callee.builtin Builtin.delete, args := #[mm, x], argTypes := #[t, k] })
    (e : TypeId) (KK : Keyed P k) (ht : P.underlying t = some (.map k e)) (z : Value) (hz : (zeroValue e).run P w = .ok z w) (b N : Nat) (m : Lit → Option Value)
    (hm : a.eval mm = .map (some b)) (hown : MapAt w P k b m N) (key : Value) (kl : Lit) (hx : a.eval x = key) (hkey : keyOf P k key = some kl)
    (hK : ∀ w', MapAt w' P k b (mset m kl none) (if (m kl).isSome then N - 1 else N) → w.grownBy w' (some b) → w'.heap.size = w.heap.size → K (a.put o.dst (.tuple #[])) w') :
    if Region.wanted o (yielded ops a.tmps) = true then Oper.wp P o a w K Q else E := by
  have hw : Region.wanted o (yielded ops a.tmps) = true := by simp [Region.wanted, hg]
  rw [if_pos hw]
  obtain ⟨w', hrun, r1, r2, r3⟩ := hown.drop KK ht hz hkey o.type
  unfold Oper.wp
  simp [execOp, resolve, invoke, builtin, hop, hm, hx, hrun, Result.andThen]
  exact hK _ r1 r2 r3
theorem info_parts {P : Program} {t : TypeId} {z : Value} {n m : Nat} (h : (P.info? t).map (fun i => (i.zero, i.size, i.bytes)) = some (some z, n, m)) : ∃ i, P.info? t = some i ∧ i.zero = some z ∧ i.size = n ∧ i.bytes = m := by
  cases hi : P.info? t with
  | none => rw [hi] at h; cases h
  | some i =>
    rw [hi] at h
    simp at h
    exact ⟨i, rfl, h.1, h.2.1, h.2.2⟩
theorem kT_lit (t : Tp) : WideAt.IsKeyLit (kT t) := by unfold kT; trivial
theorem nd_len {α : Type} [DecidableEq α] : ∀ {l K : List α}, l.Nodup → (∀ x ∈ l, x ∈ K) → l.length ≤ K.length := by
  intro l
  induction l with
  | nil => intro K _ _; exact Nat.zero_le _
  | cons a l ih =>
    intro K hn hs
    obtain ⟨h1, h2⟩ := List.nodup_cons.1 hn
    have ha := hs a (by simp)
    have := ih (K := K.erase a) h2 (fun x hx => (List.mem_erase_of_ne (fun e => h1 (by rw [← e]; exact hx))).2 (hs x (List.mem_cons_of_mem _ hx)))
    rw [List.length_erase_of_mem ha] at this
    have := List.length_pos_of_mem ha
    simp
    omega
theorem row_not_iter {P : Program} {k : TypeId} {R : Value → Option (DataW Value × List MemPlace)} {wr : World} {b r n m : Nat} {D : DataW Value} {left : Lit → Bool} {cnt base : Nat} {e : TypeId} {size : Nat} {v : Value} {xs : List Value} (h : wr.ranges P k R b r n D left cnt) (hr : wr.ownsRow base e size v m xs) : some r ≠ v.ownBlock ∧ some b ≠ v.ownBlock := by
  obtain ⟨es, clock, since, seen, c0, hb, _, _, _, hi, _⟩ := h
  refine ⟨fun e2 => ?_, fun e2 => ?_⟩
  · obtain ⟨_, cur, hW⟩ := owned_block hr e2.symm
    unfold Whole at hW
    rw [hW] at hi
    cases hi
  · obtain ⟨_, cur, hW⟩ := owned_block hr e2.symm
    unfold Whole at hW
    rw [hW] at hb
    cases hb
def tq (t : Tp) : Tq := (t.o, t.r, t.u)
theorem tq_inj {a b : Tp} (h : tq a = tq b) : a = b := by
  cases a; cases b
  simp [tq] at h
  simp [h]
/-- The order of the tuples. -/
def ltT (a b : Tp) : Bool := decide (cmpT (tq a) (tq b) = -1)
theorem ordT : TOrd ltT where
  irr a := by
    have : cmpT (tq a) (tq a) = 0 := (cmpT_zero _ _).2 rfl
    unfold ltT; rw [this]; rfl
  tr a b c h1 h2 := by
    unfold ltT at *
    simp at h1 h2 ⊢
    have h3 := cmpT_trans (tq a) (tq b) (tq c) (by omega) (by omega)
    rcases cmpT_range (tq a) (tq c) with h4 | h4 | h4
    · exact h4
    · have := (cmpT_zero _ _).1 h4
      rw [this, cmpT_neg] at h1
      omega
    · omega
  tri a b hn h := by
    unfold ltT at *
    simp at h ⊢
    rcases cmpT_range (tq a) (tq b) with h4 | h4 | h4
    · exact absurd h4 h
    · exact absurd (tq_inj ((cmpT_zero _ _).1 h4)) hn
    · rw [cmpT_neg, h4]
/-- Rows as they lie. -/
def rwc (l : List Rw) : List Value := l.flatMap fun r => [.string r.t.o, .string r.t.r, .string r.t.u, .int .i64 r.s, .int .i64 r.u]
theorem rwc_append (l m : List Rw) : rwc (l ++ m) = rwc l ++ rwc m := by unfold rwc; rw [List.flatMap_append]
theorem rwc_length (l : List Rw) : (rwc l).length = l.length * 5 := by
  induction l with
  | nil => rfl
  | cons p l ih =>
    show (_ ++ rwc l).length = _
    rw [List.length_append, ih, List.length_cons]
    simp; omega
theorem infoR : (Try.prog.info? 49).map (fun i => (i.zero, i.size, i.bytes)) = some (some (.agg #[.string ⟨#[]⟩, .string ⟨#[]⟩, .string ⟨#[]⟩, .int .i64 0, .int .i64 0]), 5, 64) := by kernel_rfl
end Go.Proofs.Yteimgebfbnmdcaa
