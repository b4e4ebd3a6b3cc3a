/- The store as it lies: each of its blocks has a name. -/
import Derived.Test.YtmjdngomjjhhiaaGreatEb
import Derived.Maps.AppendAt
import Derived.Laws.OwnMore
namespace Go.Proofs.YtmjdngomjjhhiaaGreat
open Go.RowKit
open Go.Maps (Keyed)

/-- Only these blocks, and new memory, are other than they were. -/
structure Chg (w w' : World) (P : Nat → Prop) : Prop where
  os : w'.os = w.os
  tape : w'.tape = w.tape
  output : w'.output = w.output
  size : w.heap.size ≤ w'.heap.size
  block : ∀ k, k < w.heap.size → ¬ P k → w'.heap[k]? = w.heap[k]?
theorem Chg.refl (w : World) (P : Nat → Prop) : Chg w w P := ⟨rfl, rfl, rfl, Nat.le_refl _, fun _ _ _ => rfl⟩
theorem Chg.set {w w' : World} {P : Nat → Prop} (h : Chg w w' P) {b : Nat} (hb : P b) (i : Nat) (u : Value) : Chg w (w'.setCell ⟨b, i, none⟩ u) P :=
  ⟨h.os, h.tape, h.output, by simpa [World.setCell] using h.size, fun k hk hn => (Below.heap_setCell w' ⟨b, i, none⟩ u k (by rintro rfl; exact hn hb)).trans (h.block k hk hn)⟩
theorem Chg.drew {w w' : World} {P : Nat → Prop} (h : Chg w w' P) : Chg w w'.drew P := ⟨h.os, h.tape, h.output, h.size, h.block⟩
theorem Chg.mono {w w' : World} {P Q : Nat → Prop} (h : Chg w w' P) (hpq : ∀ k, k < w.heap.size → P k → Q k) : Chg w w' Q := ⟨h.os, h.tape, h.output, h.size, fun k hk hn => h.block k hk (fun hp => hn (hpq k hk hp))⟩
theorem Chg.trans {a b c : World} {P Q : Nat → Prop} (h : Chg a b P) (k : Chg b c Q) (hQ : ∀ i, i < a.heap.size → Q i → P i) : Chg a c P :=
  ⟨k.os.trans h.os, k.tape.trans h.tape, k.output.trans h.output, Nat.le_trans h.size k.size, fun i hi hn => (k.block i (Nat.lt_of_lt_of_le hi h.size) (fun hq => hn (hQ i hi hq))).trans (h.block i hi hn)⟩
theorem Chg.ofBelow {w w' : World} (P : Nat → Prop) (h : Below w.heap.size w w') : Chg w w' P := ⟨h.os, h.tape, h.output, h.size, fun k hk _ => h.block k hk⟩
theorem Chg.then_ {a b c : World} {P : Nat → Prop} (h : Chg a b P) (k : Below b.heap.size b c) : Chg a c P := h.trans (Chg.ofBelow (fun _ => False) k) (fun _ _ h => h.elim)
theorem Chg.below {w w' : World} {P : Nat → Prop} {B : Nat} (h : Chg w w' P) (hP : ∀ k, P k → B ≤ k) (hB : B ≤ w.heap.size) : Below B w w' := ⟨h.os, h.tape, h.output, h.size, fun k hk => h.block k (by omega) (fun hp => by have := hP k hp; omega)⟩
theorem Chg.ofGrown {w w' : World} {row : Option Nat} (h : w.grownBy w' row) {P : Nat → Prop} (hP : ∀ k, k < w.heap.size → row = some k → P k) : Chg w w' P := ⟨h.os, h.tape, h.output, h.size, fun k hk hn => h.block k hk (fun e => hn (hP k hk e.symm))⟩

/-- What a block of the store is. -/
inductive Lb where
  | top
  | map (i : Nat)
  | ent (t : Tp)
  | row (t : Tp)
  | lst (i : Nat) (k : Lit)
abbrev ptr (g : Nat) : Value := .pointer (some ⟨g, 0, none⟩)
abbrev nilS : Value := .slice none 0 0
abbrev tpV (t : Tp) : Value := .agg #[.string t.o, .string t.r, .string t.u]
def Tp.fits (t : Tp) : Prop := t.o.size ≤ 1000000000000000000 ∧ t.r.size ≤ 1000000000000000000 ∧ t.u.size ≤ 1000000000000000000
/-- A tuple's key, a place's, a text's. -/
def kT (t : Tp) : Lit := .string (keyBytes [.string t.o.data.toList, .string t.r.data.toList, .string t.u.data.toList])
def kP (o r : ByteArray) : Lit := .string (keyBytes [.string o.data.toList, .string r.data.toList])
def kS (o : ByteArray) : Lit := .string o.data.toList
def kI (i : Nat) (t : Tp) : Lit := if i = 1 then kP t.o t.r else if i = 0 then kS t.o else kS t.u
def kty (i : Nat) : TypeId := if i = 1 then 68 else 9
/-- Where all lies. -/
structure Gh where
  g : Nat
  be : Nat
  bi : Nat → Nat
  lab : Nat → Option Lb
  ge : Tp → Nat
  rv : Tp → Value
  ps : Nat → Tp → Nat
  L : Nat → Lit → List Tp
  m : Nat → Lit → Option Value
  me : Lit → Option Value
/-- A tuple's entry. -/
structure EntOne (w : World) (H : Gh) (t : Tp) (l : List Sp) : Prop where
  fit : t.fits
  lab : H.lab (H.ge t) = some (.ent t)
  at_ : ∃ a c, H.rv t = .slice a l.length c ∧ EntAt w 0 (H.ge t) t l (H.ps 0 t) (H.ps 1 t) (H.ps 2 t) a l.length c
  row : ∀ b, (H.rv t).ownBlock = some b → H.lab b = some (.row t)
theorem EntOne.keep {w w' : World} {H H' : Gh} {t : Tp} {l : List Sp} (h : EntOne w H t l) (hk : ∀ b, H.lab b = some (.ent t) ∨ H.lab b = some (.row t) → w'.heap[b]? = w.heap[b]? ∧ H'.lab b = H.lab b)
    (hg : H'.ge t = H.ge t) (hr : H'.rv t = H.rv t) (hp : ∀ i, i < 3 → H'.ps i t = H.ps i t) : EntOne w' H' t l := by
  obtain ⟨a, c, h1, h2⟩ := h.at_
  refine ⟨h.fit, by rw [hg, (hk _ (.inl h.lab)).2, h.lab], ⟨a, c, hr.trans h1, ?_⟩, fun b hb => ?_⟩
  · rw [hg, hp 0 (by omega), hp 1 (by omega), hp 2 (by omega)]
    exact ⟨h2.blk.kept (hk _ (.inl h.lab)).1, owns_keptN h2.row (fun k hk2 => (hk k (.inr (h.row k (by rw [h1]; exact hk2)))).1)⟩
  · rw [hr] at hb
    rw [(hk b (.inr (h.row b hb))).2]
    exact h.row b hb
/-- The map of the entries. -/
structure EMapAt (w : World) (H : Gh) (K : List Tp) : Prop where
  map : MapAt w Tryz.prog 32 H.be H.me K.length
  lab : H.lab H.be = some (.map 3)
  has : ∀ t ∈ K, H.me (kT t) = some (ptr (H.ge t))
  only : ∀ kl v, H.me kl = some v → ∃ t ∈ K, kl = kT t
theorem EMapAt.keep {w w' : World} {H H' : Gh} {K : List Tp} (h : EMapAt w H K) (hk : w'.heap[H.be]? = w.heap[H.be]?) (hl : H'.lab H.be = H.lab H.be) (hb : H'.be = H.be) (hm : H'.me = H.me) (hg : ∀ t ∈ K, H'.ge t = H.ge t) : EMapAt w' H' K := by
  refine ⟨by rw [hb, hm]; exact h.map.kept hk, by rw [hb, hl]; exact h.lab, fun t ht => by rw [hm, hg t ht]; exact h.has t ht, fun kl v hv => h.only kl v (by rw [← hm]; exact hv)⟩
/-- An index: its map, the lists in it. -/
structure IxAt (w : World) (H : Gh) (i : Nat) (K : List Tp) (cb : Nat) : Prop where
  ok : IxOk (kI i) K (H.L i) (H.ps i)
  map : ∃ N, N ≤ cb ∧ MapAt w Tryz.prog (kty i) (H.bi i) (H.m i) N
  lab : H.lab (H.bi i) = some (.map i)
  none_ : ∀ k, H.m i k = none ↔ H.L i k = []
  row : ∀ k, w.ownsRow 0 81 1 ((H.m i k).getD nilS) (H.L i k).length ((H.L i k).map fun t => ptr (H.ge t))
  lrow : ∀ k b, ((H.m i k).getD nilS).ownBlock = some b → H.lab b = some (.lst i k)
theorem IxAt.keep {w w' : World} {H H' : Gh} {i : Nat} {K : List Tp} {cb : Nat} (h : IxAt w H i K cb) (hk : ∀ b, (H.lab b = some (.map i) ∨ ∃ k, H.lab b = some (.lst i k)) → w'.heap[b]? = w.heap[b]? ∧ H'.lab b = H.lab b)
    (hb : H'.bi i = H.bi i) (hL : H'.L i = H.L i) (hm : H'.m i = H.m i) (hp : ∀ t ∈ K, H'.ps i t = H.ps i t) (hg : ∀ t ∈ K, H'.ge t = H.ge t) : IxAt w' H' i K cb := by
  refine ⟨⟨fun k => by rw [hL]; exact h.ok.nd k, fun k t => by rw [hL]; exact h.ok.mem k t, fun t ht => by rw [hL, hp t ht]; exact h.ok.at_ t ht⟩, ?_, by rw [hb, (hk _ (.inl h.lab)).2]; exact h.lab, fun k => by rw [hm, hL]; exact h.none_ k, fun k => ?_, fun k b hkb => ?_⟩
  · obtain ⟨N, h1, h2⟩ := h.map
    exact ⟨N, h1, by rw [hb, hm]; exact h2.kept (hk _ (.inl h.lab)).1⟩
  · have he : (H'.L i k).map (fun t => ptr (H'.ge t)) = (H.L i k).map (fun t => ptr (H.ge t)) := by
      rw [hL]
      refine List.map_congr_left fun t ht => ?_
      rw [hg t ((h.ok.mem k t).1 ht).1]
    rw [he, hm, hL]
    exact owns_keptN (h.row k) (fun q hq => (hk q (.inr ⟨k, h.lrow k q hq⟩)).1)
  · rw [hm] at hkb
    rw [(hk b (.inr ⟨k, h.lrow k b hkb⟩)).2]
    exact h.lrow k b hkb
theorem IxAt.mono {w : World} {H : Gh} {i : Nat} {K : List Tp} {cb cb' : Nat} (h : IxAt w H i K cb) (hc : cb ≤ cb') : IxAt w H i K cb' := by
  obtain ⟨N, h1, h2⟩ := h.map
  exact ⟨h.ok, ⟨N, by omega, h2⟩, h.lab, h.none_, h.row, h.lrow⟩
/-- A store's blocks: of the tuples K, with the spans sp. -/
structure StRaw (w : World) (wm : Int) (K : List Tp) (sp : Tp → List Sp) (H : Gh) (cb : Nat) : Prop where
  nd : K.Nodup
  no : ∀ t, t ∉ K → sp t = []
  wm0 : 0 ≤ wm
  lt : ∀ b l, H.lab b = some l → b < w.heap.size
  top : StB w H.g wm H.be (H.bi 0) (H.bi 1) (H.bi 2) (fnV 17) (fnV 19) (fnV 20)
  ltop : H.lab H.g = some .top
  em : EMapAt w H K
  ents : ∀ t ∈ K, EntOne w H t (sp t)
  ix : ∀ i, i < 3 → IxAt w H i K cb
  bigK : K.length ≤ cb
  bigS : ∀ t, (sp t).length ≤ cb
/-- A store. -/
structure StAt (w : World) (wm : Int) (M : SM) (H : Gh) (cb : Nat) : Prop where
  ok : SMOk M
  raw : StRaw w wm M.K M.sp H cb
def Gh.own (H : Gh) (b : Nat) : Prop := (H.lab b).isSome = true
theorem Gh.own_of {H : Gh} {b : Nat} {l : Lb} (h : H.lab b = some l) : H.own b := by unfold Gh.own; rw [h]; rfl
theorem StRaw.own_lt {w : World} {wm : Int} {K : List Tp} {sp : Tp → List Sp} {H : Gh} {cb : Nat} (h : StRaw w wm K sp H cb) {b : Nat} (ho : H.own b) : b < w.heap.size := by
  unfold Gh.own at ho
  obtain ⟨l, hl⟩ := Option.isSome_iff_exists.1 ho
  exact h.lt b l hl
theorem StRaw.keep {w w' : World} {wm : Int} {K : List Tp} {sp : Tp → List Sp} {H : Gh} {cb : Nat} (h : StRaw w wm K sp H cb) (hs : w.heap.size ≤ w'.heap.size) (hk : ∀ b, H.own b → w'.heap[b]? = w.heap[b]?) : StRaw w' wm K sp H cb := by
  have hl : ∀ b l, H.lab b = some l → w'.heap[b]? = w.heap[b]? := fun b l e => hk b (Gh.own_of e)
  refine ⟨h.nd, h.no, h.wm0, fun b l e => Nat.lt_of_lt_of_le (h.lt b l e) hs, ⟨h.top.blk.kept (hl _ _ h.ltop)⟩, h.ltop, h.em.keep (hl _ _ h.em.lab) rfl rfl rfl (fun _ _ => rfl), fun t ht => (h.ents t ht).keep (fun b hb => ⟨hb.elim (hl _ _) (hl _ _), rfl⟩) rfl rfl (fun _ _ => rfl), fun i hi => (h.ix i hi).keep (fun b hb => ⟨hb.elim (hl _ _) (fun ⟨_, e⟩ => hl _ _ e), rfl⟩) rfl rfl rfl (fun _ _ => rfl) (fun _ _ => rfl), h.bigK, h.bigS⟩
theorem StRaw.below {w w' : World} {wm : Int} {K : List Tp} {sp : Tp → List Sp} {H : Gh} {cb : Nat} (h : StRaw w wm K sp H cb) (hb : Below w.heap.size w w') : StRaw w' wm K sp H cb := h.keep hb.size (fun b ho => hb.block b (h.own_lt ho))
theorem StRaw.chg {w w' : World} {wm : Int} {K : List Tp} {sp : Tp → List Sp} {H : Gh} {cb : Nat} {P : Nat → Prop} (h : StRaw w wm K sp H cb) (hc : Chg w w' P) (hP : ∀ b, H.own b → ¬ P b) : StRaw w' wm K sp H cb := h.keep hc.size (fun b ho => hc.block b (h.own_lt ho) (hP b ho))
theorem StRaw.mono {w : World} {wm : Int} {K : List Tp} {sp : Tp → List Sp} {H : Gh} {cb cb' : Nat} (h : StRaw w wm K sp H cb) (hc : cb ≤ cb') : StRaw w wm K sp H cb' :=
  ⟨h.nd, h.no, h.wm0, h.lt, h.top, h.ltop, h.em, h.ents, fun i hi => (h.ix i hi).mono hc, Nat.le_trans h.bigK hc, fun t => Nat.le_trans (h.bigS t) hc⟩
theorem StAt.below {w w' : World} {wm : Int} {M : SM} {H : Gh} {cb : Nat} (h : StAt w wm M H cb) (hb : Below w.heap.size w w') : StAt w' wm M H cb := ⟨h.ok, h.raw.below hb⟩
theorem StAt.chg {w w' : World} {wm : Int} {M : SM} {H : Gh} {cb : Nat} {P : Nat → Prop} (h : StAt w wm M H cb) (hc : Chg w w' P) (hP : ∀ b, H.own b → ¬ P b) : StAt w' wm M H cb := ⟨h.ok, h.raw.chg hc hP⟩
theorem StAt.mono {w : World} {wm : Int} {M : SM} {H : Gh} {cb cb' : Nat} (h : StAt w wm M H cb) (hc : cb ≤ cb') : StAt w wm M H cb' := ⟨h.ok, h.raw.mono hc⟩
/-- What a call does to the blocks of a store. -/
structure StC (w w' : World) (H H' : Gh) : Prop where
  chg : Chg w w' H.own
  g : H'.g = H.g
  new : ∀ b, b < w.heap.size → H'.own b → H.own b
theorem StC.trans {a b c : World} {H H' H'' : Gh} (h : StC a b H H') (k : StC b c H' H'') : StC a c H H'' :=
  ⟨h.chg.trans k.chg (fun i hi ho => h.new i hi ho), k.g.trans h.g, fun i hi ho => h.new i hi (k.new i (Nat.lt_of_lt_of_le hi h.chg.size) ho)⟩
theorem StC.refl (w : World) (H : Gh) : StC w w H H := ⟨Chg.refl _ _, rfl, fun _ _ h => h⟩
theorem StC.ofBelow {w w' : World} (H : Gh) (h : Below w.heap.size w w') : StC w w' H H := ⟨Chg.ofBelow _ h, rfl, fun _ _ h => h⟩
end Go.Proofs.YtmjdngomjjhhiaaGreat
