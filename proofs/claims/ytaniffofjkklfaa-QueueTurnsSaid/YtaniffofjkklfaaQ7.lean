/- QueueTurns: put and taken by turns things come out as they went in. -/
import Derived.Test.YtaniffofjkklfaaQ6
import Derived.Test.YtaniffofjkklfaaMap
namespace Go.Proofs.Ytaniffofjkklfaa
open Go.RowKit Go.Conc
open Go.Maps (Keyed)

/-- Truths that came in. -/
def Bools (w : World) (a : Option Addr) (n : Nat) (l : List Bool) : Prop :=
  l.length = n ∧ (n = 0 ∨ ∃ b off, a = some ⟨b, off, none⟩ ∧ b < w.heap.size ∧ ∀ i x, l[i]? = some x → w.cell? ⟨b, off + i, none⟩ = some (.bool x))

/-- What waits: what was put and not lost, from the next one on. -/
def waits (lost : Nat → Bool) (out inn : Nat) : List Int := ((List.range' out (inn - out)).filter (fun i => !lost i)).map (fun i : Nat => (i : Int))
theorem waits_skip {lost : Nat → Bool} {out inn : Nat} (h : out < inn) (hl : lost out = true) : waits lost (out + 1) inn = waits lost out inn := by
  unfold waits
  rw [show inn - out = (inn - (out + 1)) + 1 by omega, List.range'_succ]
  simp [hl]
theorem waits_take {lost : Nat → Bool} {out inn : Nat} (h : out < inn) (hl : lost out = false) : waits lost out inn = (out : Int) :: waits lost (out + 1) inn := by
  unfold waits
  rw [show inn - out = (inn - (out + 1)) + 1 by omega, List.range'_succ]
  simp [hl]
theorem waits_put {lost : Nat → Bool} {out inn : Nat} (h : out ≤ inn) (hl : lost inn = false) : waits lost out (inn + 1) = waits lost out inn ++ [(inn : Int)] := by
  unfold waits
  rw [show inn + 1 - out = (inn - out) + 1 by omega, List.range'_1_concat]
  simp [show out + (inn - out) = inn by omega, hl]
theorem waits_lose {lost : Nat → Bool} {out inn : Nat} (h : out ≤ inn) : waits (fun i => lost i || i == inn) out (inn + 1) = waits lost out inn := by
  unfold waits
  rw [show inn + 1 - out = (inn - out) + 1 by omega, List.range'_1_concat]
  simp [show out + (inn - out) = inn by omega]
  congr 1
  apply List.filter_congr
  intro x hx
  have := List.mem_range'_1.1 hx
  simp [show x ≠ inn by omega]

/-- The queue is as it was where a map has been written. -/
theorem QI.Things.mapped {w w' : World} {P : Program} {k : TypeId} {b N : Nat} {m : Lit → Option Value} (hm : MapAt w P k b m N) (hg : w.grownBy w' (some b)) : ∀ {ps : List Nat} {xs : List Int}, QI.Things w ps xs → QI.Things w' ps xs
  | [], [], _ => trivial
  | p :: ps, _ :: xs, h => ⟨h.1.kept (hg.block p h.1.lt (fun e => hm.ne h.1 (by injection e))), QI.Things.mapped hm hg (ps := ps) (xs := xs) h.2⟩
theorem chan_no_map {w : World} {c cap : Nat} {ps : List Nat} (h : Chan w c cap ps) {P : Program} {k : TypeId} {b N : Nat} {m : Lit → Option Value} (hm : MapAt w P k b m N) : c ≠ b := by
  rintro rfl
  obtain ⟨s, r, h⟩ := h
  obtain ⟨D, ⟨es, clock, h1, _⟩, _⟩ := hm
  rw [h1] at h
  cases h
theorem QI.QAt.mapped {w w' : World} {B g c cap : Nat} {lost : Int} {ps : List Nat} {xs : List Int} (h : QI.QAt w B g c cap lost ps xs) {P : Program} {k : TypeId} {b N : Nat} {m : Lit → Option Value} (hm : MapAt w P k b m N) (hg : w.grownBy w' (some b)) : QI.QAt w' B g c cap lost ps xs :=
  ⟨h.blk.kept (hg.block g h.blk.lt (fun e => hm.ne h.blk (by injection e))), h.ch.kept (hg.block c h.ch.lt (fun e => chan_no_map h.ch hm (by injection e))), h.th.mapped hm hg, h.room, h.lo, h.hi, h.geg, h.gec⟩
theorem MapAt.turned {w w' : World} {B g c cap : Nat} {lost : Int} {ps : List Nat} {xs : List Int} {P : Program} {k : TypeId} {b N : Nat} {m : Lit → Option Value} (hm : MapAt w P k b m N) (h : QI.QAt w B g c cap lost ps xs) (ht : Turned w w' g (some c)) : MapAt w' P k b m N :=
  hm.kept (ht.block b hm.lt (hm.ne h.blk).symm (by have := chan_no_map h.ch hm; simp; omega))
theorem Try.keyI : Keyed Try.prog 3 := Go.Maps.int_keyed Try.underlying3
theorem Try.zeroB (w : World) : (zeroValue 4).run Try.prog w = .ok (.bool false) w := by kernel_rfl
theorem key_int (x : Nat) (h : x ≤ 9223372036854775807) : keyOf Try.prog 3 (.int .i64 (x : Int)) = some (.int .i64 (x : Int)) := Go.Maps.keyOf_int_mk Try.underlying3 (by simp [Lit.wf, IntKind.min, IntKind.max, IntKind.signed, IntKind.bits]; omega)

/-- What the law's loop keeps. -/
structure TurnsAt (w wr : World) (g c b cap inn out : Nat) (lost : Nat → Bool) (N : Nat) (ps : List Nat) (m : Lit → Option Value) : Prop where
  q : QI.QAt wr w.heap.size g c cap (N : Int) ps (waits lost out inn)
  map : MapAt wr Try.prog 3 b m N
  bge : w.heap.size ≤ b
  le : out ≤ inn
  top : ∀ i, inn ≤ i → lost i = false
  has : ∀ i : Nat, m (.int .i64 (i : Int)) = if lost i then some (.bool true) else none
  bel : Below w.heap.size w wr
  few : N ≤ inn
theorem TurnsAt.skip {w wr : World} {g c b cap inn out N : Nat} {lost : Nat → Bool} {ps : List Nat} {m : Lit → Option Value} (h : TurnsAt w wr g c b cap inn out lost N ps m) (hl : lost out = true) : TurnsAt w wr g c b cap inn (out + 1) lost N ps m ∧ out < inn := by
  have hlt : out < inn := by
    rcases Nat.lt_or_ge out inn with h1 | h1
    · exact h1
    · rw [h.top out h1] at hl
      cases hl
  exact ⟨⟨by rw [waits_skip hlt hl]; exact h.q, h.map, h.bge, by omega, h.top, h.has, h.bel, h.few⟩, hlt⟩
end Go.Proofs.Ytaniffofjkklfaa
