/- The queue: words for blocks and channels. -/
import Derived.Test.YtmnbpgigdobehaaTB
import Derived.Conc.LoneCalls
import Derived.Conc.LoneSelect
import Derived.Conc.LoneSelectN
namespace Go.Proofs.Ytmnbpgigdobehaa
open Go.RowKit Go.Conc

/-- Only these two blocks, and new memory, are other than they were. -/
structure Turned (w w' : World) (g : Nat) (o : Option Nat) : Prop where
  os : w'.os = w.os
  tape : w'.tape = w.tape
  output : w'.output = w.output
  size : w.heap.size ≤ w'.heap.size
  block : ∀ k, k < w.heap.size → k ≠ g → some k ≠ o → w'.heap[k]? = w.heap[k]?
theorem Turned.refl (w : World) (g : Nat) (o : Option Nat) : Turned w w g o := ⟨rfl, rfl, rfl, Nat.le_refl _, fun _ _ _ _ => rfl⟩
theorem Turned.ofBelow {w w' : World} (g : Nat) (o : Option Nat) (h : Below w.heap.size w w') : Turned w w' g o := ⟨h.os, h.tape, h.output, h.size, fun k hk _ _ => h.block k hk⟩
theorem Turned.below {w w' : World} {g B : Nat} {o : Option Nat} (h : Turned w w' g o) (hg : B ≤ g) (ho : ∀ k, o = some k → B ≤ k) (hB : B ≤ w.heap.size) : Below B w w' :=
  ⟨h.os, h.tape, h.output, h.size, fun k hk => h.block k (by omega) (by omega) (fun e => by have := ho k e.symm; omega)⟩
theorem Turned.setCell {w w' : World} {g : Nat} {o : Option Nat} (h : Turned w w' g o) (i : Nat) (u : Value) : Turned w (w'.setCell ⟨g, i, none⟩ u) g o :=
  ⟨h.os, h.tape, h.output, by simpa [World.setCell] using h.size, fun k hk hg ho => (Below.heap_setCell w' ⟨g, i, none⟩ u k hg).trans (h.block k hk hg ho)⟩
theorem Turned.setChan {w w' : World} {g c : Nat} (h : Turned w w' g (some c)) (cap : Nat) (buf : Array Value) (cl : Bool) (s r : Nat) (tm : Bool) : Turned w (w'.setChan c cap buf cl s r tm) g (some c) :=
  ⟨h.os, h.tape, h.output, by simpa [World.setChan] using h.size, fun k hk hg ho => by
    have hne : c ≠ k := fun e => ho (by rw [e])
    have h1 := h.block k hk hg ho
    simp only [World.setChan]
    rw [Array.getElem?_setIfInBounds_ne hne]
    exact h1⟩
theorem Turned.trans {a b d : World} {g : Nat} {o : Option Nat} (h : Turned a b g o) (k : Turned b d g o) : Turned a d g o :=
  ⟨k.os.trans h.os, k.tape.trans h.tape, k.output.trans h.output, Nat.le_trans h.size k.size, fun i hi hg hn => (k.block i (Nat.lt_of_lt_of_le hi h.size) hg hn).trans (h.block i hi hg hn)⟩
theorem setChan_other (w : World) (c c' cap : Nat) (buf : Array Value) (closed : Bool) (s r : Nat) (tm : Bool) (h : c ≠ c') : (w.setChan c cap buf closed s r tm).heap[c']? = w.heap[c']? := by
  simp [World.setChan, Array.getElem?_setIfInBounds_ne h]

/-- Pointers, as they lie in a channel. -/
def Ptrs (ps : List Nat) : Array Value := (ps.map fun p => Value.pointer (some ⟨p, 0, none⟩)).toArray
theorem push_ptr (ps : List Nat) (p : Nat) : (Ptrs ps).push (.pointer (some ⟨p, 0, none⟩)) = Ptrs (ps ++ [p]) := by simp [Ptrs]
theorem pop_ptr (p : Nat) (ps : List Nat) : (Ptrs (p :: ps)).extract 1 (Ptrs (p :: ps)).size = Ptrs ps := by
  apply Array.toList_inj.1
  simp [Ptrs]
  exact List.take_of_length_le (by simp)
theorem first_ptr (p : Nat) (ps : List Nat) : (Ptrs (p :: ps)).getD 0 undef = .pointer (some ⟨p, 0, none⟩) := by simp [Ptrs]
theorem Ptrs.size (ps : List Nat) : (Ptrs ps).size = ps.length := by simp [Ptrs]
/-- A channel in block c: its room, and the pointers that lie in it. -/
def Chan (w : World) (c cap : Nat) (ps : List Nat) : Prop := ∃ s r, w.heap[c]? = some (.chan cap (Ptrs ps) false s r false)
theorem Chan.lt {w : World} {c cap : Nat} {ps : List Nat} (h : Chan w c cap ps) : c < w.heap.size := by
  obtain ⟨s, r, h⟩ := h
  rcases Nat.lt_or_ge c w.heap.size with hl | hl
  · exact hl
  · rw [Array.getElem?_eq_none hl] at h
    cases h
theorem Chan.kept {w w' : World} {c cap : Nat} {ps : List Nat} (h : Chan w c cap ps) (hb : w'.heap[c]? = w.heap[c]?) : Chan w' c cap ps := by
  obtain ⟨s, r, h⟩ := h
  exact ⟨s, r, hb.trans h⟩
theorem Chan.no {w : World} {c cap : Nat} {ps : List Nat} (h : Chan w c cap ps) {g : Nat} {t : TypeId} {cs : Array Value} (hg : Whole w g t cs) : g ≠ c := by
  rintro rfl
  obtain ⟨s, r, h⟩ := h
  unfold Whole at hg
  rw [hg] at h
  cases h
theorem whole_ne {w : World} {g k : Nat} {t u : TypeId} {cs ds : Array Value} (h : Whole w g t cs) (h2 : Whole w k u ds) (hn : t ≠ u) : g ≠ k := by
  rintro rfl
  unfold Whole at h h2
  rw [h] at h2
  injection h2 with h2
  injection h2 with _ h2
  exact hn h2

end Go.Proofs.Ytmnbpgigdobehaa
