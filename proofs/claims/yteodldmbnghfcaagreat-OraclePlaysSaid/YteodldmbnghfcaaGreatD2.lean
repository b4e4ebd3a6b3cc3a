/- The disk's small calls: Size, Durable, Left, Bytes, cut. -/
import Derived.Test.YteodldmbnghfcaaGreatD1
namespace Go.Proofs.YteodldmbnghfcaaGreat.Dk
open Go.RowKit

/-- A row may become another one, but it lies where it lay, or in new memory. -/
def Lies (w : World) (v v' : Value) : Prop := v'.ownBlock = v.ownBlock ∨ v'.ownBlock = some w.heap.size ∨ v'.ownBlock = none
/-- Only these two blocks, and new memory, are other than they were. -/
structure Turned (w w' : World) (g : Nat) (o : Option Nat) : Prop where
  os : w'.os = w.os
  tape : w'.tape = w.tape
  output : w'.output = w.output
  size : w.heap.size ≤ w'.heap.size
  block : ∀ k, k < w.heap.size → k ≠ g → some k ≠ o → w'.heap[k]? = w.heap[k]?
theorem Turned.refl (w : World) (g : Nat) (o : Option Nat) : Turned w w g o := ⟨rfl, rfl, rfl, Nat.le_refl _, fun _ _ _ _ => rfl⟩
theorem Turned.ofBelow {w w' : World} (g : Nat) (o : Option Nat) (h : Below w.heap.size w w') : Turned w w' g o := ⟨h.os, h.tape, h.output, h.size, fun k hk _ _ => h.block k hk⟩
theorem Turned.below {w w' : World} {g B : Nat} {o : Option Nat} (h : Turned w w' g o) (hg : B ≤ g) (ho : ∀ k, o = some k → B ≤ k) (hB : B ≤ w.heap.size) : Below B w w' :=
  ⟨h.os, h.tape, h.output, h.size, fun k hk => h.block k (by omega) (by omega) (fun e => by have := ho k e.symm; omega)⟩
theorem Turned.setCell {w w' : World} {g : Nat} {o : Option Nat} (h : Turned w w' g o) (i : Nat) (u : Value) : Turned w (w'.setCell ⟨g, i, none⟩ u) g o :=
  ⟨h.os, h.tape, h.output, by simpa [World.setCell] using h.size, fun k hk hg ho => (Below.heap_setCell w' ⟨g, i, none⟩ u k hg).trans (h.block k hk hg ho)⟩
theorem Turned.then_ {a b c : World} {g : Nat} {o o2 : Option Nat} (h : Turned a b g o) (k : Turned b c g o2) (ho : o2 = o ∨ o2 = none ∨ ∃ n, o2 = some n ∧ a.heap.size ≤ n) : Turned a c g o :=
  ⟨k.os.trans h.os, k.tape.trans h.tape, k.output.trans h.output, Nat.le_trans h.size k.size, fun i hi hg hn => (k.block i (Nat.lt_of_lt_of_le hi h.size) hg (by
    rcases ho with rfl | rfl | ⟨n, rfl, hn'⟩
    · exact hn
    · simp
    · intro e; injection e with e; omega)).trans (h.block i hi hg hn)⟩

theorem Whole.kept {w w' : World} {g : Nat} {t : TypeId} {cs : Array Value} (h : Whole w g t cs) (hb : w'.heap[g]? = w.heap[g]?) : Whole w' g t cs := hb.trans h
theorem owns_kept {w w' : World} {base n : Nat} {e : TypeId} {v : Value} {l : List Value} (h : w.ownsRow base e 1 v n l) (hb : ∀ k, v.ownBlock = some k → w'.heap[k]? = w.heap[k]?) : w'.ownsRow base e 1 v n l := by
  refine ⟨h.1, ?_⟩
  rcases h.2 with h2 | ⟨g, cap, cur, rfl, h3, h4, r⟩
  · exact .inl h2
  · exact .inr ⟨g, cap, cur, rfl, h3, (hb g rfl).trans h4, r⟩
theorem DAt.below {w w' : World} {B g d r : Nat} {v : Value} {xs : List Int} (h : DAt w B g v xs d r) (hb : Below w.heap.size w w') : DAt w' B g v xs d r :=
  ⟨h.blk.kept (hb.block _ h.blk.lt), h.ge, owns_kept h.own (fun k hk => hb.block _ (h.own.lt k hk).2), h.byte, h.hd, h.hr, h.hm⟩
/-- A disk is as it was where neither its block nor its row has been written. -/
theorem DAt.other {w w' : World} {B g g2 d r : Nat} {v : Value} {o : Option Nat} {xs : List Int} (h : DAt w B g v xs d r) (ht : Turned w w' g2 o) (hg : g ≠ g2) (ho : some g ≠ o) (hv : ∀ k, v.ownBlock = some k → k ≠ g2 ∧ some k ≠ o) : DAt w' B g v xs d r :=
  ⟨h.blk.kept (ht.block _ h.blk.lt hg ho), h.ge, owns_kept h.own (fun k hk => ht.block _ (h.own.lt k hk).2 (hv k hk).1 (hv k hk).2), h.byte, h.hd, h.hr, h.hm⟩
theorem DAt.apart {w : World} {B g d r : Nat} {v : Value} {xs : List Int} (h : DAt w B g v xs d r) (B2 : Nat) {e : TypeId} (he : e ≠ 73) {u : Value} {m : Nat} {l : List Value} (hu : w.ownsRow B2 e 1 u m l) : u.ownBlock ≠ some g := by
  intro hb
  rcases hu.2 with ⟨rfl, _⟩ | ⟨k, cap, cur, rfl, _, hh, _⟩
  · cases hb
  · have : k = g := by simpa [Value.ownBlock] using hb
    subst this
    have h1 := h.blk
    unfold Whole at h1
    rw [hh] at h1
    injection h1 with h1
    injection h1 with _ h1
    exact he h1
theorem DAt.slice {w : World} {B g d r : Nat} {v : Value} {xs : List Int} (h : DAt w B g v xs d r) : ∃ a c, v = .slice a xs.length c ∧ IsB w a xs.length xs ∧ (a = none → xs.length = 0 ∧ c = 0) ∧ xs.length ≤ c ∧ c ≤ maxLen := owned_slice h.own h.byte
theorem DAt.cells {w : World} {B g d r : Nat} {v : Value} {xs : List Int} (h : DAt w B g v xs d r) :
    w.cell? ⟨g, 0, none⟩ = some v ∧ w.cell? ⟨g, 1, none⟩ = some (.int .i64 d) ∧ w.cell? ⟨g, 2, none⟩ = some (.int .i64 r) ∧ w.frozen? ⟨g, 0, none⟩ = false ∧ w.frozen? ⟨g, 1, none⟩ = false :=
  ⟨by rw [h.blk.cell]; rfl, by rw [h.blk.cell]; rfl, by rw [h.blk.cell]; rfl, h.blk.free 0, h.blk.free 1⟩

set_option maxRecDepth 100000 in
set_option maxHeartbeats 1000000 in
theorem size_any {B g d r : Nat} {v : Value} {xs : List Int} (w : World) (h : DAt w B g v xs d r) :
    Calls Tryz.prog 40 #[.pointer (some ⟨g, 0, none⟩)] w fun e w' => e = .returned (.int .i64 xs.length) ∧ w = w' := by
  obtain ⟨c0, _⟩ := h.cells
  obtain ⟨a, c, rfl, _⟩ := h.slice
  clear h
  go_enter Tryz.func40, Tryz.ntmps40
  go_wp2
  go_ret
  exact ⟨rfl, rfl⟩
set_option maxRecDepth 100000 in
set_option maxHeartbeats 1000000 in
theorem durable_any {B g d r : Nat} {v : Value} {xs : List Int} (w : World) (h : DAt w B g v xs d r) :
    Calls Tryz.prog 41 #[.pointer (some ⟨g, 0, none⟩)] w fun e w' => e = .returned (.int .i64 d) ∧ w = w' := by
  obtain ⟨_, c1, _⟩ := h.cells
  clear h
  go_enter Tryz.func41, Tryz.ntmps41
  go_wp2
  go_ret
  exact ⟨rfl, rfl⟩
theorem DAt.drewN {w : World} {B g d r : Nat} {v : Value} {xs : List Int} (h : DAt w B g v xs d r) (n : Nat) : DAt (w.drewN n) B g v xs d r :=
  ⟨h.blk, h.ge, h.own, h.byte, h.hd, h.hr, h.hm⟩
/-- What only draws, read on behind some draws. -/
theorem drawn {P : Program} {f : FuncId} {args : Array Value} {w : World} {a n : Nat} {v : Value} (h : Calls P f args (w.drewN (a + n)) fun e w' => e = .returned v ∧ ∃ m, w' = (w.drewN (a + n)).drewN m) :
    Calls P f args (w.drewN (a + n)) fun e w'' => e = .returned v ∧ ∃ m, w'' = w.drewN (a + m) :=
  h.mono fun _ _ ⟨he, m, hm⟩ => ⟨he, n + m, by rw [hm, World.drewN_drewN, Nat.add_assoc]⟩
set_option maxRecDepth 100000 in
theorem size_q {B g d r : Nat} {v : Value} {xs : List Int} (w : World) (h : DAt w B g v xs d r) (n : Nat) :
    Calls Tryz.prog 40 #[.pointer (some ⟨g, 0, none⟩)] (w.drewN n) fun e w' => e = .returned (.int .i64 xs.length) ∧ ∃ m, w' = (w.drewN n).drewN m :=
  (size_any _ (h.drewN n)).mono fun _ _ ⟨he, hw⟩ => ⟨he, 0, by rw [← hw]; rfl⟩
set_option maxRecDepth 100000 in
theorem durable_q {B g d r : Nat} {v : Value} {xs : List Int} (w : World) (h : DAt w B g v xs d r) (n : Nat) :
    Calls Tryz.prog 41 #[.pointer (some ⟨g, 0, none⟩)] (w.drewN n) fun e w' => e = .returned (.int .i64 d) ∧ ∃ m, w' = (w.drewN n).drewN m :=
  (durable_any _ (h.drewN n)).mono fun _ _ ⟨he, hw⟩ => ⟨he, 0, by rw [← hw]; rfl⟩
set_option maxRecDepth 100000 in
set_option maxHeartbeats 1000000 in
theorem left_any {B g d r : Nat} {v : Value} {xs : List Int} (w : World) (h : DAt w B g v xs d r) :
    Calls Tryz.prog 67 #[.pointer (some ⟨g, 0, none⟩)] w fun e w' => e = .returned (.int .i64 ((r - xs.length : Nat))) ∧ ∃ n, w' = w.drewN n := by
  obtain ⟨_, _, c2, _⟩ := h.cells
  have hr := h.hr
  have hm := h.hm
  have H := Lib.hid h
  have hsub : IntKind.i64.wrap ((r : Int) - (xs.length : Int)) = ((r - xs.length : Nat) : Int) := by rw [IntWalk.i64_in _ (by omega)]; omega
  clear h
  go_enter Tryz.func67, Tryz.ntmps67
  go_wp2
  go_quiet ((go_at_call 40; exact Calls.quiet_of (size_q _ H.out _)))
  go_wp2
  go_ret
  exact ⟨rfl, _, rfl⟩
end Go.Proofs.YteodldmbnghfcaaGreat.Dk
