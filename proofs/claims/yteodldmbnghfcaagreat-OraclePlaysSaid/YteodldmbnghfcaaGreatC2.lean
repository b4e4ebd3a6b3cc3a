/- The writer: numbers, truths, texts. -/
import Derived.Test.YteodldmbnghfcaaGreatC1
import Derived.Lib.AppendStr
import Derived.Lib.Bytes
namespace Go.Proofs.YteodldmbnghfcaaGreat
open Go.RowKit

/-- The writer lies in block g: its bytes. -/
structure WAt (w : World) (B g : Nat) (v : Value) (xs : List Int) : Prop where
  blk : Whole w g 157 #[v]
  ge : B ≤ g
  own : w.ownsRow B 5 1 v xs.length (xs.map (Value.int .u8))
  byte : ∀ x ∈ xs, 0 ≤ x ∧ x < 256
/-- What the writer leaves alone. -/
structure WF (B g : Nat) (w w' : World) : Prop where
  below : Below B w w'
  other : ∀ k cs t fr, t ≠ 5 → k ≠ g → w.heap[k]? = some (.cells cs t fr) → w'.heap[k]? = some (.cells cs t fr)
theorem WF.refl (B g : Nat) (w : World) : WF B g w w := ⟨Below.refl _ _, fun _ _ _ _ _ _ h => h⟩
theorem WF.trans {B g : Nat} {a b c : World} (h : WF B g a b) (k : WF B g b c) : WF B g a c :=
  ⟨h.below.trans k.below, fun i cs t fr ht hi hc => k.other i cs t fr ht hi (h.other i cs t fr ht hi hc)⟩
theorem WF.alloc {B g : Nat} {a b : World} (h : WF B g a b) (hB : B ≤ b.heap.size) (o : Obj) : WF B g a (b.alloc o) :=
  ⟨h.below.alloc hB o, fun i cs t fr ht hi hc => by
    have h1 := h.other i cs t fr ht hi hc
    have hl : i < b.heap.size := by
      rcases Nat.lt_or_ge i b.heap.size with hl | hl
      · exact hl
      · rw [Array.getElem?_eq_none hl] at h1; cases h1
    rw [Below.heap_alloc b o i hl]
    exact h1⟩
theorem WF.whole {B g k : Nat} {w w' : World} {t : TypeId} {cs : Array Value} (h : WF B g w w') (hw : Whole w k t cs) (ht : t ≠ 5) (hk : k ≠ g) : Whole w' k t cs := h.other k cs t (0, 0) ht hk hw
theorem WAt.typed {w : World} {B g k : Nat} {v : Value} {xs : List Int} {t : TypeId} {cs : Array Value} (h : WAt w B g v xs) (hw : Whole w k t cs) (ht : t ≠ 157) : k ≠ g := by
  rintro rfl
  have h1 := h.blk
  unfold Whole at h1 hw
  rw [h1] at hw
  injection hw with hw
  injection hw with _ hw
  exact ht hw.symm
theorem WAt.alloc {w : World} {B g : Nat} {v : Value} {xs : List Int} (h : WAt w B g v xs) (o : Obj) : WAt (w.alloc o) B g v xs :=
  ⟨h.blk.kept (Below.heap_alloc w o g h.blk.lt), h.ge, h.own.alloc o, h.byte⟩
/-- The row grown, the writer's cell written. -/
theorem WAt.put {w w1 : World} {B g : Nat} {v v1 : Value} {xs ys : List Int} (h : WAt w B g v xs) (ho : w1.ownsRow B 5 1 v1 ys.length (ys.map (Value.int .u8))) (hy : ∀ x ∈ ys, 0 ≤ x ∧ x < 256) (hg : w.grownBy w1 v.ownBlock) (hB : B ≤ w.heap.size) :
    WAt (w1.setCell ⟨g, 0, none⟩ v1) B g v1 ys ∧ WF B g w (w1.setCell ⟨g, 0, none⟩ v1) ∧ w1.cell? ⟨g, 0, none⟩ = some v ∧ w1.frozen? ⟨g, 0, none⟩ = false := by
  have hne : ∀ k cs t fr, t ≠ 5 → w.heap[k]? = some (.cells cs t fr) → some k ≠ v.ownBlock := by
    intro k cs t fr ht hc e
    rcases h.own.2 with ⟨rfl, _⟩ | ⟨q, cap, cur, rfl, _, hh, _⟩
    · cases e
    · have : k = q := by simpa [Value.ownBlock] using e
      subst this
      rw [hc] at hh
      injection hh with hh
      injection hh with _ hh
      exact ht hh
  have hlt : ∀ (k : Nat) (o : Obj), w.heap[k]? = some o → k < w.heap.size := by
    intro k o hc
    rcases Nat.lt_or_ge k w.heap.size with hl | hl
    · exact hl
    · rw [Array.getElem?_eq_none hl] at hc; cases hc
  have hblk1 : Whole w1 g 157 #[v] := h.blk.kept (hg.block g h.blk.lt (hne g _ _ _ (by decide) h.blk))
  have hown : v1.ownBlock ≠ some g := whole_apart hblk1 (by decide) ho
  refine ⟨⟨by simpa using hblk1.store 0 v1, h.ge, owns_far ho g 0 hown v1, hy⟩, ⟨?_, fun k cs t fr ht hk hc => ?_⟩, by rw [hblk1.cell]; rfl, hblk1.free 0⟩
  · exact ((Below.refl B w).grown hg hB (fun k hk => (h.own.lt k hk).1)).setCell (p := ⟨g, 0, none⟩) h.ge v1
  · rw [Below.heap_setCell w1 ⟨g, 0, none⟩ v1 k hk, hg.block k (hlt k _ hc) (hne k cs t fr ht hc)]
    exact hc

/-- What a call of the writer that succeeds comes to. -/
def WDone (w : World) (B g : Nat) (xs : List Int) (e : Ending) (w' : World) : Prop := e = .returned (.tuple #[]) ∧ ∃ v', WAt w' B g v' xs ∧ WF B g w w' ∧ B ≤ w'.heap.size

theorem byte_app {xs ys : List Int} (hx : ∀ x ∈ xs, 0 ≤ x ∧ x < 256) (hy : ∀ x ∈ ys, 0 ≤ x ∧ x < 256) : ∀ x ∈ xs ++ ys, 0 ≤ x ∧ x < 256 := by
  intro x h
  rcases List.mem_append.1 h with h | h
  · exact hx x h
  · exact hy x h

set_option maxHeartbeats 2000000 in
theorem wnumber_any (B g : Nat) (v : Value) (xs : List Int) (n : Int) (w : World) (h : WAt w B g v xs) (hn1 : -9223372036854775808 ≤ n) (hn2 : n ≤ 9223372036854775807) (hB : B ≤ w.heap.size) (hl : xs.length ≤ 140737488351232) :
    Calls Tryz.prog 90 #[.pointer (some ⟨g, 0, none⟩), .int .i64 n] w (WDone w B g (xs ++ Vi.int n)) := by
  have c0 : w.cell? ⟨g, 0, none⟩ = some v := by rw [h.blk.cell]; rfl
  obtain ⟨a, c, rfl, _, _⟩ := owned_any h.own
  have HA := Lib.hid (appendInt_any B _ xs n w hn1 hn2 h.own hB hl)
  have H := Lib.hid h
  have hby := byte_app h.byte (Vi.int_byte n)
  obtain ⟨ys, hys⟩ : ∃ ys, ys = xs ++ Vi.int n := ⟨_, rfl⟩
  rw [← hys] at HA hby ⊢
  have HBY := Lib.hid hby
  clear h hn1 hn2 hby hys
  go_enter Tryz.func90, Tryz.ntmps90
  go_wp2_with fail
  refine HA.out.mono ?_
  rintro e w1 ⟨v1, rfl, ho, hg, _⟩
  obtain ⟨p1, p2, p3, p4⟩ := H.out.put ho HBY.out hg hB
  obtain ⟨a1, c1, rfl, _, _⟩ := owned_any ho
  have P1 := Lib.hid p1
  have P2 := Lib.hid p2
  have hz := hg.size
  clear p1 p2 ho hg
  go_wp2
  go_end0
  exact ⟨rfl, _, P1.out, P2.out, by simp [World.setCell]; omega⟩

/-- A text's bytes. -/
def bl (S : ByteArray) : List Int := S.data.toList.map fun b => (b.toNat : Int)
theorem bl_length (S : ByteArray) : (bl S).length = S.size := by rw [bl, List.length_map, Array.length_toList]; rfl
theorem bl_byte (S : ByteArray) : ∀ x ∈ bl S, 0 ≤ x ∧ x < 256 := by
  intro x hx
  obtain ⟨b, _, rfl⟩ := List.mem_map.1 hx
  have := b.toNat_lt
  omega
theorem strCells_bl (S : ByteArray) : Lib.strCells S = (bl S).map (Value.int .u8) := by
  simp [Lib.strCells, bl]

set_option maxHeartbeats 2000000 in
theorem wtruth_yes (B g : Nat) (v : Value) (xs : List Int) (w : World) (h : WAt w B g v xs) (hB : B ≤ w.heap.size) (hl : xs.length ≤ 140737488351232) :
    Calls Tryz.prog 91 #[.pointer (some ⟨g, 0, none⟩), .bool true] w (WDone w B g (xs ++ [1])) := by
  obtain ⟨i0, hi, hz0, hz1, hz2⟩ := info_parts Tryz.infoB
  have c0 : w.cell? ⟨g, 0, none⟩ = some v := by rw [h.blk.cell]; rfl
  obtain ⟨a, c, rfl, _, _⟩ := owned_any h.own
  have H := Lib.hid h
  have hby := byte_app h.byte (ys := [1]) (by simp)
  obtain ⟨ys, hys⟩ : ∃ ys, ys = xs ++ [1] := ⟨_, rfl⟩
  have hmap : xs.map (Value.int .u8) ++ [.int .u8 1] = ys.map (Value.int .u8) := by rw [hys]; simp
  have hlen : xs.length + 1 = ys.length := by rw [hys]; simp
  rw [← hys] at hby ⊢
  have HBY := Lib.hid hby
  have HMAP := Lib.hid hmap
  have HLEN := Lib.hid hlen
  clear h hby hys hmap hlen
  go_enter Tryz.func91, Tryz.ntmps91
  go_wp2_with (at_builtin; refine wpList_append_at_any _ rfl (.tmp 9) (.tmp 10) 68 rfl B 5 i0 (.int .u8 0) 1 1 Tryz.underlying68 hi hz0 hz1 hz2 rfl (by decide) _ xs.length _ rfl (H.out.own.alloc _) (some ⟨w.heap.size, 0, none⟩) 1 1 [.int .u8 1] rfl rfl (by intro h; cases h) (by rintro ad he; injection he with he; subst he; exact cell_one_new _ _ _) (by intro q hq; simp at hq; subst hq; rfl) (by unfold maxLen; omega) (by omega) (by simp; omega) ?_; intro v1 w1 ho hg _; rw [HMAP.out, HLEN.out] at ho; obtain ⟨p1, p2, p3, p4⟩ := (H.out.alloc _).put ho HBY.out hg (by simp; omega); obtain ⟨a1, c1, rfl, _, _⟩ := owned_any ho; have P1 := Lib.hid p1; have P2 := Lib.hid (((WF.refl B g w).alloc hB _).trans p2); have hz := hg.size; clear p1 p2 ho hg)
  go_end0
  exact ⟨rfl, _, P1.out, P2.out, by simp at hz; simp [World.setCell]; omega⟩
set_option maxHeartbeats 2000000 in
theorem wtruth_no (B g : Nat) (v : Value) (xs : List Int) (w : World) (h : WAt w B g v xs) (hB : B ≤ w.heap.size) (hl : xs.length ≤ 140737488351232) :
    Calls Tryz.prog 91 #[.pointer (some ⟨g, 0, none⟩), .bool false] w (WDone w B g (xs ++ [0])) := by
  obtain ⟨i0, hi, hz0, hz1, hz2⟩ := info_parts Tryz.infoB
  have c0 : w.cell? ⟨g, 0, none⟩ = some v := by rw [h.blk.cell]; rfl
  obtain ⟨a, c, rfl, _, _⟩ := owned_any h.own
  have H := Lib.hid h
  have hby := byte_app h.byte (ys := [0]) (by simp)
  obtain ⟨ys, hys⟩ : ∃ ys, ys = xs ++ [0] := ⟨_, rfl⟩
  have hmap : xs.map (Value.int .u8) ++ [.int .u8 0] = ys.map (Value.int .u8) := by rw [hys]; simp
  have hlen : xs.length + 1 = ys.length := by rw [hys]; simp
  rw [← hys] at hby ⊢
  have HBY := Lib.hid hby
  have HMAP := Lib.hid hmap
  have HLEN := Lib.hid hlen
  clear h hby hys hmap hlen
  go_enter Tryz.func91, Tryz.ntmps91
  go_wp2_with (at_builtin; refine wpList_append_at_any _ rfl (.tmp 18) (.tmp 19) 68 rfl B 5 i0 (.int .u8 0) 1 1 Tryz.underlying68 hi hz0 hz1 hz2 rfl (by decide) _ xs.length _ rfl (H.out.own.alloc _) (some ⟨w.heap.size, 0, none⟩) 1 1 [.int .u8 0] rfl rfl (by intro h; cases h) (by rintro ad he; injection he with he; subst he; exact cell_one_new _ _ _) (by intro q hq; simp at hq; subst hq; rfl) (by unfold maxLen; omega) (by omega) (by simp; omega) ?_; intro v1 w1 ho hg _; rw [HMAP.out, HLEN.out] at ho; obtain ⟨p1, p2, p3, p4⟩ := (H.out.alloc _).put ho HBY.out hg (by simp; omega); obtain ⟨a1, c1, rfl, _, _⟩ := owned_any ho; have P1 := Lib.hid p1; have P2 := Lib.hid (((WF.refl B g w).alloc hB _).trans p2); have hz := hg.size; clear p1 p2 ho hg)
  go_end0
  exact ⟨rfl, _, P1.out, P2.out, by simp at hz; simp [World.setCell]; omega⟩
/-- A truth's byte. -/
def bit (d : Bool) : Int := if d then 1 else 0
theorem wtruth_any (B g : Nat) (v : Value) (xs : List Int) (f : Bool) (w : World) (h : WAt w B g v xs) (hB : B ≤ w.heap.size) (hl : xs.length ≤ 140737488351232) :
    Calls Tryz.prog 91 #[.pointer (some ⟨g, 0, none⟩), .bool f] w (WDone w B g (xs ++ [bit f])) := by
  cases f
  · exact wtruth_no B g v xs w h hB hl
  · exact wtruth_yes B g v xs w h hB hl
end Go.Proofs.YteodldmbnghfcaaGreat
