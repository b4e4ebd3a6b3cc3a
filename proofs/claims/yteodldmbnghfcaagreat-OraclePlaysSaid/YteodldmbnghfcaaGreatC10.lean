/- The reader: numbers, counts, truths, texts. -/
import Derived.Test.YteodldmbnghfcaaGreatC9
import Derived.Lib.Bytes
namespace Go.Proofs.YteodldmbnghfcaaGreat
open Go.RowKit

/-- Bytes to be read, ahead of block B. -/
def LiesAt (w : World) (B : Nat) (v : Value) (xs : List Int) : Prop :=
  (v = .slice none 0 0 ∧ xs = []) ∨ ∃ b off c, v = .slice (some ⟨b, off, none⟩) xs.length c ∧ xs.length ≤ c ∧ c ≤ maxLen ∧ b < B ∧ ∀ i x, xs[i]? = some x → w.cell? ⟨b, off + i, none⟩ = some (.int .u8 x) ∧ 0 ≤ x ∧ x < 256
/-- The reader lies in block g: what is left. -/
structure RAt (w : World) (B g : Nat) (v : Value) (xs : List Int) : Prop where
  blk : Whole w g 153 #[v]
  ge : B ≤ g
  lies : LiesAt w B v xs
/-- What the reader leaves alone. -/
structure RF (g : Nat) (w w' : World) : Prop where
  os : w'.os = w.os
  tape : w'.tape = w.tape
  output : w'.output = w.output
  size : w.heap.size ≤ w'.heap.size
  other : ∀ k, k < w.heap.size → k ≠ g → w'.heap[k]? = w.heap[k]?
theorem RF.refl (g : Nat) (w : World) : RF g w w := ⟨rfl, rfl, rfl, Nat.le_refl _, fun _ _ _ => rfl⟩
theorem RF.trans {g : Nat} {a b c : World} (h : RF g a b) (k : RF g b c) : RF g a c :=
  ⟨k.os.trans h.os, k.tape.trans h.tape, k.output.trans h.output, Nat.le_trans h.size k.size, fun i hi hn => (k.other i (Nat.lt_of_lt_of_le hi h.size) hn).trans (h.other i hi hn)⟩
theorem LiesAt.keep {w w' : World} {B : Nat} {v : Value} {xs : List Int} (h : LiesAt w B v xs) (hb : ∀ k, k < B → w'.heap[k]? = w.heap[k]?) : LiesAt w' B v xs := by
  rcases h with h | ⟨b, off, c, h1, h2, h3, h4, h5⟩
  · exact .inl h
  · exact .inr ⟨b, off, c, h1, h2, h3, h4, fun i x hx => ⟨by rw [← (h5 i x hx).1]; unfold World.cell?; rw [hb b h4], (h5 i x hx).2⟩⟩
theorem RF.set {g : Nat} (w : World) (u : Value) : RF g w (w.setCell ⟨g, 0, none⟩ u) :=
  ⟨rfl, rfl, rfl, by simp, fun k _ hk => Below.heap_setCell w ⟨g, 0, none⟩ u k hk⟩
theorem RAt.set {w : World} {B g : Nat} {v u : Value} {xs ys : List Int} (h : RAt w B g v xs) (hl : LiesAt w B u ys) : RAt (w.setCell ⟨g, 0, none⟩ u) B g u ys :=
  ⟨by simpa using h.blk.store 0 u, h.ge, hl.keep fun k hk => Below.heap_setCell w ⟨g, 0, none⟩ u k (by have := h.ge; show k ≠ g; omega)⟩

abbrev Bad (c : Int) : Ending := .panicked [{ v := .iface 25 (.int .i64 c), recovered := false }]
/-- What a call of the reader comes to. -/
def RDone {α : Type} (w : World) (B g : Nat) (r : Except Int (α × List Int)) (val : α → Value) (e : Ending) (w' : World) : Prop :=
  (∃ x ys u, r = .ok (x, ys) ∧ e = .returned (val x) ∧ RAt w' B g u ys ∧ RF g w w') ∨ (∃ c, r = .error c ∧ e = Bad c ∧ RF g w w')
def rnum (xs : List Int) : Except Int (Int × List Int) := if (Vi.get 0 0 xs).2.2 = 0 then .ok ((Vi.get 0 0 xs).1, xs.drop (Vi.get 0 0 xs).2.1) else .error (Vi.get 0 0 xs).2.2

theorem unzig_in (U : Nat) (h : U < 18446744073709551616) : In64 (Vi.unzig U) := by
  unfold In64 Vi.unzig
  split <;> omega
theorem get_range : ∀ (xs : List Int) (i u : Nat), (∀ x ∈ xs, 0 ≤ x ∧ x < 256) → i ≤ 9 → u < 128 ^ i → In64 (Vi.get i u xs).1 ∧ (Vi.get i u xs).2.1 ≤ i + xs.length ∧ (0 ≤ (Vi.get i u xs).2.2 ∧ (Vi.get i u xs).2.2 ≤ 20) := by
  intro xs
  induction xs with
  | nil => intro i u _ _ _; rw [Vi.get]; simp [In64]
  | cons x l ih =>
    intro i u hx hi hu
    rw [Vi.get]
    have hx0 := hx x (by simp)
    by_cases h9 : i = 9 ∧ 1 < x
    · rw [if_pos h9]; simp [In64]
    · rw [if_neg h9]
      by_cases h128 : 128 ≤ x
      · rw [if_pos h128]
        have := ih (i + 1) _ (fun y hy => hx y (List.mem_cons_of_mem _ hy)) (by have : i ≠ 9 := fun h => h9 ⟨h, by omega⟩; omega) (pow_seven u (x.toNat % 128) i hu (by omega))
        refine ⟨this.1, ?_, this.2.2⟩
        have := this.2.1
        simp only [List.length_cons]
        omega
      · rw [if_neg h128]
        by_cases h0 : x = 0 ∧ 0 < i
        · rw [if_pos h0]; simp [In64]
        · rw [if_neg h0]
          refine ⟨unzig_in _ (U_lt u i x hx0.1 h128 hi hu (fun h => by rcases Classical.em (1 < x) with h' | h'; exact absurd ⟨h, h'⟩ h9; omega)), ?_, by simp⟩
          simp only [List.length_cons]
          omega
theorem LiesAt.bytes {w : World} {b off : Nat} {xs : List Int} (h5 : ∀ i x, xs[i]? = some x → w.cell? ⟨b, off + i, none⟩ = some (.int .u8 x) ∧ 0 ≤ x ∧ x < 256) : ∀ x ∈ xs, 0 ≤ x ∧ x < 256 := by
  intro x hx
  obtain ⟨i, hi⟩ := List.getElem?_of_mem hx
  exact (h5 i x hi).2
theorem lies_drop {w : World} {B b off c k : Nat} {xs : List Int} (hk : k ≤ xs.length) (h2 : xs.length ≤ c) (h3 : c ≤ maxLen) (h4 : b < B) (h5 : ∀ i x, xs[i]? = some x → w.cell? ⟨b, off + i, none⟩ = some (.int .u8 x) ∧ 0 ≤ x ∧ x < 256) :
    LiesAt w B (.slice (some ⟨b, off + k, none⟩) (xs.length - k) (c - k)) (xs.drop k) := by
  refine .inr ⟨b, off + k, c - k, by rw [List.length_drop], by rw [List.length_drop]; omega, by omega, h4, fun i x hx => ?_⟩
  rw [List.getElem?_drop] at hx
  have := h5 _ x hx
  rw [Nat.add_assoc]
  exact this
theorem lies_end {w : World} {B b off k : Nat} {xs : List Int} (h2 : xs.length ≤ k) (h4 : b < B) :
    LiesAt w B (.slice (some ⟨b, off, none⟩) 0 0) (xs.drop k) := by
  have e : xs.drop k = [] := List.drop_of_length_le h2
  rw [e]
  exact .inr ⟨b, off, 0, rfl, Nat.le_refl _, by unfold maxLen; omega, h4, fun i x hx => by simp at hx⟩

set_option maxRecDepth 100000 in
set_option maxHeartbeats 4000000 in
theorem rnumber_any (B g : Nat) (v : Value) (xs : List Int) (w : World) (h : RAt w B g v xs) :
    Calls Tryz.prog 79 #[.pointer (some ⟨g, 0, none⟩)] w (RDone w B g (rnum xs) (Value.int .i64)) := by
  have k0 : w.cell? ⟨g, 0, none⟩ = some v := by rw [h.blk.cell]; rfl
  have z0 : w.frozen? ⟨g, 0, none⟩ = false := h.blk.free 0
  have HR := Lib.hid h
  rcases h.lies with ⟨rfl, rfl⟩ | ⟨b, off, c, rfl, h2, h3, h4, h5⟩
  · clear h
    have hn0 : rnum [] = .error 10 := rfl
    have HN0 := Lib.hid hn0
    clear hn0
    go_enter Tryz.func79, Tryz.ntmps79
    go_wp2_with fail
    refine (getint_any B none 0 0 [] w ⟨rfl, .inl rfl⟩ (by omega)).mono ?_
    rintro e w1 ⟨rfl, rfl⟩
    simp only [Vi.get]
    go_wp2
    exact ⟨rfl, .inr ⟨10, HN0.out, rfl, RF.refl _ _⟩⟩
  · have hbb := LiesAt.bytes h5
    obtain ⟨hr1, hr2, hr3⟩ := get_range xs 0 0 hbb (by omega) (by simp)
    unfold In64 at hr1
    obtain ⟨n0, hn0⟩ : ∃ n0, n0 = (Vi.get 0 0 xs).1 := ⟨_, rfl⟩
    obtain ⟨s0, hs0⟩ : ∃ s0, s0 = (Vi.get 0 0 xs).2.1 := ⟨_, rfl⟩
    obtain ⟨c0, hc0⟩ : ∃ c0, c0 = (Vi.get 0 0 xs).2.2 := ⟨_, rfl⟩
    have hrn : rnum xs = if c0 = 0 then .ok (n0, xs.drop s0) else .error c0 := by rw [rnum, hn0, hs0, hc0]
    have hgi := getint_any B (some ⟨b, off, none⟩) xs.length c xs w ⟨rfl, .inr ⟨b, off, rfl, h4, h5⟩⟩ (by unfold maxLen at h3; omega)
    rw [← hn0, ← hs0, ← hc0] at hgi
    rw [← hn0] at hr1
    rw [← hs0, Nat.zero_add] at hr2
    rw [← hc0] at hr3
    obtain ⟨nx, hnx⟩ : ∃ nx, nx = xs.length := ⟨_, rfl⟩
    have hld := lies_drop (k := s0) hr2 h2 h3 h4 h5
    have hle : c = s0 → LiesAt w B (.slice (some ⟨b, off, none⟩) 0 0) (xs.drop s0) := fun hc => lies_end (by omega) h4
    rw [← hnx] at hgi hr2 h2 k0 hld
    have HLD := Lib.hid hld
    have HLE := Lib.hid hle
    have HGI := Lib.hid hgi
    have HRN := Lib.hid hrn
    clear hn0 hs0 hc0 hgi hrn hld hle h5 hbb h hnx
    unfold maxLen at h3
    go_enter Tryz.func79, Tryz.ntmps79
    go_wp2_with fail
    refine HGI.out.mono ?_
    rintro e w1 ⟨rfl, rfl⟩
    by_cases hz : c0 = 0
    · subst hz
      have hok : rnum xs = .ok (n0, xs.drop s0) := by rw [HRN.out, if_pos rfl]
      have HOK := Lib.hid hok
      clear hok
      by_cases hcs : c = s0
      · subst hcs
        go_wp2
        go_ret
        exact .inl ⟨n0, _, _, HOK.out, rfl, HR.out.set (HLE.out trivial), RF.set _ _⟩
      · go_wp2
        go_ret
        exact .inl ⟨n0, _, _, HOK.out, rfl, HR.out.set HLD.out, RF.set _ _⟩
    · go_wp2
      exact ⟨rfl, .inr ⟨c0, by rw [HRN.out, if_neg hz], rfl, RF.refl _ _⟩⟩

def rcount (most : Int) (xs : List Int) : Except Int (Int × List Int) := match rnum xs with
  | .error c => .error c
  | .ok (n, l) => if n < 0 ∨ most < n then .error 2 else .ok (n, l)
def rtruth : List Int → Except Int (Bool × List Int)
  | [] => .error 10
  | x :: l => if 1 < x then .error 22 else .ok (x == 1, l)
theorem rcount_bad {most c : Int} {xs : List Int} (h : rnum xs = .error c) : rcount most xs = .error c := by rw [rcount, h]
theorem rcount_out {most n : Int} {xs l : List Int} (h : rnum xs = .ok (n, l)) (hn : n < 0 ∨ most < n) : rcount most xs = .error 2 := by
  rw [rcount, h]
  show (if n < 0 ∨ most < n then _ else _) = _
  rw [if_pos hn]
theorem rcount_in {most n : Int} {xs l : List Int} (h : rnum xs = .ok (n, l)) (hn : ¬ (n < 0 ∨ most < n)) : rcount most xs = .ok (n, l) := by
  rw [rcount, h]
  show (if n < 0 ∨ most < n then _ else _) = _
  rw [if_neg hn]

set_option maxRecDepth 100000 in
set_option maxHeartbeats 4000000 in
theorem rcount_any (B g : Nat) (v : Value) (xs : List Int) (most : Int) (w : World) (h : RAt w B g v xs) :
    Calls Tryz.prog 102 #[.pointer (some ⟨g, 0, none⟩), .int .i64 most] w (RDone w B g (rcount most xs) (Value.int .i64)) := by
  have HN := Lib.hid (rnumber_any B g v xs w h)
  clear h
  go_enter Tryz.func102, Tryz.ntmps102
  go_wp2_with fail
  refine HN.out.mono ?_
  rintro e w1 (⟨n, ys, u, hr, rfl, hA, hF⟩ | ⟨c, hr, rfl, hF⟩)
  · have HA := Lib.hid hA
    have HF := Lib.hid hF
    have HRR := Lib.hid hr
    clear hA hF hr
    by_cases h0 : n < 0
    · go_wp2
      exact ⟨rfl, .inr ⟨2, rcount_out HRR.out (.inl h0), rfl, HF.out⟩⟩
    · by_cases h1 : most < n
      · go_wp2
        exact ⟨rfl, .inr ⟨2, rcount_out HRR.out (.inr h1), rfl, HF.out⟩⟩
      · go_wp2
        go_ret
        exact .inl ⟨n, ys, u, rcount_in HRR.out (by omega), rfl, HA.out, HF.out⟩
  · have HF := Lib.hid hF
    have HRR := Lib.hid hr
    clear hF hr
    go_wp2
    exact ⟨rfl, .inr ⟨c, rcount_bad HRR.out, rfl, HF.out⟩⟩

set_option maxRecDepth 100000 in
set_option maxHeartbeats 4000000 in
theorem rtruth_any (B g : Nat) (v : Value) (xs : List Int) (w : World) (h : RAt w B g v xs) :
    Calls Tryz.prog 80 #[.pointer (some ⟨g, 0, none⟩)] w (RDone w B g (rtruth xs) Value.bool) := by
  have k0 : w.cell? ⟨g, 0, none⟩ = some v := by rw [h.blk.cell]; rfl
  have z0 : w.frozen? ⟨g, 0, none⟩ = false := h.blk.free 0
  have HR := Lib.hid h
  rcases h.lies with ⟨rfl, rfl⟩ | ⟨b, off, c, rfl, h2, h3, h4, h5⟩
  · clear h
    have HN0 := Lib.hid (show rtruth [] = .error 10 from rfl)
    go_enter Tryz.func80, Tryz.ntmps80
    go_wp2
    exact ⟨rfl, .inr ⟨10, HN0.out, rfl, RF.refl _ _⟩⟩
  · clear h
    cases xs with
    | nil =>
      have HN0 := Lib.hid (show rtruth [] = .error 10 from rfl)
      simp only [List.length_nil] at k0
      clear h5 h2
      go_enter Tryz.func80, Tryz.ntmps80
      go_wp2
      exact ⟨rfl, .inr ⟨10, HN0.out, rfl, RF.refl _ _⟩⟩
    | cons x l =>
      obtain ⟨c0, hx0, hx1⟩ := h5 0 x rfl
      rw [Nat.add_zero] at c0
      have hld := lies_drop (k := 1) (by simp) h2 h3 h4 h5
      have hle : c = 1 → LiesAt w B (.slice (some ⟨b, off, none⟩) 0 0) ((x :: l).drop 1) := fun hc => lies_end (by omega) h4
      obtain ⟨nx, hnx, hnp⟩ : ∃ nx, nx = (x :: l).length ∧ 1 ≤ nx := ⟨_, rfl, by simp⟩
      rw [← hnx] at k0 h2 hld
      have HLD := Lib.hid hld
      have HLE := Lib.hid hle
      clear h5 hld hle hnx
      unfold maxLen at h3
      go_enter Tryz.func80, Tryz.ntmps80
      by_cases hx : 1 < x
      · have HN0 := Lib.hid (show rtruth (x :: l) = .error 22 by rw [rtruth, if_pos hx])
        go_wp2
        exact ⟨rfl, .inr ⟨22, HN0.out, rfl, RF.refl _ _⟩⟩
      · have HN0 := Lib.hid (show rtruth (x :: l) = .ok (x == 1, l) by rw [rtruth, if_neg hx])
        by_cases hc : c = 1
        · subst hc
          go_wp2
          go_ret
          exact .inl ⟨x == 1, _, _, HN0.out, rfl, HR.out.set (HLE.out trivial), RF.set _ _⟩
        · go_wp2
          go_ret
          exact .inl ⟨x == 1, _, _, HN0.out, rfl, HR.out.set HLD.out, RF.set _ _⟩
end Go.Proofs.YteodldmbnghfcaaGreat
