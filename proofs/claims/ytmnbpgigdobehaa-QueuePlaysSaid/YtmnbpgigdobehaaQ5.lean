/- QueuePours: poured from one queue into another nothing is lost, and the order stays. -/
import Derived.Test.YtmnbpgigdobehaaQ3I
import Derived.Test.YtmnbpgigdobehaaQ4
namespace Go.Proofs.Ytmnbpgigdobehaa
open Go.RowKit Go.Conc

/-- Numbers that came in. -/
def Ints (w : World) (a : Option Addr) (n : Nat) (l : List Int) : Prop :=
  l.length = n ∧ (n = 0 ∨ ∃ b off, a = some ⟨b, off, none⟩ ∧ b < w.heap.size ∧ ∀ i x, l[i]? = some x → w.cell? ⟨b, off + i, none⟩ = some (.int .i64 x))
theorem Ints.row {w w' : World} {a : Option Addr} {n g c : Nat} {l : List Int} (h : Ints w a n l) (hb : Below w.heap.size w w') (hg : w.heap.size ≤ g) (hc : w.heap.size ≤ c) : QI.Row w' g c a n l := by
  refine ⟨h.1, h.2.imp_right ?_⟩
  rintro ⟨b, off, rfl, hl, hcell⟩
  exact ⟨b, off, rfl, Nat.lt_of_lt_of_le hl hb.size, by omega, by omega, fun i x hx => (hb.cell (p := ⟨b, _, none⟩) hl).trans (hcell i x hx)⟩
/-- What a row of the call's own holds, cell by cell. -/
theorem owned_cells {w : World} {base n : Nat} {v : Value} {e : TypeId} {l : List Value} (h : w.ownsRow base e 1 v n l) : ∃ a c, v = .slice a n c ∧ (a = none → n = 0 ∧ c = 0) ∧ ∀ b, a = some b → b.off = 0 ∧ b.spot = none ∧ b.block < w.heap.size ∧ base ≤ b.block ∧ ∀ (j : Nat) u, l[j]? = some u → w.cell? (b.add j) = some u := by
  have hlt := h.lt
  rcases h.2 with ⟨rfl, h0⟩ | ⟨g, cap, cur, rfl, hb, hh, hnc, hcm, hsz, ht⟩
  · exact ⟨none, 0, by rw [h0], fun _ => ⟨h0, rfl⟩, fun b hb => by cases hb⟩
  · refine ⟨_, _, rfl, (by intro e; cases e), ?_⟩
    rintro b hbb
    injection hbb with hbb
    subst hbb
    refine ⟨rfl, rfl, (hlt g rfl).2, hb, fun j u hj => ?_⟩
    rw [add_plain, Nat.zero_add]
    simp only [World.cell?, hh]
    rw [← ht, Nat.mul_one] at hj
    have h1 : (cur.toList.take n)[j]? = some u := hj
    rw [List.getElem?_take] at h1
    split at h1
    · simpa using h1
    · cases h1

/-- Put into an empty queue. -/
theorem put_fresh {B g c cap : Nat} (a : Option Addr) (n k : Nat) (l : List Int) (w : World) (h : QI.QAt w B g c cap 0 [] []) (hl : QI.Row w g c a n l) (hn : n ≤ 9223372036854775806) :
    Calls Try.prog 20 #[.pointer (some ⟨g, 0, none⟩), .slice a n k] w fun e w' => e = .returned (.int .i64 ((min n cap : Nat) : Int)) ∧ (∃ lost ps', QI.QAt w' B g c cap lost ps' (l.take cap)) ∧ Turned w w' g (some c) :=
  (QI.Put_any a n k l _ w h hl hn rfl).mono fun e w' ⟨he, ⟨ps', hq⟩, ht⟩ => ⟨by simpa using he, ⟨_, ps', by simpa using hq⟩, ht⟩
theorem pour_fresh {B g c cap g2 c2 cap2 : Nat} {lost lost2 : Int} {ps : List Nat} {xs : List Int} (w : World) (h : QI.QAt w B g c cap lost ps xs) (h2 : QI.QAt w B g2 c2 cap2 lost2 [] []) (hg : g ≠ g2) (hc : c ≠ c2) :
    Calls Try.prog 21 #[.pointer (some ⟨g, 0, none⟩), .pointer (some ⟨g2, 0, none⟩)] w fun e w' => e = .returned (.int .i64 ((min xs.length cap2 : Nat) : Int)) ∧
      (∃ ps', QI.QAt w' B g c cap lost ps' (xs.drop cap2)) ∧ (∃ ps', QI.QAt w' B g2 c2 cap2 lost2 ps' (xs.take cap2)) ∧ QI.Below2 w w' g c g2 c2 :=
  (QI.Pour_any w h h2 hg hc).mono fun e w' ⟨he, ⟨p1, h1⟩, ⟨p2, h2⟩, hb⟩ => ⟨by simpa using he, ⟨p1, by simpa using h1⟩, ⟨p2, by simpa using h2⟩, hb⟩

set_option maxRecDepth 100000 in
set_option maxHeartbeats 4000000 in
theorem pours_bad (a : Option Addr) (n k : Nat) (s0 s1 : Int) (w : World) (h : (s0 < 1 ∨ 4096 < s0) ∨ (s1 < 1 ∨ 4096 < s1)) :
    Calls Try.prog 4 #[.slice a n k, .agg #[.int .i64 s0, .int .i64 s1]] w fun e w' => e = .returned (.bool true) ∧ Below w.heap.size w w' := by
  have H := Lib.hid h
  clear h
  go_enter Try.func4, Try.ntmps4
  go_wp2_with fail
  refine (awake_any _).mono ?_
  rintro e w1 ⟨rfl, hb⟩
  have c0 := (hb.cell (p := ⟨w.heap.size, 0, none⟩) (by simp)).trans (new_cell w #[.int .i64 s0, .int .i64 s1] _ _ 0)
  have c1 := (hb.cell (p := ⟨w.heap.size, 1, none⟩) (by simp)).trans (new_cell w #[.int .i64 s0, .int .i64 s1] _ _ 1)
  have HB := Lib.hid ((below_alloc _ _).trans (hb.mono (by simp)))
  have hsz := HB.out.size
  have hlt := hb.size
  simp at c0 c1 hlt
  clear hb
  by_cases h0 : s0 < 1 ∨ 4096 < s0
  · have HN0 := Lib.hid (QI.new_bad s0 w1 h0)
    go_wp2_with fail
    refine HN0.out.mono ?_
    rintro e w2 ⟨rfl, rfl⟩
    by_cases h1 : s1 < 1 ∨ 4096 < s1
    · have HN1 := Lib.hid (QI.new_bad s1 w1 h1)
      go_wp2_with fail
      refine HN1.out.mono ?_
      rintro e w2 ⟨rfl, rfl⟩
      go_wp2
      go_ret
      exact ⟨rfl, HB.out⟩
    · obtain ⟨m, rfl⟩ : ∃ m : Nat, s1 = (m : Int) := ⟨s1.toNat, by omega⟩
      have HN1 := Lib.hid (QI.new_good w.heap.size m w1 (by omega) (by omega) (by omega))
      go_wp2_with fail
      refine HN1.out.mono ?_
      rintro e w2 ⟨rfl, hq, hb⟩
      have HB2 := Lib.hid (HB.out.trans (hb.mono hsz))
      clear hq hb
      go_wp2
      go_ret
      exact ⟨rfl, HB2.out⟩
  · have h1 : s1 < 1 ∨ 4096 < s1 := H.out.resolve_left h0
    obtain ⟨m, rfl⟩ : ∃ m : Nat, s0 = (m : Int) := ⟨s0.toNat, by omega⟩
    have HN0 := Lib.hid (QI.new_good w.heap.size m w1 (by omega) (by omega) (by omega))
    go_wp2_with fail
    refine HN0.out.mono ?_
    rintro e w2 ⟨rfl, hq, hb⟩
    have d1 := (hb.cell (p := ⟨w.heap.size, 1, none⟩) (by simp; omega)).trans c1
    have HB2 := Lib.hid (HB.out.trans (hb.mono hsz))
    have HN1 := Lib.hid (QI.new_bad s1 w2 h1)
    clear hq hb c0 c1
    go_wp2_with fail
    refine HN1.out.mono ?_
    rintro e w3 ⟨rfl, rfl⟩
    go_wp2
    go_ret
    exact ⟨rfl, HB2.out⟩
end Go.Proofs.Ytmnbpgigdobehaa
