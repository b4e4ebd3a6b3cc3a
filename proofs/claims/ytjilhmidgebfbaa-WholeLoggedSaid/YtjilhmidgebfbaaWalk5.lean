/- Slices of bytes; the walk of frame.Seal. -/
import Derived.Test.YtjilhmidgebfbaaWalk4
namespace Go.Proofs.Ytjilhmidgebfbaa.Fr
open Go.RowKit

theorem IsB.ext {w w' : World} {a : Option Addr} {n : Nat} {xs : List Int} (h : IsB w a n xs) (hw : ∀ b o v, b < w.heap.size → w.cell? ⟨b, o, none⟩ = some v → w'.cell? ⟨b, o, none⟩ = some v) : IsB w' a n xs := by
  obtain ⟨h1, h2, h3⟩ := h
  refine ⟨h1, h2, h3.imp_right ?_⟩
  rintro ⟨b, off, rfl, hc⟩
  exact ⟨b, off, rfl, fun i hi => hw _ _ _ (World.block_lt_of_cell? w ⟨b, off + i, none⟩ (hc i hi)) (hc i hi)⟩
theorem IsB.below {w w' : World} {a : Option Addr} {n : Nat} {xs : List Int} (h : IsB w a n xs) (hw : Below w.heap.size w w') : IsB w' a n xs :=
  h.ext fun b o _ hb hc => (hw.cell (p := ⟨b, o, none⟩) hb).trans hc
theorem IsB.grown {w w' : World} {a : Option Addr} {n : Nat} {xs : List Int} (h : IsB w a n xs) (hw : w.grownBy w' none) : IsB w' a n xs :=
  h.ext fun _ _ _ _ hc => hw.cell hc (by simp)
theorem IsB.alloc {w : World} {a : Option Addr} {n : Nat} {xs : List Int} (h : IsB w a n xs) (o : Obj) : IsB (w.alloc o) a n xs :=
  h.grown (World.grownBy_alloc _ _ _)
theorem IsB.owned {w : World} {base n : Nat} {a : Option Addr} {c : Nat} {xs : List Int} (h : w.ownsRow base 5 1 (.slice a n c) n (xs.map (Value.int .u8))) (hb : ∀ x ∈ xs, 0 ≤ x ∧ x < 256) : IsB w a n xs := by
  refine ⟨by simpa using h.1, hb, ?_⟩
  rcases h.2 with ⟨_, h0⟩ | ⟨g, cap, cur, hv, _⟩
  · exact .inl h0
  · injection hv with e1 e2 e3
    subst e1
    refine .inr ⟨g, 0, rfl, fun i hi => ?_⟩
    have hl : i < xs.length := by have := h.1; simp at this; omega
    have := h.cells (g := g) rfl i (.int .u8 xs[i]) (by simp [hl])
    have e : ((⟨g, 0, none⟩ : Addr).add i) = ⟨g, 0 + i, none⟩ := by
      unfold Addr.add
      split <;> simp_all
    rw [e] at this
    simpa [List.getD, hl] using this
theorem IsB.news {w : World} {a : Option Addr} {n : Nat} {xs : List Int} (h : IsB w a n xs) : ∀ ad, a = some ad → ∀ j u, (xs.map (Value.int .u8))[j]? = some u → w.cell? (ad.add j) = some u := by
  rintro ad rfl j u hu
  obtain ⟨h1, _, h3⟩ := h
  have hj : j < xs.length := by
    rcases Nat.lt_or_ge j xs.length with h | h
    · exact h
    · rw [List.getElem?_eq_none (by simpa using h)] at hu; cases hu
  rcases h3 with h3 | ⟨b, off, he, hc⟩
  · omega
  · injection he with he
    subst he
    have e : ((⟨b, off, none⟩ : Addr).add j) = ⟨b, off + j, none⟩ := by simp [Addr.add]
    rw [e, hc j (by omega)]
    simpa [List.getD, hj] using hu
theorem oneCell_map (xs : List Int) : ∀ u ∈ xs.map (Value.int .u8), u.oneCell' = true := by
  intro u hu
  obtain ⟨x, _, rfl⟩ := List.mem_map.1 hu
  rfl

theorem Parts.lit {w : World} (vs : List Value) (xss : List (List Int)) (T : TypeId) (hl : xss.length = vs.length) (hm : vs.length ≤ maxLen) (h : ∀ i, i < vs.length → IsV w (vs.getD i undef) (xss.getD i [])) :
    Parts (w.alloc (.cells vs.toArray T)) w.heap.size vs.length xss := by
  refine ⟨hl, hm, fun i hi => ?_⟩
  obtain ⟨a, n, c, hv, hn, hb⟩ := h i hi
  refine ⟨vs.getD i undef, ?_, a, n, c, hv, hn, hb.alloc _⟩
  have := World.cell?_alloc_mark w vs.toArray T (0, 0) i
  rw [this]
  simp [List.getD, hi]

/-- The bytes of a payload's frame. -/
def sealed (xs : List Int) : List Int := be xs.length ++ be (Mt.sum (be xs.length ++ xs)) ++ xs
theorem sealed_byte (xs : List Int) (hb : ∀ x ∈ xs, 0 ≤ x ∧ x < 256) (hl : xs.length ≤ 16384) : ∀ x ∈ sealed xs, 0 ≤ x ∧ x < 256 := by
  intro x hx
  simp only [sealed, List.mem_append] at hx
  rcases hx with (h | h) | h
  · exact be_byte _ (by omega) x h
  · exact be_byte _ (by unfold Mt.sum; omega) x h
  · exact hb x h
theorem sealed_length (xs : List Int) : (sealed xs).length = 8 + xs.length := by simp [sealed, be]; omega

set_option maxRecDepth 100000 in
theorem seal_long (a : Option Addr) (n c : Nat) (w : World) (hn : 16384 < n) (hmx : n ≤ maxLen) :
    Calls Try.prog 32 #[.slice a n c] w fun e w' => e = .returned (.tuple #[.slice none 0 0, .int .i64 2]) ∧ w = w' := by
  unfold maxLen at hmx
  go_enter Try.func32, Try.ntmps32
  go_wp2
  go_ret2
  exact ⟨rfl, rfl⟩

set_option maxRecDepth 100000 in
set_option maxHeartbeats 1000000 in
theorem seal_fits (a : Option Addr) (n c : Nat) (xs : List Int) (w : World) (hn : n ≤ 16384) (hnil : a = none → n = 0 ∧ c = 0) (hxs : IsB w a n xs) :
    Calls Try.prog 32 #[.slice a n c] w fun e w' => ∃ g, e = .returned (.tuple #[.slice (some ⟨g, 0, none⟩) (8 + n) (8 + n), .int .i64 0]) ∧
      w'.ownsRow w.heap.size 5 1 (.slice (some ⟨g, 0, none⟩) (8 + n) (8 + n)) (8 + n) ((sealed xs).map (Value.int .u8)) ∧ Below w.heap.size w w' := by
  obtain ⟨i0, hi, hz0, hz1, hz2⟩ := info_parts Try.infoB
  go_enter Try.func32, Try.ntmps32
  go_wp2_with (at_make; go_loud (refine wpList_make_own _ rfl _ _ 41 rfl w.heap.size 5 i0 (.int .u8 0) 1 Try.underlying41 hi hz0 hz1 .i64 .i64 _ (8 + n) rfl rfl (by omega) (by rw [hz2]; omega) (by unfold maxLen; omega) (Nat.le_refl _) ?_); intro w1 hown1 hgrow1)
  have hbel1 : Below w.heap.size w w1 := (Below.refl _ _).grown hgrow1 (Nat.le_refl _) (by intro k hk; cases hk)
  refine (putWord_any w.heap.size w.heap.size 0 (8 + n) n [] _ (by omega) (by omega) hgrow1.size hown1).mono ?_
  rintro e w2 ⟨rfl, hown2, hbel2⟩
  have hB2 := hbel1.trans hbel2
  clear hbel1 hbel2 hgrow1 hown1
  have hown2' : w2.ownsRow w.heap.size 5 1 (.slice (some ⟨w.heap.size, 0, none⟩) 4 (8 + n)) 4 ((be n).map (Value.int .u8)) := hown2
  have hp := hxs.below hB2
  have hb4 : IsB w2 (some ⟨w.heap.size, 0, none⟩) 4 (be n) := IsB.owned hown2' (be_byte n (by omega))
  have hparts : Parts (w2.alloc (.cells #[.slice (some ⟨w.heap.size, 0, none⟩) 4 (8 + n), .slice a n c] 41)) w2.heap.size 2 [be n, xs] :=
    Parts.lit [.slice (some ⟨w.heap.size, 0, none⟩) 4 (8 + n), .slice a n c] [be n, xs] 41 rfl (by simp [maxLen]) (by
      intro i hi
      match i, hi with
      | 0, _ => exact ⟨_, _, _, rfl, by unfold maxLen; omega, hb4⟩
      | 1, _ => exact ⟨_, _, _, rfl, by unfold maxLen; omega, hp⟩)
  have HP := Lib.hid hparts
  have HO := Lib.hid hown2'
  have HX := Lib.hid hxs
  have HN := Lib.hid hnil
  clear hparts hown2' hown2 hp hb4 hxs hnil
  go_wp2_with fail
  refine (sum_any _ _ _ _ _ HP.out).mono ?_
  rintro e w3 ⟨rfl, rfl⟩
  go_wp2_with fail
  have hsl : Mt.sum (be n ++ xs) < 4294967296 := by unfold Mt.sum; omega
  refine (putWord_any w.heap.size w.heap.size 4 (8 + n) _ _ _ hsl (by omega) (by have := hB2.size; simp; omega) (HO.out.alloc _)).mono ?_
  rintro e w4 ⟨rfl, hown4, hbel4⟩
  have hB4 := (hB2.alloc hB2.size (.cells #[.slice (some ⟨w.heap.size, 0, none⟩) 4 (8 + n), .slice a n c] 41)).trans hbel4
  have hp4 := HX.out.below hB4
  clear hbel4 hB2 hsl
  have hnews := hp4.news
  have hlen : (xs.map (Value.int .u8)).length = n * 1 := by simpa using HX.out.1
  have HNW := Lib.hid hnews
  have HLN := Lib.hid hlen
  clear hnews hlen hp4
  go_wp2_with (at_builtin; refine wpList_append_fits_any _ rfl _ _ 41 rfl w.heap.size 5 i0 1 Try.underlying41 hi hz1 w.heap.size (4 + 4) (8 + n) _ rfl hown4 a n c (xs.map (Value.int .u8)) rfl HLN.out HN.out HNW.out (oneCell_map xs) (by omega) ?_; intro w5 hown5 hgrow5)
  have hB5 : Below w.heap.size w w5 := hB4.grown hgrow5 hB4.size (by intro q hq; injection hq with hq; omega)
  have HB5 := Lib.hid hB5
  have HO5 := Lib.hid hown5
  clear hB5 hown5 hgrow5 hB4 hown4
  go_wp2
  go_ret2
  have hs : (sealed xs).map (Value.int .u8) = (be n).map (Value.int .u8) ++ ((be (Mt.sum (be n ++ xs))).map (Value.int .u8) ++ xs.map (Value.int .u8)) := by
    simp [sealed, HX.out.1]
  exact ⟨w.heap.size, rfl, by rw [hs]; simpa using HO5.out, HB5.out⟩
end Go.Proofs.Ytjilhmidgebfbaa.Fr
