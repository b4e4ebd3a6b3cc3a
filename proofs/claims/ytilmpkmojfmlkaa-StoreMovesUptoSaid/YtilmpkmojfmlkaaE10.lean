/- An entry as it lies: its tuple, its spans, its spots. -/
import Derived.Test.YtilmpkmojfmlkaaE9
import Derived.Test.YtilmpkmojfmlkaaMap
namespace Go.Proofs.Ytilmpkmojfmlkaa
open Go.RowKit

/-- Spans, cell by cell. -/
def spc (l : List Sp) : List Value := l.flatMap (fun p => [.int .i64 p.s, .int .i64 p.u])
theorem spc_nil : spc [] = [] := rfl
theorem spc_cons (p : Sp) (l : List Sp) : spc (p :: l) = .int .i64 p.s :: .int .i64 p.u :: spc l := rfl
theorem spc_append (l m : List Sp) : spc (l ++ m) = spc l ++ spc m := by unfold spc; rw [List.flatMap_append]
theorem spc_length (l : List Sp) : (spc l).length = l.length * 2 := by
  induction l with
  | nil => rfl
  | cons p l ih => rw [spc_cons, List.length_cons, List.length_cons, List.length_cons, ih]; omega
theorem spc_take (l : List Sp) (m : Nat) : (spc l).take (m * 2) = spc (l.take m) := by
  induction l generalizing m with
  | nil => simp [spc_nil]
  | cons p l ih =>
    cases m with
    | zero => rfl
    | succ m => rw [show (m + 1) * 2 = m * 2 + 1 + 1 by omega, spc_cons, List.take_succ_cons, List.take_succ_cons, List.take_succ_cons, spc_cons, ih]
theorem spc_drop (l : List Sp) (m : Nat) : (spc l).drop (m * 2) = spc (l.drop m) := by
  induction l generalizing m with
  | nil => simp [spc_nil]
  | cons p l ih =>
    cases m with
    | zero => rfl
    | succ m => rw [show (m + 1) * 2 = m * 2 + 1 + 1 by omega, spc_cons, List.drop_succ_cons, List.drop_succ_cons, List.drop_succ_cons, ih]
theorem spc_at {l : List Sp} {i : Nat} {p : Sp} (h : l[i]? = some p) : (spc l)[i * 2]? = some (.int .i64 p.s) ∧ (spc l)[i * 2 + 1]? = some (.int .i64 p.u) := by
  induction l generalizing i with
  | nil => simp at h
  | cons q l ih =>
    cases i with
    | zero =>
      simp at h
      subst h
      exact ⟨rfl, rfl⟩
    | succ i =>
      have h2 : l[i]? = some p := by simpa using h
      rw [show (i + 1) * 2 = i * 2 + 1 + 1 by omega, spc_cons]
      simpa using ih h2
theorem spc_one (l : List Sp) : ∀ u ∈ spc l, u.oneCell' = true := by
  intro u hu
  obtain ⟨p, _, hp⟩ := List.mem_flatMap.1 hu
  simp at hp
  rcases hp with rfl | rfl <;> rfl
/-- Spans that lie in memory. -/
structure Spans (w : World) (B : Nat) (a : Option Addr) (n c : Nat) (l : List Sp) : Prop where
  len : l.length = n
  nil : a = none → n = 0 ∧ c = 0
  room : n ≤ c
  big : c ≤ maxLen
  at_ : ∀ ad, a = some ad → ad.spot = none ∧ ad.block < w.heap.size ∧ B ≤ ad.block ∧ (∃ cs fr, w.heap[ad.block]? = some (.cells cs 85 fr)) ∧ ∀ (j : Nat) u, (spc l)[j]? = some u → w.cell? (ad.add j) = some u
theorem Spans.keep {w w' : World} {B n c : Nat} {a : Option Addr} {l : List Sp} (h : Spans w B a n c l) (hs : w.heap.size ≤ w'.heap.size) (hk : ∀ ad, a = some ad → w'.heap[ad.block]? = w.heap[ad.block]?) : Spans w' B a n c l := by
  refine ⟨h.len, h.nil, h.room, h.big, fun ad ha => ?_⟩
  obtain ⟨h1, h2, h3, ⟨cs, fr, h4⟩, h5⟩ := h.at_ ad ha
  have hb := hk ad ha
  refine ⟨h1, Nat.lt_of_lt_of_le h2 hs, h3, ⟨cs, fr, hb.trans h4⟩, fun j u hu => ?_⟩
  have := h5 j u hu
  obtain ⟨b, off, spot⟩ := ad
  simp only at h1 hb
  subst h1
  rw [add_plain] at this ⊢
  simp only [World.cell?, hb] at this ⊢
  exact this
theorem Spans.below {w w' : World} {B n c : Nat} {a : Option Addr} {l : List Sp} (h : Spans w B a n c l) (hb : Below w.heap.size w w') : Spans w' B a n c l := h.keep hb.size (fun ad ha => hb.block _ (h.at_ ad ha).2.1)
theorem Spans.none (w : World) (B : Nat) : Spans w B .none 0 0 [] := ⟨rfl, fun _ => ⟨rfl, rfl⟩, Nat.le_refl _, by simp [maxLen], fun ad h => by cases h⟩
theorem Spans.cells {w : World} {B n c i : Nat} {a : Option Addr} {l : List Sp} {p : Sp} (h : Spans w B a n c l) (hp : l[i]? = some p) : ∃ b off, a = some ⟨b, off, Option.none⟩ ∧ b < w.heap.size ∧ w.cell? ⟨b, off + i * 2, Option.none⟩ = some (.int .i64 p.s) ∧ w.cell? ⟨b, off + i * 2 + 1, Option.none⟩ = some (.int .i64 p.u) := by
  cases a with
  | none =>
    have := (h.nil rfl).1
    have hl := (List.getElem?_eq_some_iff.1 hp).1
    rw [h.len] at hl
    omega
  | some ad =>
    obtain ⟨b, off, spot⟩ := ad
    obtain ⟨h1, h2, _, _, h5⟩ := h.at_ _ rfl
    simp at h1 h2
    subst h1
    obtain ⟨f1, f2⟩ := spc_at hp
    have g1 := h5 _ _ f1
    have g2 := h5 _ _ f2
    rw [add_plain] at g1 g2
    exact ⟨b, off, rfl, h2, g1, g2⟩
theorem Spans.owned {w : World} {base n : Nat} {v : Value} {l : List Sp} (h : w.ownsRow base 85 2 v n (spc l)) : ∃ a c, v = .slice a n c ∧ Spans w base a n c l := by
  have hl : l.length = n := by have := h.1; rw [spc_length] at this; omega
  rcases h.2 with ⟨rfl, h0⟩ | ⟨g, cap, cur, rfl, hb, hh, hnc, hcm, hsz, ht⟩
  · subst h0
    obtain rfl := List.eq_nil_of_length_eq_zero hl
    exact ⟨.none, 0, rfl, Spans.none _ _⟩
  · refine ⟨_, _, rfl, hl, (by intro e; cases e), hnc, hcm, ?_⟩
    rintro ad ha
    injection ha with ha
    subst ha
    have hlt : g < w.heap.size := by
      rcases Nat.lt_or_ge g w.heap.size with hl | hl
      · exact hl
      · rw [Array.getElem?_eq_none hl] at hh
        cases hh
    refine ⟨rfl, hlt, hb, ⟨_, _, hh⟩, fun j u hu => ?_⟩
    rw [add_plain, Nat.zero_add]
    simp only [World.cell?, hh]
    rw [← ht, List.getElem?_take] at hu
    split at hu
    · simpa using hu
    · cases hu


theorem owns_keptN {w w' : World} {base n size : Nat} {e : TypeId} {v : Value} {l : List Value} (h : w.ownsRow base e size v n l) (hb : ∀ k, v.ownBlock = some k → w'.heap[k]? = w.heap[k]?) : w'.ownsRow base e size v n l := by
  refine ⟨h.1, ?_⟩
  rcases h.2 with h2 | ⟨g, cap, cur, rfl, h3, h4, r⟩
  · exact .inl h2
  · exact .inr ⟨g, cap, cur, rfl, h3, (hb g rfl).trans h4, r⟩
/-- An entry in block g: its tuple, its spans (a row of its own), where it stands in the three indexes. -/
structure EntAt (w : World) (B g : Nat) (t : Tp) (l : List Sp) (p0 p1 p2 : Nat) (a : Option Addr) (n c : Nat) : Prop where
  blk : Whole w g 80 #[.string t.o, .string t.r, .string t.u, .slice a n c, .int .i64 p0, .int .i64 p1, .int .i64 p2]
  row : w.ownsRow B 85 2 (.slice a n c) n (spc l)
theorem EntAt.sp {w : World} {B g : Nat} {t : Tp} {l : List Sp} {p0 p1 p2 : Nat} {a : Option Addr} {n c : Nat} (h : EntAt w B g t l p0 p1 p2 a n c) : Spans w B a n c l := by
  obtain ⟨a', c', he, hs⟩ := Spans.owned h.row
  injection he with e1 _ e3
  subst e1
  subst e3
  exact hs
theorem EntAt.below {w w' : World} {B g : Nat} {t : Tp} {l : List Sp} {p0 p1 p2 : Nat} {a : Option Addr} {n c : Nat} (h : EntAt w B g t l p0 p1 p2 a n c) (hb : Below w.heap.size w w') : EntAt w' B g t l p0 p1 p2 a n c :=
  ⟨h.blk.kept (hb.block _ h.blk.lt), owns_keptN h.row (fun k hk => hb.block _ (h.row.lt k hk).2)⟩
/-- A store in block g: its watermark, its map of entries, its three indexes' maps. -/
structure StB (w : World) (g : Nat) (wm : Int) (be bo bp bu : Nat) (k0 k1 k2 : Value) : Prop where
  blk : Whole w g 74 #[.int .i64 wm, .map (some be), .int .i64 0, k0, .map (some bo), .int .i64 1, k1, .map (some bp), .int .i64 2, k2, .map (some bu)]
theorem watermark_any {w : World} {g be bo bp bu : Nat} {wm : Int} {k0 k1 k2 : Value} (h : StB w g wm be bo bp bu k0 k1 k2) :
    Calls Try.prog 14 #[.pointer (some ⟨g, 0, none⟩)] w fun e w' => e = .returned (.int .i64 wm) ∧ w = w' := by
  have c0 : w.cell? ⟨g, 0, none⟩ = some (.int .i64 wm) := by rw [h.blk.cell]; rfl
  clear h
  go_enter Try.func14, Try.ntmps14
  go_wp2
  go_ret
  exact ⟨rfl, rfl⟩
/-- Can be read at a revision? -/
def readableB (wm rev : Int) : Int := if rev < 0 then 1 else if rev < wm then 71 else 0
theorem readable_any {w : World} {g be bo bp bu : Nat} {wm : Int} {k0 k1 k2 : Value} (h : StB w g wm be bo bp bu k0 k1 k2) (rev : Int) :
    Calls Try.prog 33 #[.pointer (some ⟨g, 0, none⟩), .int .i64 rev] w fun e w' => e = .returned (.int .i64 (readableB wm rev)) ∧ w = w' := by
  have c0 : w.cell? ⟨g, 0, none⟩ = some (.int .i64 wm) := by rw [h.blk.cell]; rfl
  clear h
  by_cases h1 : rev < 0
  · have hr : readableB wm rev = 1 := by unfold readableB; rw [if_pos h1]
    rw [hr]
    go_enter Try.func33, Try.ntmps33
    go_wp2
    go_ret
    exact ⟨rfl, rfl⟩
  · by_cases h2 : rev < wm
    · have hr : readableB wm rev = 71 := by unfold readableB; rw [if_neg h1, if_pos h2]
      rw [hr]
      go_enter Try.func33, Try.ntmps33
      go_wp2
      go_ret
      exact ⟨rfl, rfl⟩
    · have hr : readableB wm rev = 0 := by unfold readableB; rw [if_neg h1, if_neg h2]
      rw [hr]
      go_enter Try.func33, Try.ntmps33
      go_wp2
      go_ret
      exact ⟨rfl, rfl⟩
end Go.Proofs.Ytilmpkmojfmlkaa
