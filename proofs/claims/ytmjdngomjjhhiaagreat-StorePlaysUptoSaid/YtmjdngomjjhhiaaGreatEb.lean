/- An entry as it lies: its tuple, its spans, its spots. The last span of an entry. Is an entry open; its latest revision; a span's own questions. The last span ends. An index that is new. An index by places that is new. A store that is new. The keys of the store's maps: a tuple, a place, a text. -/
import Derived.Test.YtmjdngomjjhhiaaGreatEa
import Derived.Test.YtmjdngomjjhhiaaGreatMap
import Derived.DeepKeys3
namespace Go.Proofs.YtmjdngomjjhhiaaGreat
open Go.RowKit

/-- Spans, cell by cell. -/
def spc (l : List Sp) : List Value := l.flatMap (fun p => [.int .i64 p.s, .int .i64 p.u])
theorem spc_nil : spc [] = [] := rfl
theorem spc_cons (p : Sp) (l : List Sp) : spc (p :: l) = .int .i64 p.s :: .int .i64 p.u :: spc l := rfl
theorem spc_append (l m : List Sp) : spc (l ++ m) = spc l ++ spc m := by unfold spc; rw [List.flatMap_append]
theorem spc_length (l : List Sp) : (spc l).length = l.length * 2 := by
  induction l with
  | nil => rfl
  | cons p l ih => rw [spc_cons, List.length_cons, List.length_cons, List.length_cons, ih]; omega
theorem spc_take (l : List Sp) (m : Nat) : (spc l).take (m * 2) = spc (l.take m) := by
  induction l generalizing m with
  | nil => simp [spc_nil]
  | cons p l ih =>
    cases m with
    | zero => rfl
    | succ m => rw [show (m + 1) * 2 = m * 2 + 1 + 1 by omega, spc_cons, List.take_succ_cons, List.take_succ_cons, List.take_succ_cons, spc_cons, ih]
theorem spc_drop (l : List Sp) (m : Nat) : (spc l).drop (m * 2) = spc (l.drop m) := by
  induction l generalizing m with
  | nil => simp [spc_nil]
  | cons p l ih =>
    cases m with
    | zero => rfl
    | succ m => rw [show (m + 1) * 2 = m * 2 + 1 + 1 by omega, spc_cons, List.drop_succ_cons, List.drop_succ_cons, List.drop_succ_cons, ih]
theorem spc_at {l : List Sp} {i : Nat} {p : Sp} (h : l[i]? = some p) : (spc l)[i * 2]? = some (.int .i64 p.s) ∧ (spc l)[i * 2 + 1]? = some (.int .i64 p.u) := by
  induction l generalizing i with
  | nil => simp at h
  | cons q l ih =>
    cases i with
    | zero =>
      simp at h
      subst h
      exact ⟨rfl, rfl⟩
    | succ i =>
      have h2 : l[i]? = some p := by simpa using h
      rw [show (i + 1) * 2 = i * 2 + 1 + 1 by omega, spc_cons]
      simpa using ih h2
theorem spc_one (l : List Sp) : ∀ u ∈ spc l, u.oneCell' = true := by
  intro u hu
  obtain ⟨p, _, hp⟩ := List.mem_flatMap.1 hu
  simp at hp
  rcases hp with rfl | rfl <;> rfl
/-- Spans that lie in memory. -/
structure Spans (w : World) (B : Nat) (a : Option Addr) (n c : Nat) (l : List Sp) : Prop where
  len : l.length = n
  nil : a = none → n = 0 ∧ c = 0
  room : n ≤ c
  big : c ≤ maxLen
  at_ : ∀ ad, a = some ad → ad.spot = none ∧ ad.block < w.heap.size ∧ B ≤ ad.block ∧ (∃ cs fr, w.heap[ad.block]? = some (.cells cs 90 fr)) ∧ ∀ (j : Nat) u, (spc l)[j]? = some u → w.cell? (ad.add j) = some u
theorem Spans.keep {w w' : World} {B n c : Nat} {a : Option Addr} {l : List Sp} (h : Spans w B a n c l) (hs : w.heap.size ≤ w'.heap.size) (hk : ∀ ad, a = some ad → w'.heap[ad.block]? = w.heap[ad.block]?) : Spans w' B a n c l := by
  refine ⟨h.len, h.nil, h.room, h.big, fun ad ha => ?_⟩
  obtain ⟨h1, h2, h3, ⟨cs, fr, h4⟩, h5⟩ := h.at_ ad ha
  have hb := hk ad ha
  refine ⟨h1, Nat.lt_of_lt_of_le h2 hs, h3, ⟨cs, fr, hb.trans h4⟩, fun j u hu => ?_⟩
  have := h5 j u hu
  obtain ⟨b, off, spot⟩ := ad
  simp only at h1 hb
  subst h1
  rw [add_plain] at this ⊢
  simp only [World.cell?, hb] at this ⊢
  exact this
theorem Spans.below {w w' : World} {B n c : Nat} {a : Option Addr} {l : List Sp} (h : Spans w B a n c l) (hb : Below w.heap.size w w') : Spans w' B a n c l := h.keep hb.size (fun ad ha => hb.block _ (h.at_ ad ha).2.1)
theorem Spans.none (w : World) (B : Nat) : Spans w B .none 0 0 [] := ⟨rfl, fun _ => ⟨rfl, rfl⟩, Nat.le_refl _, by simp [maxLen], fun ad h => by cases h⟩
theorem Spans.cells {w : World} {B n c i : Nat} {a : Option Addr} {l : List Sp} {p : Sp} (h : Spans w B a n c l) (hp : l[i]? = some p) : ∃ b off, a = some ⟨b, off, Option.none⟩ ∧ b < w.heap.size ∧ w.cell? ⟨b, off + i * 2, Option.none⟩ = some (.int .i64 p.s) ∧ w.cell? ⟨b, off + i * 2 + 1, Option.none⟩ = some (.int .i64 p.u) := by
  cases a with
  | none =>
    have := (h.nil rfl).1
    have hl := (List.getElem?_eq_some_iff.1 hp).1
    rw [h.len] at hl
    omega
  | some ad =>
    obtain ⟨b, off, spot⟩ := ad
    obtain ⟨h1, h2, _, _, h5⟩ := h.at_ _ rfl
    simp at h1 h2
    subst h1
    obtain ⟨f1, f2⟩ := spc_at hp
    have g1 := h5 _ _ f1
    have g2 := h5 _ _ f2
    rw [add_plain] at g1 g2
    exact ⟨b, off, rfl, h2, g1, g2⟩
theorem Spans.owned {w : World} {base n : Nat} {v : Value} {l : List Sp} (h : w.ownsRow base 90 2 v n (spc l)) : ∃ a c, v = .slice a n c ∧ Spans w base a n c l := by
  have hl : l.length = n := by have := h.1; rw [spc_length] at this; omega
  rcases h.2 with ⟨rfl, h0⟩ | ⟨g, cap, cur, rfl, hb, hh, hnc, hcm, hsz, ht⟩
  · subst h0
    obtain rfl := List.eq_nil_of_length_eq_zero hl
    exact ⟨.none, 0, rfl, Spans.none _ _⟩
  · refine ⟨_, _, rfl, hl, (by intro e; cases e), hnc, hcm, ?_⟩
    rintro ad ha
    injection ha with ha
    subst ha
    have hlt : g < w.heap.size := by
      rcases Nat.lt_or_ge g w.heap.size with hl | hl
      · exact hl
      · rw [Array.getElem?_eq_none hl] at hh
        cases hh
    refine ⟨rfl, hlt, hb, ⟨_, _, hh⟩, fun j u hu => ?_⟩
    rw [add_plain, Nat.zero_add]
    simp only [World.cell?, hh]
    rw [← ht, List.getElem?_take] at hu
    split at hu
    · simpa using hu
    · cases hu


theorem owns_keptN {w w' : World} {base n size : Nat} {e : TypeId} {v : Value} {l : List Value} (h : w.ownsRow base e size v n l) (hb : ∀ k, v.ownBlock = some k → w'.heap[k]? = w.heap[k]?) : w'.ownsRow base e size v n l := by
  refine ⟨h.1, ?_⟩
  rcases h.2 with h2 | ⟨g, cap, cur, rfl, h3, h4, r⟩
  · exact .inl h2
  · exact .inr ⟨g, cap, cur, rfl, h3, (hb g rfl).trans h4, r⟩
/-- An entry in block g: its tuple, its spans (a row of its own), where it stands in the three indexes. -/
structure EntAt (w : World) (B g : Nat) (t : Tp) (l : List Sp) (p0 p1 p2 : Nat) (a : Option Addr) (n c : Nat) : Prop where
  blk : Whole w g 87 #[.string t.o, .string t.r, .string t.u, .slice a n c, .int .i64 p0, .int .i64 p1, .int .i64 p2]
  row : w.ownsRow B 90 2 (.slice a n c) n (spc l)
theorem EntAt.sp {w : World} {B g : Nat} {t : Tp} {l : List Sp} {p0 p1 p2 : Nat} {a : Option Addr} {n c : Nat} (h : EntAt w B g t l p0 p1 p2 a n c) : Spans w B a n c l := by
  obtain ⟨a', c', he, hs⟩ := Spans.owned h.row
  injection he with e1 _ e3
  subst e1
  subst e3
  exact hs
theorem EntAt.below {w w' : World} {B g : Nat} {t : Tp} {l : List Sp} {p0 p1 p2 : Nat} {a : Option Addr} {n c : Nat} (h : EntAt w B g t l p0 p1 p2 a n c) (hb : Below w.heap.size w w') : EntAt w' B g t l p0 p1 p2 a n c :=
  ⟨h.blk.kept (hb.block _ h.blk.lt), owns_keptN h.row (fun k hk => hb.block _ (h.row.lt k hk).2)⟩
/-- A store in block g: its watermark, its map of entries, its three indexes' maps. -/
structure StB (w : World) (g : Nat) (wm : Int) (be bo bp bu : Nat) (k0 k1 k2 : Value) : Prop where
  blk : Whole w g 70 #[.int .i64 wm, .map (some be), .int .i64 0, k0, .map (some bo), .int .i64 1, k1, .map (some bp), .int .i64 2, k2, .map (some bu)]
theorem watermark_any {w : World} {g be bo bp bu : Nat} {wm : Int} {k0 k1 k2 : Value} (h : StB w g wm be bo bp bu k0 k1 k2) :
    Calls Tryz.prog 8 #[.pointer (some ⟨g, 0, none⟩)] w fun e w' => e = .returned (.int .i64 wm) ∧ w = w' := by
  have c0 : w.cell? ⟨g, 0, none⟩ = some (.int .i64 wm) := by rw [h.blk.cell]; rfl
  clear h
  go_enter Tryz.func8, Tryz.ntmps8
  go_wp2
  go_ret
  exact ⟨rfl, rfl⟩
/-- Can be read at a revision? -/
def readableB (wm rev : Int) : Int := if rev < 0 then 1 else if rev < wm then 71 else 0
theorem readable_any {w : World} {g be bo bp bu : Nat} {wm : Int} {k0 k1 k2 : Value} (h : StB w g wm be bo bp bu k0 k1 k2) (rev : Int) :
    Calls Tryz.prog 36 #[.pointer (some ⟨g, 0, none⟩), .int .i64 rev] w fun e w' => e = .returned (.int .i64 (readableB wm rev)) ∧ w = w' := by
  have c0 : w.cell? ⟨g, 0, none⟩ = some (.int .i64 wm) := by rw [h.blk.cell]; rfl
  clear h
  by_cases h1 : rev < 0
  · have hr : readableB wm rev = 1 := by unfold readableB; rw [if_pos h1]
    rw [hr]
    go_enter Tryz.func36, Tryz.ntmps36
    go_wp2
    go_ret
    exact ⟨rfl, rfl⟩
  · by_cases h2 : rev < wm
    · have hr : readableB wm rev = 71 := by unfold readableB; rw [if_neg h1, if_pos h2]
      rw [hr]
      go_enter Tryz.func36, Tryz.ntmps36
      go_wp2
      go_ret
      exact ⟨rfl, rfl⟩
    · have hr : readableB wm rev = 0 := by unfold readableB; rw [if_neg h1, if_neg h2]
      rw [hr]
      go_enter Tryz.func36, Tryz.ntmps36
      go_wp2
      go_ret
      exact ⟨rfl, rfl⟩
end Go.Proofs.YtmjdngomjjhhiaaGreat

namespace Go.Proofs.YtmjdngomjjhhiaaGreat
open Go.RowKit

theorem two_of {V : World} {g : Nat} {t : TypeId} {v0 v1 : Value} (h : Whole V g t #[v0, v1]) : (V.cell? ⟨g, 0, none⟩ = some v0 ∧ V.cell? ⟨g, 1, none⟩ = some v1) ∧ V.frozen? ⟨g, 0, none⟩ = false ∧ V.frozen? ⟨g, 1, none⟩ = false :=
  ⟨⟨by rw [h.cell]; rfl, by rw [h.cell]; rfl⟩, h.free 0, h.free 1⟩
set_option maxHeartbeats 1000000 in
/-- The last span. -/
theorem elast_any {w : World} {B g : Nat} {t : Tp} {l : List Sp} {p0 p1 p2 : Nat} {a : Option Addr} {n c : Nat} (h : EntAt w B g t l p0 p1 p2 a n c) {x : Sp} (hx : l.getLast? = some x) :
    Calls Tryz.prog 58 #[.pointer (some ⟨g, 0, none⟩)] w fun e w' => e = .returned (.agg #[.int .i64 x.s, .int .i64 x.u]) ∧ Below w.heap.size w w' := by
  have hn : 1 ≤ n := by
    have := h.sp.len
    cases l with
    | nil => cases hx
    | cons y l => simp at this; omega
  have hl : l[n - 1]? = some x := by rw [← h.sp.len, ← List.getLast?_eq_getElem?]; exact hx
  have hbig := h.sp.big
  have hroom := h.sp.room
  unfold maxLen at hbig
  have hw : IntKind.i64.wrap ((n : Int) - 1) = ((n - 1 : Nat) : Int) := by rw [IntWalk.i64_in _ (by omega)]; omega
  obtain ⟨w0, hw0⟩ : ∃ w0, w0 = w.alloc (.cells #[.int .i64 0, .int .i64 0] 90) := ⟨_, rfl⟩
  have hb0 : Below w.heap.size w w0 := by rw [hw0]; exact below_alloc _ _
  have hx0 : Whole w0 w.heap.size 90 #[.int .i64 0, .int .i64 0] := by rw [hw0]; exact heap_alloc_new _ _
  have h0 := h.below hb0
  obtain ⟨b, off, rfl, hb, g1, g2⟩ := h0.sp.cells hl
  have hc : w0.cell? ⟨g, 3, none⟩ = some (.slice (some ⟨b, off, none⟩) n c) := by rw [h0.blk.cell]; rfl
  obtain ⟨⟨d0, d1⟩, e0, e1⟩ := two_of hx0
  have HB := Lib.hid hb0
  have HX := Lib.hid hx0
  clear h h0 hb0 hx0 hb hbig hroom hl hx
  go_enter Tryz.func58, Tryz.ntmps58
  go_wp2_with fail
  rw [← hw0]
  clear hw0
  have hc2 : w0.drew.cell? ⟨g, 3, none⟩ = some (.slice (some ⟨b, off, none⟩) n c) := hc
  have g12 : w0.drew.cell? ⟨b, off + (n - 1) * 2, none⟩ = some (.int .i64 x.s) := g1
  have g22 : w0.drew.cell? ⟨b, off + (n - 1) * 2 + 1, none⟩ = some (.int .i64 x.u) := g2
  go_region
  go_wp2
  have hW3 := (HX.out.store 0 (.int .i64 x.s)).store 1 (.int .i64 x.u)
  have hb3 := (HB.out.setCell (p := ⟨w.heap.size, 0, none⟩) (Nat.le_refl _) (.int .i64 x.s)).setCell (p := ⟨w.heap.size, 1, none⟩) (Nat.le_refl _) (.int .i64 x.u)
  exact bodyPost_ret (v := .agg #[.int .i64 x.s, .int .i64 x.u]) (results_cell_row Tryz.results58 _ _ w.heap.size 90 _ (0, 0) _ rfl hW3 Tryz.underlying90 rfl (by kernel_rfl)) rfl ⟨rfl, hb3.trans ⟨rfl, rfl, rfl, Nat.le_refl _, fun _ _ => rfl⟩⟩
end Go.Proofs.YtmjdngomjjhhiaaGreat

namespace Go.Proofs.YtmjdngomjjhhiaaGreat
open Go.RowKit

theorem field_s (s u : Int) (w : World) : (Instr.field 90 (.agg #[.int .i64 s, .int .i64 u]) 0).run Tryz.prog w = .ok (.int .i64 s) w := by kernel_rfl
theorem field_u (s u : Int) (w : World) : (Instr.field 90 (.agg #[.int .i64 s, .int .i64 u]) 1).run Tryz.prog w = .ok (.int .i64 u) w := by kernel_rfl
theorem eopen_any {w : World} {B g : Nat} {t : Tp} {l : List Sp} {p0 p1 p2 : Nat} {a : Option Addr} {n c : Nat} (h : EntAt w B g t l p0 p1 p2 a n c) (hne : l ≠ []) :
    Calls Tryz.prog 33 #[.pointer (some ⟨g, 0, none⟩)] w fun e w' => e = .returned (.bool (openB l)) ∧ Below w.heap.size w w' := by
  obtain ⟨x, hx⟩ : ∃ x, l.getLast? = some x := by
    cases hl : l.getLast? with
    | none => exact absurd (List.getLast?_eq_none_iff.1 hl) hne
    | some x => exact ⟨x, rfl⟩
  have HL := Lib.hid (elast_any h hx)
  have ho : openB l = decide (x.u = 0) := by unfold openB; rw [hx]
  rw [ho]
  clear h ho hx hne
  obtain ⟨xs, xu⟩ := x
  have hf0 := field_s xs xu
  have hf1 := field_u xs xu
  go_enter Tryz.func33, Tryz.ntmps33
  go_wp2_with fail
  refine HL.out.mono ?_
  rintro _ w1 ⟨rfl, hb⟩
  have HB := Lib.hid hb
  clear hb
  dsimp only
  by_cases h0 : xu = 0
  · subst h0
    go_wp2
    go_ret
    exact ⟨rfl, HB.out⟩
  · go_wp2
    go_ret
    exact ⟨rfl, HB.out⟩
theorem elatest_any {w : World} {B g : Nat} {t : Tp} {l : List Sp} {p0 p1 p2 : Nat} {a : Option Addr} {n c : Nat} (h : EntAt w B g t l p0 p1 p2 a n c) (hne : l ≠ []) :
    Calls Tryz.prog 68 #[.pointer (some ⟨g, 0, none⟩)] w fun e w' => e = .returned (.int .i64 (latestB l)) ∧ Below w.heap.size w w' := by
  obtain ⟨x, hx⟩ : ∃ x, l.getLast? = some x := by
    cases hl : l.getLast? with
    | none => exact absurd (List.getLast?_eq_none_iff.1 hl) hne
    | some x => exact ⟨x, rfl⟩
  have HL := Lib.hid (elast_any h hx)
  have HE := Lib.hid h
  have HX := Lib.hid hx
  have ho : latestB l = max x.s x.u := by unfold latestB; rw [hx]
  rw [ho]
  clear h ho hx hne
  have hf0 := field_s x.s x.u
  have hf1 := field_u x.s x.u
  go_enter Tryz.func68, Tryz.ntmps68
  go_wp2_with fail
  refine HL.out.mono ?_
  rintro _ w1 ⟨rfl, hb⟩
  have HB := Lib.hid hb
  have HL1 := Lib.hid (elast_any (HE.out.below hb) HX.out)
  clear hb
  dsimp only
  go_wp2_with fail
  refine HL1.out.mono ?_
  rintro _ w2 ⟨rfl, hb1⟩
  have HB1 := Lib.hid (HB.out.trans (hb1.mono HB.out.size))
  clear hb1
  dsimp only
  go_wp2
  all_goals go_ret
  all_goals (refine ⟨?_, HB1.out⟩; first | (simp [*]; done) | (simp; omega))
/-- May a row be so? -/
def Sp.okB (x : Sp) : Bool := decide (1 ≤ x.s) && decide (x.s ≤ maxRev) && (decide (x.u = 0) || (decide (x.s < x.u) && decide (x.u ≤ maxRev)))
theorem right_any (x : Sp) (w : World) :
    Calls Tryz.prog 48 #[.agg #[.int .i64 x.s, .int .i64 x.u]] w fun e w' => e = .returned (.bool x.okB) ∧ Below w.heap.size w w' := by
  go_enter Tryz.func48, Tryz.ntmps48
  go_wp2
  all_goals go_ret
  all_goals (refine ⟨?_, below_alloc _ _⟩; unfold Sp.okB maxRev; simp [*])
  all_goals (first | omega | (rw [Bool.eq_iff_iff]; simp; omega))
/-- Does it begin behind the end of another one? -/
theorem behind_any (x y : Sp) (w : World) :
    Calls Tryz.prog 49 #[.agg #[.int .i64 x.s, .int .i64 x.u], .agg #[.int .i64 y.s, .int .i64 y.u]] w fun e w' => e = .returned (.bool (decide (y.u ≠ 0) && decide (y.u < x.s))) ∧ Below w.heap.size w w' := by
  go_enter Tryz.func49, Tryz.ntmps49
  go_wp2
  all_goals go_ret
  all_goals (refine ⟨?_, (below_alloc w _).trans ((below_alloc _ _).mono (by simp))⟩; simp [*])
theorem over_any (x : Sp) (rev : Int) (w : World) :
    Calls Tryz.prog 63 #[.agg #[.int .i64 x.s, .int .i64 x.u], .int .i64 rev] w fun e w' => e = .returned (.bool (x.over rev)) ∧ Below w.heap.size w w' := by
  go_enter Tryz.func63, Tryz.ntmps63
  go_wp2
  all_goals go_ret
  all_goals (refine ⟨?_, below_alloc _ _⟩; unfold Sp.over; simp [*])
end Go.Proofs.YtmjdngomjjhhiaaGreat

namespace Go.Proofs.YtmjdngomjjhhiaaGreat
open Go.RowKit

theorem spc_end {l : List Sp} {x : Sp} (hx : l.getLast? = some x) (rev : Int) : spc (endB l rev) = (spc l).set ((l.length - 1) * 2 + 1) (.int .i64 rev) := by
  have he : endB l rev = l.dropLast ++ [⟨x.s, rev⟩] := by unfold endB; rw [hx]
  have hs := last_split hx
  have hn : (spc l.dropLast).length = (l.length - 1) * 2 := by rw [spc_length, List.length_dropLast]
  rw [he, spc_append]
  conv => rhs; rw [hs, spc_append]
  rw [List.set_append_right _ _ (by rw [hn]; simp), hn]
  have : (l.dropLast ++ [x]).length - 1 = l.length - 1 := by simp
  rw [this]
  simp [spc]
theorem EntAt.row_at {w : World} {B g : Nat} {t : Tp} {l : List Sp} {p0 p1 p2 : Nat} {a : Option Addr} {n c : Nat} (h : EntAt w B g t l p0 p1 p2 a n c) (hn : 0 < n) : ∃ b, a = some ⟨b, 0, none⟩ ∧ b ≠ g := by
  rcases h.row.2 with ⟨_, h0⟩ | ⟨b, cap, cur, hv, _, hh, _⟩
  · omega
  · injection hv with e1 _ _
    refine ⟨b, e1, fun e => ?_⟩
    have hb := h.blk
    unfold Whole at hb
    rw [← e, hh] at hb
    injection hb with hb
    injection hb with _ ht _
    exact absurd ht (by decide)
set_option maxHeartbeats 1000000 in
theorem eend_any {w : World} {B g : Nat} {t : Tp} {l : List Sp} {p0 p1 p2 : Nat} {b n c : Nat} (h : EntAt w B g t l p0 p1 p2 (some ⟨b, 0, none⟩) n c) (hne : l ≠ []) (hbg : b ≠ g) (rev : Int) :
    Calls Tryz.prog 34 #[.pointer (some ⟨g, 0, none⟩), .int .i64 rev] w fun e w' => e = .returned (.tuple #[]) ∧ EntAt w' B g t (endB l rev) p0 p1 p2 (some ⟨b, 0, none⟩) n c ∧ w.grownBy w' (some b) ∧ w'.heap.size = w.heap.size := by
  obtain ⟨x, hx⟩ : ∃ x, l.getLast? = some x := by
    cases hl : l.getLast? with
    | none => exact absurd (List.getLast?_eq_none_iff.1 hl) hne
    | some x => exact ⟨x, rfl⟩
  have hlen := h.sp.len
  have hn : 1 ≤ n := by
    cases l with
    | nil => cases hx
    | cons y l => simp at hlen; omega
  have hl : l[n - 1]? = some x := by rw [← hlen, ← List.getLast?_eq_getElem?]; exact hx
  have hbig := h.sp.big
  have hroom := h.sp.room
  unfold maxLen at hbig
  have hw : IntKind.i64.wrap ((n : Int) - 1) = ((n - 1 : Nat) : Int) := by rw [IntWalk.i64_in _ (by omega)]; omega
  obtain ⟨hst, hgr⟩ := h.row.stored ((n - 1) * 2 + 1) (.int .i64 rev)
  have hfr : w.drew.frozen? ⟨b, (n - 1) * 2 + 1, none⟩ = false := h.row.frozenAt _
  obtain ⟨b2, off, he, hb, g1, g2⟩ := h.sp.cells hl
  injection he with he
  injection he with e1 e2 _
  subst e1
  subst e2
  rw [Nat.zero_add] at g1 g2
  have g12 : w.drew.cell? ⟨b, (n - 1) * 2, none⟩ = some (.int .i64 x.s) := g1
  have g22 : w.drew.cell? ⟨b, (n - 1) * 2 + 1, none⟩ = some (.int .i64 x.u) := g2
  have hc : w.drew.cell? ⟨g, 3, none⟩ = some (.slice (some ⟨b, 0, none⟩) n c) := by
    show w.cell? _ = _
    rw [h.blk.cell]; rfl
  have HP := Lib.hid (show EntAt (w.setCell ⟨b, (n - 1) * 2 + 1, none⟩ (.int .i64 rev)) B g t (endB l rev) p0 p1 p2 (some ⟨b, 0, none⟩) n c from
    ⟨h.blk.kept (Below.heap_setCell _ _ _ _ (fun e => hbg e.symm)), by rw [spc_end hx, hlen]; exact hst⟩)
  have HG := Lib.hid hgr
  have HH := Lib.hid (show EntAt w B g t l p0 p1 p2 (some ⟨b, 0, none⟩) n c from h)
  clear h hst hgr hx hne hlen hl hb g1 g2 hbig hroom
  go_enter Tryz.func34, Tryz.ntmps34
  go_region
  exact ⟨rfl, .tuple #[], (by simp [results, Tryz.results34, go_sem]), rfl, ⟨HP.out.blk.kept rfl, owns_keptN HP.out.row (fun _ _ => rfl)⟩, ⟨HG.out.os, HG.out.tape, HG.out.output, HG.out.size, HG.out.block⟩, by simp [World.setCell, World.drew]⟩
end Go.Proofs.YtmjdngomjjhhiaaGreat

namespace Go.Proofs.YtmjdngomjjhhiaaGreat
open Go.RowKit

theorem three_of {V : World} {g : Nat} {t : TypeId} {v0 v1 v2 : Value} (h : Whole V g t #[v0, v1, v2]) : (V.cell? ⟨g, 0, none⟩ = some v0 ∧ V.cell? ⟨g, 1, none⟩ = some v1 ∧ V.cell? ⟨g, 2, none⟩ = some v2) ∧ V.frozen? ⟨g, 0, none⟩ = false ∧ V.frozen? ⟨g, 1, none⟩ = false ∧ V.frozen? ⟨g, 2, none⟩ = false :=
  ⟨⟨by rw [h.cell]; rfl, by rw [h.cell]; rfl, by rw [h.cell]; rfl⟩, h.free 0, h.free 1, h.free 2⟩
set_option maxHeartbeats 1000000 in
theorem newIndexS_any (w : World) (k : Int) (f : FuncId) :
    Calls Tryz.prog 16 #[.int .i64 k, .func (.func f) #[] #[]] w fun e w' => e = .returned (.agg #[.int .i64 k, .func (.func f) #[] #[], .map (some (w.heap.size + 1))]) ∧ w'.heap.size = w.heap.size + 2 ∧ MapAt w' Tryz.prog 9 (w.heap.size + 1) (fun _ => none) 0 ∧ Below w.heap.size w w' := by
  obtain ⟨w0, hw0⟩ : ∃ w0, w0 = (w.alloc (.cells #[.int .i64 0, .nilFunc, .map none] 60)).alloc (.map #[] 0) := ⟨_, rfl⟩
  have hs1 : (w.alloc (.cells #[.int .i64 0, .nilFunc, .map none] 60)).heap.size = w.heap.size + 1 := by simp
  have hs0 : w0.heap.size = w.heap.size + 2 := by rw [hw0]; simp
  have hb0 : Below w.heap.size w w0 := by rw [hw0]; exact (below_alloc w _).trans ((below_alloc _ _).mono (by simp))
  have hx0 : Whole w0 w.heap.size 60 #[.int .i64 0, .nilFunc, .map none] := by
    rw [hw0]
    exact (show Whole (w.alloc (.cells #[.int .i64 0, .nilFunc, .map none] 60)) w.heap.size 60 _ from heap_alloc_new _ _).kept ((below_alloc _ _).block _ (by rw [hs1]; omega))
  have hm0 : MapAt w0 Tryz.prog 9 (w.heap.size + 1) (fun _ => none) 0 := by
    rw [hw0, ← hs1]
    exact MapAt.made _ _ _
  have hmk : (Instr.makeMap 58 none).run Tryz.prog (w.alloc (.cells #[.int .i64 0, .nilFunc, .map none] 60)) = .ok (.map (some (w.heap.size + 1))) w0 := by
    rw [run_makeMap, hs1, hw0]
  have HB := Lib.hid hb0
  have HX := Lib.hid hx0
  have HM := Lib.hid hm0
  have HS := Lib.hid hs0
  obtain ⟨⟨a0, a1, a2⟩, b0, b1, b2⟩ := three_of hx0
  clear hb0 hx0 hm0 hs0
  go_enter Tryz.func16, Tryz.ntmps16
  clear hw0 hs1
  have W0 := HX.out.store 0 (.int .i64 k)
  have W1 := W0.store 1 (.func (.func f) #[] #[])
  have c1 : (w0.setCell ⟨w.heap.size, 0, none⟩ (.int .i64 k)).cell? ⟨w.heap.size, 1, none⟩ = some .nilFunc := by rw [W0.cell]; rfl
  have f1 := W0.free 1
  have c2 : ((w0.setCell ⟨w.heap.size, 0, none⟩ (.int .i64 k)).setCell ⟨w.heap.size, 1, none⟩ (.func (.func f) #[] #[])).cell? ⟨w.heap.size, 2, none⟩ = some (.map none) := by rw [W1.cell]; rfl
  have f2 := W1.free 2
  have hst1 : (Go.store ⟨w.heap.size, 1, none⟩ (.func (.func f) #[] #[])).run Tryz.prog (w0.setCell ⟨w.heap.size, 0, none⟩ (.int .i64 k)) = .ok () ((w0.setCell ⟨w.heap.size, 0, none⟩ (.int .i64 k)).setCell ⟨w.heap.size, 1, none⟩ (.func (.func f) #[] #[])) := by
    rw [run_store _ _ _ _ _ rfl]
    simp [c1, f1]
  clear W0 W1
  go_wp2
  have hW3 := ((HX.out.store 0 (.int .i64 k)).store 1 (.func (.func f) #[] #[])).store 2 (.map (some (w.heap.size + 1)))
  have hb3 := ((HB.out.setCell (p := ⟨w.heap.size, 0, none⟩) (Nat.le_refl _) (.int .i64 k)).setCell (p := ⟨w.heap.size, 1, none⟩) (Nat.le_refl _) (.func (.func f) #[] #[])).setCell (p := ⟨w.heap.size, 2, none⟩) (Nat.le_refl _) (.map (some (w.heap.size + 1)))
  exact bodyPost_ret (v := .agg #[.int .i64 k, .func (.func f) #[] #[], .map (some (w.heap.size + 1))]) (results_cell_row Tryz.results16 _ _ w.heap.size 60 _ (0, 0) _ rfl hW3 Tryz.underlying60 rfl (by kernel_rfl)) rfl ⟨rfl, by simp [World.setCell, HS.out], HM.out.kept (by rw [Below.heap_setCell _ _ _ _ (by simp), Below.heap_setCell _ _ _ _ (by simp), Below.heap_setCell _ _ _ _ (by simp)]), hb3⟩
end Go.Proofs.YtmjdngomjjhhiaaGreat

namespace Go.Proofs.YtmjdngomjjhhiaaGreat
open Go.RowKit

set_option maxHeartbeats 1000000 in
theorem newIndexP_any (w : World) (k : Int) (f : FuncId) :
    Calls Tryz.prog 18 #[.int .i64 k, .func (.func f) #[] #[]] w fun e w' => e = .returned (.agg #[.int .i64 k, .func (.func f) #[] #[], .map (some (w.heap.size + 1))]) ∧ w'.heap.size = w.heap.size + 2 ∧ MapAt w' Tryz.prog 68 (w.heap.size + 1) (fun _ => none) 0 ∧ Below w.heap.size w w' := by
  obtain ⟨w0, hw0⟩ : ∃ w0, w0 = (w.alloc (.cells #[.int .i64 0, .nilFunc, .map none] 65)).alloc (.map #[] 0) := ⟨_, rfl⟩
  have hs1 : (w.alloc (.cells #[.int .i64 0, .nilFunc, .map none] 65)).heap.size = w.heap.size + 1 := by simp
  have hs0 : w0.heap.size = w.heap.size + 2 := by rw [hw0]; simp
  have hb0 : Below w.heap.size w w0 := by rw [hw0]; exact (below_alloc w _).trans ((below_alloc _ _).mono (by simp))
  have hx0 : Whole w0 w.heap.size 65 #[.int .i64 0, .nilFunc, .map none] := by
    rw [hw0]
    exact (show Whole (w.alloc (.cells #[.int .i64 0, .nilFunc, .map none] 65)) w.heap.size 65 _ from heap_alloc_new _ _).kept ((below_alloc _ _).block _ (by rw [hs1]; omega))
  have hm0 : MapAt w0 Tryz.prog 68 (w.heap.size + 1) (fun _ => none) 0 := by
    rw [hw0, ← hs1]
    exact MapAt.made _ _ _
  have hmk : (Instr.makeMap 63 none).run Tryz.prog (w.alloc (.cells #[.int .i64 0, .nilFunc, .map none] 65)) = .ok (.map (some (w.heap.size + 1))) w0 := by
    rw [run_makeMap, hs1, hw0]
  have HB := Lib.hid hb0
  have HX := Lib.hid hx0
  have HM := Lib.hid hm0
  have HS := Lib.hid hs0
  obtain ⟨⟨a0, a1, a2⟩, b0, b1, b2⟩ := three_of hx0
  clear hb0 hx0 hm0 hs0
  go_enter Tryz.func18, Tryz.ntmps18
  clear hw0 hs1
  have W0 := HX.out.store 0 (.int .i64 k)
  have W1 := W0.store 1 (.func (.func f) #[] #[])
  have c1 : (w0.setCell ⟨w.heap.size, 0, none⟩ (.int .i64 k)).cell? ⟨w.heap.size, 1, none⟩ = some .nilFunc := by rw [W0.cell]; rfl
  have f1 := W0.free 1
  have c2 : ((w0.setCell ⟨w.heap.size, 0, none⟩ (.int .i64 k)).setCell ⟨w.heap.size, 1, none⟩ (.func (.func f) #[] #[])).cell? ⟨w.heap.size, 2, none⟩ = some (.map none) := by rw [W1.cell]; rfl
  have f2 := W1.free 2
  have hst1 : (Go.store ⟨w.heap.size, 1, none⟩ (.func (.func f) #[] #[])).run Tryz.prog (w0.setCell ⟨w.heap.size, 0, none⟩ (.int .i64 k)) = .ok () ((w0.setCell ⟨w.heap.size, 0, none⟩ (.int .i64 k)).setCell ⟨w.heap.size, 1, none⟩ (.func (.func f) #[] #[])) := by
    rw [run_store _ _ _ _ _ rfl]
    simp [c1, f1]
  clear W0 W1
  go_wp2
  have hW3 := ((HX.out.store 0 (.int .i64 k)).store 1 (.func (.func f) #[] #[])).store 2 (.map (some (w.heap.size + 1)))
  have hb3 := ((HB.out.setCell (p := ⟨w.heap.size, 0, none⟩) (Nat.le_refl _) (.int .i64 k)).setCell (p := ⟨w.heap.size, 1, none⟩) (Nat.le_refl _) (.func (.func f) #[] #[])).setCell (p := ⟨w.heap.size, 2, none⟩) (Nat.le_refl _) (.map (some (w.heap.size + 1)))
  exact bodyPost_ret (v := .agg #[.int .i64 k, .func (.func f) #[] #[], .map (some (w.heap.size + 1))]) (results_cell_row Tryz.results18 _ _ w.heap.size 65 _ (0, 0) _ rfl hW3 Tryz.underlying65 rfl (by kernel_rfl)) rfl ⟨rfl, by simp [World.setCell, HS.out], HM.out.kept (by rw [Below.heap_setCell _ _ _ _ (by simp), Below.heap_setCell _ _ _ _ (by simp), Below.heap_setCell _ _ _ _ (by simp)]), hb3⟩
end Go.Proofs.YtmjdngomjjhhiaaGreat

namespace Go.Proofs.YtmjdngomjjhhiaaGreat
open Go.RowKit

/-- A key function. -/
abbrev fnV (f : FuncId) : Value := .func (.func f) #[] #[]
set_option maxHeartbeats 2000000 in
theorem New_any (w : World) :
    Calls Tryz.prog 6 #[] w fun e w' => e = .returned (.pointer (some ⟨w.heap.size + 7, 0, none⟩)) ∧ w'.heap.size = w.heap.size + 8 ∧
      StB w' (w.heap.size + 7) 0 w.heap.size (w.heap.size + 2) (w.heap.size + 4) (w.heap.size + 6) (fnV 17) (fnV 19) (fnV 20) ∧
      MapAt w' Tryz.prog 32 w.heap.size (fun _ => none) 0 ∧ MapAt w' Tryz.prog 9 (w.heap.size + 2) (fun _ => none) 0 ∧ MapAt w' Tryz.prog 68 (w.heap.size + 4) (fun _ => none) 0 ∧ MapAt w' Tryz.prog 9 (w.heap.size + 6) (fun _ => none) 0 ∧ Below w.heap.size w w' := by
  obtain ⟨w0, hw0⟩ : ∃ w0, w0 = w.alloc (.map #[] 0) := ⟨_, rfl⟩
  have hs0 : w0.heap.size = w.heap.size + 1 := by rw [hw0]; simp
  have hmk : (Instr.makeMap 56 none).run Tryz.prog w = .ok (.map (some w.heap.size)) w0 := by rw [run_makeMap, hw0]
  have HM0 := Lib.hid (show MapAt w0 Tryz.prog 32 w.heap.size (fun _ => none) 0 by rw [hw0]; exact MapAt.made _ _ _)
  have HB0 := Lib.hid (show Below w.heap.size w w0 by rw [hw0]; exact below_alloc _ _)
  have HF1 := Lib.hid (newIndexS_any w0 0 17)
  have HS0 := Lib.hid hs0
  clear hw0 hs0
  go_enter Tryz.func6, Tryz.ntmps6
  go_wp2_with fail
  refine HF1.out.mono ?_
  rintro _ w1 ⟨rfl, hs1, hm1, hb1⟩
  rw [HS0.out] at hs1 hm1 hb1
  have HM1 := Lib.hid hm1
  have HS1 := Lib.hid hs1
  have HB1 := Lib.hid (HB0.out.trans (hb1.mono (by omega)))
  have HN1 := Lib.hid (HM0.out.below (by rw [HS0.out]; exact hb1))
  have HF2 := Lib.hid (newIndexP_any w1 1 19)
  rw [HS0.out]
  clear hs1 hm1 hb1 HF1
  go_wp2_with fail
  refine HF2.out.mono ?_
  rintro _ w2 ⟨rfl, hs2, hm2, hb2⟩
  rw [HS1.out] at hs2 hm2 hb2
  have HM2 := Lib.hid hm2
  have HS2 := Lib.hid hs2
  have HB2 := Lib.hid (HB1.out.trans (hb2.mono (by omega)))
  have HN2 := Lib.hid (HN1.out.below (by rw [HS1.out]; exact hb2))
  have HP2 := Lib.hid (HM1.out.below (by rw [HS1.out]; exact hb2))
  have HF3 := Lib.hid (newIndexS_any w2 2 20)
  rw [HS1.out]
  clear hs2 hm2 hb2 HF2
  go_wp2_with fail
  refine HF3.out.mono ?_
  rintro _ w3 ⟨rfl, hs3, hm3, hb3⟩
  rw [HS2.out] at hs3 hm3 hb3
  have HM3 := Lib.hid hm3
  have HS3 := Lib.hid hs3
  have HB3 := Lib.hid (HB2.out.trans (hb3.mono (by omega)))
  have HN3 := Lib.hid (HN2.out.below (by rw [HS2.out]; exact hb3))
  have HP3 := Lib.hid (HP2.out.below (by rw [HS2.out]; exact hb3))
  have HQ3 := Lib.hid (HM2.out.below (by rw [HS2.out]; exact hb3))
  rw [HS2.out]
  clear hs3 hm3 hb3 HF3
  go_wp2
  go_ret
  have hs : w3.heap.size = w.heap.size + 7 := HS3.out
  have hba := below_alloc w3 (.cells #[.int .i64 0, .map (some w.heap.size), .int .i64 0, fnV 17, .map (some (w.heap.size + 2)), .int .i64 1, fnV 19, .map (some (w.heap.size + 4)), .int .i64 2, fnV 20, .map (some (w.heap.size + 6))] 70)
  have hnew : Whole (w3.alloc (.cells #[.int .i64 0, .map (some w.heap.size), .int .i64 0, fnV 17, .map (some (w.heap.size + 2)), .int .i64 1, fnV 19, .map (some (w.heap.size + 4)), .int .i64 2, fnV 20, .map (some (w.heap.size + 6))] 70)) w3.heap.size 70 _ := heap_alloc_new _ _
  rw [hs] at hnew
  exact ⟨by rw [hs]; rfl, by simp [hs], ⟨hnew⟩, HN3.out.below hba, HP3.out.below hba, HQ3.out.below hba, HM3.out.below hba, HB3.out.trans (hba.mono (by omega))⟩
end Go.Proofs.YtmjdngomjjhhiaaGreat

namespace Go.Proofs.YtmjdngomjjhhiaaGreat
open Go.RowKit
open Go.Maps (Keyed)
open Go.WideShapes

theorem keyT : Keyed Tryz.prog 32 := Keyed.of_law (deep_law (m := 5) (by decide) (by kernel_rfl) (by kernel_rfl) (by kernel_rfl))
theorem keyP : Keyed Tryz.prog 68 := Keyed.of_law (deep_law (m := 5) (by decide) (by kernel_rfl) (by kernel_rfl) (by kernel_rfl))
theorem keyS : Keyed Tryz.prog 9 := Maps.string_keyed Tryz.underlying9
end Go.Proofs.YtmjdngomjjhhiaaGreat
