/- The document's Apply. -/
import Derived.Test.YtmjdngomjjhhiaaGreatE71
namespace Go.Proofs.YtmjdngomjjhhiaaGreat
open Go.RowKit
open Go.Maps (Keyed)

theorem RowsAt.news {w : World} {a : Option Addr} {n : Nat} {l : List Rw} (h : RowsAt w a n l) : ∀ ad, a = some ad → ∀ j u, (rwc l)[j]? = some u → w.cell? (ad.add j) = some u := by
  intro ad ha j u hu
  have hj : j < l.length * 5 := by rw [← rwc_length]; exact (List.getElem?_eq_some_iff.1 hu).1
  have hi : j / 5 < l.length := by omega
  obtain ⟨b, off, he, _, hc⟩ := h.at_.resolve_left (by have := h.len; omega)
  rw [ha] at he
  injection he with he
  subst he
  obtain ⟨r, hr⟩ : ∃ r, l[j / 5]? = some r := ⟨_, List.getElem?_eq_getElem hi⟩
  obtain ⟨c0, c1, c2, c3, c4⟩ := hc _ _ hr
  obtain ⟨k0, k1, k2, k3, k4⟩ := rwc_at hr
  rw [add_plain]
  have hq : j = j / 5 * 5 ∨ j = j / 5 * 5 + 1 ∨ j = j / 5 * 5 + 2 ∨ j = j / 5 * 5 + 3 ∨ j = j / 5 * 5 + 4 := by omega
  clear hr hi hj
  generalize j / 5 = q at *
  rcases hq with rfl | rfl | rfl | rfl | rfl
  · rw [k0] at hu; rw [c0]; exact hu
  · rw [k1] at hu; rw [← Nat.add_assoc, c1]; exact hu
  · rw [k2] at hu; rw [← Nat.add_assoc, c2]; exact hu
  · rw [k3] at hu; rw [← Nat.add_assoc, c3]; exact hu
  · rw [k4] at hu; rw [← Nat.add_assoc, c4]; exact hu
theorem rwc_one (l : List Rw) : ∀ u ∈ rwc l, u.oneCell' = true := by
  intro u hu
  unfold rwc at hu
  obtain ⟨r, _, h⟩ := List.mem_flatMap.1 hu
  simp only [List.mem_cons, List.not_mem_nil, or_false] at h
  rcases h with rfl | rfl | rfl | rfl | rfl <;> rfl
theorem rwc_set {R : List Rw} {k : Nat} {r : Rw} (h : R[k]? = some r) (rev : Int) : (rwc R).set (k * 5 + 4) (.int .i64 rev) = rwc (R.set k ⟨r.t, r.s, rev⟩) := by
  induction R generalizing k with
  | nil => simp at h
  | cons q l ih =>
    have hc : ∀ q : Rw, rwc (q :: l) = .string q.t.o :: .string q.t.r :: .string q.t.u :: .int .i64 q.s :: .int .i64 q.u :: rwc l := fun _ => rfl
    cases k with
    | zero =>
      have : q = r := by simpa using h
      subst this
      rw [hc]; rfl
    | succ k =>
      have h2 : l[k]? = some r := by simpa using h
      rw [hc, show (k + 1) * 5 + 4 = (k * 5 + 4) + 5 by omega]
      show _ :: _ :: _ :: _ :: _ :: (rwc l).set (k * 5 + 4) _ = rwc (q :: l.set k ⟨r.t, r.s, rev⟩)
      rw [ih h2]; rfl
/-- The document's store in a call's own box, beside its answer's. -/
structure ApS (w wr : World) (X : Nat → Prop) (wm : Int) (v : Value) (R : List Rw) : Prop where
  x0 : Whole wr w.heap.size 28 #[v, .int .i64 wm]
  x1 : Whole wr (w.heap.size + 1) 28 #[.slice none 0 0, .int .i64 0]
  dr : DR wr (fun b => X b ∨ b = w.heap.size ∨ b = w.heap.size + 1) R v
  bel : Below w.heap.size w wr
theorem ApS.start {w : World} {X : Nat → Prop} {R : List Rw} {v : Value} (h : DR w X R v) (wm : Int) : ApS w ((w.alloc (.cells #[v, .int .i64 wm] 28)).alloc (.cells #[.slice none 0 0, .int .i64 0] 28)) X wm v R := by
  have a1 := below_alloc w (.cells #[v, .int .i64 wm] 28)
  have s1 : (w.alloc (.cells #[v, .int .i64 wm] 28)).heap.size = w.heap.size + 1 := by simp
  have x1 : Whole (w.alloc (.cells #[v, .int .i64 wm] 28)) w.heap.size 28 #[v, .int .i64 wm] := heap_alloc_new _ _
  generalize w.alloc (.cells #[v, .int .i64 wm] 28) = W1 at *
  have a2 := below_alloc W1 (.cells #[.slice none 0 0, .int .i64 0] 28)
  have x2 : Whole (W1.alloc (.cells #[.slice none 0 0, .int .i64 0] 28)) W1.heap.size 28 #[.slice none 0 0, .int .i64 0] := heap_alloc_new _ _
  generalize W1.alloc (.cells #[.slice none 0 0, .int .i64 0] 28) = W2 at *
  have y1 := x1.kept (a2.block _ x1.lt)
  rw [s1] at x2
  have hb := bell_up a1 a2
  exact ⟨y1, x2, h.keep hb.size (fun b hl _ => hb.block b hl) (fun b hl ho => by rcases ho with h1 | h1 | h1 <;> first | exact h1 | omega), hb⟩
theorem ApS.up {w wr w' : World} {X : Nat → Prop} {R : List Rw} {v : Value} {wm : Int} (h : ApS w wr X wm v R) (hb : Below wr.heap.size wr w') : ApS w w' X wm v R :=
  ⟨h.x0.kept (hb.block _ h.x0.lt), h.x1.kept (hb.block _ h.x1.lt), h.dr.below hb, bell_up h.bel hb⟩
theorem ApS.put {w wr w' : World} {X : Nat → Prop} {R R' : List Rw} {v v' : Value} {wm : Int} (h : ApS w wr X wm v R) (hX : ∀ b, X b → b < w.heap.size) (hb : Below wr.heap.size wr w') (hown : w'.ownsRow wr.heap.size 46 5 v' R'.length (rwc R')) (hf : ∀ r ∈ R', r.t.fits) :
    ApS w (w'.setCell ⟨w.heap.size, 0, none⟩ v') X wm v' R' := by
  have hl0 := h.x0.lt
  have hl1 := h.x1.lt
  refine ⟨(h.x0.kept (hb.block _ h.x0.lt)).store 0 v', (h.x1.kept (hb.block _ h.x1.lt)).kept (Below.heap_setCell w' ⟨w.heap.size, 0, none⟩ _ _ (by show w.heap.size + 1 ≠ w.heap.size; omega)), DR.made (B := wr.heap.size) (owns_keptN hown (fun k hk => Below.heap_setCell w' ⟨w.heap.size, 0, none⟩ _ k (by show k ≠ w.heap.size; have := (hown.lt k hk).1; omega))) (fun b ho => ?_) hf, (bell_up h.bel hb).setCell (p := ⟨w.heap.size, 0, none⟩) (by show w.heap.size ≤ w.heap.size; omega) _⟩
  rcases ho with h1 | h1 | h1
  · have := hX b h1; omega
  · omega
  · omega
theorem DR.slice {wr : World} {X : Nat → Prop} {R : List Rw} {v : Value} (h : DR wr X R v) : ∃ ra rc, v = .slice ra R.length rc ∧ RowsAt wr ra R.length R := by
  obtain ⟨ra, rc, e, h1, _⟩ := h
  exact ⟨ra, rc, e, h1⟩
theorem opI_start (R : List Rw) (t : Tp) : opI R t 0 = -1 := rfl
theorem opI_cases (R : List Rw) (t : Tp) : (opI R t R.length = -1 ∧ openAt R t R.length = none) ∨ ∃ (k : Nat) (r : Rw), opI R t R.length = (k : Int) ∧ openAt R t R.length = some k ∧ R[k]? = some r ∧ r.t = t ∧ r.u = 0 := by
  unfold opI
  cases h : openAt R t R.length with
  | none => exact .inl ⟨rfl, rfl⟩
  | some k =>
    obtain ⟨r, h1, h2, h3⟩ := openAt_some h
    exact .inr ⟨k, r, rfl, rfl, h1, h2, h3⟩
theorem oneR_none {R : List Rw} {rev : Int} {d : Bool} {t : Tp} (h : openAt R t R.length = none) : oneR ltT R rev d t = if d then R else withR ltT ⟨t, rev, 0⟩ R := by unfold oneR; rw [h]
theorem oneR_some {R : List Rw} {rev : Int} {d : Bool} {t : Tp} {k : Nat} {r : Rw} (h : openAt R t R.length = some k) (hr : R[k]? = some r) (ht : r.t = t) : oneR ltT R rev d t = if d then R.set k ⟨r.t, r.s, rev⟩ else R := by unfold oneR; rw [h, ht]; simp only [hr]
/-- The end of such a call: the box goes into the answer. -/
theorem ApS.fin {w wr : World} {X : Nat → Prop} {R : List Rw} {v : Value} {wm : Int} (h : ApS w wr X wm v R) :
    DR ((wr.setCell ⟨w.heap.size + 1, 0, none⟩ v).setCell ⟨w.heap.size + 1, 1, none⟩ (.int .i64 wm)) X R v ∧ Below w.heap.size w ((wr.setCell ⟨w.heap.size + 1, 0, none⟩ v).setCell ⟨w.heap.size + 1, 1, none⟩ (.int .i64 wm)) ∧
    ((wr.setCell ⟨w.heap.size + 1, 0, none⟩ v).setCell ⟨w.heap.size + 1, 1, none⟩ (.int .i64 wm)).cell? ⟨w.heap.size + 1, 0, none⟩ = some v ∧ ((wr.setCell ⟨w.heap.size + 1, 0, none⟩ v).setCell ⟨w.heap.size + 1, 1, none⟩ (.int .i64 wm)).cell? ⟨w.heap.size + 1, 1, none⟩ = some (.int .i64 wm) := by
  have hx1 := (h.x1.store 0 v).store 1 (.int .i64 wm)
  refine ⟨h.dr.chg (P := fun b => b = w.heap.size + 1) (((Chg.refl wr (fun b => b = w.heap.size + 1)).set rfl 0 v).set rfl 1 _) (fun b hb => .inr (.inr hb)) (fun b _ hb => .inl hb), (h.bel.setCell (p := ⟨w.heap.size + 1, 0, none⟩) (by show w.heap.size ≤ w.heap.size + 1; omega) _).setCell (p := ⟨w.heap.size + 1, 1, none⟩) (by show w.heap.size ≤ w.heap.size + 1; omega) _, ?_, ?_⟩
  · rw [hx1.cell]; rfl
  · rw [hx1.cell]; rfl
end Go.Proofs.YtmjdngomjjhhiaaGreat
