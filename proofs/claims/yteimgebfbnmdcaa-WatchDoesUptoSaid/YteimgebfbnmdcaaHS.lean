/- The rows that changes make: plain facts. -/
import Derived.Test.YteimgebfbnmdcaaHR
namespace Go.Proofs.Yteimgebfbnmdcaa
open Go.RowKit Go.Shelf
open Go.Maps (Keyed)

/-- Is a row of a tuple's open? -/
def opB (t : Tp) (r : Rw) : Bool := decide (r.t = t) && (r.u == 0)
/-- Where the open row of a tuple stands. -/
def opn (R : List Rw) (t : Tp) : Option Nat := R.findIdx? (opB t)
/-- A change done to rows. -/
def rowO (R : List Rw) (c : Ch) : List Rw := match opn R c.t with
  | none => if c.del then R else R ++ [⟨c.t, c.rev, 0⟩]
  | some i => if c.del && c.rev != 0 then R.modify i (fun r => ⟨r.t, r.s, c.rev⟩) else R
def rowsF (l : List Ch) : List Rw := l.foldl rowO []
/-- No tuple has two open rows. -/
def Uq (R : List Rw) : Prop := ∀ (i j : Nat) (x y : Rw), R[i]? = some x → R[j]? = some y → x.u = 0 → y.u = 0 → x.t = y.t → i = j
theorem opB_iff (t : Tp) (r : Rw) : opB t r = true ↔ r.t = t ∧ r.u = 0 := by unfold opB; simp
theorem opn_none {R : List Rw} {t : Tp} : opn R t = none ↔ ∀ r ∈ R, ¬ (r.t = t ∧ r.u = 0) := by
  unfold opn
  rw [List.findIdx?_eq_none_iff]
  constructor
  · intro h r hr hc
    have := h r hr
    rw [(opB_iff t r).2 hc] at this; cases this
  · intro h r hr
    cases hb : opB t r with
    | false => rfl
    | true => exact absurd ((opB_iff t r).1 hb) (h r hr)
theorem opn_some {R : List Rw} {t : Tp} {i : Nat} (h : opn R t = some i) : ∃ r, R[i]? = some r ∧ r.t = t ∧ r.u = 0 := by
  unfold opn at h
  rw [List.findIdx?_eq_some_iff_getElem] at h
  obtain ⟨hi, h1, _⟩ := h
  exact ⟨R[i], List.getElem?_eq_getElem hi, (opB_iff _ _).1 h1⟩
theorem opn_of {R : List Rw} (hu : Uq R) {t : Tp} {i : Nat} {r : Rw} (h : R[i]? = some r) (ht : r.t = t) (h0 : r.u = 0) : opn R t = some i := by
  cases hq : opn R t with
  | none => exact absurd ⟨ht, h0⟩ (opn_none.1 hq r (List.mem_of_getElem? h))
  | some j =>
    obtain ⟨x, hx, hxt, hx0⟩ := opn_some hq
    rw [hu j i x r hx h hx0 h0 (hxt.trans ht.symm)]
theorem Uq.nil : Uq [] := fun i j x y h => by simp at h
theorem Uq.add {R : List Rw} (hu : Uq R) {t : Tp} (hn : opn R t = none) (s : Int) : Uq (R ++ [⟨t, s, 0⟩]) := by
  intro i j x y hx hy h1 h2 h3
  have g : ∀ (i : Nat) (x : Rw), (R ++ [(⟨t, s, 0⟩ : Rw)])[i]? = some x → (R[i]? = some x) ∨ (i = R.length ∧ x = ⟨t, s, 0⟩) := fun i x hx => by
    rw [List.getElem?_append] at hx
    split at hx
    · exact .inl hx
    · next hi =>
      have : i - R.length = 0 := by
        rcases Nat.eq_zero_or_pos (i - R.length) with h | h
        · exact h
        · rw [List.getElem?_eq_none (by simp; omega)] at hx; cases hx
      rw [this] at hx
      simp at hx
      exact .inr ⟨by omega, hx.symm⟩
  rcases g i x hx with h4 | ⟨h4, rfl⟩ <;> rcases g j y hy with h5 | ⟨h5, rfl⟩
  · exact hu i j x y h4 h5 h1 h2 h3
  · exact absurd ⟨h3, h1⟩ (opn_none.1 hn x (List.mem_of_getElem? h4))
  · exact absurd ⟨h3.symm, h2⟩ (opn_none.1 hn y (List.mem_of_getElem? h5))
  · omega
theorem modify_get {R : List Rw} {i j : Nat} {f : Rw → Rw} {x : Rw} (h : (R.modify i f)[j]? = some x) : (j ≠ i ∧ R[j]? = some x) ∨ (j = i ∧ ∃ y, R[i]? = some y ∧ x = f y) := by
  rw [List.getElem?_modify] at h
  by_cases e : i = j
  · subst e
    simp at h
    obtain ⟨y, hy, rfl⟩ := h
    exact .inr ⟨rfl, y, hy, rfl⟩
  · simp [e] at h
    exact .inl ⟨fun h => e h.symm, h⟩
theorem Uq.cut {R : List Rw} (hu : Uq R) (i : Nat) {u : Int} (h0 : u ≠ 0) : Uq (R.modify i (fun r => ⟨r.t, r.s, u⟩)) := by
  intro a b x y hx hy h1 h2 h3
  rcases modify_get hx with ⟨_, h4⟩ | ⟨_, y4, _, rfl⟩
  · rcases modify_get hy with ⟨_, h5⟩ | ⟨_, y5, _, rfl⟩
    · exact hu a b x y h4 h5 h1 h2 h3
    · exact absurd h2 h0
  · exact absurd h1 h0
theorem opn_add {R : List Rw} (hu : Uq R) {t : Tp} (hn : opn R t = none) (s : Int) (x : Tp) : opn (R ++ [⟨t, s, 0⟩]) x = if x = t then some R.length else opn R x := by
  by_cases e : x = t
  · rw [if_pos e]
    exact opn_of (hu.add hn s) (r := ⟨t, s, 0⟩) (by simp) e.symm rfl
  · rw [if_neg e]
    cases hq : opn R x with
    | none =>
      refine opn_none.2 fun r hr hc => ?_
      rcases List.mem_append.1 hr with hr | hr
      · exact opn_none.1 hq r hr hc
      · rw [List.mem_singleton] at hr
        rw [hr] at hc
        exact e hc.1.symm
    | some j =>
      obtain ⟨r, h1, h2, h3⟩ := opn_some hq
      exact opn_of (hu.add hn s) (by rw [List.getElem?_append_left (List.getElem?_eq_some_iff.1 h1).1]; exact h1) h2 h3
theorem opn_cut {R : List Rw} (hu : Uq R) {t : Tp} {i : Nat} (hi : opn R t = some i) {u : Int} (h0 : u ≠ 0) (x : Tp) : opn (R.modify i (fun r => ⟨r.t, r.s, u⟩)) x = if x = t then none else opn R x := by
  obtain ⟨ri, hri, hrt, hr0⟩ := opn_some hi
  by_cases e : x = t
  · rw [if_pos e]
    refine opn_none.2 fun r hr hc => ?_
    obtain ⟨j, hj, rfl⟩ := List.getElem_of_mem hr
    rcases modify_get (List.getElem?_eq_getElem hj) with ⟨h1, h2⟩ | ⟨_, y, _, h3⟩
    · exact h1 (hu j i _ ri h2 hri hc.2 hr0 (by rw [hc.1, e, hrt]))
    · rw [h3] at hc; exact h0 hc.2
  · rw [if_neg e]
    cases hq : opn R x with
    | none =>
      refine opn_none.2 fun r hr hc => ?_
      obtain ⟨j, hj, rfl⟩ := List.getElem_of_mem hr
      rcases modify_get (List.getElem?_eq_getElem hj) with ⟨_, h2⟩ | ⟨_, y, _, h3⟩
      · exact opn_none.1 hq _ (List.mem_of_getElem? h2) hc
      · rw [h3] at hc; exact h0 hc.2
    | some j =>
      obtain ⟨r, h1, h2, h3⟩ := opn_some hq
      have hji : i ≠ j := fun e2 => by
        subst e2
        rw [hri] at h1
        injection h1 with h1
        subst h1
        exact e (h2.symm.trans hrt)
      exact opn_of (hu.cut i h0) (by rw [List.getElem?_modify]; simp [hji]; exact h1) h2 h3
theorem Uq.step {R : List Rw} (hu : Uq R) (c : Ch) : Uq (rowO R c) := by
  unfold rowO
  cases hq : opn R c.t with
  | none =>
    show Uq (if c.del then R else R ++ [⟨c.t, c.rev, 0⟩])
    split
    · exact hu
    · exact hu.add hq _
  | some i =>
    show Uq (if (c.del && c.rev != 0) = true then _ else R)
    split
    · next h => exact hu.cut i (by simp at h; exact h.2)
    · exact hu
theorem rowO_len (R : List Rw) (c : Ch) : (rowO R c).length ≤ R.length + 1 := by
  unfold rowO
  cases hq : opn R c.t with
  | none =>
    show (if c.del then R else R ++ [⟨c.t, c.rev, 0⟩]).length ≤ _
    split <;> simp
  | some i =>
    show (if (c.del && c.rev != 0) = true then R.modify i _ else R).length ≤ _
    split <;> simp
/-- A cell of a row is stored. -/
theorem own_set {w : World} {B k n : Nat} {e : TypeId} {g c : Nat} {xs : List Value} (h : w.ownsRow B e k (.slice (some ⟨g, 0, none⟩) n c) n xs) {j : Nat} (hj : j < n * k) (u : Value) :
    (w.setCell ⟨g, j, none⟩ u).ownsRow B e k (.slice (some ⟨g, 0, none⟩) n c) n (xs.set j u) ∧ (∃ v, w.cell? ⟨g, j, none⟩ = some v) ∧ w.frozen? ⟨g, j, none⟩ = false := by
  rcases h.2 with ⟨h1, _⟩ | ⟨g', cap, cur, h1, h2, h3, h4, h5, h6, h7⟩
  · cases h1
  · injection h1 with h1 _ h8
    injection h1 with h1
    injection h1 with h1
    subst h1
    subst h8
    have hlt : j < cur.size := by rw [h6]; exact Nat.lt_of_lt_of_le hj (Nat.mul_le_mul_right _ h4)
    refine ⟨⟨by rw [List.length_set]; exact h.1, .inr ⟨g, c, cur.setIfInBounds j u, rfl, h2, ?_, h4, h5, by simpa using h6, ?_⟩⟩, ⟨cur[j], ?_⟩, ?_⟩
    · have := Whole.store (show Whole w g e cur from h3) j u
      exact this
    · rw [← h7]
      simp [List.take_set]
    · rw [(show Whole w g e cur from h3).cell]; simp [hlt]
    · exact (show Whole w g e cur from h3).free j
theorem fm_modify (R : List Rw) (i : Nat) (u : Int) (hi : i < R.length) : (R.modify i (fun r => ⟨r.t, r.s, u⟩)).flatMap rw1 = (R.flatMap rw1).set (i * 5 + 4) (.int .i64 u) := by
  induction R generalizing i with
  | nil => simp at hi
  | cons r R ih =>
    cases i with
    | zero => rfl
    | succ i =>
      rw [List.modify_succ_cons, List.flatMap_cons, List.flatMap_cons, ih i (by simpa using hi), List.set_append]
      have hl : (rw1 r).length = 5 := rfl
      rw [if_neg (by rw [hl]; omega), hl]
      congr 2
      omega
/-- The open rows' places, in a map. -/
structure OpenAt (w : World) (b : Nat) (R : List Rw) : Prop where
  at_ : ∃ m N, N ≤ R.length ∧ MapAt w Try.prog 47 b m N ∧ ∀ t, t.fits → m (kT t) = (opn R t).map fun i => .int .i64 (i : Int)
theorem OpenAt.kept {w w' : World} {b : Nat} {R : List Rw} (h : OpenAt w b R) (hb : w'.heap[b]? = w.heap[b]?) : OpenAt w' b R := by
  obtain ⟨m, N, h1, h2, h3⟩ := h.at_
  exact ⟨m, N, h1, h2.kept hb, h3⟩
theorem OpenAt.lt {w : World} {b : Nat} {R : List Rw} (h : OpenAt w b R) : b < w.heap.size := by
  obtain ⟨m, N, _, h, _⟩ := h.at_
  exact h.lt
theorem zeroI64 (w : World) : (zeroValue 3).run Try.prog w = .ok (.int .i64 0) w := by kernel_rfl
theorem OpenAt.look {w : World} {b : Nat} {R : List Rw} (h : OpenAt w b R) {t : Tp} (ht : t.fits) : (Instr.lookup 74 (.map (some b)) (tpV t) true).run Try.prog w = .ok (.tuple #[.int .i64 (((opn R t).getD 0 : Nat) : Int), .bool (opn R t).isSome]) w := by
  obtain ⟨m, N, _, h1, h2⟩ := h.at_
  have := h1.look keyT Try.underlying74 (zeroI64 _) true (keyT_of ht)
  rw [h2 t ht] at this
  rw [this]
  cases opn R t <;> rfl
theorem OpenAt.add {w : World} {b : Nat} {R : List Rw} (h : OpenAt w b R) (hu : Uq R) (hl : R.length ≤ 1099511627776) {t : Tp} (ht : t.fits) (hn : opn R t = none) (s : Int) :
    ∃ w', (Instr.mapUpdate 74 (.map (some b)) (tpV t) (.int .i64 (R.length : Int))).run Try.prog w = .ok () w' ∧ OpenAt w' b (R ++ [⟨t, s, 0⟩]) ∧ w.grownBy w' (some b) ∧ w'.heap.size = w.heap.size := by
  obtain ⟨m, N, hN, h1, h2⟩ := h.at_
  obtain ⟨w', r1, r2, r3, r4⟩ := h1.store keyT Try.underlying74 (zeroI64 _) (by unfold maxLen; omega) (val := .int .i64 (R.length : Int)) (keyT_of ht)
  refine ⟨w', r1, ⟨_, _, ?_, r2, fun x hx => ?_⟩, r3, r4⟩
  · rw [List.length_append, List.length_singleton]; split <;> omega
  · rw [opn_add hu hn]
    by_cases e : x = t
    · subst e
      rw [mset_same (kT_lit _), if_pos rfl]; rfl
    · rw [mset_other (fun h => e (kT_inj hx ht h)), if_neg e, h2 x hx]
theorem OpenAt.cut {w : World} {b : Nat} {R : List Rw} (h : OpenAt w b R) (hu : Uq R) {t : Tp} (ht : t.fits) {i : Nat} (hi : opn R t = some i) {u : Int} (h0 : u ≠ 0) (ty : TypeId) :
    ∃ w', (Builtin.delete_ #[74, 47] ty #[.map (some b), tpV t]).run Try.prog w = .ok (.tuple #[]) w' ∧ OpenAt w' b (R.modify i (fun r => ⟨r.t, r.s, u⟩)) ∧ w.grownBy w' (some b) ∧ w'.heap.size = w.heap.size := by
  obtain ⟨m, N, hN, h1, h2⟩ := h.at_
  obtain ⟨w', r1, r2, r3, r4⟩ := h1.drop keyT Try.underlying74 (zeroI64 _) (keyT_of ht) ty
  refine ⟨w', r1, ⟨_, _, ?_, r2, fun x hx => ?_⟩, r3, r4⟩
  · rw [List.length_modify]; split <;> omega
  · rw [opn_cut hu hi h0]
    by_cases e : x = t
    · subst e
      rw [mset_same (kT_lit _), if_pos rfl]; rfl
    · rw [mset_other (fun h => e (kT_inj hx ht h)), if_neg e, h2 x hx]
end Go.Proofs.Yteimgebfbnmdcaa
