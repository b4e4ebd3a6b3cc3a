/- StorePlays: what both stores are together; lengths of rows; a document's rows as they lie beside a store. -/
import Derived.Test.YtmjdngomjjhhiaaGreatE70
namespace Go.Proofs.YtmjdngomjjhhiaaGreat
open Go.RowKit
open Go.Maps (Keyed)

theorem insT_perm (lt : Tp → Tp → Bool) (t : Tp) : ∀ l : List Tp, (insT lt t l).Perm (t :: l) := by
  intro l
  induction l with
  | nil => exact .refl _
  | cons x l ih =>
    unfold insT
    split
    · exact .refl _
    · exact (ih.cons x).trans (.swap t x l)
theorem sortedK : ∀ K : List Tp, K.Nodup → ∃ ts, ts.Perm K ∧ TSorted ltT ts := by
  intro K
  induction K with
  | nil => exact fun _ => ⟨[], .refl _, by simp [TSorted]⟩
  | cons t K ih =>
    intro hn
    obtain ⟨h1, h2⟩ := List.nodup_cons.1 hn
    obtain ⟨ts, hp, hs⟩ := ih h2
    exact ⟨insT ltT t ts, (insT_perm ltT t ts).trans (hp.cons t), insT_sorted ordT t hs (fun h => h1 (hp.mem_iff.1 h))⟩
theorem Rep.tot {M : SM} {R : List Rw} (hr : Rep ltT M R) (hM : SMOk M) : M.tot = R.length := by
  obtain ⟨ts, hp, hs⟩ := sortedK M.K hM.nd
  rw [← rowsOf_tot hp, ← hr.unique ordT (rowsOf_rep hM hp hs)]
theorem oneR_len (R : List Rw) (rev : Int) (d : Bool) (t : Tp) : (oneR ltT R rev d t).length ≤ R.length + 1 := by
  unfold oneR
  split
  · split
    · split
      · rw [List.length_set]; omega
      · omega
    · omega
  · split
    · omega
    · rw [withR_length]; omega
theorem applyR_take (R : List Rw) (rev : Int) {l : List Mu} {i : Nat} {m : Mu} (h : l[i]? = some m) : applyR ltT R rev (l.take (i + 1)) = oneR ltT (applyR ltT R rev (l.take i)) rev m.d m.t := by
  unfold applyR
  rw [List.take_add_one, h, List.foldl_append]; rfl
theorem applyR_len (R : List Rw) (rev : Int) (l : List Mu) : ∀ i, (applyR ltT R rev (l.take i)).length ≤ R.length + i := by
  intro i
  induction i with
  | zero => show (List.foldl _ R (l.take 0)).length ≤ _; rw [List.take_zero]; exact Nat.le_refl _
  | succ i ih =>
    cases hx : l[i]? with
    | none => rw [List.take_add_one, hx]; simp only [Option.toList_none, List.append_nil]; omega
    | some x =>
      rw [applyR_take R rev hx]
      have := oneR_len (applyR ltT R rev (l.take i)) rev x.d x.t
      omega
theorem loadR_take (R : List Rw) {l : List Rw} {i : Nat} {x : Rw} (h : l[i]? = some x) : loadR ltT R (l.take (i + 1)) = withR ltT x (loadR ltT R (l.take i)) := by
  unfold loadR
  rw [List.take_add_one, h, List.foldl_append]; rfl
theorem loadR_len (R : List Rw) (l : List Rw) : ∀ i, (loadR ltT R (l.take i)).length ≤ R.length + i := by
  intro i
  induction i with
  | zero => show (List.foldl _ R (l.take 0)).length ≤ _; rw [List.take_zero]; exact Nat.le_refl _
  | succ i ih =>
    cases hx : l[i]? with
    | none => rw [List.take_add_one, hx]; simp only [Option.toList_none, List.append_nil]; omega
    | some x =>
      rw [loadR_take R hx, withR_length]
      omega
/-- The place of the open row among the first k. -/
def opI (R : List Rw) (t : Tp) (k : Nat) : Int := match openAt R t k with
  | some j => j
  | none => -1
theorem opI_next {R : List Rw} {t : Tp} {k : Nat} {x : Rw} (h : R[k]? = some x) : opI R t (k + 1) = if x.t = t ∧ x.u = 0 then (k : Int) else opI R t k := by
  unfold opI
  rw [openAt, h]
  by_cases hx : x.t = t ∧ x.u = 0
  · have : (some x).any (isOpen t) = true := by unfold isOpen; simp [hx.1, hx.2]
    rw [if_pos this, if_pos hx]
  · have : ¬ (some x).any (isOpen t) = true := by
      unfold isOpen
      simp only [Option.any_some, Bool.and_eq_true, decide_eq_true_eq]
      exact hx
    rw [if_neg this, if_neg hx]
/-- A list of rows that lies apart from some blocks. -/
def DR (wr : World) (X : Nat → Prop) (R : List Rw) (v : Value) : Prop := ∃ ra rc, v = .slice ra R.length rc ∧ RowsAt wr ra R.length R ∧ (0 < R.length → ∀ ad, ra = some ad → ¬ X ad.block)
theorem RowsAt.block {w : World} {a : Option Addr} {n : Nat} {l : List Rw} (h : RowsAt w a n l) (hn : 0 < n) {ad : Addr} (ha : a = some ad) : ad.block < w.heap.size := by
  obtain ⟨b, off, he, hb, _⟩ := h.at_.resolve_left (by omega)
  rw [ha] at he
  injection he with he
  rw [he]; exact hb
theorem DR.keep {wr w' : World} {X X' : Nat → Prop} {R : List Rw} {v : Value} (h : DR wr X R v) (hs : wr.heap.size ≤ w'.heap.size) (hk : ∀ b, b < wr.heap.size → ¬ X b → w'.heap[b]? = wr.heap[b]?) (hX : ∀ b, b < wr.heap.size → X' b → X b) : DR w' X' R v := by
  obtain ⟨ra, rc, e, h1, h2⟩ := h
  by_cases hR : 0 < R.length
  · exact ⟨ra, rc, e, h1.keep hs (fun ad ha hl => hk _ hl (h2 hR ad ha)), fun _ ad ha ho => h2 hR ad ha (hX _ (h1.block hR ha) ho)⟩
  · exact ⟨ra, rc, e, ⟨h1.len, h1.fits, .inl (by omega)⟩, fun h => absurd h hR⟩
theorem DR.below {wr w' : World} {X : Nat → Prop} {R : List Rw} {v : Value} (h : DR wr X R v) (hb : Below wr.heap.size wr w') : DR w' X R v := h.keep hb.size (fun _ hl _ => hb.block _ hl) (fun _ _ h => h)
theorem DR.chg {wr w' : World} {X X' P : Nat → Prop} {R : List Rw} {v : Value} (h : DR wr X R v) (c : Chg wr w' P) (hP : ∀ b, P b → X b) (hX : ∀ b, b < wr.heap.size → X' b → X b) : DR w' X' R v := h.keep c.size (fun b hl hn => c.block b hl (fun hp => hn (hP b hp))) hX
theorem DR.fits {wr : World} {X : Nat → Prop} {R : List Rw} {v : Value} (h : DR wr X R v) : ∀ r ∈ R, r.t.fits := by
  obtain ⟨_, _, _, h1, _⟩ := h
  exact h1.fits
theorem DR.made {w' : World} {X : Nat → Prop} {R : List Rw} {v : Value} {B : Nat} (h : w'.ownsRow B 46 5 v R.length (rwc R)) (hB : ∀ b, X b → b < B) (hf : ∀ r ∈ R, r.t.fits) : DR w' X R v := by
  obtain ⟨a, c, rfl, _, _⟩ := owned_anyE h
  rcases Nat.eq_zero_or_pos R.length with h0 | h0
  · exact ⟨a, c, rfl, ⟨rfl, hf, .inl h0⟩, fun hp => by omega⟩
  · obtain ⟨b, c', he, hb, hc⟩ := own_cells h h0
    injection he with e1 e2 e3
    subst e1
    refine ⟨_, c, rfl, ⟨rfl, hf, .inr ⟨b, 0, rfl, hb, fun i r hi => ?_⟩⟩, fun _ ad ha ho => ?_⟩
    · obtain ⟨k0, k1, k2, k3, k4⟩ := rwc_at hi
      rw [Nat.zero_add]
      exact ⟨hc _ _ k0, hc _ _ k1, hc _ _ k2, hc _ _ k3, hc _ _ k4⟩
    · injection ha with ha
      subst ha
      have h1 := (h.lt b (by simp [Value.ownBlock])).1
      have h2 := hB _ ho
      simp only at h2
      omega
theorem withR_all {p : Rw → Prop} {r : Rw} {l : List Rw} (h : ∀ x ∈ l, p x) (hr : p r) : ∀ x ∈ withR ltT r l, p x := fun x hx => by
  rcases (withR_mem ltT r x l).1 hx with h1 | h1
  · rw [h1]; exact hr
  · exact h x h1
theorem oneR_fits {R : List Rw} {rev : Int} {d : Bool} {t : Tp} (h : ∀ x ∈ R, x.t.fits) (ht : t.fits) : ∀ x ∈ oneR ltT R rev d t, x.t.fits := by
  unfold oneR
  split
  · split
    · split
      · intro x hx
        rcases List.mem_or_eq_of_mem_set hx with h1 | h1
        · exact h x h1
        · rw [h1]; exact ht
      · exact h
    · exact h
  · split
    · exact h
    · exact withR_all (p := fun x => x.t.fits) h ht
theorem applyR_fits {rev : Int} : ∀ {l : List Mu} {R : List Rw}, (∀ x ∈ R, x.t.fits) → (∀ m ∈ l, m.t.fits) → ∀ x ∈ applyR ltT R rev l, x.t.fits := by
  intro l
  induction l with
  | nil => exact fun h _ => h
  | cons m l ih => exact fun h hl => ih (oneR_fits h (hl m (by simp))) (fun x hx => hl x (List.mem_cons_of_mem _ hx))
theorem loadR_fits : ∀ {l : List Rw} {R : List Rw}, (∀ x ∈ R, x.t.fits) → (∀ m ∈ l, m.t.fits) → ∀ x ∈ loadR ltT R l, x.t.fits := by
  intro l
  induction l with
  | nil => exact fun h _ => h
  | cons m l ih => exact fun h hl => ih (withR_all (p := fun x => x.t.fits) h (hl m (by simp))) (fun x hx => hl x (List.mem_cons_of_mem _ hx))
/-- One store in a memory, with a watermark. -/
structure OneW (W0 wr : World) (g : Nat) (M : SM) (H : Gh) (wm : Int) (c : Nat) : Prop where
  a : StAt wr wm M H c
  ga : H.g = g
  oa : ∀ k, H.own k → W0.heap.size ≤ k
  bel : Below W0.heap.size W0 wr
section
variable {W0 wr w' : World} {g : Nat} {M M' : SM} {H H' : Gh} {wm wm' : Int} {c c' : Nat}
theorem OneW.below (h : OneW W0 wr g M H wm c) (hb : Below wr.heap.size wr w') : OneW W0 w' g M H wm c := ⟨h.a.below hb, h.ga, h.oa, bell_up h.bel hb⟩
theorem OneW.mono (h : OneW W0 wr g M H wm c) (h1 : c ≤ c') : OneW W0 wr g M H wm c' := ⟨h.a.mono h1, h.ga, h.oa, h.bel⟩
theorem OneW.step (h : OneW W0 wr g M H wm c) (hs : StAt w' wm' M' H' c') (k : StC wr w' H H') : OneW W0 w' g M' H' wm' c' := by
  obtain ⟨l', o'⟩ := k.since h.bel h.oa
  exact ⟨hs, k.g.trans h.ga, o', l'⟩
end
end Go.Proofs.YtmjdngomjjhhiaaGreat
