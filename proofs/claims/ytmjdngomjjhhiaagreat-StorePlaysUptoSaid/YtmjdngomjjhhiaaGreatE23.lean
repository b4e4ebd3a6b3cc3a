/- index.add of a store's entry. -/
import Derived.Test.YtmjdngomjjhhiaaGreatE22
namespace Go.Proofs.YtmjdngomjjhhiaaGreat
open Go.RowKit
open Go.Maps (Keyed)

theorem nd_len {α : Type} [DecidableEq α] : ∀ {l K : List α}, l.Nodup → (∀ x ∈ l, x ∈ K) → l.length ≤ K.length := by
  intro l
  induction l with
  | nil => intro K _ _; exact Nat.zero_le _
  | cons a l ih =>
    intro K hn hs
    obtain ⟨h1, h2⟩ := List.nodup_cons.1 hn
    have ha := hs a (by simp)
    have := ih (K := K.erase a) h2 (fun x hx => (List.mem_erase_of_ne (fun e => h1 (by rw [← e]; exact hx))).2 (hs x (List.mem_cons_of_mem _ hx)))
    rw [List.length_erase_of_mem ha] at this
    have := List.length_pos_of_mem ha
    simp
    omega
/-- The indexes below J have the new tuple. -/
def KJ (K : List Tp) (t : Tp) (J : Nat) : Nat → List Tp := fun i => if i < J then K ++ [t] else K
theorem KJ_next (K : List Tp) (t : Tp) (J : Nat) : (fun j => if j = J then K ++ [t] else KJ K t J j) = KJ K t (J + 1) := by
  funext j
  unfold KJ
  by_cases h1 : j = J
  · rw [if_pos h1, if_pos (by omega)]
  · rw [if_neg h1]
    by_cases h2 : j < J
    · rw [if_pos h2, if_pos (by omega)]
    · rw [if_neg h2, if_neg (by omega)]
section
variable {w : World} {wm : Int} {K : List Tp} {sp : Tp → List Sp} {H : Gh} {cb : Nat} {t : Tp}
theorem gadd0_any (h : StGen w wm (K ++ [t]) (K ++ [t]) (KJ K t 0) sp H cb) (ht : t ∉ K) (hK : K.length ≤ 1099511627776) (hcb : cb < maxLen) :
    Calls Tryz.prog 59 #[.agg #[.int .i64 0, fnV 17, .map (some (H.bi 0))], ptr (H.ge t)] w fun e w' => e = .returned (.tuple #[]) ∧ ∃ H', StGen w' wm (K ++ [t]) (K ++ [t]) (KJ K t 1) sp H' (cb + 1) ∧ StC w w' H H' ∧ H'.ge = H.ge ∧ H'.bi = H.bi ∧ H'.be = H.be ∧ H'.rv = H.rv := by
  have hE := h.ents t (by simp)
  obtain ⟨a, c, hv, hA⟩ := hE.at_
  have hI := h.ix 0 (by omega)
  have hKI : KJ K t 0 0 = K := if_neg (by omega)
  rw [hKI] at hI
  obtain ⟨N, hN, hM⟩ := hI.map
  have hln : (H.L 0 (kI 0 t)).length ≤ K.length := nd_len (hI.ok.nd _) (fun x hx => ((hI.ok.mem _ x).1 hx).1)
  refine (add0_any hE.fit hM (by omega) hA.blk (hI.row (kI 0 t)) (by omega)).mono ?_
  rintro _ w' ⟨rfl, v', r1, r2, r3, r4, r5⟩
  refine ⟨rfl, ?_⟩
  have hok := @IxOk.add Lit litDec (kI 0) K (H.L 0) (H.ps 0) hI.ok t ht
  obtain ⟨g1, g2⟩ := h.index (i := 0) (by omega) (k := kI 0 t) (kI_lit _ _) (l := H.L 0 (kI 0 t) ++ [t]) (o := some v') (x := t) (n := (H.L 0 (kI 0 t)).length) (cb' := cb + 1) (K' := K ++ [t]) (by simp) (by omega)
    (by rw [hv]; exact r3) r2 (by split <;> omega) (by rw [List.length_append, List.map_append]; exact r1) (by simp) hok r4 (fun q hq => r5.elim (fun e => .inl (e ▸ hq)) (fun ⟨q2, e1, e2⟩ => .inr (by have := e1.symm.trans hq; injection this with this; omega)))
  rw [KJ_next] at g1
  exact ⟨_, g1, g2, rfl, rfl, rfl, rfl⟩
theorem gadd1_any (h : StGen w wm (K ++ [t]) (K ++ [t]) (KJ K t 1) sp H cb) (ht : t ∉ K) (hK : K.length ≤ 1099511627776) (hcb : cb < maxLen) :
    Calls Tryz.prog 60 #[.agg #[.int .i64 1, fnV 19, .map (some (H.bi 1))], ptr (H.ge t)] w fun e w' => e = .returned (.tuple #[]) ∧ ∃ H', StGen w' wm (K ++ [t]) (K ++ [t]) (KJ K t 2) sp H' (cb + 1) ∧ StC w w' H H' ∧ H'.ge = H.ge ∧ H'.bi = H.bi ∧ H'.be = H.be ∧ H'.rv = H.rv := by
  have hE := h.ents t (by simp)
  obtain ⟨a, c, hv, hA⟩ := hE.at_
  have hI := h.ix 1 (by omega)
  have hKI : KJ K t 1 1 = K := if_neg (by omega)
  rw [hKI] at hI
  obtain ⟨N, hN, hM⟩ := hI.map
  have hln : (H.L 1 (kI 1 t)).length ≤ K.length := nd_len (hI.ok.nd _) (fun x hx => ((hI.ok.mem _ x).1 hx).1)
  refine (add1_any hE.fit hM (by omega) hA.blk (hI.row (kI 1 t)) (by omega)).mono ?_
  rintro _ w' ⟨rfl, v', r1, r2, r3, r4, r5⟩
  refine ⟨rfl, ?_⟩
  have hok := @IxOk.add Lit litDec (kI 1) K (H.L 1) (H.ps 1) hI.ok t ht
  obtain ⟨g1, g2⟩ := h.index (i := 1) (by omega) (k := kI 1 t) (kI_lit _ _) (l := H.L 1 (kI 1 t) ++ [t]) (o := some v') (x := t) (n := (H.L 1 (kI 1 t)).length) (cb' := cb + 1) (K' := K ++ [t]) (by simp) (by omega)
    (by rw [hv]; exact r3) r2 (by split <;> omega) (by rw [List.length_append, List.map_append]; exact r1) (by simp) hok r4 (fun q hq => r5.elim (fun e => .inl (e ▸ hq)) (fun ⟨q2, e1, e2⟩ => .inr (by have := e1.symm.trans hq; injection this with this; omega)))
  rw [KJ_next] at g1
  exact ⟨_, g1, g2, rfl, rfl, rfl, rfl⟩
theorem gadd2_any (h : StGen w wm (K ++ [t]) (K ++ [t]) (KJ K t 2) sp H cb) (ht : t ∉ K) (hK : K.length ≤ 1099511627776) (hcb : cb < maxLen) :
    Calls Tryz.prog 59 #[.agg #[.int .i64 2, fnV 20, .map (some (H.bi 2))], ptr (H.ge t)] w fun e w' => e = .returned (.tuple #[]) ∧ ∃ H', StGen w' wm (K ++ [t]) (K ++ [t]) (KJ K t 3) sp H' (cb + 1) ∧ StC w w' H H' ∧ H'.ge = H.ge ∧ H'.bi = H.bi ∧ H'.be = H.be ∧ H'.rv = H.rv := by
  have hE := h.ents t (by simp)
  obtain ⟨a, c, hv, hA⟩ := hE.at_
  have hI := h.ix 2 (by omega)
  have hKI : KJ K t 2 2 = K := if_neg (by omega)
  rw [hKI] at hI
  obtain ⟨N, hN, hM⟩ := hI.map
  have hln : (H.L 2 (kI 2 t)).length ≤ K.length := nd_len (hI.ok.nd _) (fun x hx => ((hI.ok.mem _ x).1 hx).1)
  refine (add2_any hE.fit hM (by omega) hA.blk (hI.row (kI 2 t)) (by omega)).mono ?_
  rintro _ w' ⟨rfl, v', r1, r2, r3, r4, r5⟩
  refine ⟨rfl, ?_⟩
  have hok := @IxOk.add Lit litDec (kI 2) K (H.L 2) (H.ps 2) hI.ok t ht
  obtain ⟨g1, g2⟩ := h.index (i := 2) (by omega) (k := kI 2 t) (kI_lit _ _) (l := H.L 2 (kI 2 t) ++ [t]) (o := some v') (x := t) (n := (H.L 2 (kI 2 t)).length) (cb' := cb + 1) (K' := K ++ [t]) (by simp) (by omega)
    (by rw [hv]; exact r3) r2 (by split <;> omega) (by rw [List.length_append, List.map_append]; exact r1) (by simp) hok r4 (fun q hq => r5.elim (fun e => .inl (e ▸ hq)) (fun ⟨q2, e1, e2⟩ => .inr (by have := e1.symm.trans hq; injection this with this; omega)))
  rw [KJ_next] at g1
  exact ⟨_, g1, g2, rfl, rfl, rfl, rfl⟩
end
end Go.Proofs.YtmjdngomjjhhiaaGreat
