/- A new entry; other spans. -/
import Derived.Test.YtmjdngomjjhhiaaGreatE21
namespace Go.Proofs.YtmjdngomjjhhiaaGreat
open Go.RowKit
open Go.Maps (Keyed)

noncomputable def Gh.enter (H : Gh) (t : Tp) (e : Nat) : Gh :=
  { H with
    lab := fun b => if b = e then some (.ent t) else H.lab b
    ge := updK H.ge t e
    rv := updK H.rv t nilS
    ps := fun i => updK (H.ps i) t 0
    me := mset H.me (kT t) (some (ptr e)) }
def Gh.span (H : Gh) (t : Tp) (v : Value) : Gh :=
  { H with
    rv := updK H.rv t v
    lab := fun b => if v.ownBlock = some b then some (.row t) else H.lab b }
section
variable {w w' : World} {wm : Int} {K : List Tp} {sp : Tp → List Sp} {H : Gh} {cb cb' : Nat} {t : Tp}
theorem StRaw.enter (h : StRaw w wm K sp H cb) (ht : t ∉ K) (hf : t.fits) {e : Nat} (he : w.heap.size ≤ e)
    (hW : Whole w' e 87 #[.string t.o, .string t.r, .string t.u, nilS, .int .i64 0, .int .i64 0, .int .i64 0])
    (hM : MapAt w' Tryz.prog 32 H.be (mset H.me (kT t) (some (ptr e))) (K.length + 1)) (hC : Chg w w' (fun b => b = H.be)) :
    StGen w' wm (K ++ [t]) (K ++ [t]) (fun _ => K) sp (H.enter t e) (cb + 1) ∧ StC w w' H (H.enter t e) := by
  have hlb : ∀ b lb, H.lab b = some lb → lb ≠ .map 3 → w'.heap[b]? = w.heap[b]? := fun b lb hb hn => hC.block b (h.lt b lb hb) (fun e2 => by
    rw [e2, h.em.lab] at hb; injection hb with hb; exact hn hb.symm)
  have hlab : ∀ b lb, H.lab b = some lb → (H.enter t e).lab b = some lb := fun b lb hb => by
    show (if b = e then some (.ent t) else H.lab b) = some lb
    rw [if_neg (by have := h.lt b lb hb; omega)]
    exact hb
  have hgo : ∀ y ∈ K, (H.enter t e).ge y = H.ge y := fun y hy => updK_other _ _ (fun e2 => ht (e2 ▸ hy))
  have hgt : (H.enter t e).ge t = e := updK_same _ _ _
  refine ⟨⟨h.wm0, fun b lb hb => ?_, ⟨h.top.blk.kept (hlb _ _ h.ltop (by simp))⟩, hlab _ _ h.ltop, ⟨by rw [List.length_append]; exact hM, hlab _ _ h.em.lab, fun y hy => ?_, fun kl v hv => ?_⟩, fun y hy => ?_, fun i hi => ?_⟩, ?_⟩
  · by_cases hbe : b = e
    · rw [hbe]; exact hW.lt
    · have hb2 : (if b = e then some (.ent t) else H.lab b) = some lb := hb
      rw [if_neg hbe] at hb2
      exact Nat.lt_of_lt_of_le (h.lt b lb hb2) hC.size
  · show mset H.me (kT t) (some (ptr e)) (kT y) = _
    rcases List.mem_append.1 hy with h1 | h1
    · have hne : kT y ≠ kT t := fun e2 => ht (kT_inj (h.ents y h1).fit hf e2 ▸ h1)
      rw [mset_other hne, hgo y h1]
      exact h.em.has y h1
    · rw [List.mem_singleton] at h1
      rw [h1, mset_same (kT_lit t), hgt]
  · have hv2 : mset H.me (kT t) (some (ptr e)) kl = some v := hv
    by_cases hk : kl = kT t
    · exact ⟨t, by simp, hk⟩
    · rw [mset_other hk] at hv2
      obtain ⟨y, hy, e2⟩ := h.em.only kl v hv2
      exact ⟨y, List.mem_append_left _ hy, e2⟩
  · rcases List.mem_append.1 hy with h1 | h1
    · have hyt : y ≠ t := fun e2 => ht (e2 ▸ h1)
      exact (h.ents y h1).keep (fun b hb => hb.elim (fun e2 => ⟨hlb b _ e2 (by simp), (hlab b _ e2).trans e2.symm⟩) (fun e2 => ⟨hlb b _ e2 (by simp), (hlab b _ e2).trans e2.symm⟩)) (hgo y h1) (updK_other _ _ hyt) (fun i _ => updK_other _ _ hyt)
    · rw [List.mem_singleton] at h1
      rw [h1, h.no t ht]
      have hr : (H.enter t e).rv t = nilS := updK_same _ _ _
      have hp : ∀ i, (H.enter t e).ps i t = 0 := fun i => updK_same (H.ps i) t 0
      refine ⟨hf, ?_, ⟨none, 0, hr, ⟨?_, World.ownsRow_nil _ _ _ _⟩⟩, fun b hb => ?_⟩
      · rw [hgt]
        exact if_pos rfl
      · rw [hgt, hp, hp, hp]; exact hW
      · rw [hr] at hb; cases hb
  · have e2 : Lb.map i ≠ .map 3 := by intro e2; injection e2 with e2; omega
    exact ((h.ix i hi).keep (H' := H.enter t e) (fun b hb => hb.elim (fun e3 => ⟨hlb b _ e3 e2, (hlab b _ e3).trans e3.symm⟩) (fun ⟨q, e3⟩ => ⟨hlb b _ e3 (by simp), (hlab b _ e3).trans e3.symm⟩)) rfl rfl rfl (fun y hy => updK_other _ _ (fun e3 => ht (e3 ▸ hy))) hgo).mono (by omega)
  · refine ⟨hC.mono (fun b _ hb => ?_), rfl, fun b hb ho => ?_⟩
    · rw [hb]; exact Gh.own_of h.em.lab
    · unfold Gh.own at ho
      have ho2 : (if b = e then some (.ent t) else H.lab b).isSome = true := ho
      rw [if_neg (by omega)] at ho2
      exact ho2
/-- A tuple has other spans. -/
theorem StRaw.spanned (h : StRaw w wm K sp H cb) (ht : t ∈ K) {l : List Sp} {v : Value}
    (hW : Whole w' (H.ge t) 87 #[.string t.o, .string t.r, .string t.u, v, .int .i64 (H.ps 0 t : Nat), .int .i64 (H.ps 1 t : Nat), .int .i64 (H.ps 2 t : Nat)])
    (hR : w'.ownsRow 0 90 2 v l.length (spc l)) (hC : Chg w w' (fun b => b = H.ge t ∨ (H.rv t).ownBlock = some b))
    (hloc : ∀ q, v.ownBlock = some q → (H.rv t).ownBlock = some q ∨ w.heap.size ≤ q) (hl : l.length ≤ cb') (hcb : cb ≤ cb') :
    StRaw w' wm K (updK sp t l) (H.span t v) cb' ∧ StC w w' H (H.span t v) := by
  have hE := h.ents t ht
  have hkeep : ∀ b lb, H.lab b = some lb → lb ≠ .ent t → lb ≠ .row t → w'.heap[b]? = w.heap[b]? := fun b lb hb n1 n2 => by
    refine hC.block b (h.lt b lb hb) ?_
    rintro (rfl | e)
    · rw [hE.lab] at hb; injection hb with hb; exact n1 hb.symm
    · rw [hE.row b e] at hb; injection hb with hb; exact n2 hb.symm
  have hlab : ∀ b lb, H.lab b = some lb → lb ≠ .row t → (H.span t v).lab b = some lb := fun b lb hb n2 => by
    show (if v.ownBlock = some b then some (.row t) else H.lab b) = some lb
    rw [if_neg]
    · exact hb
    · intro e
      rcases hloc b e with e2 | e2
      · rw [hE.row b e2] at hb; injection hb with hb; exact n2 hb.symm
      · exact absurd (h.lt b lb hb) (by omega)
  have hrt : (H.span t v).rv t = v := updK_same _ _ _
  refine ⟨⟨h.nd, fun y hy => ?_, h.wm0, fun b lb hb => ?_, ⟨h.top.blk.kept (hkeep _ _ h.ltop (by simp) (by simp))⟩, hlab _ _ h.ltop (by simp), h.em.keep (hkeep _ _ h.em.lab (by simp) (by simp)) ((hlab _ _ h.em.lab (by simp)).trans h.em.lab.symm) rfl rfl (fun _ _ => rfl), fun y hy => ?_, fun i hi => ?_, Nat.le_trans h.bigK hcb, fun y => ?_⟩, ?_⟩
  · rw [updK_other _ _ (show y ≠ t from fun e => hy (by rw [e]; exact ht))]; exact h.no y hy
  · have hb2 : (if v.ownBlock = some b then some (.row t) else H.lab b) = some lb := hb
    by_cases e : v.ownBlock = some b
    · exact (hR.lt b e).2
    · rw [if_neg e] at hb2
      exact Nat.lt_of_lt_of_le (h.lt b lb hb2) hC.size
  · by_cases hyt : y = t
    · subst hyt
      rw [updK_same]
      obtain ⟨a, c, hv, _⟩ := owned_anyE hR
      subst hv
      exact ⟨hE.fit, hlab _ _ hE.lab (by simp), ⟨a, c, hrt, ⟨hW, hR⟩⟩, fun b hb => by rw [hrt] at hb; exact if_pos hb⟩
    · rw [updK_other _ _ hyt]
      have e1 : Lb.ent y ≠ .ent t := by intro e; injection e with e; exact hyt e
      have e2 : Lb.row y ≠ .row t := by intro e; injection e with e; exact hyt e
      exact (h.ents y hy).keep (fun b hb => hb.elim (fun e => ⟨hkeep b _ e e1 (by simp), (hlab b _ e (by simp)).trans e.symm⟩) (fun e => ⟨hkeep b _ e (by simp) e2, (hlab b _ e e2).trans e.symm⟩)) rfl (updK_other _ _ hyt) (fun _ _ => rfl)
  · exact ((h.ix i hi).keep (H' := H.span t v) (fun b hb => hb.elim (fun e => ⟨hkeep b _ e (by simp) (by simp), (hlab b _ e (by simp)).trans e.symm⟩) (fun ⟨q, e⟩ => ⟨hkeep b _ e (by simp) (by simp), (hlab b _ e (by simp)).trans e.symm⟩)) rfl rfl rfl (fun _ _ => rfl) (fun _ _ => rfl)).mono hcb
  · by_cases hyt : y = t
    · rw [hyt, updK_same]; exact hl
    · rw [updK_other _ _ hyt]; exact Nat.le_trans (h.bigS y) hcb
  · refine ⟨hC.mono (fun b _ hb => ?_), rfl, fun b hb ho => ?_⟩
    · rcases hb with rfl | e
      · exact Gh.own_of hE.lab
      · exact Gh.own_of (hE.row b e)
    · unfold Gh.own at ho
      have ho2 : (if v.ownBlock = some b then some (.row t) else H.lab b).isSome = true := ho
      by_cases e : v.ownBlock = some b
      · rcases hloc b e with e2 | e2
        · exact Gh.own_of (hE.row b e2)
        · omega
      · rw [if_neg e] at ho2; exact ho2
end
end Go.Proofs.YtmjdngomjjhhiaaGreat
