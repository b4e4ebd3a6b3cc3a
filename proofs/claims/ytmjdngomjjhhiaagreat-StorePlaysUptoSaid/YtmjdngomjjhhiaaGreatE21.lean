/- The store's blocks behind a change: an index, a new entry, spans. -/
import Derived.Test.YtmjdngomjjhhiaaGreatE20
namespace Go.Proofs.YtmjdngomjjhhiaaGreat
open Go.RowKit
open Go.Maps (Keyed)

noncomputable def litDec : DecidableEq Lit := fun a b => Classical.propDecidable (a = b)
noncomputable def updL (L : Lit → List Tp) (k : Lit) (l : List Tp) : Lit → List Tp := @updK Lit (List Tp) litDec L k l
theorem updL_same (L : Lit → List Tp) (k : Lit) (l : List Tp) : updL L k l k = l := @updK_same Lit (List Tp) litDec L k l
theorem updL_other (L : Lit → List Tp) {k x : Lit} (l : List Tp) (h : x ≠ k) : updL L k l x = L x := @updK_other Lit (List Tp) litDec L k x l h
theorem kI_lit (i : Nat) (t : Tp) : WideAt.IsKeyLit (kI i t) := by
  unfold kI kP kS
  split
  · trivial
  · split <;> trivial
theorem kT_lit (t : Tp) : WideAt.IsKeyLit (kT t) := by unfold kT; trivial
/-- The ghost behind a change of one list. -/
noncomputable def Gh.ixset (H : Gh) (i : Nat) (k : Lit) (l : List Tp) (o : Option Value) (x : Tp) (n : Nat) : Gh :=
  { H with
    L := fun j => if j = i then updL (H.L i) k l else H.L j
    m := fun j => if j = i then mset (H.m i) k o else H.m j
    ps := fun j => if j = i then updK (H.ps i) x n else H.ps j
    lab := fun b => if (o.getD nilS).ownBlock = some b then some (.lst i k) else H.lab b }
/-- Blocks of a store in the midst of a change: entries, the map's keys, each index's. -/
structure StGen (w : World) (wm : Int) (Ke Km : List Tp) (KI : Nat → List Tp) (sp : Tp → List Sp) (H : Gh) (cb : Nat) : Prop where
  wm0 : 0 ≤ wm
  lt : ∀ b l, H.lab b = some l → b < w.heap.size
  top : StB w H.g wm H.be (H.bi 0) (H.bi 1) (H.bi 2) (fnV 17) (fnV 19) (fnV 20)
  ltop : H.lab H.g = some .top
  em : EMapAt w H Km
  ents : ∀ t ∈ Ke, EntOne w H t (sp t)
  ix : ∀ i, i < 3 → IxAt w H i (KI i) cb
theorem StRaw.gen {w : World} {wm : Int} {K : List Tp} {sp : Tp → List Sp} {H : Gh} {cb : Nat} (h : StRaw w wm K sp H cb) : StGen w wm K K (fun _ => K) sp H cb := ⟨h.wm0, h.lt, h.top, h.ltop, h.em, h.ents, h.ix⟩
theorem StGen.raw {w : World} {wm : Int} {K : List Tp} {KI : Nat → List Tp} {sp : Tp → List Sp} {H : Gh} {cb : Nat} (h : StGen w wm K K KI sp H cb) (hKI : ∀ i, i < 3 → KI i = K) (hn : K.Nodup) (hno : ∀ t, t ∉ K → sp t = []) (hK : K.length ≤ cb) (hS : ∀ t, (sp t).length ≤ cb) : StRaw w wm K sp H cb :=
  ⟨hn, hno, h.wm0, h.lt, h.top, h.ltop, h.em, h.ents, fun i hi => by have := h.ix i hi; rw [hKI i hi] at this; exact this, hK, hS⟩
section
variable {w w' : World} {wm : Int} {K Ke Km K' : List Tp} {KI : Nat → List Tp} {sp : Tp → List Sp} {H : Gh} {cb cb' : Nat}
theorem StGen.less (h : StGen w wm Ke Km KI sp H cb) (hs : ∀ t ∈ K', t ∈ Ke) : StGen w wm K' Km KI sp H cb := ⟨h.wm0, h.lt, h.top, h.ltop, h.em, fun t ht => h.ents t (hs t ht), h.ix⟩
theorem StGen.below (h : StGen w wm Ke Km KI sp H cb) (hb : Below w.heap.size w w') : StGen w' wm Ke Km KI sp H cb := by
  have hl : ∀ b l, H.lab b = some l → w'.heap[b]? = w.heap[b]? := fun b l e => hb.block b (h.lt b l e)
  exact ⟨h.wm0, fun b l e => Nat.lt_of_lt_of_le (h.lt b l e) hb.size, ⟨h.top.blk.kept (hl _ _ h.ltop)⟩, h.ltop, h.em.keep (hl _ _ h.em.lab) rfl rfl rfl (fun _ _ => rfl), fun t ht => (h.ents t ht).keep (fun b hb => ⟨hb.elim (hl _ _) (hl _ _), rfl⟩) rfl rfl (fun _ _ => rfl), fun i hi => (h.ix i hi).keep (fun b hb => ⟨hb.elim (hl _ _) (fun ⟨_, e⟩ => hl _ _ e), rfl⟩) rfl rfl rfl (fun _ _ => rfl) (fun _ _ => rfl)⟩
/-- One list is another one, and an entry knows its spot in it. -/
theorem StGen.index (h : StGen w wm Ke Km KI sp H cb) {i : Nat} (hi : i < 3) {k : Lit} (hk : WideAt.IsKeyLit k) {l : List Tp} {o : Option Value} {x : Tp} {n N : Nat} (hx : x ∈ Ke) (hcb : cb ≤ cb')
    (hW : Whole w' (H.ge x) 87 #[.string x.o, .string x.r, .string x.u, H.rv x, .int .i64 ((if 0 = i then n else H.ps 0 x : Nat) : Int), .int .i64 ((if 1 = i then n else H.ps 1 x : Nat) : Int), .int .i64 ((if 2 = i then n else H.ps 2 x : Nat) : Int)])
    (hM : MapAt w' Tryz.prog (kty i) (H.bi i) (mset (H.m i) k o) N) (hN : N ≤ cb')
    (hR : w'.ownsRow 0 81 1 (o.getD nilS) l.length (l.map fun t => ptr (H.ge t))) (ho : o = none ↔ l = [])
    (hok : IxOk (kI i) K' (updL (H.L i) k l) (updK (H.ps i) x n))
    (hC : Chg w w' (fun b => b = H.ge x ∨ b = H.bi i ∨ ((H.m i k).getD nilS).ownBlock = some b))
    (hloc : ∀ q, (o.getD nilS).ownBlock = some q → ((H.m i k).getD nilS).ownBlock = some q ∨ w.heap.size ≤ q) :
    StGen w' wm Ke Km (fun j => if j = i then K' else KI j) sp (H.ixset i k l o x n) cb' ∧ StC w w' H (H.ixset i k l o x n) := by
  have hIx := h.ix i hi
  have hlx := (h.ents x hx).lab
  -- a block with a name that is none of the three
  have hkeep : ∀ b lb, H.lab b = some lb → lb ≠ .ent x → lb ≠ .map i → lb ≠ .lst i k → w'.heap[b]? = w.heap[b]? := fun b lb hb n1 n2 n3 => by
    refine hC.block b (h.lt b lb hb) ?_
    rintro (rfl | rfl | e)
    · rw [hlx] at hb; injection hb with hb; exact n1 hb.symm
    · rw [hIx.lab] at hb; injection hb with hb; exact n2 hb.symm
    · rw [hIx.lrow k b e] at hb; injection hb with hb; exact n3 hb.symm
  have hlab : ∀ b lb, H.lab b = some lb → lb ≠ .lst i k → (H.ixset i k l o x n).lab b = some lb := fun b lb hb n3 => by
    show (if (o.getD nilS).ownBlock = some b then some (.lst i k) else H.lab b) = some lb
    rw [if_neg]
    · exact hb
    · intro e
      rcases hloc b e with e2 | e2
      · rw [hIx.lrow k b e2] at hb; injection hb with hb; exact n3 hb.symm
      · exact absurd (h.lt b lb hb) (by omega)
  have hpsx : ∀ j, j < 3 → (H.ixset i k l o x n).ps j x = if j = i then n else H.ps j x := fun j _ => by
    show (if j = i then updK (H.ps i) x n else H.ps j) x = _
    by_cases hj : j = i
    · rw [if_pos hj, if_pos hj, updK_same]
    · rw [if_neg hj, if_neg hj]
  have hpsy : ∀ j y, y ≠ x → (H.ixset i k l o x n).ps j y = H.ps j y := fun j y hy => by
    show (if j = i then updK (H.ps i) x n else H.ps j) y = _
    by_cases hj : j = i
    · rw [if_pos hj, updK_other _ _ hy, hj]
    · rw [if_neg hj]
  refine ⟨⟨h.wm0, fun b lb hb => ?_, ⟨h.top.blk.kept (hkeep _ _ h.ltop (by simp) (by simp) (by simp))⟩, hlab _ _ h.ltop (by simp), ?_, fun t ht => ?_, fun j hj => ?_⟩, ?_⟩
  · have hb2 : (if (o.getD nilS).ownBlock = some b then some (.lst i k) else H.lab b) = some lb := hb
    by_cases e : (o.getD nilS).ownBlock = some b
    · exact (hR.lt b e).2
    · rw [if_neg e] at hb2
      exact Nat.lt_of_lt_of_le (h.lt b lb hb2) hC.size
  · have e3 : Lb.map 3 ≠ .map i := by intro e; injection e with e; omega
    exact h.em.keep (hkeep _ _ h.em.lab (by simp) e3 (by simp)) ((hlab _ _ h.em.lab (by simp)).trans h.em.lab.symm) rfl rfl (fun _ _ => rfl)
  · by_cases htx : t = x
    · subst htx
      have hE := h.ents t ht
      obtain ⟨a, c, h1, h2⟩ := hE.at_
      refine ⟨hE.fit, hlab _ _ hE.lab (by simp), ⟨a, c, h1, ⟨?_, owns_keptN h2.row (fun q hq => hkeep q (.row t) (hE.row q (by rw [h1]; exact hq)) (by simp) (by simp) (by simp))⟩⟩, fun b hb => hlab b _ (hE.row b hb) (by simp)⟩
      rw [hpsx 0 (by omega), hpsx 1 (by omega), hpsx 2 (by omega), ← h1]
      exact hW
    · have e1 : Lb.ent t ≠ .ent x := by intro e; injection e with e; exact htx e
      exact (h.ents t ht).keep (fun b hb => hb.elim (fun e => ⟨hkeep b _ e e1 (by simp) (by simp), (hlab b _ e (by simp)).trans e.symm⟩) (fun e => ⟨hkeep b _ e (by simp) (by simp) (by simp), (hlab b _ e (by simp)).trans e.symm⟩)) rfl rfl (fun j _ => hpsy j t htx)
  · by_cases hji : j = i
    · subst hji
      have hL : (H.ixset j k l o x n).L j = updL (H.L j) k l := if_pos rfl
      have hm : (H.ixset j k l o x n).m j = mset (H.m j) k o := if_pos rfl
      have hp : (H.ixset j k l o x n).ps j = updK (H.ps j) x n := if_pos rfl
      have hms : mset (H.m j) k o k = o := mset_same hk
      refine ⟨by rw [if_pos rfl, hL, hp]; exact hok, ⟨N, hN, by rw [hm]; exact hM⟩, hlab _ _ hIx.lab (by simp), fun q => ?_, fun q => ?_, fun q b hb => ?_⟩
      · rw [hm, hL]
        by_cases hq : q = k
        · rw [hq, hms, updL_same]; exact ho
        · rw [mset_other hq, updL_other _ _ hq]; exact hIx.none_ q
      · rw [hm, hL]
        by_cases hq : q = k
        · rw [hq, hms, updL_same]; exact hR
        · rw [mset_other hq, updL_other _ _ hq]
          have e1 : Lb.lst j q ≠ .lst j k := by intro e; injection e with _ e; exact hq e
          exact owns_keptN (hIx.row q) (fun b hb => hkeep b _ (hIx.lrow q b hb) (by simp) (by simp) e1)
      · rw [hm] at hb
        by_cases hq : q = k
        · rw [hq, hms] at hb
          rw [hq]
          exact if_pos hb
        · rw [mset_other hq] at hb
          have e1 : Lb.lst j q ≠ .lst j k := by intro e; injection e with _ e; exact hq e
          exact hlab b _ (hIx.lrow q b hb) e1
    · have hL : (H.ixset i k l o x n).L j = H.L j := if_neg hji
      have hm : (H.ixset i k l o x n).m j = H.m j := if_neg hji
      have hp : (H.ixset i k l o x n).ps j = H.ps j := if_neg hji
      have e2 : Lb.map j ≠ .map i := by intro e; injection e with e; exact hji e
      have e3 : ∀ q, Lb.lst j q ≠ .lst i k := fun q e => by injection e with e; exact hji e
      rw [if_neg hji]
      exact ((h.ix j hj).keep (H' := H.ixset i k l o x n) (fun b hb => hb.elim (fun e => ⟨hkeep b _ e (by simp) e2 (by simp), (hlab b _ e (by simp)).trans e.symm⟩) (fun ⟨q, e⟩ => ⟨hkeep b _ e (by simp) (by simp) (e3 q), (hlab b _ e (e3 q)).trans e.symm⟩)) rfl hL hm (fun t _ => by rw [hp]) (fun _ _ => rfl)).mono hcb
  · refine ⟨hC.mono (fun b _ hb => ?_), rfl, fun b hb ho2 => ?_⟩
    · rcases hb with rfl | rfl | e
      · exact Gh.own_of hlx
      · exact Gh.own_of hIx.lab
      · exact Gh.own_of (hIx.lrow k b e)
    · unfold Gh.own at ho2
      have ho3 : (if (o.getD nilS).ownBlock = some b then some (.lst i k) else H.lab b).isSome = true := ho2
      by_cases e : (o.getD nilS).ownBlock = some b
      · rcases hloc b e with e2 | e2
        · exact Gh.own_of (hIx.lrow k b e2)
        · omega
      · rw [if_neg e] at ho3; exact ho3
end
end Go.Proofs.YtmjdngomjjhhiaaGreat
