/- CoordOnce: what is known of every transaction that was begun. CoordOnce: the law's own maps and its list. CoordOnce: what each call does to the law's state. -/
import Derived.Test.YtkailiifgdjgmaaGreatWg
import Derived.Test.YtkailiifgdjgmaaGreatWk
namespace Go.Proofs.YtkailiifgdjgmaaGreat
open Go.RowKit
open Go.Maps (Keyed)

def V0n : Vw := ⟨none, none, none⟩
/-- The revision of what is committed; 0 for all else. -/
def rv (c : Co) (k : Int) : Int := (stat c k).2
theorem sset_pos {l : List Int} (h : l ≠ []) (hn : ∀ x ∈ l, isN x) : sset l ≠ 0 := by
  intro e
  cases l with
  | nil => exact h rfl
  | cons x l =>
    have hx := hn x (by simp)
    have h1 := shas_sset (x :: l) hx
    rw [e] at h1
    simp [shas] at h1
structure OP (c : Co) (ms : List MsgD) (L : List Int) (S Y : Int → Nat) : Prop where
  ok : c.ok
  node : c.node = 3
  ids : ∀ k ∈ L, 4398046511104 < k ∧ k < newId c
  idle : ∀ k, k ∉ L → vw c k = V0n
  bal : ∀ k b, c.bal k = some b → b.1 = S k ∧ ∀ n, shas (Y k) n = (shas (S k) n && !shas b.2 n)
  sz : ∀ k ∈ L, S k < 256 ∧ S k ≠ 0 ∧ Y k < 256
  db : ∀ k d, (vw c k).db = some d → 1 ≤ d.2.2
  dn : ∀ k r, c.don k = some r → 1 ≤ r
  kept : ∀ k, (rep 3 ms).bal k = none ∧ (vw (rep 3 ms) k).db.map (·.2.2) = (vw c k).db.map (·.2.2) ∧ (rep 3 ms).don k = c.don k
  cnt : (rep 3 ms).opened = c.opened ∧ (rep 3 ms).node = 3
section
variable {c : Co} {ms : List MsgD} {L : List Int} {S Y : Int → Nat}
theorem vw_bal (c : Co) (k : Int) : (vw c k).bal = c.bal k := rfl
theorem vw_dn (c : Co) (k : Int) : (vw c k).dn = c.don k := rfl
theorem vw_db (c : Co) (k : Int) : (vw c k).db = (dget c.deb k).map fun d => (d.ns, d.lf, d.rev) := rfl
theorem OP.mem (h : OP c ms L S Y) {k : Int} {b : Nat × Nat} (hb : c.bal k = some b) : k ∈ L := by
  by_cases hk : k ∈ L
  · exact hk
  · have h1 := h.idle k hk
    have h2 := vw_bal c k
    rw [h1, hb] at h2
    cases h2
theorem OP.fresh (h : OP c ms L S Y) : newId c ∉ L := fun hk => by have := h.ids _ hk; omega
theorem OP.free (h : OP c ms L S Y) : dget c.deb (newId c) = none ∧ c.don (newId c) = none := by
  have h1 := h.idle _ h.fresh
  have h2 := vw_dn c (newId c)
  have h3 := vw_db c (newId c)
  rw [h1] at h2 h3
  refine ⟨?_, h2.symm⟩
  cases hq : dget c.deb (newId c) with
  | none => rfl
  | some d => rw [hq] at h3; cases h3
theorem newId_pos {c : Co} (hn : c.node = 3) : 4398046511104 < newId c := by
  unfold newId
  rw [hn]
  omega
theorem OP.begin (h : OP c ms L S Y) {l : List Int} (hg : beginOk c l) : OP (cbegin c l) ms (L ++ [newId c]) (fun k => if k = newId c then sset l else S k) (fun k => if k = newId c then 0 else Y k) := by
  obtain ⟨hf1, hf2⟩ := h.free
  obtain ⟨hv1, hv2⟩ := vw_begin c l ⟨hf1, hf2⟩
  have hnid : newId (cbegin c l) = newId c + 1 := by
    unfold newId cbegin
    simp only []
    push_cast
    omega
  have hpos := newId_pos h.node
  refine ⟨?_, h.node, fun k hk => ?_, fun k hk => ?_, fun k b hb => ?_, fun k hk => ?_, fun k d hd => ?_, fun k r hr => h.dn k r hr, fun k => ?_, h.cnt⟩
  · exact h.ok.balSet (newId c) (some (sset l, sset l)) (fun b hb => by injection hb with hb; rw [← hb]; exact ⟨sset_lt _, sset_lt _, hf1, hf2⟩) _ (by have := hg.2.2; omega)
  · rcases List.mem_append.1 hk with h1 | h1
    · have := h.ids k h1; omega
    · rw [List.mem_singleton] at h1; omega
  · rw [List.mem_append, List.mem_singleton] at hk
    have hk1 : k ∉ L := fun e => hk (.inl e)
    have hk2 : k ≠ newId c := fun e => hk (.inr e)
    rw [hv2 k hk2]
    exact h.idle k hk1
  · by_cases hk : k = newId c
    · subst hk
      have h1 : (cbegin c l).bal (newId c) = some (sset l, sset l) := by simp [cbegin, updF]
      rw [h1] at hb
      injection hb with hb
      subst hb
      refine ⟨by simp, fun n => ?_⟩
      simp only [if_true]
      have h0 : shas 0 n = false := by simp [shas]
      rw [h0]
      cases shas (sset l) n <;> rfl
    · have h1 : (cbegin c l).bal k = c.bal k := by simp [cbegin, updF, hk]
      rw [h1] at hb
      simp only [if_neg hk]
      exact h.bal k b hb
  · by_cases hk2 : k = newId c
    · simp only [if_pos hk2]
      exact ⟨sset_lt l, sset_pos hg.1 hg.2.1, by omega⟩
    · simp only [if_neg hk2]
      rcases List.mem_append.1 hk with h1 | h1
      · exact h.sz k h1
      · rw [List.mem_singleton] at h1; exact absurd h1 hk2
  · exact h.db k d hd
  · exact h.kept k
/-- What only the vote of one transaction changes. -/
theorem OP.bals (h : OP c ms L S Y) {c' : Co} {id : Int} {Y' : Int → Nat} (hid : id ∈ L) (hn : c'.node = c.node ∧ c'.opened = c.opened ∧ c'.begun = c.begun ∧ c'.deb = c.deb ∧ c'.don = c.don) (hok : c'.ok) (hb : ∀ k, k ≠ id → c'.bal k = c.bal k) (hb2 : ∀ b, c'.bal id = some b → b.1 = S id ∧ ∀ n, shas (Y' id) n = (shas (S id) n && !shas b.2 n)) (hy : ∀ k, k ≠ id → Y' k = Y k) (hy2 : Y' id < 256) : OP c' ms L S Y' := by
  obtain ⟨n1, n2, n3, n4, n5⟩ := hn
  have hnw : newId c' = newId c := by unfold newId; rw [n1, n2, n3]
  have hdb : ∀ k, (vw c' k).db = (vw c k).db := fun k => by rw [vw_db, vw_db, n4]
  refine ⟨hok, n1.trans h.node, fun k hk => by rw [hnw]; exact h.ids k hk, fun k hk => ?_, fun k b hbk => ?_, fun k hk => ?_, fun k d hd => h.db k d (by rw [← hdb]; exact hd), fun k r hr => h.dn k r (by rw [← n5]; exact hr), fun k => ?_, by rw [n2]; exact h.cnt⟩
  · have hk2 : k ≠ id := fun e => hk (by rw [e]; exact hid)
    have e : vw c' k = vw c k := by unfold vw; rw [hb k hk2, n4, n5]
    rw [e]
    exact h.idle k hk
  · by_cases hk : k = id
    · subst hk
      exact hb2 b hbk
    · rw [hb k hk] at hbk
      rw [hy k hk]
      exact h.bal k b hbk
  · by_cases hk2 : k = id
    · subst hk2
      exact ⟨(h.sz k hk).1, (h.sz k hk).2.1, hy2⟩
    · rw [hy k hk2]
      exact h.sz k hk
  · rw [hdb k, n5]
    exact h.kept k
theorem OP.vote (h : OP c ms L S Y) {id n : Int} {yes : Bool} (hok : (cvote c id n yes).2.ok) : OP (cvote c id n yes).2 ms L S (fun k => if k = id ∧ (cvote c id n yes).1 = 0 ∧ yes = true then sadd (Y k) n else Y k) ∧ ((cvote c id n yes).1 = 0 → id ∈ L ∧ isN n) := by
  have hf := cvote_few c id n yes
  cases hb : c.bal id with
  | none =>
    have e : cvote c id n yes = (4, c) := by unfold cvote; rw [hb]
    rw [e]
    simp
    exact h
  | some b =>
    have hm := h.mem hb
    obtain ⟨hb1, hb2⟩ := h.bal id b hb
    have hsz := h.sz id hm
    by_cases hs : shas b.1 n = true
    · have hn : isN n := by
        by_cases hn : isN n
        · exact hn
        · rw [shas_no _ hn] at hs; cases hs
      have hyn : sadd (Y id) n < 256 := sadd_lt hsz.2.2 n
      cases yes with
      | true =>
        have e : cvote c id n true = (0, { c with bal := updF c.bal id (some (b.1, swo b.2 n)) }) := by unfold cvote; rw [hb]; simp only [hs, if_true]
        rw [e] at hok ⊢
        refine ⟨?_, fun _ => ⟨hm, hn⟩⟩
        refine h.bals hm ⟨rfl, rfl, rfl, rfl, rfl⟩ hok (fun k hk => by simp [updF, hk]) (fun b2 hb3 => ?_) (fun k hk => by simp [hk]) (by simpa using hyn)
        have e2 : updF c.bal id (some (b.1, swo b.2 n)) id = some (b.1, swo b.2 n) := by simp [updF]
        have hb4 : updF c.bal id (some (b.1, swo b.2 n)) id = some b2 := hb3
        rw [e2] at hb4
        injection hb4 with hb4
        subst hb4
        refine ⟨hb1, fun m => ?_⟩
        simp only [and_self, if_true]
        rw [shas_sadd hn, shas_swo, hb2 m]
        by_cases hmn : m = n
        · subst hmn
          rw [← hb1, hs]
          simp
        · simp [hmn]
      | false =>
        have e : cvote c id n false = (0, { c with bal := updF c.bal id none }) := by unfold cvote; rw [hb]; simp [hs]
        rw [e] at hok ⊢
        refine ⟨?_, fun _ => ⟨hm, hn⟩⟩
        refine h.bals hm ⟨rfl, rfl, rfl, rfl, rfl⟩ hok (fun k hk => by simp [updF, hk]) (fun b2 hb3 => ?_) (fun k hk => by simp) (by simpa using hsz.2.2)
        have hb4 : updF c.bal id none id = some b2 := hb3
        simp [updF] at hb4
    · have e : cvote c id n yes = (1, c) := by unfold cvote; rw [hb]; simp [hs]
      rw [e]
      simp
      exact h
theorem OP.abort (h : OP c ms L S Y) {id : Int} (hok : (cabort c id).2.ok) : OP (cabort c id).2 ms L S Y ∧ ((cabort c id).1 = 0 → rv c id = 0) := by
  cases hb : c.bal id with
  | none =>
    have e : cabort c id = (4, c) := by unfold cabort; rw [hb]
    rw [e]
    exact ⟨h, fun h => by simp at h⟩
  | some b =>
    have hm := h.mem hb
    have e : cabort c id = (0, { c with bal := updF c.bal id none }) := by unfold cabort; rw [hb]
    rw [e] at hok ⊢
    refine ⟨?_, fun _ => by unfold rv stat; rw [hb]⟩
    refine h.bals hm ⟨rfl, rfl, rfl, rfl, rfl⟩ hok (fun k hk => by simp [updF, hk]) (fun b2 hb3 => ?_) (fun k hk => rfl) (h.sz id hm).2.2
    have hb4 : updF c.bal id none id = some b2 := hb3
    simp [updF] at hb4
/-- What is committed, and at which revision. -/
theorem OP.rv_zero (h : OP c ms L S Y) (k : Int) : ((stat c k).1 = 2 ∨ (stat c k).1 = 3) ↔ rv c k ≠ 0 := by
  unfold rv
  rcases @stat_cases c k with ⟨h1, b, h2⟩ | ⟨h1, ⟨h2, d, h3, h4⟩ | ⟨h2, ⟨h3, r, h4, h5⟩ | ⟨h3, h4, h5⟩⟩⟩
  · have : (stat c k).2 = 0 := by unfold stat; rw [h2]
    omega
  · have := h.db k (d.ns, d.lf, d.rev) (by rw [vw_db, h3]; rfl)
    rw [h4]
    simp only [] at this
    omega
  · have := h.dn k r h4
    omega
  · omega
theorem OP.rv_out (h : OP c ms L S Y) {k : Int} (hk : k ∉ L) : rv c k = 0 := by
  unfold rv
  rw [stat_vw, h.idle k hk]
  rfl
theorem OP.rv_in (h : OP c ms L S Y) (k : Int) : InI (rv c k) := (stat_in h.ok k).1
theorem rv_bal {c : Co} {k : Int} {b : Nat × Nat} (hb : c.bal k = some b) : rv c k = 0 := by unfold rv stat; rw [hb]
theorem rv_vw {c c' : Co} {k : Int} (h : vw c' k = vw c k) : rv c' k = rv c k := by unfold rv; rw [stat_vw, stat_vw, h]
theorem rv_bals {c c' : Co} (hok : c.ok) {k : Int} (h2 : (vw c' k).db = (vw c k).db) (h3 : c'.don k = c.don k) : rv c' k = rv c k ∨ (c'.bal k ≠ none ∧ c.bal k = none) := by
  unfold rv
  rw [stat_vw, stat_vw]
  unfold svw
  rw [vw_bal, vw_bal, vw_dn, vw_dn, h2, h3]
  cases hb' : c'.bal k with
  | some b' =>
    cases hb : c.bal k with
    | some b => left; rfl
    | none => right; simp
  | none =>
    left
    cases hb : c.bal k with
    | none => rfl
    | some b =>
      obtain ⟨h4, h5⟩ := hok.apart k b hb
      rw [vw_db, h4, h5]
      rfl
theorem svw_rv {V V' : Vw} (h1 : V.bal = none ∨ (V.db = none ∧ V.dn = none)) (h2 : V'.bal = none) (h3 : V'.db.map (·.2.2) = V.db.map (·.2.2)) (h4 : V'.dn = V.dn) : (svw V').2 = (svw V).2 := by
  unfold svw
  rw [h2, h4]
  rcases h1 with h1 | ⟨h1, h5⟩
  · rw [h1]
    cases hd : V.db with
    | none =>
      rw [hd] at h3
      have : V'.db = none := by cases hq : V'.db with
        | none => rfl
        | some d => rw [hq] at h3; cases h3
      rw [this]
    | some d =>
      rw [hd] at h3
      cases hq : V'.db with
      | none => rw [hq] at h3; cases h3
      | some d' =>
        rw [hq] at h3
        simp at h3
        simp [h3]
  · rw [h1] at h3
    have : V'.db = none := by cases hq : V'.db with
      | none => rfl
      | some d => rw [hq] at h3; cases h3
    rw [this, h1, h5]
    cases V.bal <;> rfl
theorem OP.apartV (h : OP c ms L S Y) (k : Int) : (vw c k).bal = none ∨ ((vw c k).db = none ∧ (vw c k).dn = none) := by
  cases hb : c.bal k with
  | none => exact .inl (by rw [vw_bal]; exact hb)
  | some b =>
    obtain ⟨h1, h2⟩ := h.ok.apart k b hb
    exact .inr ⟨by rw [vw_db, h1]; rfl, by rw [vw_dn]; exact h2⟩
/-- A crash, and opened again. -/
theorem OP.boot (h : OP c ms L S Y) (hok : (ctake (rep 3 ms) (bootM (rep 3 ms))).ok) : OP (ctake (rep 3 ms) (bootM (rep 3 ms))) (ms ++ [bootM (rep 3 ms)]) L S Y ∧ ∀ k, rv (ctake (rep 3 ms) (bootM (rep 3 ms))) k = rv c k := by
  have e : ctake (rep 3 ms) (bootM (rep 3 ms)) = { rep 3 ms with opened := (rep 3 ms).opened + 1 } := ctake_boot _ _ rfl
  have ev : ∀ k, vw (ctake (rep 3 ms) (bootM (rep 3 ms))) k = vw (rep 3 ms) k := fun k => by rw [e]; rfl
  have eb : ∀ k, (vw (rep 3 ms) k).bal = none := fun k => (h.kept k).1
  have ed : ∀ k, (vw (rep 3 ms) k).dn = (vw c k).dn := fun k => (h.kept k).2.2
  refine ⟨⟨hok, by rw [e]; exact h.cnt.2, fun k hk => ?_, fun k hk => ?_, fun k b hb => ?_, h.sz, fun k d hd => ?_, fun k r hr => ?_, fun k => ?_, ?_⟩, fun k => ?_⟩
  · obtain ⟨h1, h2⟩ := h.ids k hk
    have hb := h.ok.begun
    have e2 : newId (ctake (rep 3 ms) (bootM (rep 3 ms))) = (3 + 1) * 1099511627776 + ((c.opened : Int) + 1) * 16777216 + (((rep 3 ms).begun : Int) + 1) := by
      rw [e]
      unfold newId
      simp only []
      rw [h.cnt.1, h.cnt.2]
      push_cast
      rfl
    have e3 : newId c = (3 + 1) * 1099511627776 + (c.opened : Int) * 16777216 + ((c.begun : Int) + 1) := by unfold newId; rw [h.node]
    rw [e2]
    rw [e3] at h2
    refine ⟨h1, ?_⟩
    omega
  · rw [ev]
    have h1 := h.idle k hk
    obtain ⟨q1, q2, q3⟩ := h.kept k
    have h2 : (vw (rep 3 ms) k).db = none := by
      rw [h1] at q2
      cases hq : (vw (rep 3 ms) k).db with
      | none => rfl
      | some d => rw [hq] at q2; cases q2
    have h3 : (vw (rep 3 ms) k).dn = none := by rw [ed k, h1]; rfl
    have h4 := eb k
    generalize vw (rep 3 ms) k = V at *
    cases V
    simp only at h2 h3 h4
    subst h2 h3 h4
    rfl
  · have h1 := eb k
    rw [← ev k, vw_bal, hb] at h1
    cases h1
  · rw [ev] at hd
    have h1 := (h.kept k).2.1
    rw [hd] at h1
    cases hq : (vw c k).db with
    | none => rw [hq] at h1; cases h1
    | some d' =>
      rw [hq] at h1
      simp at h1
      rw [h1]
      exact h.db k d' hq
  · have h1 := (h.kept k).2.2
    have h2 : (ctake (rep 3 ms) (bootM (rep 3 ms))).don k = (rep 3 ms).don k := by rw [e]
    rw [h2, h1] at hr
    exact h.dn k r hr
  · rw [rep_snoc]
    exact ⟨by have := eb k; rw [← ev k] at this; exact this, rfl, rfl⟩
  · rw [rep_snoc]
    exact ⟨rfl, by rw [e]; exact h.cnt.2⟩
  · unfold rv
    rw [stat_vw, stat_vw, ev]
    exact svw_rv (h.apartV k) (eb k) (h.kept k).2.1 (ed k)
/-- It is committed. -/
theorem OP.commit (h : OP c ms L S Y) {id rev : Int} {s : Nat} (hb : c.bal id = some (s, 0)) (hr : 1 ≤ rev ∧ rev ≤ 1125899906842624) (hok : (ctake c (oC 6 id rev (slist s))).ok) :
    id ∈ L ∧ s = S id ∧ Y id = S id ∧ rv c id = 0 ∧ OP (ctake c (oC 6 id rev (slist s))) (ms ++ [oC 6 id rev (slist s)]) L S Y ∧ ∀ k, rv (ctake c (oC 6 id rev (slist s))) k = if k = id then rev else rv c k := by
  have hm := h.mem hb
  obtain ⟨hb1, hb2⟩ := h.bal id _ hb
  obtain ⟨hz1, hz2, hz3⟩ := h.sz id hm
  have hY : Y id = S id := set_ext hz3 hz1 fun k _ => by
    rw [hb2 k]
    have : shas 0 k = false := by simp [shas]
    simp only [this]
    simp
  obtain ⟨hv1, hv2⟩ := vw_commit h.ok hb hr
  have hvc : vCommit (vw c id) rev = ⟨none, some (s, s, rev), none⟩ := by
    unfold vCommit
    rw [vw_bal, hb]
    simp [hr.1, hr.2]
  rw [hvc] at hv1
  obtain ⟨hd, hn⟩ := h.ok.apart id _ hb
  have hst : (stat c id).1 = 1 := by unfold stat; rw [hb]
  have e : ctake c (oC 6 id rev (slist s)) = { c with bal := updF c.bal id none, deb := c.deb ++ [⟨id, sset (slist s), sset (slist s), c.com, rev⟩], com := c.com + 1 } := by
    unfold ctake
    rw [if_neg (by simp [oC]), if_pos ⟨rfl, .inr hst⟩]
    rfl
  obtain ⟨r1, r2, r3⟩ := h.kept id
  have r2' : (vw (rep 3 ms) id).db = none := by
    rw [show (vw c id).db = none by rw [vw_db, hd]; rfl] at r2
    cases hq : (vw (rep 3 ms) id).db with
    | none => rfl
    | some d => rw [hq] at r2; cases r2
  have hrd : dget (rep 3 ms).deb id = none := by
    rw [vw_db] at r2'
    cases hq : dget (rep 3 ms).deb id with
    | none => rfl
    | some d => rw [hq] at r2'; cases r2'
  have hst3 : (stat (rep 3 ms) id).1 = 0 := by unfold stat; rw [r1, hrd, r3, hn]
  have e3 : ctake (rep 3 ms) (oC 6 id rev (slist s)) = { rep 3 ms with bal := updF (rep 3 ms).bal id none, deb := (rep 3 ms).deb ++ [⟨id, sset (slist s), sset (slist s), (rep 3 ms).com, rev⟩], com := (rep 3 ms).com + 1 } := by
    unfold ctake
    rw [if_neg (by simp [oC]), if_pos ⟨rfl, .inl hst3⟩]
    rfl
  refine ⟨hm, hb1, hY, rv_bal hb, ⟨hok, by rw [e]; exact h.node, fun k hk => ?_, fun k hk => ?_, fun k b hbk => ?_, h.sz, fun k d hd2 => ?_, fun k r hr2 => ?_, fun k => ?_, ?_⟩, fun k => ?_⟩
  · have : newId (ctake c (oC 6 id rev (slist s))) = newId c := by rw [e]; rfl
    rw [this]
    exact h.ids k hk
  · have hk2 : k ≠ id := fun q => hk (by rw [q]; exact hm)
    rw [hv2 k hk2]
    exact h.idle k hk
  · by_cases hk : k = id
    · subst hk
      have := vw_bal (ctake c (oC 6 k rev (slist s))) k
      rw [hv1, hbk] at this
      cases this
    · have h1 : (ctake c (oC 6 id rev (slist s))).bal k = c.bal k := by rw [e]; simp [updF, hk]
      rw [h1] at hbk
      exact h.bal k b hbk
  · by_cases hk : k = id
    · subst hk
      rw [hv1] at hd2
      injection hd2 with hd2
      subst hd2
      exact hr.1
    · rw [hv2 k hk] at hd2
      exact h.db k d hd2
  · have h1 : (ctake c (oC 6 id rev (slist s))).don k = c.don k := by rw [e]
    rw [h1] at hr2
    exact h.dn k r hr2
  · rw [rep_snoc]
    obtain ⟨q1, q2, q3⟩ := h.kept k
    refine ⟨?_, ?_, ?_⟩
    · rw [e3]; simp [updF, q1]
    · by_cases hk : k = id
      · subst hk
        rw [hv1, vw_db, e3]
        simp only []
        rw [dget_append (by exact hrd), if_pos rfl]
        rfl
      · rw [hv2 k hk, ← q2, vw_db, vw_db, e3]
        simp only []
        rw [dget_append (by exact hrd), if_neg hk]
    · rw [e3, e]; exact q3
  · rw [rep_snoc, e3, e]
    exact h.cnt
  · by_cases hk : k = id
    · subst hk
      rw [if_pos rfl]
      unfold rv
      rw [stat_vw, hv1]
      rfl
    · rw [if_neg hk]
      exact rv_vw (hv2 k hk)
/-- A node has applied it. -/
theorem OP.ack (h : OP c ms L S Y) {id : Int} {d : Debt} (hd : dget c.deb id = some d) (lf : Nat) (hok : (cack c id lf).ok) : OP (cack c id lf) ms L S Y ∧ ∀ k, rv (cack c id lf) k = rv c k := by
  obtain ⟨hv1, hv2⟩ := vw_cack c id lf
  have hm : ∀ k, (vw (cack c id lf) k).bal = (vw c k).bal ∧ (vw (cack c id lf) k).db.map (·.2.2) = (vw c k).db.map (·.2.2) ∧ (vw (cack c id lf) k).dn = (vw c k).dn := fun k => by
    by_cases hk : k = id
    · subst hk
      rw [hv1, vw_db c k, hd]
      exact ⟨rfl, rfl, rfl⟩
    · rw [hv2 k hk]
      exact ⟨rfl, rfl, rfl⟩
  have hdL : id ∈ L := by
    by_cases hk : id ∈ L
    · exact hk
    · have := h.idle id hk
      have h2 := vw_db c id
      rw [this, hd] at h2
      cases h2
  refine ⟨⟨hok, h.node, h.ids, fun k hk => ?_, h.bal, h.sz, fun k d2 hd2 => ?_, h.dn, fun k => ?_, h.cnt⟩, fun k => ?_⟩
  · have hk2 : k ≠ id := fun q => hk (by rw [q]; exact hdL)
    rw [hv2 k hk2]
    exact h.idle k hk
  · have h1 := (hm k).2.1
    rw [hd2] at h1
    cases hq : (vw c k).db with
    | none => rw [hq] at h1; cases h1
    | some d' =>
      rw [hq] at h1
      simp at h1
      rw [h1]
      exact h.db k d' hq
  · rw [(hm k).2.1]
    exact h.kept k
  · have h1 : (vw (cack c id lf) k).bal = none ∨ (vw c k).bal ≠ none := by
      rw [(hm k).1]
      cases (vw c k).bal <;> simp
    unfold rv
    rw [stat_vw, stat_vw]
    obtain ⟨a1, a2, a3⟩ := hm k
    cases hb : (vw c k).bal with
    | none =>
      rw [hb] at a1
      exact svw_rv (.inl hb) a1 a2 a3
    | some b =>
      rw [hb] at a1
      unfold svw
      rw [a1, hb]
/-- All nodes have. -/
theorem OP.done (h : OP c ms L S Y) {id : Int} {d : Debt} (hd : dget c.deb id = some d) (hok : (ctake c (oC 7 id 0 [])).ok) : OP (ctake c (oC 7 id 0 [])) (ms ++ [oC 7 id 0 []]) L S Y ∧ ∀ k, rv (ctake c (oC 7 id 0 [])) k = rv c k := by
  obtain ⟨hv1, hv2⟩ := vw_done h.ok hd
  have hb : c.bal id = none := by
    cases hq : c.bal id with
    | none => rfl
    | some b =>
      have := (h.ok.apart id b hq).1
      rw [hd] at this; cases this
  have hst : stat c id = (2, d.rev) := by unfold stat; rw [hb, hd]
  have hdL : id ∈ L := by
    by_cases hk : id ∈ L
    · exact hk
    · have := h.idle id hk
      have h2 := vw_db c id
      rw [this, hd] at h2
      cases h2
  have e : ctake c (oC 7 id 0 []) = { c with deb := c.deb.filter fun x => decide (x.id ≠ id), don := updF c.don id (some d.rev) } := by
    unfold ctake
    rw [if_neg (by simp [oC]), if_neg (by simp [oC]), if_pos ⟨rfl, by rw [show (oC 7 id 0 []).id = id from rfl, hst]⟩]
    rw [show (oC 7 id 0 []).id = id from rfl, hst]
  obtain ⟨r1, r2, r3⟩ := h.kept id
  have hr3 : ∃ d3, dget (rep 3 ms).deb id = some d3 ∧ d3.rev = d.rev := by
    rw [vw_db, vw_db, hd] at r2
    cases hq : dget (rep 3 ms).deb id with
    | none => rw [hq] at r2; cases r2
    | some d3 =>
      rw [hq] at r2
      simp at r2
      exact ⟨d3, rfl, r2⟩
  obtain ⟨d3, hd3, hrev⟩ := hr3
  have hst3 : stat (rep 3 ms) id = (2, d.rev) := by unfold stat; rw [r1, hd3]; show (2, d3.rev) = _; rw [hrev]
  have e3 : ctake (rep 3 ms) (oC 7 id 0 []) = { rep 3 ms with deb := (rep 3 ms).deb.filter fun x => decide (x.id ≠ id), don := updF (rep 3 ms).don id (some d.rev) } := by
    unfold ctake
    rw [if_neg (by simp [oC]), if_neg (by simp [oC]), if_pos ⟨rfl, by rw [show (oC 7 id 0 []).id = id from rfl, hst3]⟩]
    rw [show (oC 7 id 0 []).id = id from rfl, hst3]
  have hrv : 1 ≤ d.rev := h.db id (d.ns, d.lf, d.rev) (by rw [vw_db, hd]; rfl)
  refine ⟨⟨hok, by rw [e]; exact h.node, fun k hk => ?_, fun k hk => ?_, fun k b hbk => ?_, h.sz, fun k d2 hd2 => ?_, fun k r hr2 => ?_, fun k => ?_, ?_⟩, fun k => ?_⟩
  · have : newId (ctake c (oC 7 id 0 [])) = newId c := by rw [e]; rfl
    rw [this]
    exact h.ids k hk
  · have hk2 : k ≠ id := fun q => hk (by rw [q]; exact hdL)
    rw [hv2 k hk2]
    exact h.idle k hk
  · have h1 : (ctake c (oC 7 id 0 [])).bal k = c.bal k := by rw [e]
    rw [h1] at hbk
    exact h.bal k b hbk
  · by_cases hk : k = id
    · subst hk
      rw [hv1] at hd2
      cases hd2
    · rw [hv2 k hk] at hd2
      exact h.db k d2 hd2
  · by_cases hk : k = id
    · subst hk
      have h2 := vw_dn (ctake c (oC 7 k 0 [])) k
      rw [hv1, hr2] at h2
      injection h2 with h2
      rw [← h2]
      exact hrv
    · have h2 := vw_dn (ctake c (oC 7 id 0 [])) k
      rw [hv2 k hk, hr2] at h2
      exact h.dn k r h2
  · rw [rep_snoc]
    obtain ⟨q1, q2, q3⟩ := h.kept k
    refine ⟨by rw [e3]; exact q1, ?_, ?_⟩
    · by_cases hk : k = id
      · subst hk
        rw [hv1, vw_db, e3]
        simp only []
        rw [dget_filter, if_pos rfl]
        rfl
      · rw [hv2 k hk, ← q2, vw_db, vw_db, e3]
        simp only []
        rw [dget_filter, if_neg hk]
    · rw [e3, e]
      simp only [updF]
      rw [q3]
  · rw [rep_snoc, e3, e]
    exact h.cnt
  · by_cases hk : k = id
    · subst hk
      unfold rv
      rw [stat_vw, hv1, hst]
      rfl
    · exact rv_vw (hv2 k hk)
/-- Votes change no revision. -/
theorem rv_vote (hok : c.ok) (id n : Int) (yes : Bool) (k : Int) : rv (cvote c id n yes).2 k = rv c k := by
  have hf := cvote_few c id n yes
  have h0 : (cvote c id n yes).2.bal k = none ∨ c.bal k ≠ none := by
    unfold cvote
    cases hb : c.bal id with
    | none =>
      simp only []
      cases hq : c.bal k <;> simp
    | some b =>
      simp only []
      by_cases hk : k = id
      · subst hk; right; rw [hb]; simp
      · split
        · split
          · simp only [updF, if_neg hk]
            cases hq : c.bal k <;> simp
          · simp only [updF, if_neg hk]
            cases hq : c.bal k <;> simp
        · cases hq : c.bal k <;> simp
  rcases rv_bals (c' := (cvote c id n yes).2) (k := k) hok (by rw [vw_db _ k, vw_db c k, hf.2.2.2.2.1]) (by rw [hf.2.2.2.2.2]) with h1 | ⟨h1, h2⟩
  · exact h1
  · rcases h0 with h0 | h0
    · exact absurd h0 h1
    · exact absurd h2 h0
theorem rv_abort (hok : c.ok) (id k : Int) : rv (cabort c id).2 k = rv c k := by
  have h0 : (cabort c id).2.bal k = none ∨ c.bal k ≠ none := by
    unfold cabort
    cases hb : c.bal id with
    | none =>
      simp only []
      cases hq : c.bal k <;> simp
    | some b =>
      simp only []
      by_cases hk : k = id
      · subst hk; right; rw [hb]; simp
      · simp only [updF, if_neg hk]
        cases hq : c.bal k <;> simp
  have hd : (cabort c id).2.deb = c.deb ∧ (cabort c id).2.don = c.don := by
    unfold cabort
    cases c.bal id <;> exact ⟨rfl, rfl⟩
  rcases rv_bals (c' := (cabort c id).2) (k := k) hok (by rw [vw_db _ k, vw_db c k, hd.1]) (by rw [hd.2]) with h1 | ⟨h1, h2⟩
  · exact h1
  · rcases h0 with h0 | h0
    · exact absurd h0 h1
    · exact absurd h2 h0
theorem OP.rv_begin (h : OP c ms L S Y) {l : List Int} (k : Int) : rv (cbegin c l) k = rv c k := by
  obtain ⟨hv1, hv2⟩ := vw_begin c l h.free
  by_cases hk : k = newId c
  · subst hk
    rw [h.rv_out h.fresh]
    unfold rv
    rw [stat_vw, hv1]
    rfl
  · exact rv_vw (hv2 k hk)
end
end Go.Proofs.YtkailiifgdjgmaaGreat

namespace Go.Proofs.YtkailiifgdjgmaaGreat
open Go.RowKit
open Go.Maps (Keyed)

/-- A map of the law over transactions' numbers. -/
def FMap (w : World) (b n : Nat) (f : Int → Option Value) : Prop := ∃ mm N, MapAt w Tryz.prog 2 b mm N ∧ N ≤ n ∧ ∀ k, InI k → mm (.int .i64 k) = f k
section
variable {w w' : World} {b n : Nat} {f : Int → Option Value}
theorem FMap.lt (h : FMap w b n f) : b < w.heap.size := by
  obtain ⟨mm, N, h1, _⟩ := h
  exact h1.lt
theorem FMap.kept (h : FMap w b n f) (hb : w'.heap[b]? = w.heap[b]?) : FMap w' b n f := by
  obtain ⟨mm, N, h1, h2⟩ := h
  exact ⟨mm, N, h1.kept hb, h2⟩
theorem FMap.made (w : World) : FMap (w.alloc (.map #[] 0)) w.heap.size 0 (fun _ => none) := ⟨_, 0, MapAt.made w Tryz.prog 2, Nat.le_refl _, fun _ _ => rfl⟩
theorem FMap.up (h : FMap w b n f) {m : Nat} (hm : n ≤ m) : FMap w b m f := by
  obtain ⟨mm, N, h1, h2, h3⟩ := h
  exact ⟨mm, N, h1, by omega, h3⟩
theorem FMap.ext (h : FMap w b n f) {f' : Int → Option Value} (hf : ∀ k, InI k → f k = f' k) : FMap w b n f' := by
  obtain ⟨mm, N, h1, h2, h3⟩ := h
  exact ⟨mm, N, h1, h2, fun k hk => (h3 k hk).trans (hf k hk)⟩
theorem FMap.put {mm : Lit → Option Value} {N : Nat} {k : Int} {u : Value} (hk : InI k) (hN : N ≤ n) (hf : ∀ k, InI k → mm (.int .i64 k) = f k) (hm : MapAt w' Tryz.prog 2 b (mset mm (.int .i64 k) (some u)) (if (mm (.int .i64 k)).isSome then N else N + 1)) : FMap w' b (n + 1) (updF f k (some u)) := by
  refine ⟨_, _, hm, by split <;> omega, fun x hx => ?_⟩
  rw [mset_int _ _ _ hk, hf x hx]
  rfl
theorem FMap.not (h : FMap w b n f) {B gc gl b1 b2 b3 g r : Nat} {v : Value} {c : Co} {ms : List MsgD} (hc : CS w B gc gl b1 b2 b3 g v c ms r) (hb : b ≠ b1 ∧ b ≠ b2 ∧ b ≠ b3) : ¬ SB gc gl b1 b2 b3 g v b := by
  obtain ⟨mm, N, h1, _⟩ := h
  exact hc.map_other h1 hb
theorem FMap.row (h : FMap w b n f) {base m s k : Nat} {u : Value} {e : TypeId} {l : List Value} (hr : w.ownsRow base e s u m l) (hk : u.ownBlock = some k) : k ≠ b := by
  obtain ⟨mm, N, h1, _⟩ := h
  obtain ⟨_, cur, hW⟩ := owned_block hr hk
  exact h1.ne hW
end
theorem Tryz.zeroMp (w : World) : (zeroValue 41).run Tryz.prog w = .ok (.map none) w := by kernel_rfl
theorem Tryz.zeroIn (w : World) : (zeroValue 3).run Tryz.prog w = .ok (.int .i64 0) w := by kernel_rfl
section
variable {w : World} {b n : Nat} {f : Int → Option Value}
theorem FMap.lookY (h : FMap w b n f) {k : Int} (hk : InI k) : (Instr.lookup 32 (.map (some b)) (.int .i64 k) false).run Tryz.prog w = .ok ((f k).getD (.map none)) w := by
  obtain ⟨mm, N, h1, _, h3⟩ := h
  have := h1.look Tryz.keyL Tryz.underlying32 (Tryz.zeroMp w) false (key_long k hk)
  rw [h3 k hk] at this
  simpa using this
theorem FMap.lookW (h : FMap w b n f) {k : Int} (hk : InI k) : (Instr.lookup 33 (.map (some b)) (.int .i64 k) false).run Tryz.prog w = .ok ((f k).getD (.int .i64 0)) w := by
  obtain ⟨mm, N, h1, _, h3⟩ := h
  have := h1.look Tryz.keyL Tryz.underlying33 (Tryz.zeroIn w) false (key_long k hk)
  rw [h3 k hk] at this
  simpa using this
theorem FMap.lookR (h : FMap w b n f) {k : Int} (hk : InI k) : (Instr.lookup 34 (.map (some b)) (.int .i64 k) false).run Tryz.prog w = .ok ((f k).getD (.int .i64 0)) w := by
  obtain ⟨mm, N, h1, _, h3⟩ := h
  have := h1.look Tryz.keyL Tryz.underlying34 (Tryz.zeroDon w) false (key_long k hk)
  rw [h3 k hk] at this
  simpa using this
end
/-- The law's state: the coordinator, its three maps, its list, the sets of those that said yes. -/
structure OY (w wr : World) (gc gl b1 b2 b3 g : Nat) (v : Value) (c : Co) (ms : List MsgD) (yb wb rb : Nat) (kv : Value) (n1 n2 n3 : Nat) (Lr : List Int) (fy fw fr : Int → Option Value) (Li : List Int) (Y : Int → Nat) (yf : Int → Nat) : Prop where
  cs : CS wr w.heap.size gc gl b1 b2 b3 g v c ms 100000
  bel : Below w.heap.size w wr
  row : wr.ownsRow w.heap.size 2 1 kv Lr.length (Lr.map (Value.int .i64))
  ym : FMap wr yb n1 fy
  wm : FMap wr wb n2 fw
  rm : FMap wr rb n3 fr
  inn : ∀ k ∈ Li, LSet wr (yf k) (Y k)
  ny : yb ≠ b1 ∧ yb ≠ b2 ∧ yb ≠ b3
  nw : wb ≠ b1 ∧ wb ≠ b2 ∧ wb ≠ b3
  nr : rb ≠ b1 ∧ rb ≠ b2 ∧ rb ≠ b3
  na : yb ≠ wb ∧ yb ≠ rb ∧ wb ≠ rb
  ni : ∀ k ∈ Li, (yf k ≠ b1 ∧ yf k ≠ b2 ∧ yf k ≠ b3) ∧ yf k ≠ yb ∧ yf k ≠ wb ∧ yf k ≠ rb
  nj : ∀ k ∈ Li, ∀ j ∈ Li, yf k = yf j → k = j
  ge : w.heap.size ≤ yb ∧ w.heap.size ≤ wb ∧ w.heap.size ≤ rb
  gi : ∀ k ∈ Li, w.heap.size ≤ yf k
section
variable {w wr w' w1 w2 : World} {gc gl b1 b2 b3 g gc2 gl2 c1 c2 c3 : Nat} {v v1 v2 : Value} {c c' : Co} {ms ms' : List MsgD} {yb wb rb : Nat} {kv : Value} {n1 n2 n3 : Nat} {Lr : List Int} {fy fw fr : Int → Option Value} {Li : List Int} {Y : Int → Nat} {yf : Int → Nat}
theorem OY.inne (h : OY w wr gc gl b1 b2 b3 g v c ms yb wb rb kv n1 n2 n3 Lr fy fw fr Li Y yf) {k : Int} (hk : k ∈ Li) : ¬ SB gc gl b1 b2 b3 g v (yf k) ∧ ∀ q, kv.ownBlock = some q → q ≠ yf k := by
  obtain ⟨_, mm, hm, _⟩ := h.inn k hk
  refine ⟨h.cs.map_other hm (h.ni k hk).1, fun q hq => ?_⟩
  obtain ⟨_, cur, hW⟩ := owned_block h.row hq
  exact hm.ne hW
theorem OY.rown (h : OY w wr gc gl b1 b2 b3 g v c ms yb wb rb kv n1 n2 n3 Lr fy fw fr Li Y yf) {q : Nat} (hq : kv.ownBlock = some q) : ¬ SB gc gl b1 b2 b3 g v q ∧ q < wr.heap.size ∧ w.heap.size ≤ q := by
  obtain ⟨h1, cur, hW⟩ := owned_block h.row hq
  exact ⟨h.cs.other hW (by decide) (by decide) (by decide) (by decide), hW.lt, h1⟩
/-- All that is the law's stays where it is. -/
theorem OY.keep (h : OY w wr gc gl b1 b2 b3 g v c ms yb wb rb kv n1 n2 n3 Lr fy fw fr Li Y yf) (hc : CS w' w.heap.size gc2 gl2 c1 c2 c3 g v1 c' ms' 100000) (hb : Below w.heap.size w w') (hk : ∀ k, k < wr.heap.size → ¬ SB gc gl b1 b2 b3 g v k → w'.heap[k]? = wr.heap[k]?) (hn : (c1 = b1 ∧ c2 = b2 ∧ c3 = b3) ∨ (wr.heap.size ≤ c1 ∧ wr.heap.size ≤ c2 ∧ wr.heap.size ≤ c3)) : OY w w' gc2 gl2 c1 c2 c3 g v1 c' ms' yb wb rb kv n1 n2 n3 Lr fy fw fr Li Y yf := by
  have l1 := h.ym.lt
  have l2 := h.wm.lt
  have l3 := h.rm.lt
  obtain ⟨a1, a2, a3⟩ := h.ny
  obtain ⟨a4, a5, a6⟩ := h.nw
  obtain ⟨a7, a8, a9⟩ := h.nr
  have hq : ∀ x, x < wr.heap.size → x ≠ b1 ∧ x ≠ b2 ∧ x ≠ b3 → x ≠ c1 ∧ x ≠ c2 ∧ x ≠ c3 := fun x hx hx2 => by
    rcases hn with ⟨e1, e2, e3⟩ | ⟨e1, e2, e3⟩
    · rw [e1, e2, e3]; exact hx2
    · exact ⟨by omega, by omega, by omega⟩
  exact ⟨hc, hb, owns_keepk h.row (fun q hq => hk q (h.rown hq).2.1 (h.rown hq).1), h.ym.kept (hk _ l1 (h.ym.not h.cs h.ny)), h.wm.kept (hk _ l2 (h.wm.not h.cs h.nw)), h.rm.kept (hk _ l3 (h.rm.not h.cs h.nr)), fun k hkk => (h.inn k hkk).kept (hk _ (h.inn k hkk).lt (h.inne hkk).1), hq _ l1 h.ny, hq _ l2 h.nw, hq _ l3 h.nr, h.na, fun k hkk => ⟨hq _ (h.inn k hkk).lt (h.ni k hkk).1, (h.ni k hkk).2⟩, h.nj, h.ge, h.gi⟩
theorem OY.below (h : OY w wr gc gl b1 b2 b3 g v c ms yb wb rb kv n1 n2 n3 Lr fy fw fr Li Y yf) (hb : Below wr.heap.size wr w') : OY w w' gc gl b1 b2 b3 g v c ms yb wb rb kv n1 n2 n3 Lr fy fw fr Li Y yf :=
  h.keep (h.cs.below hb) (h.bel.trans (hb.mono h.bel.size)) (fun k hk _ => hb.block k hk) (.inl ⟨rfl, rfl, rfl⟩)
theorem OY.chg (h : OY w wr gc gl b1 b2 b3 g v c ms yb wb rb kv n1 n2 n3 Lr fy fw fr Li Y yf) (hc : CS w' w.heap.size gc gl b1 b2 b3 g v1 c' ms' 100000) (hch : Chg wr w' (SB gc gl b1 b2 b3 g v)) : OY w w' gc gl b1 b2 b3 g v1 c' ms' yb wb rb kv n1 n2 n3 Lr fy fw fr Li Y yf :=
  h.keep hc (h.bel.trans (h.cs.sb_below hch)) (fun k hk hn => hch.block k hk hn) (.inl ⟨rfl, rfl, rfl⟩)
/-- A crash, and opened again. -/
theorem OY.again (h : OY w wr gc gl b1 b2 b3 g v c ms yb wb rb kv n1 n2 n3 Lr fy fw fr Li Y yf) (h1 : Chg wr w1 (fun k => k = g)) (hv : v1.ownBlock = v.ownBlock) (hcs : CS w2 w.heap.size gc2 gl2 c1 c2 c3 g v2 c' ms' 100000) (h2 : Chg w1 w2 (DB g v1)) (hn : w1.heap.size ≤ c1 ∧ w1.heap.size ≤ c2 ∧ w1.heap.size ≤ c3) : OY w w2 gc2 gl2 c1 c2 c3 g v2 c' ms' yb wb rb kv n1 n2 n3 Lr fy fw fr Li Y yf := by
  have hsz := h1.size
  have hk : ∀ k, k < wr.heap.size → ¬ SB gc gl b1 b2 b3 g v k → w2.heap[k]? = wr.heap[k]? := fun k hl hn => (h2.block k (Nat.lt_of_lt_of_le hl h1.size) (by
    rintro (e | e)
    · exact hn (.inr (.inl e))
    · exact hn (.inr (.inr (.inl (by rw [← hv]; exact e)))))).trans (h1.block k hl (fun e => hn (.inr (.inl e))))
  have hb : Below w.heap.size w w2 := by
    have e1 : Below w.heap.size w w1 := h.bel.trans (h1.below (fun k hk => by rw [hk]; exact (h.cs.ge (.inr (.inl rfl))).1) h.bel.size)
    exact e1.trans (h2.below (fun k hk => by
      rcases hk with e | e
      · rw [e]; exact (h.cs.ge (.inr (.inl rfl))).1
      · exact (h.cs.ge (k := k) (.inr (.inr (.inl (by rw [← hv]; exact e))))).1) e1.size)
  exact h.keep hcs hb hk (.inr ⟨by omega, by omega, by omega⟩)
/-- One block that isn't the coordinator's has changed. -/
theorem OY.part (h : OY w wr gc gl b1 b2 b3 g v c ms yb wb rb kv n1 n2 n3 Lr fy fw fr Li Y yf) {q : Option Nat} (hg : wr.grownBy w' q) (hq : ∀ k, q = some k → ¬ SB gc gl b1 b2 b3 g v k ∧ w.heap.size ≤ k) : CS w' w.heap.size gc gl b1 b2 b3 g v c ms 100000 ∧ Below w.heap.size w w' := by
  have hl : Lg wr w.heap.size gl g v (cat ms) (cat ms).length 100000 ms.length := h.cs.log
  have hd : Whole wr g 73 _ := hl.disk.blk
  have hk : ∀ k, SB gc gl b1 b2 b3 g v k → w'.heap[k]? = wr.heap[k]? := fun k hk => hg.block k (h.cs.ge hk).2 (by intro e; exact (hq k e.symm).1 hk)
  exact ⟨⟨⟨hl.lg.kept (hk _ (.inl rfl)), hl.ge, ⟨hd.kept (hk _ (.inr (.inl rfl))), hl.disk.ge, owns_keep hl.disk.own fun j hj => hk _ (.inr (.inr (.inl hj))), hl.disk.byte, hl.disk.hd, hl.disk.hr, hl.disk.hm⟩⟩, h.cs.co.kept fun k hk2 => hk k (.inr (.inr (.inr hk2))), h.cs.fine, h.cs.few⟩, h.bel.grown hg h.bel.size (fun k hk => (hq k hk).2)⟩
theorem OY.app (h : OY w wr gc gl b1 b2 b3 g v c ms yb wb rb kv n1 n2 n3 Lr fy fw fr Li Y yf) {kv' : Value} {L' : List Int} (hr : w'.ownsRow w.heap.size 2 1 kv' L'.length (L'.map (Value.int .i64))) (hg : wr.grownBy w' kv.ownBlock) : OY w w' gc gl b1 b2 b3 g v c ms yb wb rb kv' n1 n2 n3 L' fy fw fr Li Y yf := by
  obtain ⟨p1, p2⟩ := h.part hg (fun k hk => ⟨(h.rown hk).1, (h.rown hk).2.2⟩)
  have hk : ∀ k, k < wr.heap.size → (∀ q, kv.ownBlock = some q → q ≠ k) → w'.heap[k]? = wr.heap[k]? := fun k hl hn => hg.block k hl (fun e => hn k e.symm rfl)
  exact ⟨p1, p2, hr, h.ym.kept (hk _ h.ym.lt fun q hq => h.ym.row h.row hq), h.wm.kept (hk _ h.wm.lt fun q hq => h.wm.row h.row hq), h.rm.kept (hk _ h.rm.lt fun q hq => h.rm.row h.row hq), fun k hkk => (h.inn k hkk).kept (hk _ (h.inn k hkk).lt (h.inne hkk).2), h.ny, h.nw, h.nr, h.na, h.ni, h.nj, h.ge, h.gi⟩
theorem OY.putY (h : OY w wr gc gl b1 b2 b3 g v c ms yb wb rb kv n1 n2 n3 Lr fy fw fr Li Y yf) {m1 : Nat} {f' : Int → Option Value} (hm : FMap w' yb m1 f') (hg : wr.grownBy w' (some yb)) : OY w w' gc gl b1 b2 b3 g v c ms yb wb rb kv m1 n2 n3 Lr f' fw fr Li Y yf := by
  obtain ⟨p1, p2⟩ := h.part hg (fun k hk => by injection hk with hk; subst hk; exact ⟨h.ym.not h.cs h.ny, h.ge.1⟩)
  have hk : ∀ k, k < wr.heap.size → yb ≠ k → w'.heap[k]? = wr.heap[k]? := fun k hl hn => hg.block k hl (fun e => by injection e with e; exact hn e.symm)
  exact ⟨p1, p2, owns_keepk h.row (fun q hq => hk q (h.rown hq).2.1 (h.ym.row h.row hq).symm), hm, h.wm.kept (hk _ h.wm.lt h.na.1), h.rm.kept (hk _ h.rm.lt h.na.2.1), fun k hkk => (h.inn k hkk).kept (hk _ (h.inn k hkk).lt (h.ni k hkk).2.1.symm), h.ny, h.nw, h.nr, h.na, h.ni, h.nj, h.ge, h.gi⟩
theorem OY.putW (h : OY w wr gc gl b1 b2 b3 g v c ms yb wb rb kv n1 n2 n3 Lr fy fw fr Li Y yf) {m2 : Nat} {f' : Int → Option Value} (hm : FMap w' wb m2 f') (hg : wr.grownBy w' (some wb)) : OY w w' gc gl b1 b2 b3 g v c ms yb wb rb kv n1 m2 n3 Lr fy f' fr Li Y yf := by
  obtain ⟨p1, p2⟩ := h.part hg (fun k hk => by injection hk with hk; subst hk; exact ⟨h.wm.not h.cs h.nw, h.ge.2.1⟩)
  have hk : ∀ k, k < wr.heap.size → wb ≠ k → w'.heap[k]? = wr.heap[k]? := fun k hl hn => hg.block k hl (fun e => by injection e with e; exact hn e.symm)
  exact ⟨p1, p2, owns_keepk h.row (fun q hq => hk q (h.rown hq).2.1 (h.wm.row h.row hq).symm), h.ym.kept (hk _ h.ym.lt h.na.1.symm), hm, h.rm.kept (hk _ h.rm.lt h.na.2.2), fun k hkk => (h.inn k hkk).kept (hk _ (h.inn k hkk).lt (h.ni k hkk).2.2.1.symm), h.ny, h.nw, h.nr, h.na, h.ni, h.nj, h.ge, h.gi⟩
theorem OY.putR (h : OY w wr gc gl b1 b2 b3 g v c ms yb wb rb kv n1 n2 n3 Lr fy fw fr Li Y yf) {m3 : Nat} {f' : Int → Option Value} (hm : FMap w' rb m3 f') (hg : wr.grownBy w' (some rb)) : OY w w' gc gl b1 b2 b3 g v c ms yb wb rb kv n1 n2 m3 Lr fy fw f' Li Y yf := by
  obtain ⟨p1, p2⟩ := h.part hg (fun k hk => by injection hk with hk; subst hk; exact ⟨h.rm.not h.cs h.nr, h.ge.2.2⟩)
  have hk : ∀ k, k < wr.heap.size → rb ≠ k → w'.heap[k]? = wr.heap[k]? := fun k hl hn => hg.block k hl (fun e => by injection e with e; exact hn e.symm)
  exact ⟨p1, p2, owns_keepk h.row (fun q hq => hk q (h.rown hq).2.1 (h.rm.row h.row hq).symm), h.ym.kept (hk _ h.ym.lt h.na.2.1.symm), h.wm.kept (hk _ h.wm.lt h.na.2.2.symm), hm, fun k hkk => (h.inn k hkk).kept (hk _ (h.inn k hkk).lt (h.ni k hkk).2.2.2.symm), h.ny, h.nw, h.nr, h.na, h.ni, h.nj, h.ge, h.gi⟩
/-- One of the sets has changed. -/
theorem OY.putI (h : OY w wr gc gl b1 b2 b3 g v c ms yb wb rb kv n1 n2 n3 Lr fy fw fr Li Y yf) {id : Int} (hid : id ∈ Li) {s : Nat} (hm : LSet w' (yf id) s) (hg : wr.grownBy w' (some (yf id))) {Y' : Int → Nat} (hY : Y' id = s ∧ ∀ k, k ≠ id → Y' k = Y k) : OY w w' gc gl b1 b2 b3 g v c ms yb wb rb kv n1 n2 n3 Lr fy fw fr Li Y' yf := by
  obtain ⟨p1, p2⟩ := h.part hg (fun k hk => by injection hk with hk; subst hk; exact ⟨(h.inne hid).1, h.gi id hid⟩)
  have hk : ∀ k, k < wr.heap.size → yf id ≠ k → w'.heap[k]? = wr.heap[k]? := fun k hl hn => hg.block k hl (fun e => by injection e with e; exact hn e.symm)
  obtain ⟨i1, i2, i3, i4⟩ := h.ni id hid
  refine ⟨p1, p2, owns_keepk h.row (fun q hq => hk q (h.rown hq).2.1 ((h.inne hid).2 q hq).symm), h.ym.kept (hk _ h.ym.lt i2), h.wm.kept (hk _ h.wm.lt i3), h.rm.kept (hk _ h.rm.lt i4), fun k hkk => ?_, h.ny, h.nw, h.nr, h.na, h.ni, h.nj, h.ge, h.gi⟩
  by_cases e : k = id
  · subst e
    rw [hY.1]
    exact hm
  · rw [hY.2 k e]
    exact (h.inn k hkk).kept (hk _ (h.inn k hkk).lt (fun q => e (h.nj k hkk id hid q.symm)))
/-- A set more, of new memory. -/
theorem OY.newI (h : OY w wr gc gl b1 b2 b3 g v c ms yb wb rb kv n1 n2 n3 Lr fy fw fr Li Y yf) {id : Int} (hid : id ∉ Li) : OY w (wr.alloc (.map #[] 0)) gc gl b1 b2 b3 g v c ms yb wb rb kv n1 n2 n3 Lr fy fw fr (Li ++ [id]) (fun k => if k = id then 0 else Y k) (fun k => if k = id then wr.heap.size else yf k) := by
  have h2 := h.below (below_alloc wr (.map #[] 0))
  have hs := h.bel.size
  have l1 := h.ym.lt
  have l2 := h.wm.lt
  have l3 := h.rm.lt
  have m1 := (h.cs.ge (k := b1) (.inr (.inr (.inr (.inr (.inl rfl)))))).2
  have m2 := (h.cs.ge (k := b2) (.inr (.inr (.inr (.inr (.inr (.inl rfl))))))).2
  have m3 := (h.cs.ge (k := b3) (.inr (.inr (.inr (.inr (.inr (.inr rfl))))))).2
  have hcase : ∀ k ∈ Li ++ [id], k ∈ Li ∧ k ≠ id ∨ k = id := fun k hk => by
    rcases List.mem_append.1 hk with h1 | h1
    · exact .inl ⟨h1, fun e => hid (by rw [← e]; exact h1)⟩
    · exact .inr (List.mem_singleton.1 h1)
  refine ⟨h2.cs, h2.bel, h2.row, h2.ym, h2.wm, h2.rm, fun k hk => ?_, h.ny, h.nw, h.nr, h.na, fun k hk => ?_, fun k hk j hj e => ?_, h.ge, fun k hk => ?_⟩
  · rcases hcase k hk with ⟨h3, h4⟩ | rfl
    · simp only [if_neg h4]; exact h2.inn k h3
    · simp only [if_true]; exact LSet.made wr
  · rcases hcase k hk with ⟨h3, h4⟩ | rfl
    · simp only [if_neg h4]; exact h.ni k h3
    · simp only [if_true]; exact ⟨⟨by omega, by omega, by omega⟩, by omega, by omega, by omega⟩
  · rcases hcase k hk with ⟨h3, h4⟩ | rfl
    · rcases hcase j hj with ⟨h5, h6⟩ | rfl
      · simp only [if_neg h4, if_neg h6] at e
        exact h.nj k h3 j h5 e
      · simp only [if_neg h4, if_true] at e
        have := (h.inn k h3).lt
        omega
    · rcases hcase j hj with ⟨h5, h6⟩ | rfl
      · simp only [if_neg h6, if_true] at e
        have := (h.inn j h5).lt
        omega
      · rfl
  · rcases hcase k hk with ⟨h3, h4⟩ | rfl
    · simp only [if_neg h4]; exact h.gi k h3
    · simp only [if_true]; exact hs
end
end Go.Proofs.YtkailiifgdjgmaaGreat

namespace Go.Proofs.YtkailiifgdjgmaaGreat
open Go.RowKit
open Go.Maps (Keyed)

/-- The number that a step means. -/
def numb (L : List Int) (t : Int) : Int := if 0 ≤ t ∧ t < L.length then L.getD t.toNat 0 else t
set_option maxRecDepth 100000 in
set_option maxHeartbeats 2000000 in
theorem number_any {base : Nat} {kv : Value} {L : List Int} (w : World) (hr : w.ownsRow base 2 1 kv L.length (L.map (Value.int .i64))) (t : Int) (ht : InI t) (hl : L.length ≤ 4611686018427387904) :
    Calls Tryz.prog 10 #[kv, .int .i64 t] w fun e w' => e = .returned (.int .i64 (numb L t)) ∧ w' = w := by
  obtain ⟨ka, kc, rfl, hL⟩ := Lies.owned hr
  obtain ⟨t1, t2⟩ := ht
  by_cases h1 : 0 ≤ t
  · obtain ⟨m, rfl⟩ : ∃ m : Nat, t = (m : Int) := ⟨t.toNat, by omega⟩
    by_cases h2 : m < L.length
    · obtain ⟨b, off, rfl, hb, _⟩ := hL.addr (by omega)
      have hz : L[m]? = some (L.getD m 0) := by rw [List.getD_eq_getElem?_getD, List.getElem?_eq_getElem h2]; rfl
      have p := hL.cell (j := m) (by rw [List.getElem?_map, hz]; rfl)
      have hn : numb L m = L.getD m 0 := by unfold numb; rw [if_pos ⟨h1, by omega⟩, Int.toNat_natCast]
      rw [hn]
      generalize L.getD m 0 = z at *
      have e1 : decide ((m : Int) ≥ 0) = true := by simp
      have e2 : decide ((m : Int) < (L.length : Int)) = true := by simp; omega
      have hij : (0:Int) ≤ (m:Int) ∧ (m:Int) < (L.length:Int) := by omega
      clear hr hL hz hn
      go_enter Tryz.func10, Tryz.ntmps10
      go_wp2
      go_ret
      exact ⟨rfl, rfl⟩
    · have hn : numb L m = m := by unfold numb; rw [if_neg (by omega)]
      rw [hn]
      have e1 : decide ((m : Int) ≥ 0) = true := by simp
      have e2 : decide ((m : Int) < (L.length : Int)) = false := by simp; omega
      clear hr hL hn
      go_enter Tryz.func10, Tryz.ntmps10
      go_wp2
      go_ret
      exact ⟨rfl, rfl⟩
  · have hn : numb L t = t := by unfold numb; rw [if_neg (by omega)]
    rw [hn]
    have e1 : decide (t ≥ 0) = false := by simp; omega
    clear hr hL hn
    go_enter Tryz.func10, Tryz.ntmps10
    go_wp2
    go_ret
    exact ⟨rfl, rfl⟩
def yF (L : List Int) (yf : Int → Nat) (k : Int) : Option Value := if k ∈ L then some (.map (some (yf k))) else none
def wF (L : List Int) (S : Int → Nat) (k : Int) : Option Value := if k ∈ L then some (.int .i64 ((card (S k) : Nat) : Int)) else none
def rF (c : Co) (k : Int) : Option Value := if rv c k = 0 then none else some (.int .i64 (rv c k))
theorem rF_get (c : Co) (k : Int) : (rF c k).getD (.int .i64 0) = .int .i64 (rv c k) := by
  unfold rF
  by_cases h : rv c k = 0
  · rw [if_pos h, h]; rfl
  · rw [if_neg h]; rfl
theorem rF_eq {c c' : Co} (h : ∀ k, rv c' k = rv c k) : rF c' = rF c := by
  funext k
  unfold rF
  rw [h k]
section
variable {c : Co} {ms : List MsgD} {L : List Int} {S Y : Int → Nat}
theorem OP.in_ (h : OP c ms L S Y) {k : Int} (hk : k ∈ L) : InI k := by
  have h1 := h.ids k hk
  have h2 := newId_in h.ok
  exact ⟨by omega, by have := h2.2; omega⟩
theorem OP.numb_in (h : OP c ms L S Y) {t : Int} (ht : InI t) : InI (numb L t) := by
  unfold numb
  by_cases h1 : 0 ≤ t ∧ t < L.length
  · rw [if_pos h1]
    have h2 : t.toNat < L.length := by omega
    rw [List.getD_eq_getElem?_getD, List.getElem?_eq_getElem h2]
    exact h.in_ (List.getElem_mem h2)
  · rw [if_neg h1]; exact ht
theorem OP.start (hok : (ctake (rep 3 []) (bootM (rep 3 []))).ok) : OP (ctake (rep 3 []) (bootM (rep 3 []))) [bootM (rep 3 [])] [] (fun _ => 0) (fun _ => 0) := by
  have e : ctake (rep 3 []) (bootM (rep 3 [])) = { co0 3 with opened := 1 } := by rw [ctake_boot _ _ rfl]; rfl
  have e2 : rep 3 [bootM (rep 3 [])] = ctake (rep 3 []) (bootM (rep 3 [])) := by
    rw [show [bootM (rep 3 [])] = [] ++ [bootM (rep 3 [])] from rfl, rep_snoc]
  refine ⟨hok, by rw [e]; rfl, fun k hk => by simp at hk, fun k _ => ?_, fun k b hb => ?_, fun k hk => by simp at hk, fun k d hd => ?_, fun k r hr => ?_, fun k => ?_, by rw [e2]; exact ⟨rfl, by rw [e]; rfl⟩⟩
  · rw [e]; rfl
  · rw [e] at hb; cases hb
  · rw [e] at hd; cases hd
  · rw [e] at hr; cases hr
  · rw [e2]
    exact ⟨by rw [e]; rfl, rfl, rfl⟩
theorem OP.zero (h : OP c ms L S Y) {k : Int} (hk : k ∈ L) : ¬ ((card (S k) : Nat) : Int) = 0 := by
  obtain ⟨h1, h2, _⟩ := h.sz k hk
  have := (card_pos_all (S k) h1).1
  intro e
  exact h2 (this (by omega))
end
theorem yF_put {L : List Int} {yf : Int → Nat} {id : Int} (q : Nat) : updF (yF L yf) id (some (.map (some q))) = yF (L ++ [id]) (fun k => if k = id then q else yf k) := by
  funext k
  unfold updF yF
  by_cases h : k = id
  · simp [h]
  · simp [h]
theorem wF_put {L : List Int} {S : Int → Nat} {id : Int} (s : Nat) : updF (wF L S) id (some (.int .i64 ((card s : Nat) : Int))) = wF (L ++ [id]) (fun k => if k = id then s else S k) := by
  funext k
  unfold updF wF
  by_cases h : k = id
  · simp [h]
  · simp [h]
theorem rF_put {c c' : Co} {id rev : Int} (hr : 1 ≤ rev) (h : ∀ k, rv c' k = if k = id then rev else rv c k) : updF (rF c) id (some (.int .i64 rev)) = rF c' := by
  funext k
  unfold updF rF
  rw [h k]
  by_cases hk : k = id
  · rw [if_pos hk, if_pos hk, if_neg (by omega)]
  · rw [if_neg hk, if_neg hk]
theorem OP.vote_yes {c : Co} {ms : List MsgD} {L : List Int} {S Y : Int → Nat} (h : OP c ms L S Y) {id n : Int} (hok : (cvote c id n true).2.ok) (h0 : (cvote c id n true).1 = 0) : OP (cvote c id n true).2 ms L S (fun k => if k = id then sadd (Y k) n else Y k) ∧ id ∈ L ∧ isN n := by
  obtain ⟨h1, h2⟩ := h.vote hok
  refine ⟨?_, h2 h0⟩
  have e : (fun k => if k = id ∧ (cvote c id n true).1 = 0 ∧ true = true then sadd (Y k) n else Y k) = (fun k => if k = id then sadd (Y k) n else Y k) := by
    funext k
    simp [h0]
  rw [e] at h1
  exact h1
theorem OP.vote_not {c : Co} {ms : List MsgD} {L : List Int} {S Y : Int → Nat} (h : OP c ms L S Y) {id n : Int} {yes : Bool} (hok : (cvote c id n yes).2.ok) (h0 : (cvote c id n yes).1 ≠ 0 ∨ yes = false) : OP (cvote c id n yes).2 ms L S Y := by
  obtain ⟨h1, h2⟩ := h.vote hok
  have e : (fun k => if k = id ∧ (cvote c id n yes).1 = 0 ∧ yes = true then sadd (Y k) n else Y k) = Y := by
    funext k
    rw [if_neg]
    rintro ⟨_, h3, h4⟩
    rcases h0 with h0 | h0
    · exact h0 h3
    · rw [h0] at h4; cases h4
  rw [e] at h1
  exact h1
theorem OP.debt_rv {c : Co} {ms : List MsgD} {L : List Int} {S Y : Int → Nat} (h : OP c ms L S Y) {id : Int} {d : Debt} (hd : dget c.deb id = some d) : rv c id ≠ 0 := by
  have hb : c.bal id = none := by
    cases hq : c.bal id with
    | none => rfl
    | some b =>
      have := (h.ok.apart id b hq).1
      rw [hd] at this; cases this
  have := h.db id (d.ns, d.lf, d.rev) (by rw [vw_db, hd]; rfl)
  have e : rv c id = d.rev := by unfold rv stat; rw [hb, hd]
  simp only [] at this
  omega
theorem OP.done_rv {c : Co} {ms : List MsgD} {L : List Int} {S Y : Int → Nat} (h : OP c ms L S Y) {id : Int} (hd : c.don id ≠ none) : rv c id ≠ 0 := by
  have hb : c.bal id = none := by
    cases hq : c.bal id with
    | none => rfl
    | some b => exact absurd (h.ok.apart id b hq).2 hd
  cases hq : dget c.deb id with
  | some d => exact h.debt_rv hq
  | none =>
    obtain ⟨r, hr⟩ : ∃ r, c.don id = some r := by
      cases hz : c.don id with
      | none => exact absurd hz hd
      | some r => exact ⟨r, rfl⟩
    have e : rv c id = r := by unfold rv stat; rw [hb, hq, hr]
    have := h.dn id r hr
    omega
theorem OP.ack_done {c : Co} {ms : List MsgD} {L : List Int} {S Y : Int → Nat} (h : OP c ms L S Y) {id : Int} {d : Debt} (hd : dget c.deb id = some d) (hok : (ctake (cack c id 0) (oC 7 id 0 [])).ok) : OP (ctake (cack c id 0) (oC 7 id 0 [])) (ms ++ [oC 7 id 0 []]) L S Y ∧ ∀ k, rv (ctake (cack c id 0) (oC 7 id 0 [])) k = rv c k := by
  obtain ⟨h1, h2⟩ := h.ack hd 0 (h.ok.ack id (by omega))
  have hd2 : dget (cack c id 0).deb id = some { d with lf := 0 } := by
    show dget (dset c.deb id 0) id = _
    rw [dget_dset, if_pos rfl, hd]
    rfl
  obtain ⟨h3, h4⟩ := h1.done hd2 hok
  exact ⟨h3, fun k => (h4 k).trans (h2 k)⟩
section
variable {w w' : World} {B gc gl b1 b2 b3 g r : Nat} {v : Value} {c : Co} {ms : List MsgD}
theorem begin_cs (w : World) (h : CS w B gc gl b1 b2 b3 g v c ms r) (a : Option Addr) (n cp : Nat) (l : List Int) (B' : Nat) (hx : IntsAt w B' a n l) (hB' : B' ≤ B) (hn : n ≤ 9223372036854775807) (hg : beginOk c l) (hfr : dget c.deb (newId c) = none ∧ c.don (newId c) = none) :
    Calls Tryz.prog 11 #[.pointer (some ⟨gc, 0, none⟩), .slice a n cp] w fun e w' => e = .returned (.tuple #[.int .i64 (newId c), .int .i64 0]) ∧ CS w' B gc gl b1 b2 b3 g v (cbegin c l) ms r ∧ Chg w w' (SB gc gl b1 b2 b3 g v) := by
  have hgB := h.geB
  rcases Nat.eq_zero_or_pos n with h0 | h0
  · exfalso
    apply hg.1
    have := hx.1
    exact List.eq_nil_of_length_eq_zero (by omega)
  obtain ⟨b, off, rfl, hb, hcc⟩ := hx.2.resolve_left (by omega)
  refine (begin_good w h.co (some ⟨b, off, none⟩) n cp l B' hx (by omega) (fun b' off' e hc => ?_) hn hg hfr).mono ?_
  · injection e with e
    injection e with e
    have := h.co.geB hc
    omega
  · rintro e w' ⟨rfl, h2, h3⟩
    obtain ⟨h4, h5⟩ := h.step h2 h3 h.few
    exact ⟨rfl, h4, h5⟩
theorem abort_cs (w : World) (h : CS w B gc gl b1 b2 b3 g v c ms r) (k : Int) (hk : InI k) :
    Calls Tryz.prog 14 #[.pointer (some ⟨gc, 0, none⟩), .int .i64 k] w fun e w' => e = .returned (.int .i64 (cabort c k).1) ∧ CS w' B gc gl b1 b2 b3 g v (cabort c k).2 ms r ∧ Chg w w' (SB gc gl b1 b2 b3 g v) :=
  (abort_any w h.co k hk).mono fun _ _ ⟨h1, h2, h3⟩ => by
    have hf : (cabort c k).2.opened = c.opened ∧ (cabort c k).2.com = c.com := by
      unfold cabort
      cases c.bal k <;> exact ⟨rfl, rfl⟩
    obtain ⟨h4, h5⟩ := h.step h2 h3 (by rw [hf.1, hf.2]; exact h.few)
    exact ⟨h1, h4, h5⟩
end
/-- Where the law is behind a step. -/
def SW (w wr : World) (g yb wb rb i : Nat) (cv kv : Value) : Prop :=
  ∃ gc gl b1 b2 b3 v c ms n1 n2 n3 L S Y yf, cv = .pointer (some ⟨gc, 0, none⟩) ∧ OY w wr gc gl b1 b2 b3 g v c ms yb wb rb kv n1 n2 n3 L (yF L yf) (wF L S) (rF c) L Y yf ∧ OP c ms L S Y ∧ n1 ≤ i ∧ n2 ≤ i ∧ n3 ≤ i ∧ L.length ≤ i
theorem SW.below {w wr w' : World} {g yb wb rb i : Nat} {cv kv : Value} (h : SW w wr g yb wb rb i cv kv) (hb : Below wr.heap.size wr w') : SW w w' g yb wb rb i cv kv := by
  obtain ⟨gc, gl, b1, b2, b3, v, c, ms, n1, n2, n3, L, S, Y, yf, h1, h2, h3⟩ := h
  exact ⟨gc, gl, b1, b2, b3, v, c, ms, n1, n2, n3, L, S, Y, yf, h1, h2.below hb, h3⟩
theorem SW.up {w wr : World} {g yb wb rb i j : Nat} {cv kv : Value} (h : SW w wr g yb wb rb i cv kv) (hj : i ≤ j) : SW w wr g yb wb rb j cv kv := by
  obtain ⟨gc, gl, b1, b2, b3, v, c, ms, n1, n2, n3, L, S, Y, yf, h1, h2, h3, h4, h5, h6, h7⟩ := h
  exact ⟨gc, gl, b1, b2, b3, v, c, ms, n1, n2, n3, L, S, Y, yf, h1, h2, h3, by omega, by omega, by omega, by omega⟩
/-- The box of a step is none of the law's own blocks. -/
theorem OY.box {w wr : World} {gc gl b1 b2 b3 g : Nat} {v : Value} {c : Co} {ms : List MsgD} {yb wb rb : Nat} {kv : Value} {n1 n2 n3 : Nat} {Lr : List Int} {fy fw fr : Int → Option Value} {Li : List Int} {Y : Int → Nat} {yf : Int → Nat} (h : OY w wr gc gl b1 b2 b3 g v c ms yb wb rb kv n1 n2 n3 Lr fy fw fr Li Y yf) {k : Nat} {cs : Array Value} (hk : Whole wr k 37 cs) : ¬ SB gc gl b1 b2 b3 g v k ∧ (∀ q, kv.ownBlock = some q → q ≠ k) ∧ k ≠ yb ∧ k ≠ wb ∧ k ≠ rb ∧ ∀ j ∈ Li, k ≠ yf j := by
  obtain ⟨m1, _, h1, _⟩ := h.ym
  obtain ⟨m2, _, h2, _⟩ := h.wm
  obtain ⟨m3, _, h3, _⟩ := h.rm
  refine ⟨h.cs.other hk (by decide) (by decide) (by decide) (by decide), fun q hq => ?_, h1.ne hk, h2.ne hk, h3.ne hk, fun j hj => ?_⟩
  · obtain ⟨_, cur, hW⟩ := owned_block h.row hq
    exact fun e => whole_ne hk hW (by decide) e.symm
  · obtain ⟨_, mm, hm, _⟩ := h.inn j hj
    exact hm.ne hk
end Go.Proofs.YtkailiifgdjgmaaGreat
