/- CoordBoots: a coordinator opened again and again; the law's map and its list. CoordApart: what is known of one transaction, and what each call makes of it. CoordApart: one step of a transaction. -/
import Derived.Test.YtkailiifgdjgmaaGreatWf
namespace Go.Proofs.YtkailiifgdjgmaaGreat
open Go.RowKit
open Go.Maps (Keyed)

theorem rep_nil (node : Int) : rep node [] = co0 node := rfl
/-- What is known at the i-th boot: what was committed stays. -/
structure BI (node : Int) (i : Nat) (kept : List Int) (ms : List MsgD) : Prop where
  nod : (rep node ms).node = node
  opened : (rep node ms).opened = i + 1
  begun : (rep node ms).begun = 0
  bal : (rep node ms).bal = fun _ => none
  don : (rep node ms).don = fun _ => none
  ids : (rep node ms).deb.map (·.id) = kept
  rng : ∀ k ∈ kept, (node + 1) * 1099511627776 < k ∧ k < newId (rep node ms)
  len : (cat ms).length ≤ 200 * (2 * i + 1)
theorem newId_rep {node : Int} {i : Nat} {kept : List Int} {ms : List MsgD} (h : BI node i kept ms) : newId (rep node ms) = (node + 1) * 1099511627776 + ((i : Int) + 1) * 16777216 + 1 := by
  unfold newId
  rw [h.nod, h.opened, h.begun]
  simp
theorem BI.boot {node : Int} (h : (rcd (bootM (rep node []))).length ≤ 29) : BI node 0 [] [bootM (rep node [])] := by
  have e : rep node [bootM (rep node [])] = { co0 node with opened := 1 } := by
    rw [show [bootM (rep node [])] = [] ++ [bootM (rep node [])] from rfl, rep_snoc, ctake_boot _ _ rfl]
    rfl
  refine ⟨by rw [e]; rfl, by rw [e], by rw [e]; rfl, by rw [e]; rfl, by rw [e]; rfl, by rw [e]; rfl, by simp, ?_⟩
  rw [cat_one]
  omega
theorem BI.stat {node : Int} {i : Nat} {kept : List Int} {ms : List MsgD} (h : BI node i kept ms) : dget (rep node ms).deb (newId (rep node ms)) = none ∧ (rep node ms).don (newId (rep node ms)) = none ∧ stat (rep node ms) (newId (rep node ms)) = (0, 0) := by
  have hd : dget (rep node ms).deb (newId (rep node ms)) = none := by
    cases hq : dget (rep node ms).deb (newId (rep node ms)) with
    | none => rfl
    | some d =>
      obtain ⟨h1, h2⟩ := dget_some hq
      have := h.rng d.id (by rw [← h.ids]; exact List.mem_map.2 ⟨d, h1, rfl⟩)
      rw [h2] at this
      omega
  refine ⟨hd, by rw [h.don], ?_⟩
  unfold Go.Proofs.YtkailiifgdjgmaaGreat.stat
  rw [h.bal, hd, h.don]
/-- Nothing was committed. -/
theorem BI.idle {node : Int} {i : Nat} {kept : List Int} {ms : List MsgD} (h : BI node i kept ms) (hl : (rcd (bootM (rep node ms))).length ≤ 29) : BI node (i + 1) kept (ms ++ [bootM (rep node ms)]) := by
  have e : rep node (ms ++ [bootM (rep node ms)]) = { rep node ms with opened := (rep node ms).opened + 1 } := by rw [rep_snoc, ctake_boot _ _ rfl]
  refine ⟨by rw [e]; exact h.nod, by rw [e]; show (rep node ms).opened + 1 = _; rw [h.opened], by rw [e]; exact h.begun, by rw [e]; exact h.bal, by rw [e]; exact h.don, by rw [e]; exact h.ids, fun k hk => ?_, ?_⟩
  · have h1 := h.rng k hk
    have h2 : newId (rep node (ms ++ [bootM (rep node ms)])) = newId (rep node ms) + 16777216 := by
      rw [e]
      simp only [newId]
      omega
    omega
  · rw [cat_snoc_len]
    have := h.len
    omega
/-- One was committed. -/
theorem BI.comm {node : Int} {i : Nat} {kept : List Int} {ms : List MsgD} (h : BI node i kept ms) {rev : Int} {ns : List Int} (hl : (rcd (oC 6 (newId (rep node ms)) rev ns)).length ≤ 148) (hl2 : (rcd (bootM (rep node (ms ++ [oC 6 (newId (rep node ms)) rev ns])))).length ≤ 29) :
    BI node (i + 1) (kept ++ [newId (rep node ms)]) ((ms ++ [oC 6 (newId (rep node ms)) rev ns]) ++ [bootM (rep node (ms ++ [oC 6 (newId (rep node ms)) rev ns]))]) ∧
      Go.Proofs.YtkailiifgdjgmaaGreat.stat (rep node ((ms ++ [oC 6 (newId (rep node ms)) rev ns]) ++ [bootM (rep node (ms ++ [oC 6 (newId (rep node ms)) rev ns]))])) (newId (rep node ms)) = (2, rev) := by
  obtain ⟨hs1, _, hs3⟩ := h.stat
  have hnw := newId_rep h
  generalize hid : newId (rep node ms) = id at *
  have e1 : rep node (ms ++ [oC 6 id rev ns]) = { rep node ms with bal := updF (rep node ms).bal id none, deb := (rep node ms).deb ++ [⟨id, sset ns, sset ns, (rep node ms).com, rev⟩], com := (rep node ms).com + 1 } := by
    rw [rep_snoc]
    unfold ctake
    rw [if_neg (by simp [oC]), if_pos ⟨rfl, .inl (by rw [show (oC 6 id rev ns).id = id from rfl, hs3])⟩]
    rfl
  have e2 : rep node ((ms ++ [oC 6 id rev ns]) ++ [bootM (rep node (ms ++ [oC 6 id rev ns]))]) = { rep node (ms ++ [oC 6 id rev ns]) with opened := (rep node (ms ++ [oC 6 id rev ns])).opened + 1 } := by rw [rep_snoc, ctake_boot _ _ rfl]
  refine ⟨⟨?_, ?_, ?_, ?_, ?_, ?_, fun k hk => ?_, ?_⟩, ?_⟩
  · rw [e2, e1]; exact h.nod
  · rw [e2, e1]; show (rep node ms).opened + 1 = _; rw [h.opened]
  · rw [e2, e1]; exact h.begun
  · rw [e2, e1]
    show updF (rep node ms).bal id none = _
    rw [h.bal]
    funext k
    simp [updF]
  · rw [e2, e1]; exact h.don
  · rw [e2, e1]
    show ((rep node ms).deb ++ [_]).map _ = _
    rw [List.map_append, h.ids]
    rfl
  · have h2 : newId (rep node ((ms ++ [oC 6 id rev ns]) ++ [bootM (rep node (ms ++ [oC 6 id rev ns]))])) = id + 16777216 := by
      rw [e2, e1, ← hid]
      simp only [newId]
      omega
    rw [h2]
    rcases List.mem_append.1 hk with h3 | h3
    · have := h.rng k h3
      omega
    · rw [List.mem_singleton] at h3
      rw [h3]
      omega
  · rw [cat_snoc_len, cat_snoc_len]
    have := h.len
    omega
  · rw [e2, e1]
    unfold Go.Proofs.YtkailiifgdjgmaaGreat.stat
    simp only [h.bal, updF]
    have hd : dget ((rep node ms).deb ++ [⟨id, sset ns, sset ns, (rep node ms).com, rev⟩]) id = some ⟨id, sset ns, sset ns, (rep node ms).com, rev⟩ := by rw [dget_append (by exact hs1), if_pos rfl]
    simp [hd]
/-- The law's map of the numbers that were given. -/
def Seen (w : World) (sb : Nat) (Sn : List Int) : Prop := ∃ mm N, MapAt w Tryz.prog 2 sb mm N ∧ N ≤ Sn.length ∧ ∀ k, InI k → mm (.int .i64 k) = if k ∈ Sn then some (.bool true) else none
section
variable {w w' : World} {sb : Nat} {Sn : List Int}
theorem Seen.lt (h : Seen w sb Sn) : sb < w.heap.size := by
  obtain ⟨mm, N, h1, _⟩ := h
  exact h1.lt
theorem Seen.kept (h : Seen w sb Sn) (hb : w'.heap[sb]? = w.heap[sb]?) : Seen w' sb Sn := by
  obtain ⟨mm, N, h1, h2⟩ := h
  exact ⟨mm, N, h1.kept hb, h2⟩
theorem Seen.made (w : World) : Seen (w.alloc (.map #[] 0)) w.heap.size [] := ⟨_, 0, MapAt.made w Tryz.prog 2, Nat.le_refl _, fun k _ => by simp⟩
theorem Seen.look (h : Seen w sb Sn) {k : Int} (hk : InI k) (hn : k ∉ Sn) : (Instr.lookup 61 (.map (some sb)) (.int .i64 k) false).run Tryz.prog w = .ok (.bool false) w := by
  obtain ⟨mm, N, h1, _, h3⟩ := h
  have := h1.look Tryz.keyL Tryz.underlying61 (Tryz.zeroBo w) false (key_long k hk)
  rw [h3 k hk, if_neg hn] at this
  simpa using this
theorem Seen.put {mm : Lit → Option Value} {N : Nat} {k : Int} (hk : InI k) (hN : N ≤ Sn.length) (hf : ∀ k, InI k → mm (.int .i64 k) = if k ∈ Sn then some (.bool true) else none) (hm : MapAt w' Tryz.prog 2 sb (mset mm (.int .i64 k) (some (.bool true))) (if (mm (.int .i64 k)).isSome then N else N + 1)) : Seen w' sb (Sn ++ [k]) := by
  refine ⟨_, _, hm, by rw [List.length_append, List.length_singleton]; split <;> omega, fun x hx => ?_⟩
  rw [mset_int _ _ _ hk, hf x hx]
  by_cases h : x = k
  · simp [h]
  · simp [h]
end
end Go.Proofs.YtkailiifgdjgmaaGreat

namespace Go.Proofs.YtkailiifgdjgmaaGreat
open Go.RowKit
open Go.Maps (Keyed)

/-- What is known of one transaction. -/
structure Vw where
  bal : Option (Nat × Nat)
  db : Option (Nat × Nat × Int)
  dn : Option Int
def vw (c : Co) (id : Int) : Vw := ⟨c.bal id, (dget c.deb id).map fun d => (d.ns, d.lf, d.rev), c.don id⟩
def svw (V : Vw) : Int × Int := match V.bal with
  | some _ => (1, 0)
  | none => match V.db with
    | some d => (2, d.2.2)
    | none => match V.dn with
      | some r => (3, r)
      | none => (0, 0)
theorem stat_vw (c : Co) (id : Int) : stat c id = svw (vw c id) := by
  unfold stat svw vw
  cases c.bal id with
  | some b => rfl
  | none =>
    cases dget c.deb id with
    | some d => rfl
    | none => cases c.don id <;> rfl
/-- How many records it has at most. -/
def nrec (V : Vw) : Nat := if V.dn.isSome then 2 else if V.db.isSome then 1 else 0
def vVote (V : Vw) (n : Int) (yes : Bool) : Vw := match V.bal with
  | none => V
  | some b => if shas b.1 n then (if yes then { V with bal := some (b.1, swo b.2 n) } else { V with bal := none }) else V
def vCommit (V : Vw) (rev : Int) : Vw := match V.bal with
  | none => V
  | some b => if b.2 = 0 ∧ 1 ≤ rev ∧ rev ≤ 1125899906842624 then ⟨none, some (b.1, b.1, rev), none⟩ else V
def vAbort (V : Vw) : Vw := { V with bal := none }
def vAck (V : Vw) (n : Int) : Vw := match V.dn with
  | some _ => V
  | none => match V.db with
    | none => V
    | some d => if shas d.1 n then (if swo d.2.1 n ≠ 0 then { V with db := some (d.1, swo d.2.1 n, d.2.2) } else ⟨none, none, some d.2.2⟩) else V
theorem vw_vote (c : Co) (id n : Int) (yes : Bool) : vw (cvote c id n yes).2 id = vVote (vw c id) n yes ∧ ∀ k, k ≠ id → vw (cvote c id n yes).2 k = vw c k := by
  unfold cvote vVote
  cases hb : c.bal id with
  | none => simp [vw, hb]
  | some b =>
    simp only [vw, hb]
    by_cases h : shas b.1 n = true
    · rw [if_pos h, if_pos h]
      cases yes
      · refine ⟨by simp [updF], fun k hk => by simp [updF, hk]⟩
      · refine ⟨by simp [updF], fun k hk => by simp [updF, hk]⟩
    · rw [if_neg h, if_neg h]
      exact ⟨by simp [hb], fun k _ => rfl⟩
theorem vw_abort (c : Co) (id : Int) : vw (cabort c id).2 id = vAbort (vw c id) ∧ ∀ k, k ≠ id → vw (cabort c id).2 k = vw c k := by
  unfold cabort vAbort
  cases hb : c.bal id with
  | none => simp [vw, hb]
  | some b => exact ⟨by simp [vw, updF], fun k hk => by simp [vw, updF, hk]⟩
theorem vw_begin (c : Co) (l : List Int) (hfr : dget c.deb (newId c) = none ∧ c.don (newId c) = none) : vw (cbegin c l) (newId c) = ⟨some (sset l, sset l), none, none⟩ ∧ ∀ k, k ≠ newId c → vw (cbegin c l) k = vw c k := by
  refine ⟨?_, fun k hk => by simp [vw, cbegin, updF, hk]⟩
  simp [vw, cbegin, updF, hfr.1, hfr.2]
theorem vw_commit {c : Co} (hok : c.ok) {id rev : Int} {s : Nat} (hb : c.bal id = some (s, 0)) (hr : 1 ≤ rev ∧ rev ≤ 1125899906842624) : vw (ctake c (oC 6 id rev (slist s))) id = vCommit (vw c id) rev ∧ ∀ k, k ≠ id → vw (ctake c (oC 6 id rev (slist s))) k = vw c k := by
  have hst : (stat c id).1 = 1 := by unfold stat; rw [hb]
  obtain ⟨hd, hn⟩ := hok.apart id _ hb
  have hs := (hok.bal id _ hb).1
  have e : ctake c (oC 6 id rev (slist s)) = { c with bal := updF c.bal id none, deb := c.deb ++ [⟨id, sset (slist s), sset (slist s), c.com, rev⟩], com := c.com + 1 } := by
    unfold ctake
    rw [if_neg (by simp [oC]), if_pos ⟨rfl, .inr hst⟩]
    rfl
  rw [e]
  refine ⟨?_, fun k hk => ?_⟩
  · unfold vCommit vw
    simp only [hb, updF, hn]
    rw [dget_append (by exact hd), if_pos rfl]
    simp [sset_slist hs, hr.1, hr.2]
  · unfold vw
    simp only [updF, if_neg hk]
    rw [dget_append (by exact hd), if_neg hk]
theorem vw_cack (c : Co) (id : Int) (lf : Nat) : vw (cack c id lf) id = { vw c id with db := (dget c.deb id).map fun d => (d.ns, lf, d.rev) } ∧ ∀ k, k ≠ id → vw (cack c id lf) k = vw c k := by
  refine ⟨?_, fun k hk => ?_⟩
  · unfold vw cack
    simp only []
    rw [dget_dset, if_pos rfl, Option.map_map]
    rfl
  · unfold vw cack
    simp only []
    rw [dget_dset, if_neg hk]
theorem vw_done {c : Co} (hok : c.ok) {id : Int} {d : Debt} (hd : dget c.deb id = some d) : vw (ctake c (oC 7 id 0 [])) id = ⟨none, none, some d.rev⟩ ∧ ∀ k, k ≠ id → vw (ctake c (oC 7 id 0 [])) k = vw c k := by
  have hb : c.bal id = none := by
    cases hq : c.bal id with
    | none => rfl
    | some b =>
      have := (hok.apart id b hq).1
      rw [hd] at this; cases this
  have hst : stat c id = (2, d.rev) := by unfold stat; rw [hb, hd]
  have e : ctake c (oC 7 id 0 []) = { c with deb := c.deb.filter fun x => decide (x.id ≠ id), don := updF c.don id (some d.rev) } := by
    unfold ctake
    rw [if_neg (by simp [oC]), if_neg (by simp [oC]), if_pos ⟨rfl, by rw [show (oC 7 id 0 []).id = id from rfl, hst]⟩]
    rw [show (oC 7 id 0 []).id = id from rfl, hst]
  rw [e]
  refine ⟨?_, fun k hk => ?_⟩
  · unfold vw
    simp only [hb, updF, if_pos trivial]
    rw [dget_filter, if_pos rfl]
    simp
  · unfold vw
    simp only [updF, if_neg hk]
    rw [dget_filter, if_neg hk]
end Go.Proofs.YtkailiifgdjgmaaGreat

namespace Go.Proofs.YtkailiifgdjgmaaGreat
open Go.RowKit
open Go.Maps (Keyed)

def vlead (V : Vw) (k n : Int) (yes : Bool) (rev : Int) : Vw := if k = 1 then vVote V n yes else if k = 2 then vCommit V rev else if k = 3 then vAbort V else if k = 4 then vAck V n else V
section
variable {w w' : World} {B gc gl b1 b2 b3 g r : Nat} {v : Value} {c : Co} {ms : List MsgD}
/-- What a step comes to: the transaction's own view turns, the others' stay; a record more only as it goes on. -/
def LdX (w : World) (B gc gl b1 b2 b3 g : Nat) (v : Value) (c : Co) (ms : List MsgD) (r : Nat) (id : Int) (V' : Vw) (w' : World) : Prop :=
  ∃ v' c' ms', CS w' B gc gl b1 b2 b3 g v' c' ms' r ∧ Chg w w' (SB gc gl b1 b2 b3 g v) ∧ vw c' id = V' ∧ (∀ k, k ≠ id → vw c' k = vw c k) ∧ (cat ms').length + 148 * nrec (vw c id) ≤ (cat ms).length + 148 * nrec V'
theorem LdX.same {id : Int} (h : CS w' B gc gl b1 b2 b3 g v c ms r) (hb : Below w.heap.size w w') : LdX w B gc gl b1 b2 b3 g v c ms r id (vw c id) w' := ⟨v, c, ms, h, Chg.ofBelow _ hb, rfl, fun _ _ => rfl, Nat.le_refl _⟩
theorem nrec_vote (V : Vw) (n : Int) (yes : Bool) : nrec (vVote V n yes) = nrec V := by
  unfold vVote
  cases V.bal with
  | none => rfl
  | some b =>
    simp only []
    split
    · split <;> rfl
    · rfl
theorem vote_v (w : World) (h : CS w B gc gl b1 b2 b3 g v c ms r) (id n : Int) (yes : Bool) (hid : InI id) (hn : InI n) :
    Calls Tryz.prog 12 #[.pointer (some ⟨gc, 0, none⟩), .int .i64 id, .int .i64 n, .bool yes] w fun e w' => ∃ q : Int, e = .returned (.int .i64 q) ∧ LdX w B gc gl b1 b2 b3 g v c ms r id (vVote (vw c id) n yes) w' := by
  refine (vote_cs w h id n yes hid hn).mono ?_
  rintro e w' ⟨rfl, h1, h2⟩
  obtain ⟨e1, e2⟩ := vw_vote c id n yes
  exact ⟨_, rfl, v, _, ms, h1, h2, e1, e2, by rw [nrec_vote]; exact Nat.le_refl _⟩
theorem abort_v (w : World) (h : CS w B gc gl b1 b2 b3 g v c ms r) (id : Int) (hid : InI id) :
    Calls Tryz.prog 14 #[.pointer (some ⟨gc, 0, none⟩), .int .i64 id] w fun e w' => ∃ q : Int, e = .returned (.int .i64 q) ∧ LdX w B gc gl b1 b2 b3 g v c ms r id (vAbort (vw c id)) w' := by
  refine (abort_any w h.co id hid).mono ?_
  rintro e w' ⟨rfl, h1, h2⟩
  have hf : (cabort c id).2.opened = c.opened ∧ (cabort c id).2.com = c.com := by
    unfold cabort
    cases c.bal id <;> exact ⟨rfl, rfl⟩
  obtain ⟨h3, h4⟩ := h.step h1 h2 (by rw [hf.1, hf.2]; exact h.few)
  obtain ⟨e1, e2⟩ := vw_abort c id
  exact ⟨_, rfl, v, _, ms, h3, h4, e1, e2, Nat.le_refl _⟩
theorem vCommit_no {c : Co} {id rev : Int} (h : ¬ ∃ s, c.bal id = some (s, 0) ∧ 1 ≤ rev ∧ rev ≤ 1125899906842624) : vCommit (vw c id) rev = vw c id := by
  unfold vCommit
  cases hb : c.bal id with
  | none => simp [vw, hb]
  | some b =>
    simp only [vw, hb]
    rw [if_neg]
    rintro ⟨h1, h2⟩
    exact h ⟨b.1, by rw [hb, ← h1], h2⟩
theorem commit_v (w : World) (h : CS w B gc gl b1 b2 b3 g v c ms r) (hroom : (cat ms).length + 148 ≤ r) (id rev : Int) (hid : InI id) (hrv : InI rev) :
    Calls Tryz.prog 13 #[.pointer (some ⟨gc, 0, none⟩), .int .i64 id, .int .i64 rev] w fun e w' => ∃ q : Int, e = .returned (.int .i64 q) ∧ LdX w B gc gl b1 b2 b3 g v c ms r id (vCommit (vw c id) rev) w' := by
  refine (commit_any w h id rev hid hrv).mono ?_
  rintro e w' ⟨k, rfl, ⟨_, hno, h1, h2⟩ | ⟨s, hb, hr1, hr2, hwr⟩⟩
  · rw [vCommit_no hno]
    exact ⟨_, rfl, LdX.same h1 h2⟩
  · have hm := oc_rcd (k := 6) (id := id) (rev := rev) ⟨by omega, by omega⟩ hid hrv (slist_node (s := s)) (slist_len s)
    rcases hwr with ⟨rfl, _, v', h1, h2⟩ | ⟨_, hlt, _⟩
    · obtain ⟨e1, e2⟩ := vw_commit h.co.ok hb ⟨hr1, hr2⟩
      refine ⟨_, rfl, v', _, _, h1, h2, e1, e2, ?_⟩
      obtain ⟨hd, hn⟩ := h.co.ok.apart id _ hb
      have n0 : nrec (vw c id) = 0 := by simp [nrec, vw, hd, hn]
      have n1 : nrec (vCommit (vw c id) rev) = 1 := by
        have : vCommit (vw c id) rev = ⟨none, some (s, s, rev), none⟩ := by
          unfold vCommit vw
          simp only [hb]
          rw [if_pos ⟨trivial, hr1, hr2⟩]
        rw [this]; rfl
      rw [n0, n1, cat_snoc_len]
      omega
    · omega
theorem ack_v (w : World) (h : CS w B gc gl b1 b2 b3 g v c ms r) (hroom : (cat ms).length + 148 ≤ r) (id n : Int) (hid : InI id) (hn : InI n) :
    Calls Tryz.prog 15 #[.pointer (some ⟨gc, 0, none⟩), .int .i64 id, .int .i64 n] w fun e w' => ∃ q : Int, e = .returned (.int .i64 q) ∧ LdX w B gc gl b1 b2 b3 g v c ms r id (vAck (vw c id) n) w' := by
  refine (ack_any w h id n hid hn).mono ?_
  rintro e w' ⟨k, rfl, ⟨h1, h2, h3⟩ | ⟨d, hdn, hdb, hs, h2⟩⟩
  · have hsame : vAck (vw c id) n = vw c id := by
      unfold vAck
      rcases h1 with ⟨h4, _⟩ | ⟨h4, _, h5⟩
      · cases hq : c.don id with
        | none => exact absurd hq h4
        | some r0 => simp [vw, hq]
      · cases hq : dget c.deb id with
        | none => simp [vw, h4, hq]
        | some d =>
          simp only [vw, h4, hq, Option.map_some]
          rw [if_neg]
          intro h6
          exact h5 ⟨d, hq, h6⟩
    rw [hsame]
    exact ⟨_, rfl, LdX.same h2 h3⟩
  · have hb : c.bal id = none := by
      cases hq : c.bal id with
      | none => rfl
      | some b =>
        have := (h.co.ok.apart id b hq).1
        rw [hdb] at this; cases this
    have n0 : nrec (vw c id) = 1 := by simp [nrec, vw, hdn, hdb]
    rcases h2 with ⟨h3, rfl, h4, h5⟩ | ⟨h3, ⟨rfl, _, v', h4, h5⟩ | ⟨_, hlt, _⟩⟩
    · have hv : vAck (vw c id) n = ⟨none, some (d.ns, swo d.lf n, d.rev), none⟩ := by
        unfold vAck
        simp only [vw, hdn, hdb, Option.map_some, hb]
        rw [if_pos hs, if_pos h3]
      obtain ⟨e1, e2⟩ := vw_cack c id (swo d.lf n)
      refine ⟨_, rfl, v, _, ms, h4, h5, ?_, e2, ?_⟩
      · rw [e1, hv]
        simp [vw, hb, hdn, hdb]
      · rw [n0, hv]
        exact Nat.le_refl _
    · have hv : vAck (vw c id) n = ⟨none, none, some d.rev⟩ := by
        unfold vAck
        simp only [vw, hdn, hdb, Option.map_some, hb]
        rw [if_pos hs, if_neg (by rw [h3]; simp)]
      have hm := oc_rcd (k := 7) (id := id) (rev := 0) (ns := []) ⟨by omega, by omega⟩ hid ⟨by omega, by omega⟩ (by simp) (by simp)
      have hok : (cack c id 0).ok := h.co.ok.ack id (by omega)
      have hd2 : dget (cack c id 0).deb id = some { d with lf := 0 } := by
        show dget (dset c.deb id 0) id = _
        rw [dget_dset, if_pos rfl, hdb]; rfl
      obtain ⟨e1, e2⟩ := vw_done hok hd2
      obtain ⟨_, e4⟩ := vw_cack c id 0
      refine ⟨_, rfl, v', _, _, h4, h5, by rw [e1, hv], fun k hk => (e2 k hk).trans (e4 k hk), ?_⟩
      rw [n0, hv, cat_snoc_len]
      have n2 : nrec ⟨none, none, some d.rev⟩ = 2 := rfl
      rw [n2]
      omega
    · have hm := oc_rcd (k := 7) (id := id) (rev := 0) (ns := []) ⟨by omega, by omega⟩ hid ⟨by omega, by omega⟩ (by simp) (by simp)
      omega
set_option maxRecDepth 100000 in
set_option maxHeartbeats 8000000 in
theorem lead_any (w : World) (h : CS w B gc gl b1 b2 b3 g v c ms r) (hroom : (cat ms).length + 148 ≤ r) (id k t n rev : Int) (yes : Bool) (na : Option Addr) (nn nc : Nat) (hid : InI id) (hn : InI n) (hrv : InI rev) :
    Calls Tryz.prog 20 #[.pointer (some ⟨gc, 0, none⟩), .int .i64 id, .agg #[.int .i64 k, .int .i64 t, .int .i64 n, .slice na nn nc, .bool yes, .int .i64 rev]] w fun e w' => e = .returned (.tuple #[]) ∧ LdX w B gc gl b1 b2 b3 g v c ms r id (vlead (vw c id) k n yes rev) w' := by
  obtain ⟨W0, hW0, hw0, hb0⟩ := box_new w 37 #[.int .i64 k, .int .i64 t, .int .i64 n, .slice na nn nc, .bool yes, .int .i64 rev]
  have hc := h.below hb0
  have k0 := hw0.cell 0
  have k2 := hw0.cell 2
  have k4 := hw0.cell 4
  have k5 := hw0.cell 5
  have HUP := Lib.hid (fun V w' (hx : LdX W0 B gc gl b1 b2 b3 g v c ms r id V w') => (show LdX w B gc gl b1 b2 b3 g v c ms r id V w' from by
    obtain ⟨v', c', ms', x1, x2, x3, x4, x5⟩ := hx
    exact ⟨v', c', ms', x1, (Chg.ofBelow _ hb0).trans x2, x3, x4, x5⟩))
  have HC := Lib.hid hc
  have HR := Lib.hid hroom
  have HI := Lib.hid (And.intro hid (And.intro hn hrv))
  have HSA := Lib.hid (LdX.same (id := id) hc (Below.refl _ W0))
  clear h hc hb0 hw0 hroom hid hn hrv
  unfold vlead
  by_cases h1 : k = 1
  · rw [if_pos h1]
    subst h1
    go_enter Tryz.func20, Tryz.ntmps20
    go_upto_region 1 with fail
    rw [← hW0]
    clear hW0
    go_wp2_with fail
    refine (vote_v W0 HC.out id n yes HI.out.1 HI.out.2.1).mono ?_
    rintro e w2 ⟨q, rfl, hx⟩
    have HE := Lib.hid (HUP.out _ _ hx)
    clear hx
    go_wp2
    go_end0
    exact ⟨rfl, HE.out⟩
  · rw [if_neg h1]
    have e1 : (k == 1) = false := by simpa using h1
    by_cases h2 : k = 2
    · rw [if_pos h2]
      subst h2
      go_enter Tryz.func20, Tryz.ntmps20
      go_upto_region 1 with fail
      rw [← hW0]
      clear hW0
      go_wp2_with fail
      refine (commit_v W0 HC.out HR.out id rev HI.out.1 HI.out.2.2).mono ?_
      rintro e w2 ⟨q, rfl, hx⟩
      have HE := Lib.hid (HUP.out _ _ hx)
      clear hx
      go_wp2
      go_end0
      exact ⟨rfl, HE.out⟩
    · rw [if_neg h2]
      have e2 : (k == 2) = false := by simpa using h2
      by_cases h3 : k = 3
      · rw [if_pos h3]
        subst h3
        go_enter Tryz.func20, Tryz.ntmps20
        go_upto_region 1 with fail
        rw [← hW0]
        clear hW0
        go_wp2_with fail
        refine (abort_v W0 HC.out id HI.out.1).mono ?_
        rintro e w2 ⟨q, rfl, hx⟩
        have HE := Lib.hid (HUP.out _ _ hx)
        clear hx
        go_wp2
        go_end0
        exact ⟨rfl, HE.out⟩
      · rw [if_neg h3]
        have e3 : (k == 3) = false := by simpa using h3
        by_cases h4 : k = 4
        · rw [if_pos h4]
          subst h4
          go_enter Tryz.func20, Tryz.ntmps20
          go_upto_region 1 with fail
          rw [← hW0]
          clear hW0
          go_wp2_with fail
          refine (ack_v W0 HC.out HR.out id n HI.out.1 HI.out.2.1).mono ?_
          rintro e w2 ⟨q, rfl, hx⟩
          have HE := Lib.hid (HUP.out _ _ hx)
          clear hx
          go_wp2
          go_end0
          exact ⟨rfl, HE.out⟩
        · rw [if_neg h4]
          have e4 : (k == 4) = false := by simpa using h4
          go_enter Tryz.func20, Tryz.ntmps20
          go_upto_region 1 with fail
          rw [← hW0]
          clear hW0
          go_wp2
          go_end0
          exact ⟨rfl, HUP.out _ _ HSA.out⟩
end
end Go.Proofs.YtkailiifgdjgmaaGreat
