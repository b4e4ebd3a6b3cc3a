/- CoordBoots: a coordinator opened again and again; the law's map and its list. CoordBoots: the law's state. -/
import Derived.Test.YtcbpgkkkfkkkmaaGreatWf
namespace Go.Proofs.YtcbpgkkkfkkkmaaGreat
open Go.RowKit
open Go.Maps (Keyed)

theorem rep_nil (node : Int) : rep node [] = co0 node := rfl
/-- What is known at the i-th boot: what was committed stays. -/
structure BI (node : Int) (i : Nat) (kept : List Int) (ms : List MsgD) : Prop where
  nod : (rep node ms).node = node
  opened : (rep node ms).opened = i + 1
  begun : (rep node ms).begun = 0
  bal : (rep node ms).bal = fun _ => none
  don : (rep node ms).don = fun _ => none
  ids : (rep node ms).deb.map (·.id) = kept
  rng : ∀ k ∈ kept, (node + 1) * 1099511627776 < k ∧ k < newId (rep node ms)
  len : (cat ms).length ≤ 200 * (2 * i + 1)
theorem newId_rep {node : Int} {i : Nat} {kept : List Int} {ms : List MsgD} (h : BI node i kept ms) : newId (rep node ms) = (node + 1) * 1099511627776 + ((i : Int) + 1) * 16777216 + 1 := by
  unfold newId
  rw [h.nod, h.opened, h.begun]
  simp
theorem BI.boot {node : Int} (h : (rcd (bootM (rep node []))).length ≤ 29) : BI node 0 [] [bootM (rep node [])] := by
  have e : rep node [bootM (rep node [])] = { co0 node with opened := 1 } := by
    rw [show [bootM (rep node [])] = [] ++ [bootM (rep node [])] from rfl, rep_snoc, ctake_boot _ _ rfl]
    rfl
  refine ⟨by rw [e]; rfl, by rw [e], by rw [e]; rfl, by rw [e]; rfl, by rw [e]; rfl, by rw [e]; rfl, by simp, ?_⟩
  rw [cat_one]
  omega
theorem BI.stat {node : Int} {i : Nat} {kept : List Int} {ms : List MsgD} (h : BI node i kept ms) : dget (rep node ms).deb (newId (rep node ms)) = none ∧ (rep node ms).don (newId (rep node ms)) = none ∧ stat (rep node ms) (newId (rep node ms)) = (0, 0) := by
  have hd : dget (rep node ms).deb (newId (rep node ms)) = none := by
    cases hq : dget (rep node ms).deb (newId (rep node ms)) with
    | none => rfl
    | some d =>
      obtain ⟨h1, h2⟩ := dget_some hq
      have := h.rng d.id (by rw [← h.ids]; exact List.mem_map.2 ⟨d, h1, rfl⟩)
      rw [h2] at this
      omega
  refine ⟨hd, by rw [h.don], ?_⟩
  unfold Go.Proofs.YtcbpgkkkfkkkmaaGreat.stat
  rw [h.bal, hd, h.don]
/-- Nothing was committed. -/
theorem BI.idle {node : Int} {i : Nat} {kept : List Int} {ms : List MsgD} (h : BI node i kept ms) (hl : (rcd (bootM (rep node ms))).length ≤ 29) : BI node (i + 1) kept (ms ++ [bootM (rep node ms)]) := by
  have e : rep node (ms ++ [bootM (rep node ms)]) = { rep node ms with opened := (rep node ms).opened + 1 } := by rw [rep_snoc, ctake_boot _ _ rfl]
  refine ⟨by rw [e]; exact h.nod, by rw [e]; show (rep node ms).opened + 1 = _; rw [h.opened], by rw [e]; exact h.begun, by rw [e]; exact h.bal, by rw [e]; exact h.don, by rw [e]; exact h.ids, fun k hk => ?_, ?_⟩
  · have h1 := h.rng k hk
    have h2 : newId (rep node (ms ++ [bootM (rep node ms)])) = newId (rep node ms) + 16777216 := by
      rw [e]
      simp only [newId]
      omega
    omega
  · rw [cat_snoc_len]
    have := h.len
    omega
/-- One was committed. -/
theorem BI.comm {node : Int} {i : Nat} {kept : List Int} {ms : List MsgD} (h : BI node i kept ms) {rev : Int} {ns : List Int} (hl : (rcd (oC 6 (newId (rep node ms)) rev ns)).length ≤ 148) (hl2 : (rcd (bootM (rep node (ms ++ [oC 6 (newId (rep node ms)) rev ns])))).length ≤ 29) :
    BI node (i + 1) (kept ++ [newId (rep node ms)]) ((ms ++ [oC 6 (newId (rep node ms)) rev ns]) ++ [bootM (rep node (ms ++ [oC 6 (newId (rep node ms)) rev ns]))]) ∧
      Go.Proofs.YtcbpgkkkfkkkmaaGreat.stat (rep node ((ms ++ [oC 6 (newId (rep node ms)) rev ns]) ++ [bootM (rep node (ms ++ [oC 6 (newId (rep node ms)) rev ns]))])) (newId (rep node ms)) = (2, rev) := by
  obtain ⟨hs1, _, hs3⟩ := h.stat
  have hnw := newId_rep h
  generalize hid : newId (rep node ms) = id at *
  have e1 : rep node (ms ++ [oC 6 id rev ns]) = { rep node ms with bal := updF (rep node ms).bal id none, deb := (rep node ms).deb ++ [⟨id, sset ns, sset ns, (rep node ms).com, rev⟩], com := (rep node ms).com + 1 } := by
    rw [rep_snoc]
    unfold ctake
    rw [if_neg (by simp [oC]), if_pos ⟨rfl, .inl (by rw [show (oC 6 id rev ns).id = id from rfl, hs3])⟩]
    rfl
  have e2 : rep node ((ms ++ [oC 6 id rev ns]) ++ [bootM (rep node (ms ++ [oC 6 id rev ns]))]) = { rep node (ms ++ [oC 6 id rev ns]) with opened := (rep node (ms ++ [oC 6 id rev ns])).opened + 1 } := by rw [rep_snoc, ctake_boot _ _ rfl]
  refine ⟨⟨?_, ?_, ?_, ?_, ?_, ?_, fun k hk => ?_, ?_⟩, ?_⟩
  · rw [e2, e1]; exact h.nod
  · rw [e2, e1]; show (rep node ms).opened + 1 = _; rw [h.opened]
  · rw [e2, e1]; exact h.begun
  · rw [e2, e1]
    show updF (rep node ms).bal id none = _
    rw [h.bal]
    funext k
    simp [updF]
  · rw [e2, e1]; exact h.don
  · rw [e2, e1]
    show ((rep node ms).deb ++ [_]).map _ = _
    rw [List.map_append, h.ids]
    rfl
  · have h2 : newId (rep node ((ms ++ [oC 6 id rev ns]) ++ [bootM (rep node (ms ++ [oC 6 id rev ns]))])) = id + 16777216 := by
      rw [e2, e1, ← hid]
      simp only [newId]
      omega
    rw [h2]
    rcases List.mem_append.1 hk with h3 | h3
    · have := h.rng k h3
      omega
    · rw [List.mem_singleton] at h3
      rw [h3]
      omega
  · rw [cat_snoc_len, cat_snoc_len]
    have := h.len
    omega
  · rw [e2, e1]
    unfold Go.Proofs.YtcbpgkkkfkkkmaaGreat.stat
    simp only [h.bal, updF]
    have hd : dget ((rep node ms).deb ++ [⟨id, sset ns, sset ns, (rep node ms).com, rev⟩]) id = some ⟨id, sset ns, sset ns, (rep node ms).com, rev⟩ := by rw [dget_append (by exact hs1), if_pos rfl]
    simp [hd]
/-- The law's map of the numbers that were given. -/
def Seen (w : World) (sb : Nat) (Sn : List Int) : Prop := ∃ mm N, MapAt w Tryz.prog 2 sb mm N ∧ N ≤ Sn.length ∧ ∀ k, InI k → mm (.int .i64 k) = if k ∈ Sn then some (.bool true) else none
section
variable {w w' : World} {sb : Nat} {Sn : List Int}
theorem Seen.lt (h : Seen w sb Sn) : sb < w.heap.size := by
  obtain ⟨mm, N, h1, _⟩ := h
  exact h1.lt
theorem Seen.kept (h : Seen w sb Sn) (hb : w'.heap[sb]? = w.heap[sb]?) : Seen w' sb Sn := by
  obtain ⟨mm, N, h1, h2⟩ := h
  exact ⟨mm, N, h1.kept hb, h2⟩
theorem Seen.made (w : World) : Seen (w.alloc (.map #[] 0)) w.heap.size [] := ⟨_, 0, MapAt.made w Tryz.prog 2, Nat.le_refl _, fun k _ => by simp⟩
theorem Seen.look (h : Seen w sb Sn) {k : Int} (hk : InI k) (hn : k ∉ Sn) : (Instr.lookup 61 (.map (some sb)) (.int .i64 k) false).run Tryz.prog w = .ok (.bool false) w := by
  obtain ⟨mm, N, h1, _, h3⟩ := h
  have := h1.look Tryz.keyL Tryz.underlying61 (Tryz.zeroBo w) false (key_long k hk)
  rw [h3 k hk, if_neg hn] at this
  simpa using this
theorem Seen.put {mm : Lit → Option Value} {N : Nat} {k : Int} (hk : InI k) (hN : N ≤ Sn.length) (hf : ∀ k, InI k → mm (.int .i64 k) = if k ∈ Sn then some (.bool true) else none) (hm : MapAt w' Tryz.prog 2 sb (mset mm (.int .i64 k) (some (.bool true))) (if (mm (.int .i64 k)).isSome then N else N + 1)) : Seen w' sb (Sn ++ [k]) := by
  refine ⟨_, _, hm, by rw [List.length_append, List.length_singleton]; split <;> omega, fun x hx => ?_⟩
  rw [mset_int _ _ _ hk, hf x hx]
  by_cases h : x = k
  · simp [h]
  · simp [h]
end
end Go.Proofs.YtcbpgkkkfkkkmaaGreat

namespace Go.Proofs.YtcbpgkkkfkkkmaaGreat
open Go.RowKit
open Go.Maps (Keyed)

/-- The coordinator, the law's map and its list. -/
structure BX (w wr : World) (gc gl b1 b2 b3 g : Nat) (v : Value) (c : Co) (ms : List MsgD) (sb : Nat) (Sn : List Int) (kv : Value) (kept : List Int) : Prop where
  cs : CS wr w.heap.size gc gl b1 b2 b3 g v c ms 1048576
  bel : Below w.heap.size w wr
  seen : Seen wr sb Sn
  ne : sb ≠ b1 ∧ sb ≠ b2 ∧ sb ≠ b3
  row : wr.ownsRow w.heap.size 2 1 kv kept.length (kept.map (Value.int .i64))
  sge : w.heap.size ≤ sb
section
variable {w w' wr w1 w2 : World} {gc gl b1 b2 b3 g gc2 gl2 c1 c2 c3 : Nat} {v kv v1 v2 : Value} {c c' : Co} {ms ms' : List MsgD} {sb : Nat} {Sn kept : List Int}
theorem BX.below (h : BX w wr gc gl b1 b2 b3 g v c ms sb Sn kv kept) (hb : Below wr.heap.size wr w') : BX w w' gc gl b1 b2 b3 g v c ms sb Sn kv kept :=
  ⟨h.cs.below hb, h.bel.trans (hb.mono h.bel.size), h.seen.kept (hb.block _ h.seen.lt), h.ne, owns_keepk h.row (fun k hk => hb.block k (h.row.lt k hk).2), h.sge⟩
theorem BX.off (h : BX w wr gc gl b1 b2 b3 g v c ms sb Sn kv kept) : ¬ SB gc gl b1 b2 b3 g v sb ∧ (∀ k, kv.ownBlock = some k → ¬ SB gc gl b1 b2 b3 g v k ∧ k ≠ sb) := by
  obtain ⟨mm, N, hm, _⟩ := h.seen
  refine ⟨h.cs.map_other hm h.ne, fun k hk => ?_⟩
  obtain ⟨_, cur, hW⟩ := owned_block h.row hk
  exact ⟨h.cs.other hW (by decide) (by decide) (by decide) (by decide), hm.ne hW⟩
theorem BX.chg (h : BX w wr gc gl b1 b2 b3 g v c ms sb Sn kv kept) (hc : CS w' w.heap.size gc gl b1 b2 b3 g v1 c' ms' 1048576) (hch : Chg wr w' (SB gc gl b1 b2 b3 g v)) : BX w w' gc gl b1 b2 b3 g v1 c' ms' sb Sn kv kept := by
  obtain ⟨o1, o2⟩ := h.off
  exact ⟨hc, h.bel.trans (h.cs.sb_below hch), h.seen.kept (hch.block _ h.seen.lt o1), h.ne, owns_keepk h.row (fun k hk => hch.block k (h.row.lt k hk).2 (o2 k hk).1), h.sge⟩
theorem BX.seenG {Sn' : List Int} (h : BX w wr gc gl b1 b2 b3 g v c ms sb Sn kv kept) (hs : Seen w' sb Sn') (hg : wr.grownBy w' (some sb)) : BX w w' gc gl b1 b2 b3 g v c ms sb Sn' kv kept := by
  obtain ⟨o1, o2⟩ := h.off
  obtain ⟨mm, N, hm, _⟩ := h.seen
  exact ⟨h.cs.map_grown hm h.ne hg, h.bel.grown hg h.bel.size (fun k hk => by cases hk; exact h.sge), hs, h.ne, owns_keepk h.row (fun k hk => hg.block k (h.row.lt k hk).2 (by intro e; injection e with e; exact (o2 k hk).2 e)), h.sge⟩
theorem BX.rowG {kv' : Value} {kept' : List Int} (h : BX w wr gc gl b1 b2 b3 g v c ms sb Sn kv kept) (hr : w'.ownsRow w.heap.size 2 1 kv' kept'.length (kept'.map (Value.int .i64))) (hg : wr.grownBy w' kv.ownBlock) : BX w w' gc gl b1 b2 b3 g v c ms sb Sn kv' kept' := by
  obtain ⟨o1, o2⟩ := h.off
  have hl : Lg wr w.heap.size gl g v (cat ms) (cat ms).length 1048576 ms.length := h.cs.log
  have hd : Whole wr g 73 _ := hl.disk.blk
  have hk : ∀ k, SB gc gl b1 b2 b3 g v k → w'.heap[k]? = wr.heap[k]? := fun k hk => hg.block k (h.cs.ge hk).2 (by intro e; exact (o2 k e.symm).1 hk)
  refine ⟨⟨⟨hl.lg.kept (hk _ (.inl rfl)), hl.ge, ⟨hd.kept (hk _ (.inr (.inl rfl))), hl.disk.ge, owns_keep hl.disk.own fun j hj => hk _ (.inr (.inr (.inl hj))), hl.disk.byte, hl.disk.hd, hl.disk.hr, hl.disk.hm⟩⟩, h.cs.co.kept fun k hk2 => hk k (.inr (.inr (.inr hk2))), h.cs.fine, h.cs.few⟩, h.bel.grown hg h.bel.size (fun k hk => (h.row.lt k hk).1), h.seen.kept (hg.block _ h.seen.lt (by intro e; exact (o2 sb e.symm).2 rfl)), h.ne, hr, h.sge⟩
/-- A crash, and opened again. -/
theorem BX.again (h : BX w wr gc gl b1 b2 b3 g v c ms sb Sn kv kept) (h1 : Chg wr w1 (fun k => k = g)) (hv : v1.ownBlock = v.ownBlock) (hcs : CS w2 w.heap.size gc2 gl2 c1 c2 c3 g v2 c' ms' 1048576) (h2 : Chg w1 w2 (DB g v1)) (hn : w1.heap.size ≤ c1 ∧ w1.heap.size ≤ c2 ∧ w1.heap.size ≤ c3) : BX w w2 gc2 gl2 c1 c2 c3 g v2 c' ms' sb Sn kv kept := by
  obtain ⟨o1, o2⟩ := h.off
  have hk : ∀ k, k < wr.heap.size → ¬ SB gc gl b1 b2 b3 g v k → w2.heap[k]? = wr.heap[k]? := fun k hl hn => (h2.block k (Nat.lt_of_lt_of_le hl h1.size) (by
    rintro (e | e)
    · exact hn (.inr (.inl e))
    · exact hn (.inr (.inr (.inl (by rw [← hv]; exact e)))))).trans (h1.block k hl (fun e => hn (.inr (.inl e))))
  have hsl := h.seen.lt
  have hsz := h1.size
  have hb : Below w.heap.size w w2 := by
    have e1 : Below w.heap.size w w1 := h.bel.trans (h1.below (fun k hk => by rw [hk]; exact (h.cs.ge (.inr (.inl rfl))).1) h.bel.size)
    exact e1.trans (h2.below (fun k hk => by
      rcases hk with e | e
      · rw [e]; exact (h.cs.ge (.inr (.inl rfl))).1
      · exact (h.cs.ge (k := k) (.inr (.inr (.inl (by rw [← hv]; exact e))))).1) e1.size)
  exact ⟨hcs, hb, h.seen.kept (hk _ hsl o1), ⟨by omega, by omega, by omega⟩, owns_keepk h.row (fun k hkk => hk k (h.row.lt k hkk).2 (o2 k hkk).1), h.sge⟩
end
/-- Of the transaction of node 3. -/
theorem vote3 (c : Co) : (cvote (cbegin c [3]) (newId c) 3 true).1 = 0 ∧ (cvote (cbegin c [3]) (newId c) 3 true).2.bal (newId c) = some (8, 0) := by
  have h8 : sset [3] = 8 := by decide
  have hs : shas 8 3 = true := by decide +kernel
  have hw : swo 8 3 = 0 := by decide +kernel
  have hb : (cbegin c [3]).bal (newId c) = some (8, 8) := by simp [cbegin, updF, h8]
  unfold cvote
  rw [hb]
  simp only [hs, hw, if_true]
  exact ⟨trivial, by simp [updF]⟩
/-- What holds of the numbers that were given before. -/
def Sep (node : Int) (id : Int) (Sn : List Int) : Prop := ∀ k ∈ Sn, k ≤ (node + 1) * 1099511627776 ∨ (node + 2) * 1099511627776 ≤ k ∨ k < id
/-- How far CoordBoots has come with one node. -/
def BS (w wr : World) (g : Nat) (node : Int) (i : Nat) (cv : Value) (kv : Value) (sb : Nat) (Sn kept : List Int) (ms : List MsgD) : Prop :=
  ∃ gc gl b1 b2 b3 v, cv = .pointer (some ⟨gc, 0, none⟩) ∧ BX w wr gc gl b1 b2 b3 g v (rep node ms) ms sb Sn kv kept ∧ BI node i kept ms ∧ Sep node (newId (rep node ms)) Sn ∧ kept.length ≤ i
theorem id_rng {node : Int} {i : Nat} {kept : List Int} {ms : List MsgD} (h : BI node i kept ms) (hn : isN node) (hi : i ≤ 1001) : (node + 1) * 1099511627776 < newId (rep node ms) ∧ newId (rep node ms) < (node + 2) * 1099511627776 ∧ InI (newId (rep node ms)) ∧ 1 ≤ newId (rep node ms) := by
  have h1 := newId_rep h
  obtain ⟨h2, h3⟩ := hn
  rw [h1]
  refine ⟨by omega, by omega, ⟨by omega, by omega⟩, by omega⟩
theorem Sep.notin {node id : Int} {Sn : List Int} (h : Sep node id Sn) (h1 : (node + 1) * 1099511627776 < id) (h2 : id < (node + 2) * 1099511627776) : id ∉ Sn := by
  intro hm
  rcases h id hm with h3 | h3 | h3 <;> omega
theorem Sep.snoc {node id id' : Int} {Sn : List Int} (h : Sep node id Sn) (hl : id < id') : Sep node id' (Sn ++ [id]) := by
  intro k hk
  rcases List.mem_append.1 hk with h1 | h1
  · rcases h k h1 with h3 | h3 | h3
    · exact .inl h3
    · exact .inr (.inl h3)
    · exact .inr (.inr (by omega))
  · rw [List.mem_singleton] at h1
    exact .inr (.inr (by rw [h1]; exact hl))
end Go.Proofs.YtcbpgkkkfkkkmaaGreat
