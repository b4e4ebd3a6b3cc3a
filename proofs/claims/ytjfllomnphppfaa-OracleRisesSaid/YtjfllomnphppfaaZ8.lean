/- OracleRises: what each call does. -/
import Derived.Test.YtjfllomnphppfaaZ7
namespace Go.Proofs.Ytjfllomnphppfaa
open Go.RowKit
open Go.Maps (Keyed)

theorem Try.zeroL (w : World) : (zeroValue 2).run Try.prog w = .ok (.int .i64 0) w := by kernel_rfl
section
variable {w w' wr : World} {B go gl mb g o r rb : Nat} {v row : Value} {L : List Iss} {ms : List MsgD} {cl : Int}
/-- The law's map of revisions. -/
def RMap (w : World) (rb : Nat) (L : List Iss) : Prop := ∃ rm N, MapAt w Try.prog 2 rb rm N ∧ N ≤ L.length ∧ ∀ k, InI k → rm (.int .i64 k) = (revOf L k).map (Value.int .i64)
theorem RMap.below (h : RMap w rb L) (hb : Below w.heap.size w w') : RMap w' rb L := by
  obtain ⟨rm, N, h1, h2⟩ := h
  exact ⟨rm, N, h1.below hb, h2⟩
theorem RMap.kept (h : RMap w rb L) (hb : w'.heap[rb]? = w.heap[rb]?) : RMap w' rb L := by
  obtain ⟨rm, N, h1, h2⟩ := h
  exact ⟨rm, N, h1.kept hb, h2⟩
theorem RMap.lt (h : RMap w rb L) : rb < w.heap.size := by
  obtain ⟨rm, N, h1, h2⟩ := h
  exact h1.lt
theorem RMap.look (h : RMap w rb L) {k : Int} (hk : InI k) : (Instr.lookup 31 (.map (some rb)) (.int .i64 k) false).run Try.prog w = .ok (.int .i64 ((revOf L k).getD 0)) w := by
  obtain ⟨rm, N, h1, _, h3⟩ := h
  have := h1.look Try.keyL Try.underlying31 (Try.zeroL w) false (key_long k hk)
  rw [h3 k hk] at this
  cases hr : revOf L k <;> rw [hr] at this <;> simpa using this
/-- How far OracleRises has come. -/
structure StR (w wr : World) (go gl mb g : Nat) (v row : Value) (ms : List MsgD) (r rb : Nat) (cl : Int) : Prop where
  st : StF w wr go gl mb g v row ms r
  map : RMap wr rb (rep ms)
  ne : rb ≠ mb
  ge : w.heap.size ≤ rb
  lo : 0 ≤ cl
  hi : cl ≤ closedR (rep ms)
theorem StR.below {wx : World} (h : StR w wr go gl mb g v row ms r rb cl) (hb : Below wr.heap.size wr wx) : StR w wx go gl mb g v row ms r rb cl := ⟨h.st.below hb, h.map.below hb, h.ne, h.ge, h.lo, h.hi⟩
theorem StR.map_kept (h : StR w wr go gl mb g v row ms r rb cl) (hc : Chg wr w' (SB go gl mb g v row)) : w'.heap[rb]? = wr.heap[rb]? := by
  obtain ⟨rm, N, h1, _⟩ := h.map
  exact hc.block rb h1.lt (h.st.1.map_other h1 h.ne)
/-- What Issue has done where it gave a revision. -/
def IssOk (w wr w' : World) (go gl mb g : Nat) (v row : Value) (ms : List MsgD) (r : Nat) (cl k q : Int) : Prop :=
  1 ≤ q ∧ (revOf (rep ms) k = some q ∧ q ≤ lastR (rep ms) ∨ revOf (rep ms) k = none ∧ lastR (rep ms) < q) ∧ ∃ v' row' ms', StF w w' go gl mb g v' row' ms' r ∧ Chg wr w' (SB go gl mb g v row) ∧ lastR (rep ms') = max (lastR (rep ms)) q ∧ cl ≤ closedR (rep ms') ∧
    (∀ j, revOf (rep ms') j = if j = k then some q else revOf (rep ms) j) ∧ (rep ms').length = (rep ms).length + (if (revOf (rep ms) k).isSome then 0 else 1)
theorem StR.issue (h : StR w wr go gl mb g v row ms r rb cl) (k f : Int) (hk : InI k) (hf : InI f) :
    Calls Try.prog 9 #[.pointer (some ⟨go, 0, none⟩), .int .i64 k, .int .i64 f] wr fun e w' => ∃ q c : Int, e = .returned (.tuple #[.int .i64 q, .int .i64 c]) ∧
      ((c = 0 ∧ IssOk w wr w' go gl mb g v row ms r cl k q ∧ RMap w' rb (rep ms)) ∨ (c = 3 ∧ q = 0 ∧ revOf (rep ms) k = none ∧ StR w w' go gl mb g v row ms r rb cl ∧ Below wr.heap.size wr w')) := by
  have hr := h.st.1.ora.rise
  have hlr := hr.last_rng
  have hfew := h.st.1.few
  have hs := h.st
  cases hj : idx (rep ms) k with
  | some j =>
    obtain ⟨j', x, h1, hx, _⟩ := idx_some (L := rep ms) (k := k) (by
      by_cases hn : k ∈ (rep ms).map (·.id)
      · exact hn
      · rw [idx_none hn] at hj; cases hj)
    rw [hj] at h1
    injection h1 with h1
    subst h1
    refine (issue_old wr hs.1 k f hk j x hj hx).mono ?_
    rintro e w' ⟨rfl, rfl⟩
    have hp := hr.pos x (List.mem_of_getElem? hx)
    have hp2 := hr.le_last (List.mem_of_getElem? hx)
    have hrv := revOf_some hj hx
    refine ⟨x.rev, 0, rfl, .inl ⟨rfl, ⟨hp.1, .inl ⟨hrv, hp2⟩, v, row, ms, hs, Chg.refl _ _, by omega, h.hi, fun j => ?_, by rw [hrv]; simp⟩, h.map⟩⟩
    by_cases hjk : j = k
    · rw [if_pos hjk, hjk, hrv]
    · rw [if_neg hjk]
  | none =>
    have hown : lastR (rep ms) = ((rep ms).length : Int) := hs.2.2
    refine (issue_new wr hs.1 hs.2.1.size k f hk hf hj (by omega)).mono ?_
    rintro e w' ⟨c, rfl, ⟨rfl, _, v', row', h1, h2⟩ | ⟨rfl, _, h1, h2⟩⟩
    · obtain ⟨e1, e2⟩ := hs.2.2.issue (f := f) hj
      have e5 : rep (ms ++ [oD 1 f k (lastR (rep ms) + 1)]) = rep ms ++ [⟨lastR (rep ms) + 1, k, f, false⟩] := by rw [rep_snoc, e1]
      have hrv := revOf_none hj
      refine ⟨lastR (rep ms) + 1, 0, rfl, .inl ⟨rfl, ⟨by omega, .inr ⟨hrv, by omega⟩, v', row', _, ⟨h1, hs.2.1.trans (hs.1.sb_ge h2 hs.2.1.size), by rw [e5]; exact e2⟩, h2, by rw [e5, lastR_push]; show lastR (rep ms) + 1 = _; omega, ?_, fun j => ?_, by rw [e5, hrv]; simp⟩, h.map.kept (h.map_kept h2)⟩⟩
      · rw [e5]
        exact Int.le_trans h.hi (closed_push rfl (by show lastR (rep ms) < lastR (rep ms) + 1; omega))
      · rw [e5]
        exact revOf_push (x := ⟨lastR (rep ms) + 1, k, f, false⟩) hj
    · exact ⟨0, 3, rfl, .inr ⟨rfl, rfl, revOf_none hj, ⟨⟨h1, bell_up hs.2.1 h2, hs.2.2⟩, h.map.below h2, h.ne, h.ge, h.lo, h.hi⟩, h2⟩⟩
/-- Behind the law's store of it. -/
theorem IssOk.next {w3 : World} {k q : Int} {rm : Lit → Option Value} {N : Nat} (hi : IssOk w wr w' go gl mb g v row ms r cl k q) (h : StR w wr go gl mb g v row ms r rb cl) (hm : MapAt w' Try.prog 2 rb rm N) (hN : N ≤ (rep ms).length) (hf : ∀ k, InI k → rm (.int .i64 k) = (revOf (rep ms) k).map (Value.int .i64)) (hk : InI k)
    (hm3 : MapAt w3 Try.prog 2 rb (mset rm (.int .i64 k) (some (.int .i64 q))) (if (rm (.int .i64 k)).isSome then N else N + 1)) (hg3 : w'.grownBy w3 (some rb)) :
    ∃ v' row' ms', StR w w3 go gl mb g v' row' ms' r rb cl ∧ lastR (rep ms') = max (lastR (rep ms)) q := by
  obtain ⟨_, _, v', row', ms', h1, h2, h3, h4, h5, h6⟩ := hi
  refine ⟨v', row', ms', ⟨⟨⟨?_, ?_, h1.1.fine⟩, ?_, h1.2.2⟩, ⟨_, _, hm3, ?_, fun j hj => ?_⟩, h.ne, h.ge, h.lo, h4⟩, h3⟩
  · have hl : Lg w' w.heap.size gl g v' (cat ms') (cat ms').length r ms'.length := h1.1.log
    have hd : Whole w' g 54 _ := hl.disk.blk
    refine ⟨hl.lg.kept (hg3.block gl hl.lg.lt fun e => hm.ne hl.lg (Option.some.inj e)), hl.ge, ⟨hd.kept (hg3.block g hd.lt fun e => hm.ne hd (Option.some.inj e)), hl.disk.ge, owns_keep hl.disk.own fun j hj => hg3.block j (hl.disk.own.lt j hj).2 fun e => ?_, hl.disk.byte, hl.disk.hd, hl.disk.hr, hl.disk.hm⟩⟩
    obtain ⟨_, cur, hW⟩ := owned_block hl.disk.own hj
    exact hm.ne hW (Option.some.inj e)
  · refine h1.1.ora.kept fun j hj => hg3.block j (h1.1.ora.lt hj) fun e => ?_
    have e := Option.some.inj e
    rcases hj with h7 | h7 | h7
    · exact hm.ne h1.1.ora.own (h7.symm.trans e)
    · exact h.ne (e.symm.trans h7)
    · obtain ⟨_, cur, hW⟩ := owned_block h1.1.ora.row h7
      exact hm.ne hW e
  · exact h1.2.1.grown hg3 h1.2.1.size (by rintro j ⟨⟩; exact h.ge)
  · rw [hf k hk, h6]
    cases revOf (rep ms) k <;> simp <;> omega
  · rw [h5]
    by_cases hjk : j = k
    · subst hjk
      rw [if_pos rfl, mset_same (Try.keyL.key (key_long j hj))]
      rfl
    · rw [if_neg hjk, mset_other (fun e => hjk (by injection e)), hf j hj]
theorem StR.resolve (h : StR w wr go gl mb g v row ms r rb cl) (k : Int) (hk : InI k) :
    Calls Try.prog 10 #[.pointer (some ⟨go, 0, none⟩), .int .i64 k] wr fun e w' => ∃ c : Int, e = .returned (.int .i64 c) ∧ (decide (c = 4) = decide ((revOf (rep ms) k).getD 0 = 0)) ∧
      ∃ v' row' ms', StR w w' go gl mb g v' row' ms' r rb cl ∧ Chg wr w' (SB go gl mb g v row) ∧ lastR (rep ms') = lastR (rep ms) ∧ ∀ j, revOf (rep ms') j = revOf (rep ms) j := by
  have hr := h.st.1.ora.rise
  have hs := h.st
  cases hj : idx (rep ms) k with
  | none =>
    refine (resolve_none wr hs.1 k hk hj).mono ?_
    rintro e w' ⟨rfl, rfl⟩
    exact ⟨4, rfl, by rw [revOf_none hj]; rfl, v, row, ms, h, Chg.refl _ _, rfl, fun _ => rfl⟩
  | some j =>
    obtain ⟨j', x, h1, hx, _⟩ := idx_some (L := rep ms) (k := k) (by
      by_cases hn : k ∈ (rep ms).map (·.id)
      · exact hn
      · rw [idx_none hn] at hj; cases hj)
    rw [hj] at h1
    injection h1 with h1
    subst h1
    have hp := hr.pos x (List.mem_of_getElem? hx)
    have hrv := revOf_some hj hx
    have hz : decide ((revOf (rep ms) k).getD 0 = 0) = false := by rw [hrv]; simp; omega
    cases hd : x.done with
    | true =>
      refine (resolve_done wr hs.1 k hk j x hj hx hd).mono ?_
      rintro e w' ⟨rfl, rfl⟩
      exact ⟨0, rfl, by rw [hz]; rfl, v, row, ms, h, Chg.refl _ _, rfl, fun _ => rfl⟩
    | false =>
      refine (resolve_new wr hs.1 hs.2.1.size k hk j x hj hx hd).mono ?_
      rintro e w' ⟨c, rfl, ⟨rfl, _, v', row', h1, h2⟩ | ⟨rfl, _, h1, h2⟩⟩
      · have e1 : rep (ms ++ [oD 2 0 k 0]) = mark (rep ms) j := by rw [rep_snoc]; exact rstep_mark rfl hj
        have hown : Own (mark (rep ms) j) := by unfold Own; rw [lastR_mark, mark_len]; exact hs.2.2
        have hm := h.map.kept (h.map_kept h2)
        obtain ⟨rm, N, m1, m2, m3⟩ := hm
        exact ⟨0, rfl, by rw [hz]; rfl, v', row', _, ⟨⟨h1, hs.2.1.trans (hs.1.sb_ge h2 hs.2.1.size), by rw [e1]; exact hown⟩, ⟨rm, N, m1, by rw [e1, mark_len]; exact m2, fun i hi => by rw [e1, revOf_mark]; exact m3 i hi⟩, h.ne, h.ge, h.lo, by rw [e1]; exact Int.le_trans h.hi (hr.closed_mark j)⟩, h2, by rw [e1, lastR_mark], fun i => by rw [e1, revOf_mark]⟩
      · exact ⟨3, rfl, by rw [hz]; rfl, v, row, ms, ⟨⟨h1, bell_up hs.2.1 h2, hs.2.2⟩, h.map.below h2, h.ne, h.ge, h.lo, h.hi⟩, Chg.ofBelow _ h2, rfl, fun _ => rfl⟩
/-- A crash, and opened again. -/
theorem StR.crash (h : StR w wr go gl mb g v row ms r rb cl) :
    Calls Try.prog 11 #[.pointer (some ⟨g, 0, none⟩), .int .i64 0] wr fun e w' => e = .returned (.tuple #[]) ∧ (∃ v', Dk.DAt w' w.heap.size g v' (cat ms) (cat ms).length r) ∧ Chg wr w' (fun k => k = g) := by
  refine (crash_all wr h.st.1).mono ?_
  rintro e w' ⟨rfl, v', h1, h2⟩
  exact ⟨rfl, ⟨v', h1⟩, h2⟩
theorem StR.again {w1 w2 : World} {go' gl' mb' : Nat} {v' row' : Value} (h : StR w wr go gl mb g v row ms r rb cl) (h1 : Chg wr w1 (fun k => k = g)) (h2 : OS w2 w.heap.size go' gl' mb' g v' row' ms r) (h3 : Chg w1 w2 (fun k => k = g)) (h4 : w1.heap.size ≤ mb') : StR w w2 go' gl' mb' g v' row' ms r rb cl := by
  have hl : Lg wr w.heap.size gl g v (cat ms) (cat ms).length r ms.length := h.st.1.log
  have hd : Whole wr g 54 _ := hl.disk.blk
  obtain ⟨rm, N, m1, m2, m3⟩ := h.map
  have hne : rb ≠ g := fun e => m1.ne hd e.symm
  have hc := h1.trans h3
  refine ⟨⟨h2, h.st.2.1.trans (hc.below (fun k hk => by rw [hk]; exact hl.disk.ge) h.st.2.1.size), h.st.2.2⟩, ⟨rm, N, m1.kept (hc.block rb m1.lt hne), m2, m3⟩, ?_, h.ge, h.lo, h.hi⟩
  have := m1.lt
  have := h1.size
  omega
end
end Go.Proofs.Ytjfllomnphppfaa
