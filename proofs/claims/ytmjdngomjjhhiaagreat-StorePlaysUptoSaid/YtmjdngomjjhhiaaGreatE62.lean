/- StoreBoth: one store in a memory; who has a relation and what a user has, counted. -/
import Derived.Test.YtmjdngomjjhhiaaGreatE61
namespace Go.Proofs.YtmjdngomjjhhiaaGreat
open Go.RowKit
open Go.Maps (Keyed)

/-- How often a thing stands in a list. -/
def cn {α : Type} [DecidableEq α] (a : α) (l : List α) : Nat := (l.filter fun x => decide (x = a)).length
theorem cn_nd {α : Type} [DecidableEq α] (a : α) : ∀ {l : List α}, l.Nodup → cn a l = if a ∈ l then 1 else 0 := by
  intro l
  induction l with
  | nil => intro _; rfl
  | cons x l ih =>
    intro h
    obtain ⟨h1, h2⟩ := List.nodup_cons.1 h
    have ih := ih h2
    unfold cn at ih ⊢
    rw [List.filter_cons]
    by_cases hx : x = a
    · subst hx
      rw [if_neg h1] at ih
      simp [ih]
    · have : ¬ a = x := fun e => hx e.symm
      simp [hx, this, ih]
theorem cn_take {α : Type} [DecidableEq α] (a : α) {l : List α} {i : Nat} {x : α} (h : l[i]? = some x) : cn a (l.take (i + 1)) = cn a (l.take i) + if x = a then 1 else 0 := by
  unfold cn
  rw [List.take_add_one, h, List.filter_append, List.length_append]
  by_cases hx : x = a <;> simp [hx]
theorem cn_le {α : Type} [DecidableEq α] (a : α) (l : List α) (i : Nat) : cn a (l.take i) ≤ i := by
  have h1 := List.length_filter_le (fun x => decide (x = a)) (l.take i)
  rw [List.length_take] at h1
  unfold cn; omega
theorem cn_perm {α : Type} [DecidableEq α] (a : α) {l m : List α} (h : l.Perm m) : cn a l = cn a m := (h.filter _).length_eq
/-- Users as texts. -/
def usL (ts : List Tp) : List ByteArray := (sortS (uOf ts)).map fun s => ⟨s.toArray⟩
theorem usL_enc (ts : List Tp) : (sortS (uOf ts)).map encS = (usL ts).map .string := by unfold usL; rw [List.map_map]; rfl
theorem usL_perm (ts : List Tp) : (usL ts).Perm (ts.map Tp.u) := by
  unfold usL sortS
  refine ((List.mergeSort_perm _ _).map _).trans ?_
  unfold uOf
  rw [List.map_map]
  exact .of_eq (List.map_congr_left fun t _ => rfl)
theorem usL_len (ts : List Tp) : (usL ts).length = ts.length := by rw [(usL_perm ts).length_eq, List.length_map]
theorem spThere_known {M : SM} (hm : SMOk M) {t : Tp} {rev : Int} (h : spThere (M.sp t) rev = true) : t ∈ M.K := (hm.mem_iff t).2 fun e => by rw [e, spThere_nil] at h; cases h
theorem users_count {M : SM} (hm : SMOk M) {t : Tp} {rev : Int} {ts : List Tp} (h : UsersOk M t.o t.r rev ts) : cn t.u (usL ts) = if spThere (M.sp t) rev = true then 1 else 0 := by
  rw [cn_perm _ (usL_perm ts)]
  have hnd : (ts.map Tp.u).Nodup := by
    refine List.pairwise_map.2 (h.nd.imp_of_mem fun {a b} ha hb hne he => hne ?_)
    have h1 := ((h.mem a).1 ha).2.1
    have h2 := ((h.mem b).1 hb).2.1
    obtain ⟨ao, ar, au⟩ := a
    obtain ⟨bo, br, bu⟩ := b
    simp only at h1 h2 he
    rw [h1.1, h1.2, h2.1, h2.2, he]
  rw [cn_nd _ hnd]
  have hiff : t.u ∈ ts.map Tp.u ↔ spThere (M.sp t) rev = true := by
    rw [List.mem_map]
    constructor
    · rintro ⟨x, hx, he⟩
      obtain ⟨_, ⟨h1, h2⟩, h3⟩ := (h.mem x).1 hx
      have : x = t := by
        cases x; cases t
        simp only at h1 h2 he
        rw [h1, h2, he]
      rw [← this]; exact h3
    · intro h1
      exact ⟨t, (h.mem t).2 ⟨spThere_known hm h1, ⟨rfl, rfl⟩, h1⟩, rfl⟩
  simp only [hiff]
theorem of_count {M : SM} (hm : SMOk M) {t : Tp} {rev : Int} {ts : List Tp} (h : OfOk M t.u rev ts) : cn t ts = if spThere (M.sp t) rev = true then 1 else 0 := by
  rw [cn_nd _ h.nd]
  have hiff : t ∈ ts ↔ spThere (M.sp t) rev = true := by
    rw [h.mem]
    exact ⟨fun h1 => h1.2.2, fun h1 => ⟨spThere_known hm h1, rfl, h1⟩⟩
  simp only [hiff]
/-- The rows that are there. -/
def alive (rev : Int) (x : Rw) : Bool := (⟨x.s, x.u⟩ : Sp).at_ rev
theorem alive_no1 {rev : Int} {x : Rw} (h : ¬ x.s ≤ rev) : alive rev x = false := by unfold alive Sp.at_; simp [h]
theorem alive_open {rev : Int} {x : Rw} (h : x.s ≤ rev) (h2 : x.u = 0) : alive rev x = true := by unfold alive Sp.at_ Sp.over; simp [h, h2]
theorem alive_late {rev : Int} {x : Rw} (h : x.s ≤ rev) (h2 : rev < x.u) : alive rev x = true := by
  unfold alive Sp.at_ Sp.over
  have : ¬ x.u ≤ rev := by omega
  simp [h, this]
theorem alive_over {rev : Int} {x : Rw} (h0 : x.u ≠ 0) (h2 : x.u ≤ rev) : alive rev x = false := by unfold alive Sp.at_ Sp.over; simp [h0, h2]
def lives (rev : Int) (R : List Rw) : List Rw := R.filter (alive rev)
theorem lives_take {rev : Int} {R : List Rw} {i : Nat} {x : Rw} (h : R[i]? = some x) : (lives rev (R.take (i + 1))).length = (lives rev (R.take i)).length + if alive rev x = true then 1 else 0 := by
  unfold lives
  rw [List.take_add_one, h, List.filter_append, List.length_append]
  cases ha : alive rev x <;> simp [ha]
theorem lives_le (rev : Int) (R : List Rw) (i : Nat) : (lives rev (R.take i)).length ≤ R.length := by
  have := List.length_filter_le (alive rev) (R.take i)
  rw [List.length_take] at this
  unfold lives; omega
/-- Tuples that were there are no more than rows that were. -/
theorem lives_bound {M : SM} {R : List Rw} {lt : Tp → Tp → Bool} (hr : Rep lt M R) {rev : Int} {L : List Tp} (hn : L.Nodup) (hl : ∀ t ∈ L, spThere (M.sp t) rev = true) : L.length ≤ (lives rev R).length := by
  rw [← List.length_map (f := Rw.t)]
  refine nd_len hn fun t ht => ?_
  have := hl t ht
  unfold spThere at this
  rw [List.any_eq_true] at this
  obtain ⟨⟨s, u⟩, h1, h2⟩ := this
  exact List.mem_map.2 ⟨⟨t, s, u⟩, List.mem_filter.2 ⟨(hr.mem _ _ _).2 h1, h2⟩, rfl⟩
theorem row_ok {M : SM} (hm : SMOk M) {R : List Rw} {lt : Tp → Tp → Bool} (hr : Rep lt M R) {x : Rw} (hx : x ∈ R) : 1 ≤ x.s ∧ (x.u = 0 ∨ x.s < x.u) := by
  have h1 := (hr.mem x.t x.s x.u).1 hx
  have h2 : x.t ∈ M.K := (hm.mem_iff _).2 fun e => by rw [e] at h1; cases h1
  obtain ⟨a, _, b⟩ := (hm.ok _ h2).all _ h1
  exact ⟨a, b.elim .inl fun h => .inr h.1⟩
/-- One store in a memory. -/
structure One (W0 wr : World) (g : Nat) (M : SM) (H : Gh) (c : Nat) : Prop where
  a : StAt wr 0 M H c
  ga : H.g = g
  oa : ∀ k, H.own k → W0.heap.size ≤ k
  bel : Below W0.heap.size W0 wr
section
variable {W0 wr w' : World} {g : Nat} {M M' : SM} {H H' : Gh} {c c' : Nat}
theorem One.below (h : One W0 wr g M H c) (hb : Below wr.heap.size wr w') : One W0 w' g M H c := ⟨h.a.below hb, h.ga, h.oa, bell_up h.bel hb⟩
theorem One.mono (h : One W0 wr g M H c) (h1 : c ≤ c') : One W0 wr g M H c' := ⟨h.a.mono h1, h.ga, h.oa, h.bel⟩
theorem One.step (h : One W0 wr g M H c) (hs : StAt w' 0 M' H' c') (k : StC wr w' H H') : One W0 w' g M' H' c' := by
  obtain ⟨l', o'⟩ := k.since h.bel h.oa
  exact ⟨hs, k.g.trans h.ga, o', l'⟩
theorem One.apply (h : One W0 wr g M H c) {a : Option Addr} {n : Nat} {l : List Mu} (hm : MutsAt W0 a n l) (cp : Nat) (rev : Int) (hc : c + 5 * n ≤ 1099511627000) :
    Calls Tryz.prog 11 #[ptr g, .int .i64 rev, .slice a n cp] wr fun e w' => e = .returned (.int .i64 (chkE M 0 rev l)) ∧ ∃ H', One W0 w' g (M.tried 0 rev l) H' (c + 5 * n) := by
  have hp := apply_any h.a (hm.below h.bel) (c := cp) (hm.apart h.oa) hc rev
  rw [h.ga] at hp
  refine hp.mono ?_
  rintro e w' ⟨rfl, H', hs, hst⟩
  exact ⟨rfl, H', h.step hs hst⟩
theorem One.rows (h : One W0 wr g M H c) (hc : c ≤ 1099511627776) (ht : M.tot ≤ 1099511627776) :
    Calls Tryz.prog 10 #[ptr g] wr fun e w' => ∃ v R, e = .returned v ∧ Rep ltT M R ∧ R.length = M.tot ∧ w'.ownsRow wr.heap.size 46 5 v R.length (rwc R) ∧ Below wr.heap.size wr w' := by
  have hp := rows_any h.a hc ht
  rw [h.ga] at hp
  exact hp
theorem One.has (h : One W0 wr g M H c) (hc : c ≤ 1099511627776) {rev : Int} (h0 : 0 ≤ rev) {t : Tp} (hf : t.fits) :
    Calls Tryz.prog 13 #[ptr g, tpV t, .int .i64 rev] wr fun e w' => e = .returned (.tuple #[.bool (spThere (M.sp t) rev), .int .i64 0]) ∧ Below wr.heap.size wr w' := by
  have hr0 : readableB 0 rev = 0 := by unfold readableB; rw [if_neg (by omega), if_neg (by omega)]
  have hp := has_any h.a hf hc rev
  unfold hasB at hp
  rw [h.ga, hr0, if_pos rfl] at hp
  exact hp
theorem One.users (h : One W0 wr g M H c) (hc : c ≤ 1099511627776) {o r : ByteArray} (ho : o.size ≤ 1000000000000000000) (hr : r.size ≤ 1000000000000000000) {rev : Int} (h0 : 0 ≤ rev) :
    Calls Tryz.prog 12 #[ptr g, .string o, .string r, .int .i64 rev] wr fun e w' => ∃ v ts, e = .returned (.tuple #[v, .int .i64 0]) ∧ UsersOk M o r rev ts ∧ w'.ownsRow wr.heap.size 9 1 v ts.length ((usL ts).map .string) ∧ Below wr.heap.size wr w' := by
  have hr0 : readableB 0 rev = 0 := by unfold readableB; rw [if_neg (by omega), if_neg (by omega)]
  have hp := users_any h.a hc ho hr rev
  rw [h.ga, hr0] at hp
  refine hp.mono ?_
  rintro e w' ⟨v, ts, he, hu, _, hrow, hb⟩
  rw [usL_enc] at hrow
  exact ⟨v, ts, he, hu rfl, hrow, hb⟩
theorem One.bad (h : One W0 wr g M H c) (hc : c ≤ 1099511627776) {o r : ByteArray} (ho : o.size ≤ 1000000000000000000) (hr : r.size ≤ 1000000000000000000) {rev : Int} (h0 : rev < 0) :
    Calls Tryz.prog 12 #[ptr g, .string o, .string r, .int .i64 rev] wr fun e w' => ∃ v, e = .returned (.tuple #[v, .int .i64 1]) ∧ Below wr.heap.size wr w' := by
  have hr0 : readableB 0 rev = 1 := by unfold readableB; rw [if_pos h0]
  have hp := users_any h.a hc ho hr rev
  rw [h.ga, hr0] at hp
  refine hp.mono ?_
  rintro e w' ⟨v, ts, he, hu, _, hrow, hb⟩
  exact ⟨v, he, hb⟩
theorem One.of (h : One W0 wr g M H c) (hc : c ≤ 1099511627776) {u : ByteArray} (hu : u.size ≤ 1000000000000000000) {rev : Int} (h0 : 0 ≤ rev) :
    Calls Tryz.prog 14 #[ptr g, .string u, .int .i64 rev] wr fun e w' => ∃ v ts, e = .returned (.tuple #[v, .int .i64 0]) ∧ OfOk M u rev ts ∧ w'.ownsRow wr.heap.size 32 3 v ts.length (ts.flatMap tc) ∧ Below wr.heap.size wr w' := by
  have hr0 : readableB 0 rev = 0 := by unfold readableB; rw [if_neg (by omega), if_neg (by omega)]
  have hp := of_any h.a hc hu rev
  rw [h.ga, hr0] at hp
  refine hp.mono ?_
  rintro e w' ⟨v, ts, he, hu, _, hrow, hb⟩
  exact ⟨v, ts, he, (hu rfl).1, hrow, hb⟩
end
/-- A text in a row of a call's own; a tuple in one. -/
theorem usL_at {w : World} {B : Nat} {a : Option Addr} {n c : Nat} {l : List ByteArray} (h : w.ownsRow B 9 1 (.slice a n c) n (l.map .string)) (hn : 0 < n) : ∃ b, a = some ⟨b, 0, none⟩ ∧ b < w.heap.size ∧ ∀ (i : Nat) (s : ByteArray), l[i]? = some s → w.cell? ⟨b, i, none⟩ = some (.string s) := by
  obtain ⟨b, c', he, hb, hc⟩ := own_cells h hn
  injection he with e1 e2 e3
  subst e1
  exact ⟨b, rfl, hb, fun i s hi => hc _ _ (by rw [List.getElem?_map, hi]; rfl)⟩
theorem tcs_at {w : World} {B : Nat} {a : Option Addr} {n c : Nat} {l : List Tp} (h : w.ownsRow B 32 3 (.slice a n c) n (l.flatMap tc)) (hn : 0 < n) : ∃ b, a = some ⟨b, 0, none⟩ ∧ b < w.heap.size ∧ ∀ (i : Nat) (t : Tp), l[i]? = some t → w.cell? ⟨b, 0 + i * 3, none⟩ = some (.string t.o) ∧ w.cell? ⟨b, 0 + i * 3 + 1, none⟩ = some (.string t.r) ∧ w.cell? ⟨b, 0 + i * 3 + 2, none⟩ = some (.string t.u) := by
  obtain ⟨b, c', he, hb, hc⟩ := own_cells h hn
  injection he with e1 e2 e3
  subst e1
  refine ⟨b, rfl, hb, fun i t hi => ?_⟩
  rw [Nat.zero_add]
  exact ⟨hc _ _ (fm_at tc_len hi (j := 0) (by omega)), hc _ _ (fm_at tc_len hi (j := 1) (by omega)), hc _ _ (fm_at tc_len hi (j := 2) (by omega))⟩
end Go.Proofs.YtmjdngomjjhhiaaGreat
