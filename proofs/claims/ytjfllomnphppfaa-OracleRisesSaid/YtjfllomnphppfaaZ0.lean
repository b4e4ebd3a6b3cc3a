/- The oracle's revisions as lists. -/
import Derived.Test.YtjfllomnphppfaaL7
import Derived.Test.YtjfllomnphppfaaNLie
import Derived.Test.YtjfllomnphppfaaNMap
namespace Go.Proofs.Ytjfllomnphppfaa
open Go.RowKit
open Go.Maps (Keyed)

def InI (k : Int) : Prop := -9223372036854775808 ≤ k ∧ k ≤ 9223372036854775807
/-- A revision that was given out. -/
structure Iss where
  rev : Int
  id : Int
  fr : Int
  done : Bool
def isc (x : Iss) : List Value := [.int .i64 x.rev, .int .i64 x.id, .int .i64 x.fr, .bool x.done]
theorem isc_len (x : Iss) : (isc x).length = 4 := rfl
def iscs (L : List Iss) : List Value := L.flatMap isc
theorem iscs_len (L : List Iss) : (iscs L).length = L.length * 4 := fm_len isc_len L
theorem iscs_append (L M : List Iss) : iscs (L ++ M) = iscs L ++ iscs M := by unfold iscs; rw [List.flatMap_append]
theorem iscs_at {L : List Iss} {i : Nat} {x : Iss} (h : L[i]? = some x) : (iscs L)[i * 4]? = some (.int .i64 x.rev) ∧ (iscs L)[i * 4 + 1]? = some (.int .i64 x.id) ∧ (iscs L)[i * 4 + 2]? = some (.int .i64 x.fr) ∧ (iscs L)[i * 4 + 3]? = some (.bool x.done) :=
  ⟨fm_at (j := 0) isc_len h (by decide), fm_at (j := 1) isc_len h (by decide), fm_at (j := 2) isc_len h (by decide), fm_at (j := 3) isc_len h (by decide)⟩
/-- So many at the front are resolved. -/
def leadN : List Iss → Nat
  | [] => 0
  | x :: L => if x.done then leadN L + 1 else 0
theorem leadN_le : ∀ L : List Iss, leadN L ≤ L.length
  | [] => Nat.le_refl _
  | x :: L => by
    have := leadN_le L
    unfold leadN
    split <;> simp only [List.length_cons] <;> omega
theorem leadN_done : ∀ {L : List Iss} {i : Nat} {x : Iss}, i < leadN L → L[i]? = some x → x.done = true
  | [], _, _, h, _ => by cases h
  | y :: L, i, x, h, hx => by
    unfold leadN at h
    cases hd : y.done with
    | false => rw [hd] at h; simp at h
    | true =>
      rw [hd] at h
      simp only [if_true] at h
      cases i with
      | zero => simp at hx; rw [← hx]; exact hd
      | succ i => exact leadN_done (L := L) (i := i) (by omega) (by simpa using hx)
theorem leadN_stop : ∀ {L : List Iss} {x : Iss}, L[leadN L]? = some x → x.done = false
  | [], _, h => by simp at h
  | y :: L, x, h => by
    unfold leadN at h
    cases hd : y.done with
    | false => rw [hd] at h; simp at h; rw [← h]; exact hd
    | true =>
      rw [hd] at h
      simp only [if_true, List.getElem?_cons_succ] at h
      exact leadN_stop h
theorem leadN_of : ∀ {L : List Iss} {o : Nat}, o ≤ L.length → (∀ i x, i < o → L[i]? = some x → x.done = true) → (∀ x, L[o]? = some x → x.done = false) → leadN L = o
  | [], o, h, _, _ => by simp at h; rw [h]; rfl
  | y :: L, 0, _, _, h3 => by
    have := h3 y (by simp)
    unfold leadN
    rw [this]
    rfl
  | y :: L, o + 1, h, h2, h3 => by
    have hd := h2 0 y (by omega) (by simp)
    unfold leadN
    rw [hd]
    simp only [if_true]
    congr 1
    exact leadN_of (by simpa using h) (fun i x hi hx => h2 (i + 1) x (by omega) (by simpa using hx)) (fun x hx => h3 x (by simpa using hx))
theorem leadN_push (L : List Iss) (x : Iss) (hx : x.done = false) : leadN (L ++ [x]) = leadN L := by
  have hl := leadN_le L
  refine leadN_of (by simp; omega) (fun i y hi hy => ?_) (fun y hy => ?_)
  · rw [List.getElem?_append_left (by omega)] at hy
    exact leadN_done hi hy
  · rcases Nat.lt_or_ge (leadN L) L.length with h | h
    · rw [List.getElem?_append_left h] at hy
      exact leadN_stop hy
    · rw [List.getElem?_append_right h, show leadN L - L.length = 0 by omega] at hy
      simp at hy
      rw [← hy]
      exact hx
/-- One is resolved. -/
def mark (L : List Iss) (i : Nat) : List Iss := L.modify i fun x => { x with done := true }
theorem mark_at (L : List Iss) (i j : Nat) : (mark L i)[j]? = if i = j then L[j]?.map (fun x => { x with done := true }) else L[j]? := by
  unfold mark
  rw [List.getElem?_modify]
  split
  · rfl
  · simp
theorem mark_len (L : List Iss) (i : Nat) : (mark L i).length = L.length := by unfold mark; rw [List.length_modify]
theorem mark_ids (L : List Iss) (i : Nat) : (mark L i).map (·.id) = L.map (·.id) := by
  apply List.ext_getElem?
  intro j
  rw [List.getElem?_map, List.getElem?_map, mark_at]
  split
  · rw [Option.map_map]; rfl
  · rfl
theorem mark_lead (L : List Iss) (i : Nat) : leadN L ≤ leadN (mark L i) := by
  rcases Nat.lt_or_ge (leadN (mark L i)) (leadN L) with h | h
  · have hl := leadN_le L
    have hlt : leadN (mark L i) < (mark L i).length := by rw [mark_len]; omega
    have h1 := leadN_stop (List.getElem?_eq_getElem hlt)
    have h2 : ((mark L i)[leadN (mark L i)]'hlt).done = true := by
      have h3 : (mark L i)[leadN (mark L i)]? = some ((mark L i)[leadN (mark L i)]'hlt) := List.getElem?_eq_getElem hlt
      rw [mark_at] at h3
      obtain ⟨y, hy⟩ : ∃ y, L[leadN (mark L i)]? = some y := ⟨_, List.getElem?_eq_getElem (by omega)⟩
      have h4 := leadN_done h hy
      rw [hy] at h3
      split at h3
      · simp at h3; rw [← h3]
      · injection h3 with h3; rw [← h3]; exact h4
    rw [h1] at h2
    cases h2
  · exact h
def idx (L : List Iss) (k : Int) : Option Nat := L.findIdx? (fun x => decide (x.id = k))
theorem idx_none {L : List Iss} {k : Int} (h : k ∉ L.map (·.id)) : idx L k = none := by
  unfold idx
  rw [List.findIdx?_eq_none_iff]
  intro x hx
  simp
  rintro rfl
  exact h (List.mem_map.2 ⟨x, hx, rfl⟩)
theorem idx_some {L : List Iss} {k : Int} (h : k ∈ L.map (·.id)) : ∃ i x, idx L k = some i ∧ L[i]? = some x ∧ x.id = k := by
  unfold idx
  cases hf : L.findIdx? (fun x => decide (x.id = k)) with
  | none =>
    rw [List.findIdx?_eq_none_iff] at hf
    obtain ⟨x, hx, hk⟩ := List.mem_map.1 h
    have := hf x hx
    simp at this
    exact absurd hk this
  | some i =>
    obtain ⟨hi, hp, _⟩ := List.findIdx?_eq_some_iff_getElem.1 hf
    exact ⟨i, L[i], rfl, List.getElem?_eq_getElem hi, by simpa using hp⟩
theorem idx_push {L : List Iss} {k : Int} (x : Iss) : idx (L ++ [x]) k = if k ∈ L.map (·.id) then idx L k else if x.id = k then some L.length else none := by
  by_cases h : k ∈ L.map (·.id)
  · rw [if_pos h]
    obtain ⟨i, y, h1, _, _⟩ := idx_some h
    unfold idx at h1 ⊢
    rw [List.findIdx?_append, h1]
    rfl
  · rw [if_neg h]
    have h1 := idx_none h
    unfold idx at h1 ⊢
    rw [List.findIdx?_append, h1]
    by_cases hk : x.id = k
    · rw [if_pos hk]; simp [hk]
    · rw [if_neg hk]; simp [hk]
theorem idx_mark (L : List Iss) (i : Nat) (k : Int) : idx (mark L i) k = idx L k := by
  have e : ∀ M : List Iss, idx M k = (M.map (·.id)).findIdx? (fun y => decide (y = k)) := fun M => by unfold idx; rw [List.findIdx?_map]; rfl
  rw [e, e, mark_ids]
/-- A record. -/
def oD (k f i r : Int) : MsgD := ⟨k, f, 0, i, r, 0, 0, false, [], [], [], []⟩
theorem od_in64 {k f i r : Int} (h1 : InI k) (h2 : InI f) (h3 : InI i) (h4 : InI r) : (oD k f i r).in64 := ⟨h1, h2, in0, h3, h4, in0, in0, by simp [oD], by simp [oD]⟩
theorem od_good {k f i r : Int} (h1 : InI k) (h2 : InI f) (h3 : InI i) (h4 : InI r) : (oD k f i r).good := by
  refine ⟨⟨by simp [oD], ⟨by simp [oD], by simp [oD]⟩, ⟨by simp [oD], by simp [oD]⟩, ⟨by simp [oD], by simp [oD]⟩⟩, ?_⟩
  have e1 := Vi.int_length k h1.1 h1.2
  have e2 := Vi.int_length f h2.1 h2.2
  have e3 := Vi.int_length i h3.1 h3.2
  have e4 := Vi.int_length r h4.1 h4.2
  have h0 := Vi.int_length 0 (by omega) (by omega)
  simp only [enc, oD, List.length_append, lst, List.map_nil, List.flatten_nil, List.length_nil, List.length_singleton]
  have : ((0 : Nat) : Int) = 0 := rfl
  rw [this]
  omega
theorem od_fine {k f i r : Int} (h1 : InI k) (h2 : InI f) (h3 : InI i) (h4 : InI r) : (oD k f i r).fine := ⟨od_good h1 h2 h3 h4, od_in64 h1 h2 h3 h4⟩
theorem od_in (w : World) {k f i r : Int} (h1 : InI k) (h2 : InI f) (h3 : InI i) (h4 : InI r) : MsgIn w (.agg #[.int .i64 k, .int .i64 f, .int .i64 0, .int .i64 i, .int .i64 r, .int .i64 0, .int .i64 0, .bool false, .slice none 0 0, .slice none 0 0, .slice none 0 0, .slice none 0 0]) (oD k f i r) :=
  ⟨none, none, none, none, 0, 0, 0, 0, 0, 0, 0, 0, ⟨rfl, h1, h2, in0, h3, h4, in0, in0, ⟨rfl, .inl rfl⟩, ⟨rfl, .inl rfl⟩, ⟨rfl, .inl rfl⟩, ⟨rfl, .inl rfl⟩, by omega, by omega, by omega, by omega⟩⟩
/-- The last revision. -/
def lastR (L : List Iss) : Int := match L.getLast? with
  | some x => x.rev
  | none => 0
theorem lastR_nil : lastR [] = 0 := rfl
theorem lastR_push (L : List Iss) (x : Iss) : lastR (L ++ [x]) = x.rev := by unfold lastR; rw [List.getLast?_concat]
theorem lastR_at {L : List Iss} {x : Iss} (h : L[L.length - 1]? = some x) : lastR L = x.rev := by unfold lastR; rw [List.getLast?_eq_getElem?, h]
theorem lastR_eq (L : List Iss) : lastR L = ((L.map (·.rev)).getLast?).getD 0 := by
  unfold lastR
  rw [List.getLast?_map]
  cases L.getLast? <;> rfl
theorem mark_revs (L : List Iss) (i : Nat) : (mark L i).map (·.rev) = L.map (·.rev) := by
  apply List.ext_getElem?
  intro j
  rw [List.getElem?_map, List.getElem?_map, mark_at]
  split
  · rw [Option.map_map]; rfl
  · rfl
theorem lastR_mark (L : List Iss) (i : Nat) : lastR (mark L i) = lastR L := by rw [lastR_eq, lastR_eq, mark_revs]
/-- Up to this revision nothing is open. -/
def closedR (L : List Iss) : Int := match L[leadN L]? with
  | some x => x.rev - 1
  | none => lastR L
theorem closedR_end {L : List Iss} (h : leadN L = L.length) : closedR L = lastR L := by unfold closedR; rw [h, List.getElem?_eq_none (Nat.le_refl _)]
theorem closedR_at {L : List Iss} {x : Iss} (h : L[leadN L]? = some x) : closedR L = x.rev - 1 := by unfold closedR; rw [h]
/-- What records come to, one by one. -/
def rstep (L : List Iss) (m : MsgD) : List Iss := if m.kind = 1 then (if idx L m.id = none ∧ lastR L < m.rev then L ++ [⟨m.rev, m.id, m.from_, false⟩] else L) else if m.kind = 2 then (match idx L m.id with
  | some i => mark L i
  | none => L) else L
def rep (ms : List MsgD) : List Iss := ms.foldl rstep []
theorem rep_snoc (ms : List MsgD) (m : MsgD) : rep (ms ++ [m]) = rstep (rep ms) m := by unfold rep; rw [List.foldl_append]; rfl
theorem rstep_new {L : List Iss} {m : MsgD} (h1 : m.kind = 1) (h2 : idx L m.id = none) (h3 : lastR L < m.rev) : rstep L m = L ++ [⟨m.rev, m.id, m.from_, false⟩] := by unfold rstep; rw [if_pos h1, if_pos ⟨h2, h3⟩]
theorem rstep_mark {L : List Iss} {m : MsgD} {i : Nat} (h1 : m.kind = 2) (h2 : idx L m.id = some i) : rstep L m = mark L i := by unfold rstep; rw [if_neg (by omega), if_pos h1, h2]
theorem rstep_same {L : List Iss} {m : MsgD} (h : ¬ (m.kind = 1 ∧ idx L m.id = none ∧ lastR L < m.rev)) (h2 : ¬ (m.kind = 2 ∧ idx L m.id ≠ none)) : rstep L m = L := by
  unfold rstep
  split
  · next h1 => rw [if_neg fun h3 => h ⟨h1, h3⟩]
  · split
    · next h1 =>
      cases hi : idx L m.id with
      | none => rfl
      | some i => exact absurd ⟨h1, by rw [hi]; simp⟩ h2
    · rfl
/-- Revisions that rise. -/
structure Rise (L : List Iss) : Prop where
  nd : (L.map (·.id)).Nodup
  rng : ∀ x ∈ L, InI x.id ∧ InI x.fr
  asc : (L.map (·.rev)).Pairwise (· < ·)
  pos : ∀ x ∈ L, 1 ≤ x.rev ∧ x.rev ≤ 9223372036854775807
theorem Rise.nil : Rise [] := ⟨by simp, by simp, by simp, by simp⟩
theorem lastR_mem {L : List Iss} (h : L ≠ []) : ∃ x ∈ L, lastR L = x.rev := by
  have h1 : L.length ≠ 0 := by intro h2; exact h (List.eq_nil_of_length_eq_zero h2)
  exact ⟨L[L.length - 1], List.getElem_mem _, lastR_at (List.getElem?_eq_getElem (by omega))⟩
theorem Rise.last_rng {L : List Iss} (h : Rise L) : 0 ≤ lastR L ∧ lastR L ≤ 9223372036854775807 := by
  by_cases h0 : L = []
  · rw [h0]; exact ⟨by decide, by decide⟩
  · obtain ⟨x, hx, e⟩ := lastR_mem h0
    have := h.pos x hx
    omega
theorem Rise.le_last {L : List Iss} (h : Rise L) {x : Iss} (hx : x ∈ L) : x.rev ≤ lastR L := by
  obtain ⟨i, hi, rfl⟩ := List.getElem_of_mem hx
  have hl : lastR L = L[L.length - 1].rev := lastR_at (List.getElem?_eq_getElem (by omega))
  rw [hl]
  rcases Nat.lt_or_ge i (L.length - 1) with h1 | h1
  · have := List.pairwise_iff_getElem.1 h.asc i (L.length - 1) (by simpa using hi) (by simp; omega) h1
    simp at this
    omega
  · have : i = L.length - 1 := by omega
    subst this
    exact Int.le_refl _
theorem Rise.push {L : List Iss} (h : Rise L) {r f i : Int} (hi : i ∉ L.map (·.id)) (hf : InI f) (hii : InI i) (hr : lastR L < r) (hr2 : r ≤ 9223372036854775807) : Rise (L ++ [⟨r, i, f, false⟩]) := by
  have h0 := h.last_rng
  refine ⟨?_, fun x hx => ?_, ?_, fun x hx => ?_⟩
  · rw [List.map_append]
    refine List.nodup_append.2 ⟨h.nd, by simp, ?_⟩
    intro a ha b hb e
    simp at hb
    rw [e, hb] at ha
    exact hi (by simpa using ha)
  · rcases List.mem_append.1 hx with h1 | h1
    · exact h.rng x h1
    · rw [List.mem_singleton] at h1
      rw [h1]
      exact ⟨hii, hf⟩
  · rw [List.map_append]
    refine List.pairwise_append.2 ⟨h.asc, by simp, ?_⟩
    intro a ha b hb
    obtain ⟨x, hx, rfl⟩ := List.mem_map.1 ha
    simp at hb
    rw [hb]
    have := h.le_last hx
    omega
  · rcases List.mem_append.1 hx with h1 | h1
    · exact h.pos x h1
    · rw [List.mem_singleton] at h1
      rw [h1]
      exact ⟨by show 1 ≤ r; omega, hr2⟩
theorem mark_get {L : List Iss} {i j : Nat} {x : Iss} (hx : (mark L i)[j]? = some x) : ∃ y : Iss, L[j]? = some y ∧ x.rev = y.rev ∧ x.id = y.id ∧ x.fr = y.fr := by
  rw [mark_at] at hx
  split at hx
  · obtain ⟨y, hy, rfl⟩ := Option.map_eq_some_iff.1 hx
    exact ⟨y, hy, rfl, rfl, rfl⟩
  · exact ⟨x, hx, rfl, rfl, rfl⟩
theorem Rise.mark {L : List Iss} (h : Rise L) (i : Nat) : Rise (mark L i) := by
  refine ⟨by rw [mark_ids]; exact h.nd, fun x hx => ?_, by rw [mark_revs]; exact h.asc, fun x hx => ?_⟩
  · obtain ⟨j, hj⟩ := List.getElem?_of_mem hx
    obtain ⟨y, hy, _, h2, h3⟩ := mark_get hj
    rw [h2, h3]
    exact h.rng y (List.mem_of_getElem? hy)
  · obtain ⟨j, hj⟩ := List.getElem?_of_mem hx
    obtain ⟨y, hy, h1, _, _⟩ := mark_get hj
    rw [h1]
    exact h.pos y (List.mem_of_getElem? hy)
theorem idx_none_iff {L : List Iss} {k : Int} : idx L k = none ↔ k ∉ L.map (·.id) := by
  constructor
  · intro h hm
    obtain ⟨i, _, h1, _⟩ := idx_some hm
    rw [h] at h1; cases h1
  · exact idx_none
theorem Rise.step {L : List Iss} (h : Rise L) {m : MsgD} (hm : m.in64) : Rise (rstep L m) := by
  have hid : InI m.id := hm.id
  have hfr : InI m.from_ := hm.from_
  have hrv : InI m.rev := hm.rev
  by_cases h1 : m.kind = 1 ∧ idx L m.id = none ∧ lastR L < m.rev
  · rw [rstep_new h1.1 h1.2.1 h1.2.2]
    exact h.push (idx_none_iff.1 h1.2.1) hfr hid h1.2.2 hrv.2
  · by_cases h2 : m.kind = 2 ∧ idx L m.id ≠ none
    · obtain ⟨i, hi⟩ := Option.ne_none_iff_exists'.1 h2.2
      rw [rstep_mark h2.1 hi]
      exact h.mark i
    · rw [rstep_same h1 h2]
      exact h
theorem Rise.rep {ms : List MsgD} (h : ∀ m ∈ ms, m.in64) : Rise (rep ms) := by
  suffices g : ∀ (ms : List MsgD) (L : List Iss), Rise L → (∀ m ∈ ms, m.in64) → Rise (ms.foldl rstep L) from g ms [] Rise.nil h
  intro ms
  induction ms with
  | nil => intro L hL _; exact hL
  | cons m ms ih => intro L hL hm; exact ih _ (hL.step (hm m (by simp))) fun x hx => hm x (by simp [hx])
theorem rstep_len (L : List Iss) (m : MsgD) : L.length ≤ (rstep L m).length ∧ (rstep L m).length ≤ L.length + 1 := by
  by_cases h1 : m.kind = 1 ∧ idx L m.id = none ∧ lastR L < m.rev
  · rw [rstep_new h1.1 h1.2.1 h1.2.2]; simp
  · by_cases h2 : m.kind = 2 ∧ idx L m.id ≠ none
    · obtain ⟨i, hi⟩ := Option.ne_none_iff_exists'.1 h2.2
      rw [rstep_mark h2.1 hi, mark_len]; omega
    · rw [rstep_same h1 h2]; omega
theorem rep_len (ms : List MsgD) : (rep ms).length ≤ ms.length := by
  suffices g : ∀ (ms : List MsgD) (L : List Iss), (ms.foldl rstep L).length ≤ L.length + ms.length by simpa [Go.Proofs.Ytjfllomnphppfaa.rep] using g ms []
  intro ms
  induction ms with
  | nil => intro L; simp
  | cons m ms ih =>
    intro L
    have h1 := ih (rstep L m)
    have h2 := (rstep_len L m).2
    simp only [List.foldl_cons, List.length_cons]
    omega
/-- The open ones, as messages. -/
def pend (L : List Iss) : List MsgD := (L.filter fun x => !x.done).map fun x => oD 1 x.fr x.id x.rev
theorem pend_nil : pend [] = [] := rfl
theorem pend_snoc (L : List Iss) (x : Iss) : pend (L ++ [x]) = pend L ++ if x.done then [] else [oD 1 x.fr x.id x.rev] := by
  unfold pend
  rw [List.filter_append, List.map_append]
  cases h : x.done <;> simp [h]
theorem pend_lead : ∀ L : List Iss, pend (L.drop (leadN L)) = pend L
  | [] => rfl
  | x :: L => by
    unfold leadN
    cases h : x.done with
    | false => rfl
    | true =>
      simp only [if_true, List.drop_succ_cons]
      rw [pend_lead L]
      simp [pend, h]
theorem pend_le (L : List Iss) : (pend L).length ≤ L.length := by unfold pend; rw [List.length_map]; exact List.length_filter_le _ _
end Go.Proofs.Ytjfllomnphppfaa
