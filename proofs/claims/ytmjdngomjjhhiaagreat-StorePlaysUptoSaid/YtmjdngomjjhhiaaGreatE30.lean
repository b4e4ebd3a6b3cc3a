/- All rows of a store, in order. -/
import Derived.Test.YtmjdngomjjhhiaaGreatE29
import Derived.Maps.RangeWalk
namespace Go.Proofs.YtmjdngomjjhhiaaGreat
open Go.RowKit
open Go.Maps (Keyed)

def tq (t : Tp) : Tq := (t.o, t.r, t.u)
theorem tq_inj {a b : Tp} (h : tq a = tq b) : a = b := by
  cases a; cases b
  simp [tq] at h
  simp [h]
/-- The order of the tuples. -/
def ltT (a b : Tp) : Bool := decide (cmpT (tq a) (tq b) = -1)
theorem ordT : TOrd ltT where
  irr a := by
    have : cmpT (tq a) (tq a) = 0 := (cmpT_zero _ _).2 rfl
    unfold ltT; rw [this]; rfl
  tr a b c h1 h2 := by
    unfold ltT at *
    simp at h1 h2 ⊢
    have h3 := cmpT_trans (tq a) (tq b) (tq c) (by omega) (by omega)
    rcases cmpT_range (tq a) (tq c) with h4 | h4 | h4
    · exact h4
    · have := (cmpT_zero _ _).1 h4
      rw [this, cmpT_neg] at h1
      omega
    · omega
  tri a b hn h := by
    unfold ltT at *
    simp at h ⊢
    rcases cmpT_range (tq a) (tq b) with h4 | h4 | h4
    · exact absurd h4 h
    · exact absurd (tq_inj ((cmpT_zero _ _).1 h4)) hn
    · rw [cmpT_neg, h4]
/-- The rows of some tuples. -/
def rowsOf (M : SM) (ts : List Tp) : List Rw := ts.flatMap fun t => (M.sp t).map fun x => ⟨t, x.s, x.u⟩
theorem rowsOf_rep {M : SM} (h : SMOk M) {ts : List Tp} (hp : ts.Perm M.K) (hs : ts.Pairwise fun a b => ltT a b = true) : Rep ltT M (rowsOf M ts) := by
  refine ⟨?_, fun t s u => ?_⟩
  · unfold RSorted rowsOf
    rw [List.pairwise_flatMap]
    refine ⟨fun t ht => ?_, hs.imp fun {a b} hab x hx y hy => ?_⟩
    · have hk := h.ok t (hp.mem_iff.1 ht)
      rw [List.pairwise_map]
      refine hk.asc.imp_of_mem fun {a b} ha _ hab => ?_
      unfold rlt
      rw [if_pos rfl]
      have := (hk.all a ha).2.2
      simp; omega
    · obtain ⟨p, _, rfl⟩ := List.mem_map.1 hx
      obtain ⟨q, _, rfl⟩ := List.mem_map.1 hy
      unfold rlt
      have hne : ¬ a = b := fun e => by rw [e, ordT.irr] at hab; cases hab
      show (if a = b then _ else ltT a b) = true
      rw [if_neg hne]; exact hab
  · unfold rowsOf
    rw [List.mem_flatMap]
    constructor
    · rintro ⟨t2, _, hx⟩
      obtain ⟨p, hp2, e⟩ := List.mem_map.1 hx
      injection e with e1 e2 e3
      subst e1
      cases p
      simp at e2 e3
      rw [← e2, ← e3]; exact hp2
    · intro hx
      have ht : t ∈ M.K := by
        by_cases ht : t ∈ M.K
        · exact ht
        · rw [h.no t ht] at hx; exact absurd hx (by simp)
      exact ⟨t, hp.mem_iff.2 ht, List.mem_map.2 ⟨_, hx, rfl⟩⟩
/-- Rows as they lie. -/
def rwc (l : List Rw) : List Value := l.flatMap fun r => [.string r.t.o, .string r.t.r, .string r.t.u, .int .i64 r.s, .int .i64 r.u]
theorem rwc_append (l m : List Rw) : rwc (l ++ m) = rwc l ++ rwc m := by unfold rwc; rw [List.flatMap_append]
theorem rwc_length (l : List Rw) : (rwc l).length = l.length * 5 := by
  induction l with
  | nil => rfl
  | cons p l ih =>
    show (_ ++ rwc l).length = _
    rw [List.length_append, ih, List.length_cons]
    simp; omega
/-- How many spans. -/
def SM.tot (M : SM) : Nat := (M.K.map fun t => (M.sp t).length).sum
theorem rowsOf_length (M : SM) (ts : List Tp) : (rowsOf M ts).length = (ts.map fun t => (M.sp t).length).sum := by
  unfold rowsOf
  rw [List.length_flatMap]
  simp
theorem rowsOf_tot {M : SM} {ts : List Tp} (hp : ts.Perm M.K) : (rowsOf M ts).length = M.tot := by
  rw [rowsOf_length]
  exact (hp.map _).sum_nat
theorem infoR : (Tryz.prog.info? 46).map (fun i => (i.zero, i.size, i.bytes)) = some (some (.agg #[.string ⟨#[]⟩, .string ⟨#[]⟩, .string ⟨#[]⟩, .int .i64 0, .int .i64 0]), 5, 64) := by kernel_rfl
theorem made_row {P : Program} (w : World) (t e : TypeId) (i : TypeInfo) (z : Value) (size bytes : Nat) (ht : P.underlying t = some (.slice e)) (hi : P.info? e = some i) (hz : i.zero = some z) (hsize : i.size = size) (hby : i.bytes = bytes)
    (n m : Nat) (hnm : n ≤ m) (hm : m * bytes ≤ 140737488355328) (hm2 : m ≤ maxLen) :
    ∃ cs, (Instr.makeSlice t (.int .i64 (n : Int)) (.int .i64 (m : Int))).run P w = .ok (.slice (some ⟨w.heap.size, 0, none⟩) n m) (w.alloc (.cells cs e)) ∧ cs.size = m * size := by
  have hmb : bytes * m ≤ 140737488355328 := by rw [Nat.mul_comm]; exact hm
  have hr := run_make (P := P) w t e i z ht hi hz .i64 .i64 n m (by omega) (by omega) (by rw [hby]; omega) (by unfold maxLen at hm2; omega)
  simp only [Int.toNat_natCast] at hr
  rw [hsize] at hr
  exact ⟨_, hr, by rw [size_madeCells]⟩
end Go.Proofs.YtmjdngomjjhhiaaGreat
