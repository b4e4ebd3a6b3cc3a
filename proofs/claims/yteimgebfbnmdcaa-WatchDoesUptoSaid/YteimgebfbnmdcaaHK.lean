/- The tuples of a set in order: slices.Collect, SortedFunc; the set's sorted. -/
import Derived.Test.YteimgebfbnmdcaaHJ
namespace Go.Proofs.Yteimgebfbnmdcaa
open Go.RowKit Go.Shelf
open Go.Maps (Keyed)

/-- These tuples, in order, each once. -/
structure Ord (p : Tp → Prop) (ts : List Tp) : Prop where
  asc : ts.Pairwise fun a b => ltT a b = true
  mem : ∀ t, t ∈ ts ↔ p t
theorem Ord.unique {p : Tp → Prop} {a b : List Tp} (h : Ord p a) (k : Ord p b) : a = b := sset_unique ordT.irr ordT.tr h.asc k.asc (fun x => by rw [h.mem, k.mem])
theorem Ord.congr {p q : Tp → Prop} {a : List Tp} (h : Ord p a) (hpq : ∀ t, p t ↔ q t) : Ord q a := ⟨h.asc, fun t => by rw [h.mem, hpq]⟩
theorem Ord.nd {p : Tp → Prop} {a : List Tp} (h : Ord p a) : a.Nodup := h.asc.imp fun {a b} hab e => by rw [e, ordT.irr] at hab; cases hab
section
attribute [local go_sem] Oper.semAt_some
set_option maxHeartbeats 1000000 in
theorem collect_in (F : Fence) (n : Nat) (h1 : F.fn 61) (h2 : F.fn 76) (h3 : F.fn 59) (hro : F.round = none) (hn : 4 ≤ n) (Bm b : Nat) (S : List Tp) (w : World) (hBm : Bm < w.heap.size) (hm : w.cell? ⟨Bm, 0, none⟩ = some (.map (some b))) (hS : SetAt w b S) (hlen : S.length ≤ 1099511627776) :
    CallsIn F n Try.prog 59 #[.func (.func 61) #[] #[.pointer (some ⟨Bm, 0, none⟩)]] w fun e W' => ∃ v, ∃ ss : List Tp, e = .returned v ∧ ss.Perm S ∧ W'.ownsRow w.heap.size 47 3 v ss.length (ss.flatMap tc) ∧ Below w.heap.size w W' := by
  have h11 : 1 ≤ n := by omega
  refine callsIn_of_wp Try.func59 rfl h3 ?_ hro
  simp only [Try.ntmps59, List.size_toArray, List.length_cons, List.length_nil, Nat.reduceAdd, Nat.reduceSub, Array.replicate_succ, Array.replicate_zero, List.push_toArray, List.append_toArray, List.nil_append, List.cons_append]
  gi_wp2_with (gi_at_call 76; refine (appendSeq_in F (n - 1) h1 h2 hro (by omega) Bm b S w hBm hm hS hlen).mono ?_; rintro e w' ⟨v, ss, rfl, hS, hrow, hb⟩)
  go_ret
  exact ⟨v, ss, rfl, hS, hrow, hb⟩
end
set_option maxRecDepth 100000 in
set_option maxHeartbeats 4000000 in
theorem sortedFunc_any (Bm b : Nat) (S : List Tp) (w : World) (hBm : Bm < w.heap.size) (hm : w.cell? ⟨Bm, 0, none⟩ = some (.map (some b))) (hS : SetAt w b S) (hlen : S.length ≤ 1099511627776) :
    Calls Try.prog 50 #[.func (.func 61) #[] #[.pointer (some ⟨Bm, 0, none⟩)], .func (.func 31) #[] #[]] w fun e w' => ∃ v, ∃ ts : List Tp, e = .returned v ∧ Ord (· ∈ S) ts ∧ w'.ownsRow w.heap.size 47 3 v ts.length (ts.flatMap tc) ∧ Below w.heap.size w w' := by
  have hc := callsIn_wide.1 (collect_in Fence.wide 6 trivial trivial trivial rfl (by omega) Bm b S w hBm hm hS hlen)
  have HC := Lib.hid hc
  have HN := Lib.hid hS.nd
  have HL := Lib.hid hlen
  clear hc hS hm hlen
  go_enter Try.func50, Try.ntmps50
  go_wp2_with fail
  refine HC.out.mono ?_
  rintro _ w1 ⟨v, ss, rfl, hp, hrow, hb⟩
  have hs := sortT hrow (hp.nodup_iff.2 HN.out) (by rw [hp.length_eq]; exact HL.out)
  obtain ⟨a, c, rfl, _, _⟩ := owned_anyE hrow
  have HS := Lib.hid hs
  have HB := Lib.hid (show Below w.heap.size w w1 from hb)
  have HP := Lib.hid (show ss.Perm S from hp)
  have HW := Lib.hid hrow
  clear hs hb hp hrow HN HL HC
  go_wp2_with fail
  refine HS.out.mono ?_
  rintro _ w2 ⟨rfl, ts, h1, h2, h3, h4⟩
  have HE := Lib.hid (show Ord (· ∈ S) ts ∧ w2.ownsRow w.heap.size 47 3 (.slice a ss.length c) ts.length (ts.flatMap tc) ∧ Below w.heap.size w w2 from ⟨⟨h2, fun t => by rw [h1.mem_iff, HP.out.mem_iff]⟩, h3, HB.out.grown h4 HB.out.size (fun k e => (HW.out.lt k e).1)⟩)
  clear h1 h2 h3 h4
  go_wp2
  go_ret
  exact ⟨_, ts, rfl, HE.out⟩
set_option maxRecDepth 100000 in
set_option maxHeartbeats 4000000 in
theorem sorted_any {w : World} {b : Nat} {S : List Tp} (hS : SetAt w b S) (hlen : S.length ≤ 1099511627776) :
    Calls Try.prog 34 #[.map (some b)] w fun e w' => ∃ v, ∃ ts : List Tp, e = .returned v ∧ Ord (· ∈ S) ts ∧ w'.ownsRow w.heap.size 47 3 v ts.length (ts.flatMap tc) ∧ Below w.heap.size w w' := by
  have hk : ∀ w, Calls Try.prog 51 #[.map (some b)] w fun e w' => e = .returned (.func (.func 61) #[] #[.pointer (some ⟨w.heap.size, 0, none⟩)]) ∧ w' = w.alloc (.cells #[.map (some b)] 68) := fun w => by
    go_enter Try.func51, Try.ntmps51
    go_wp2
    go_ret
    exact ⟨rfl, rfl⟩
  obtain ⟨w1, hw1⟩ : ∃ w1, w1 = w.alloc (.cells #[.map (some b)] 68) := ⟨_, rfl⟩
  have hb1 : Below w.heap.size w w1 := by rw [hw1]; exact below_alloc _ _
  have hX : Whole w1 w.heap.size 68 #[.map (some b)] := by rw [hw1]; exact heap_alloc_new _ _
  have hs := sortedFunc_any w.heap.size b S w1 hX.lt (hX.cell 0) (hS.below hb1) hlen
  have HK := Lib.hid (hk w)
  rw [← hw1] at HK
  have HS := Lib.hid (hs.mono (R' := fun e w' => ∃ v, ∃ ts : List Tp, e = .returned v ∧ Ord (· ∈ S) ts ∧ w'.ownsRow w.heap.size 47 3 v ts.length (ts.flatMap tc) ∧ Below w.heap.size w w') (fun e w' ⟨v, ts, q1, q2, q3, q4⟩ => ⟨v, ts, q1, q2, ⟨q3.1, q3.2.imp_right fun ⟨g, cap, cur, h1, h2, h3⟩ => ⟨g, cap, cur, h1, Nat.le_trans hb1.size h2, h3⟩⟩, bell_up hb1 q4⟩))
  clear hs hk hS hX hw1 hb1 hlen
  go_enter Try.func34, Try.ntmps34
  go_wp2_with fail
  refine HK.out.mono ?_
  rintro _ w2 ⟨rfl, rfl⟩
  go_wp2_with fail
  refine HS.out.mono ?_
  rintro _ w3 ⟨v, ts, rfl, q⟩
  have HE := Lib.hid q
  clear q
  go_wp2
  go_ret
  exact ⟨_, ts, rfl, HE.out⟩
end Go.Proofs.Yteimgebfbnmdcaa
