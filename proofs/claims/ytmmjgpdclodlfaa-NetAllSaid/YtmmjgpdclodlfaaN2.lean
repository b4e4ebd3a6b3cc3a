/- The network: Send. -/
import Derived.Test.YtmmjgpdclodlfaaN1
import Derived.Deep.RegionLaw
import Derived.Maps.AppendAt
namespace Go.Proofs.Ytmmjgpdclodlfaa
open Go.RowKit

theorem step_append_row {P : Program} (w : World) {ops : Array Oper} {o : Oper} {a : Act} {K : Act → World → Prop} {Q : Exit → Act → World → Prop} {E : Prop} (hgd : o.guard = none) (s x : Operand) (t : TypeId)
    (ho : o.op = .call { callee := .builtin .append, args := #[s, x], argTypes := #[t, t] })
    (B : Nat) (i : TypeInfo) (z : Value) (ht : P.underlying t = some (.slice 32)) (hi : P.info? 32 = some i) (hz : i.zero = some z)
    (hsize : i.size = 3) (hby : i.bytes = 40) (hzs : z.cells.size = 3)
    (v : Value) (n : Nat) (xs : List Value) (hs : a.eval s = v) (hown : FRow w B v n xs)
    (ad : Addr) (m c : Nat) (news : List Value) (hx : a.eval x = .slice (some ad) m c) (hl : news.length = m * 3)
    (hnews : ∀ j u, news[j]? = some u → w.cell? (ad.add j) = some u) (h1 : ∀ u ∈ news, u.oneCell' = true)
    (h63 : n + m ≤ maxLen) (hbytes : (n + m) * 40 ≤ 140737488355328) (hbase : B ≤ w.heap.size)
    (h : ∀ v' w', FRow w' B v' (n + m) (xs ++ news) → w.grownBy w' v.ownBlock → (∀ q, v'.ownBlock = some q → v.ownBlock = some q ∨ w.heap.size ≤ q) → K (a.put o.dst v') w') :
    if Region.wanted o (yielded ops a.tmps) = true then Oper.wp P o a w K Q else E := by
  have hw : Region.wanted o (yielded ops a.tmps) = true := by simp [Region.wanted, hgd]
  rw [if_pos hw]
  obtain ⟨v', w', hr, h2, h3, h4⟩ := run_append_row (P := P) w t o.type B i z ht hi hz hsize hby hzs v n xs hown ad m c news hl hnews h1 h63 hbytes hbase
  unfold Oper.wp execOp
  simp only [ho, resolve, invoke, builtin, Sem.run_bind, Sem.run_pure, Result.andThen_ok, List.map_toArray, List.map_cons, List.map_nil, hs, hx, hr]
  exact h v' w' h2 h3 h4
/-- clone, in a world that has more memory than the one in which the packet is known. -/
theorem clone_at {a : Option Addr} {c : Nat} {xs : List Int} (fr dst : Int) {w2 W : World} (h : PkIn w2 a c xs) (hb : Below w2.heap.size w2 W) :
    Calls Try.prog 21 #[.agg #[.int .i64 fr, .int .i64 dst, .slice a xs.length c]] W fun e w' => (∃ ua uc, e = .returned (.agg #[.int .i64 fr, .int .i64 dst, .slice ua xs.length uc]) ∧ PkAt w' w2.heap.size ⟨fr, dst, .slice ua xs.length uc, xs⟩) ∧ Below w2.heap.size w2 w' ∧ Below W.heap.size W w' := by
  refine (clone_any fr dst W (h.below hb)).mono ?_
  rintro e w' ⟨⟨u, rfl, hu⟩, hb'⟩
  obtain ⟨ua, uc, hv, _⟩ := hu.isb
  simp only at hv
  subst hv
  exact ⟨⟨ua, uc, rfl, ⟨hu.own.mono hb.size, hu.byte, hu.small⟩⟩, hb.trans (hb'.mono hb.size), hb'⟩

section
variable {B g c : Nat} {nodes : Int} {v : Value} {ps : List Pk} {a : Option Addr} {xs : List Int}
theorem one_packet (W : World) (q : Nat) (x y z : Value) (hq : q = W.heap.size) : ∀ j u, [x, y, z][j]? = some u → (W.alloc (.cells #[x, y, z] 32)).cell? ((⟨q, 0, none⟩ : Addr).add j) = some u := by
  subst hq
  intro j u hu
  rw [add_plain, Nat.zero_add, new_cell]
  simpa using hu
set_option maxRecDepth 100000 in
set_option maxHeartbeats 4000000 in
theorem send_range (fr dst : Int) (w : World) (h : NAt w B g nodes v ps) (hr : fr < 0 ∨ nodes ≤ fr ∨ dst < 0 ∨ nodes ≤ dst) :
    Calls Try.prog 8 #[.pointer (some ⟨g, 0, none⟩), .agg #[.int .i64 fr, .int .i64 dst, .slice a xs.length c]] w fun e w' => e = .returned (.int .i64 1) ∧ Below w.heap.size w w' := by
  obtain ⟨w0, hw0⟩ : ∃ w0, w0 = w.alloc (.cells #[.int .i64 fr, .int .i64 dst, .slice a xs.length c] 32) := ⟨_, rfl⟩
  have hb0 : Below w.heap.size w w0 := by rw [hw0]; exact below_alloc _ _
  have hx0 : Whole w0 w.heap.size 32 #[.int .i64 fr, .int .i64 dst, .slice a xs.length c] := by rw [hw0]; exact heap_alloc_new _ _
  have H0 := Lib.hid (h.below hb0)
  have HB := Lib.hid hb0
  obtain ⟨⟨a0, a1, a2⟩, b0, b1, b2⟩ := three_of hx0
  have HH := Lib.hid (fun x : Int => has_any x w0 H0.out)
  clear h hb0 hx0
  by_cases hf : fr < 0 ∨ nodes ≤ fr
  · have HF := Lib.hid (show (decide (0 ≤ fr) && decide (fr < nodes)) = false by rw [Bool.and_eq_false_iff, decide_eq_false_iff_not, decide_eq_false_iff_not]; omega)
    clear hr hf
    go_enter Try.func8, Try.ntmps8
    go_wp2_with fail
    rw [← hw0]
    clear hw0
    refine (HH.out fr).mono ?_
    rintro e w' ⟨rfl, rfl⟩
    rw [HF.out]
    go_wp2
    go_ret
    exact ⟨rfl, HB.out⟩
  · have HF := Lib.hid (show (decide (0 ≤ fr) && decide (fr < nodes)) = true by rw [Bool.and_eq_true, decide_eq_true_eq, decide_eq_true_eq]; omega)
    have HD := Lib.hid (show (decide (0 ≤ dst) && decide (dst < nodes)) = false by rw [Bool.and_eq_false_iff, decide_eq_false_iff_not, decide_eq_false_iff_not]; omega)
    clear hr hf
    go_enter Try.func8, Try.ntmps8
    go_wp2_with fail
    rw [← hw0]
    clear hw0
    refine (HH.out fr).mono ?_
    rintro e w' ⟨rfl, rfl⟩
    rw [HF.out]
    go_wp2_with fail
    refine (HH.out dst).mono ?_
    rintro e w' ⟨rfl, rfl⟩
    rw [HD.out]
    go_wp2
    go_ret
    exact ⟨rfl, HB.out⟩
set_option maxRecDepth 100000 in
set_option maxHeartbeats 4000000 in
theorem send_full (fr dst : Int) (w : World) (h : NAt w B g nodes v ps) (h1 : 0 ≤ fr) (h2 : fr < nodes) (h3 : 0 ≤ dst) (h4 : dst < nodes) (hn : 4096 ≤ ps.length) :
    Calls Try.prog 8 #[.pointer (some ⟨g, 0, none⟩), .agg #[.int .i64 fr, .int .i64 dst, .slice a xs.length c]] w fun e w' => e = .returned (.int .i64 3) ∧ Below w.heap.size w w' := by
  obtain ⟨w0, hw0⟩ : ∃ w0, w0 = w.alloc (.cells #[.int .i64 fr, .int .i64 dst, .slice a xs.length c] 32) := ⟨_, rfl⟩
  have hb0 : Below w.heap.size w w0 := by rw [hw0]; exact below_alloc _ _
  have hx0 : Whole w0 w.heap.size 32 #[.int .i64 fr, .int .i64 dst, .slice a xs.length c] := by rw [hw0]; exact heap_alloc_new _ _
  have H0 := Lib.hid (h.below hb0)
  have HB := Lib.hid hb0
  obtain ⟨⟨a0, a1, a2⟩, b0, b1, b2⟩ := three_of hx0
  obtain ⟨c0, c1, f0, f1⟩ := H0.out.cells
  obtain ⟨va, vc, rfl, _⟩ := H0.out.row.lies
  have HH := Lib.hid (fun x : Int => has_any x w0 H0.out)
  have HF := Lib.hid (show (decide (0 ≤ fr) && decide (fr < nodes)) = true by rw [Bool.and_eq_true, decide_eq_true_eq, decide_eq_true_eq]; omega)
  have HD := Lib.hid (show (decide (0 ≤ dst) && decide (dst < nodes)) = true by rw [Bool.and_eq_true, decide_eq_true_eq, decide_eq_true_eq]; omega)
  clear h hb0 hx0 h1 h2 h3 h4
  go_enter Try.func8, Try.ntmps8
  go_wp2_with fail
  rw [← hw0]
  clear hw0
  refine (HH.out fr).mono ?_
  rintro e w' ⟨rfl, rfl⟩
  rw [HF.out]
  go_wp2_with fail
  refine (HH.out dst).mono ?_
  rintro e w' ⟨rfl, rfl⟩
  rw [HD.out]
  go_wp2
  go_ret
  exact ⟨rfl, HB.out⟩
end
end Go.Proofs.Ytmmjgpdclodlfaa
