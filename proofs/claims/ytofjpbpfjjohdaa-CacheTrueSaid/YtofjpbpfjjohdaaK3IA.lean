/- The cache of int,int: findable, tie, New, find. -/
import Derived.Test.YtofjpbpfjjohdaaK2IA
import Derived.Tactics
import Derived.Tactics2
import Derived.Defers
import Derived.Recover
namespace Go.Proofs.Ytofjpbpfjjohdaa.KA
open Go.RowKit Go.Proofs.Ytofjpbpfjjohdaa
open Go.Maps (Keyed)

set_option maxHeartbeats 1000000 in
theorem door_idle (w : World) : CallsD Try.prog 31 #[] .returning w fun e u' w' => e = .returned (.tuple #[]) ∧ u' = .returning ∧ w' = w := by
  refine callsD_of_wpS Try.func31 rfl fun c₀ cs hu => ?_
  apply wpS_region
  simp [wpOpsS, go_sem, recoverD, hu, Try.ntmps31]
  cases c₀
  simp_all [bodyPostS, results, Try.results31]
set_option maxHeartbeats 1000000 in
theorem findable_any (k : Int) (w : World) :
    Calls Try.prog 21 #[Value.int .i64 k] w fun e w' => e = .returned (.bool true) ∧ w = w' := by
  skip
  go_enter_defers Try.func21, Try.ntmps21
  go_wp2
  refine leaves_cons (f := 31) (args := #[]) (by simp) (by simp [go_sem]) ?_
  refine (door_idle _).mono ?_
  rintro e u' w'' ⟨rfl, rfl, rfl⟩
  simp [Leaves, settle, results, Try.results21, go_sem]

set_option maxHeartbeats 1000000 in
theorem tie_any {g : Nat} {r : Rest} {N : Nat → Value × Value} (w : World) (h : Nodes w g r 0 N []) :
    Calls Try.prog 15 #[.pointer (some ⟨g, 0, none⟩)] w fun x w' => x = .returned (.tuple #[]) ∧ RingAt w' g r 0 [] ∧ Chg w w' (fun b => b = g) := by
  obtain ⟨a1, a2, a3, a4, a5⟩ := h.cells (b := g) (by simp)
  have HN := Lib.hid h
  generalize N g = Ng at *
  clear h
  go_enter Try.func15, Try.ntmps15
  go_wp2
  go_region
  all_goals go_wp2
  all_goals
    go_end0
    have h1 := (HN.out.setN (b := g) (at_ g)).setO (b := g) (at_ g)
    have hC := ((Chg.refl w (fun b => b = g)).set rfl 3 (at_ g)).set (b := g) rfl 4 (at_ g)
    exact ⟨rfl, ⟨⟨_, h1.drew, by simp [Linked, setO_same, setN_same]⟩, by simp⟩, hC.drew⟩

/-- A cache lies in block g, its index in block b: its room, its entries, the one used last first. -/
structure CAt (w : World) (B g b size : Nat) (es : List En) (f m : Int) : Prop where
  ring : RingAt w g ⟨size, b, f, m⟩ (es.length : Int) es
  map : ∃ mm, MapAt w Try.prog 3 b mm es.length ∧ ∀ k : Int, (-9223372036854775808 ≤ k ∧ k ≤ 9223372036854775807) → mm (.int .i64 k) = (es.find? (fun t => decide (t.2.1 = k))).map (fun t => at_ t.1)
  keys : (es.map (·.2.1)).Nodup
  kr : ∀ p k v, (p, k, v) ∈ es → -9223372036854775808 ≤ k ∧ k ≤ 9223372036854775807
  len : es.length ≤ size
  lo : 1 ≤ size
  hi : size ≤ 4096
  geg : B ≤ g
  geb : B ≤ b
  gep : ∀ p ∈ es.map (·.1), B ≤ p
def findV (es : List En) (k : Int) : Value := ((es.find? (fun t => decide (t.2.1 = k))).map (fun t => at_ t.1)).getD (.pointer none)
theorem Try.keyed : Keyed Try.prog 3 := Go.Maps.int_keyed Try.underlying3
theorem Try.zeroE (w : World) : (zeroValue 45).run Try.prog w = .ok (.pointer none) w := by kernel_rfl
theorem key_of (k : Int) (h : -9223372036854775808 ≤ k ∧ k ≤ 9223372036854775807) : keyOf Try.prog 3 (Value.int .i64 k) = some (.int .i64 k) := Go.Maps.keyOf_int_mk Try.underlying3 (by simp [Lit.wf, IntKind.min, IntKind.max, IntKind.signed, IntKind.bits]; omega)
theorem CAt.look {w : World} {B g b size : Nat} {es : List En} {f m : Int} (h : CAt w B g b size es f m) (k : Int) (hk : -9223372036854775808 ≤ k ∧ k ≤ 9223372036854775807) :
    (Instr.lookup 44 (.map (some b)) (Value.int .i64 k) false).run Try.prog w = .ok (findV es k) w := by
  obtain ⟨mm, hm, hf⟩ := h.map
  have := hm.look Try.keyed Try.underlying44 (Try.zeroE w) false (key_of k hk)
  rw [hf k hk] at this
  exact this
set_option maxHeartbeats 1000000 in
theorem find_any {B g b size : Nat} {es : List En} {f m : Int} (k : Int) (w : World) (h : CAt w B g b size es f m) (hk : -9223372036854775808 ≤ k ∧ k ≤ 9223372036854775807) :
    Calls Try.prog 16 #[.pointer (some ⟨g, 0, none⟩), Value.int .i64 k] w fun x w' => x = .returned (findV es k) ∧ w = w' := by
  have hlk := h.look k hk
  obtain ⟨N, hN, _⟩ := h.ring.ex
  obtain ⟨_, _, d6, _, _, _, _, _⟩ := hN.counts
  have HF := Lib.hid (findable_any k w)
  generalize findV es k = fv at *
  clear h hN hk
  go_enter Try.func16, Try.ntmps16
  go_wp2_with fail
  refine HF.out.mono ?_
  rintro x w1 ⟨rfl, rfl⟩
  go_wp2
  go_ret
  exact ⟨rfl, rfl⟩

set_option maxHeartbeats 1000000 in
theorem new_bad (r : Int) (w : World) (h : r < 1 ∨ 4096 < r) :
    Calls Try.prog 5 #[.int .i64 r] w fun e w' => e = .returned (.tuple #[.pointer none, .int .i64 1]) ∧ w = w' := by
  rcases h with h | h
  all_goals
    go_enter Try.func5, Try.ntmps5
    go_wp2
    go_ret2
    exact ⟨rfl, rfl⟩
set_option maxHeartbeats 1000000 in
theorem new_good (B n : Nat) (w : World) (h1 : 1 ≤ n) (h2 : n ≤ 4096) (hB : B ≤ w.heap.size) :
    Calls Try.prog 5 #[.int .i64 (n : Int)] w fun e w' => ∃ g b, e = .returned (.tuple #[.pointer (some ⟨g, 0, none⟩), .int .i64 0]) ∧ CAt w' B g b n [] 0 0 ∧ w.heap.size ≤ g ∧ w.heap.size ≤ b ∧ Below w.heap.size w w' := by
  have hn1 : ¬ (n : Int) < 1 := by omega
  have hn2 : ¬ 4096 < (n : Int) := by omega
  have hmk := @run_makeMap Try.prog
  have hz : (w.alloc (.map #[] 0)).heap.size = w.heap.size + 1 := by simp
  have hN : Nodes ((w.alloc (.map #[] 0)).alloc (.cells #[Value.int .i64 0, Value.int .i64 0, Value.int .i64 0, .pointer none, .pointer none, .int .i64 0, .int .i64 (n : Int), .map (some w.heap.size), .int .i64 0, .int .i64 0] 51)) (w.heap.size + 1) ⟨n, w.heap.size, 0, 0⟩ 0 (fun _ => (.pointer none, .pointer none)) [] := by
    refine ⟨⟨Value.int .i64 0, Value.int .i64 0, Value.int .i64 0, ?_⟩, fun p k v hp => by cases hp⟩
    rw [← hz]
    exact heap_alloc_new _ _
  have HT := Lib.hid (tie_any _ hN)
  have HM := Lib.hid ((MapAt.made w Try.prog 3).below (below_alloc _ (.cells #[Value.int .i64 0, Value.int .i64 0, Value.int .i64 0, .pointer none, .pointer none, .int .i64 0, .int .i64 (n : Int), .map (some w.heap.size), .int .i64 0, .int .i64 0] 51)))
  have HB := Lib.hid ((below_alloc w (.map #[] 0)).trans ((below_alloc _ (.cells #[Value.int .i64 0, Value.int .i64 0, Value.int .i64 0, .pointer none, .pointer none, .int .i64 0, .int .i64 (n : Int), .map (some w.heap.size), .int .i64 0, .int .i64 0] 51)).mono (by simp)))
  clear hN hz
  go_enter Try.func5, Try.ntmps5
  go_wp2_with fail
  refine HT.out.mono ?_
  rintro x w1 ⟨rfl, hr, hc⟩
  have HR := Lib.hid hr
  have HC := Lib.hid hc
  clear hr hc
  go_wp2
  go_ret2
  have hmap := HM.out.kept (HC.out.block w.heap.size HM.out.lt (by omega))
  exact ⟨_, _, rfl, ⟨HR.out, ⟨_, hmap, fun _ _ => rfl⟩, by simp, (fun p k v hp => by cases hp), Nat.zero_le _, h1, h2, by omega, hB, by simp⟩, by omega, Nat.le_refl _, HB.out.trans (HC.out.below (fun k hk => by omega) HB.out.size)⟩
end Go.Proofs.Ytofjpbpfjjohdaa.KA
