/- The walk of code.Decode. -/
import Derived.Test.YteodldmbnghfcaaGreatC19
namespace Go.Proofs.YteodldmbnghfcaaGreat
open Go.RowKit

/-- The message of some bytes, or the error. -/
def dec (xs : List Int) : Except Int MsgR := if 16384 < xs.length then .error 2 else match rmsg xs with
  | .error c => .error c
  | .ok (m, ys) => if ys = [] then .ok m else .error 21
/-- What a call of Decode comes to. -/
def DDone (w : World) (r : Except Int MsgR) (e : Ending) (w' : World) : Prop :=
  (∃ m v8 v9 v10 v11, r = .ok m ∧ e = .returned (.tuple #[.agg (msgC m v8 v9 v10 v11), .int .i64 0]) ∧ MOwn w' w.heap.size m v8 v9 v10 v11 ∧ Below w.heap.size w w') ∨
  (∃ c, r = .error c ∧ e = .returned (.tuple #[.agg MsgZ, .int .i64 c]) ∧ Below w.heap.size w w')
/-- The three new blocks of Decode. -/
def decW (w : World) (v : Value) : World := ((w.alloc (.cells MsgZ 43)).alloc (.cells #[.int .i64 0] 25)).alloc (.cells #[v] 153)
theorem decW_size (w : World) (v : Value) : (decW w v).heap.size = w.heap.size + 3 := by simp [decW]
theorem decW_below (w : World) (v : Value) : Below w.heap.size w (decW w v) :=
  (((Below.refl _ _).alloc (Nat.le_refl _) _).alloc (by simp) _).alloc (by simp; omega) _
theorem decW_at (w : World) (v : Value) : Whole (decW w v) w.heap.size 43 MsgZ ∧ Whole (decW w v) (w.heap.size + 1) 25 #[.int .i64 0] ∧ Whole (decW w v) (w.heap.size + 1 + 1) 153 #[v] := by
  obtain ⟨w1, h1⟩ : ∃ w1, w1 = w.alloc (.cells MsgZ 43) := ⟨_, rfl⟩
  obtain ⟨w2, h2⟩ : ∃ w2, w2 = w1.alloc (.cells #[.int .i64 0] 25) := ⟨_, rfl⟩
  obtain ⟨w3, h3⟩ : ∃ w3, w3 = w2.alloc (.cells #[v] 153) := ⟨_, rfl⟩
  have e : decW w v = w3 := by rw [h3, h2, h1]; rfl
  have s1 : w1.heap.size = w.heap.size + 1 := by rw [h1]; simp
  have s2 : w2.heap.size = w.heap.size + 1 + 1 := by rw [h2]; simp [s1]
  rw [e]
  have a0 : Whole w1 w.heap.size 43 MsgZ := by rw [h1]; exact heap_alloc_new w _
  have a1 : Whole w2 (w.heap.size + 1) 25 #[.int .i64 0] := by rw [h2, ← s1]; exact heap_alloc_new w1 _
  have a2 : Whole w3 (w.heap.size + 1 + 1) 153 #[v] := by rw [h3, ← s2]; exact heap_alloc_new w2 _
  have k2 : ∀ k, k < w.heap.size + 1 → w2.heap[k]? = w1.heap[k]? := fun k hk => by rw [h2]; exact Below.heap_alloc _ _ _ (by omega)
  have k3 : ∀ k, k < w.heap.size + 1 + 1 → w3.heap[k]? = w2.heap[k]? := fun k hk => by rw [h3]; exact Below.heap_alloc _ _ _ (by omega)
  exact ⟨(a0.kept (k2 _ (by omega))).kept (k3 _ (by omega)), a1.kept (k3 _ (by omega)), a2⟩
theorem decW_rat {w : World} {v : Value} {xs : List Int} (h : LiesAt w w.heap.size v xs) : RAt (decW w v) w.heap.size (w.heap.size + 1 + 1) v xs :=
  ⟨(decW_at w v).2.2, by omega, h.keep (decW_below w v).block⟩

theorem twelve_whole {w : World} {k b : Nat} {t : TypeId} {cs : Array Value} (h : Whole w k t cs) (hk : k ≠ b) (y0 y1 y2 y3 y4 y5 y6 y7 y8 y9 y10 y11 : Value) : Whole ((((((((((((w.setCell ⟨b, 0, none⟩ y0).setCell ⟨b, 1, none⟩ y1).setCell ⟨b, 2, none⟩ y2).setCell ⟨b, 3, none⟩ y3).setCell ⟨b, 4, none⟩ y4).setCell ⟨b, 5, none⟩ y5).setCell ⟨b, 6, none⟩ y6).setCell ⟨b, 7, none⟩ y7).setCell ⟨b, 8, none⟩ y8).setCell ⟨b, 9, none⟩ y9).setCell ⟨b, 10, none⟩ y10).setCell ⟨b, 11, none⟩ y11) k t cs := by
  have h0 : Whole (w.setCell ⟨b, 0, none⟩ y0) k t cs := h.far b 0 hk y0
  have h1 : Whole ((w.setCell ⟨b, 0, none⟩ y0).setCell ⟨b, 1, none⟩ y1) k t cs := h0.far b 1 hk y1
  have h2 : Whole (((w.setCell ⟨b, 0, none⟩ y0).setCell ⟨b, 1, none⟩ y1).setCell ⟨b, 2, none⟩ y2) k t cs := h1.far b 2 hk y2
  have h3 : Whole ((((w.setCell ⟨b, 0, none⟩ y0).setCell ⟨b, 1, none⟩ y1).setCell ⟨b, 2, none⟩ y2).setCell ⟨b, 3, none⟩ y3) k t cs := h2.far b 3 hk y3
  have h4 : Whole (((((w.setCell ⟨b, 0, none⟩ y0).setCell ⟨b, 1, none⟩ y1).setCell ⟨b, 2, none⟩ y2).setCell ⟨b, 3, none⟩ y3).setCell ⟨b, 4, none⟩ y4) k t cs := h3.far b 4 hk y4
  have h5 : Whole ((((((w.setCell ⟨b, 0, none⟩ y0).setCell ⟨b, 1, none⟩ y1).setCell ⟨b, 2, none⟩ y2).setCell ⟨b, 3, none⟩ y3).setCell ⟨b, 4, none⟩ y4).setCell ⟨b, 5, none⟩ y5) k t cs := h4.far b 5 hk y5
  have h6 : Whole (((((((w.setCell ⟨b, 0, none⟩ y0).setCell ⟨b, 1, none⟩ y1).setCell ⟨b, 2, none⟩ y2).setCell ⟨b, 3, none⟩ y3).setCell ⟨b, 4, none⟩ y4).setCell ⟨b, 5, none⟩ y5).setCell ⟨b, 6, none⟩ y6) k t cs := h5.far b 6 hk y6
  have h7 : Whole ((((((((w.setCell ⟨b, 0, none⟩ y0).setCell ⟨b, 1, none⟩ y1).setCell ⟨b, 2, none⟩ y2).setCell ⟨b, 3, none⟩ y3).setCell ⟨b, 4, none⟩ y4).setCell ⟨b, 5, none⟩ y5).setCell ⟨b, 6, none⟩ y6).setCell ⟨b, 7, none⟩ y7) k t cs := h6.far b 7 hk y7
  have h8 : Whole (((((((((w.setCell ⟨b, 0, none⟩ y0).setCell ⟨b, 1, none⟩ y1).setCell ⟨b, 2, none⟩ y2).setCell ⟨b, 3, none⟩ y3).setCell ⟨b, 4, none⟩ y4).setCell ⟨b, 5, none⟩ y5).setCell ⟨b, 6, none⟩ y6).setCell ⟨b, 7, none⟩ y7).setCell ⟨b, 8, none⟩ y8) k t cs := h7.far b 8 hk y8
  have h9 : Whole ((((((((((w.setCell ⟨b, 0, none⟩ y0).setCell ⟨b, 1, none⟩ y1).setCell ⟨b, 2, none⟩ y2).setCell ⟨b, 3, none⟩ y3).setCell ⟨b, 4, none⟩ y4).setCell ⟨b, 5, none⟩ y5).setCell ⟨b, 6, none⟩ y6).setCell ⟨b, 7, none⟩ y7).setCell ⟨b, 8, none⟩ y8).setCell ⟨b, 9, none⟩ y9) k t cs := h8.far b 9 hk y9
  have h10 : Whole (((((((((((w.setCell ⟨b, 0, none⟩ y0).setCell ⟨b, 1, none⟩ y1).setCell ⟨b, 2, none⟩ y2).setCell ⟨b, 3, none⟩ y3).setCell ⟨b, 4, none⟩ y4).setCell ⟨b, 5, none⟩ y5).setCell ⟨b, 6, none⟩ y6).setCell ⟨b, 7, none⟩ y7).setCell ⟨b, 8, none⟩ y8).setCell ⟨b, 9, none⟩ y9).setCell ⟨b, 10, none⟩ y10) k t cs := h9.far b 10 hk y10
  have h11 : Whole ((((((((((((w.setCell ⟨b, 0, none⟩ y0).setCell ⟨b, 1, none⟩ y1).setCell ⟨b, 2, none⟩ y2).setCell ⟨b, 3, none⟩ y3).setCell ⟨b, 4, none⟩ y4).setCell ⟨b, 5, none⟩ y5).setCell ⟨b, 6, none⟩ y6).setCell ⟨b, 7, none⟩ y7).setCell ⟨b, 8, none⟩ y8).setCell ⟨b, 9, none⟩ y9).setCell ⟨b, 10, none⟩ y10).setCell ⟨b, 11, none⟩ y11) k t cs := h10.far b 11 hk y11
  exact h11
theorem twelve_below {w0 w : World} {B b : Nat} (h : Below B w0 w) (hb : B ≤ b) (y0 y1 y2 y3 y4 y5 y6 y7 y8 y9 y10 y11 : Value) : Below B w0 ((((((((((((w.setCell ⟨b, 0, none⟩ y0).setCell ⟨b, 1, none⟩ y1).setCell ⟨b, 2, none⟩ y2).setCell ⟨b, 3, none⟩ y3).setCell ⟨b, 4, none⟩ y4).setCell ⟨b, 5, none⟩ y5).setCell ⟨b, 6, none⟩ y6).setCell ⟨b, 7, none⟩ y7).setCell ⟨b, 8, none⟩ y8).setCell ⟨b, 9, none⟩ y9).setCell ⟨b, 10, none⟩ y10).setCell ⟨b, 11, none⟩ y11) := by
  have h0 : Below B w0 (w.setCell ⟨b, 0, none⟩ y0) := h.setCell (p := ⟨b, 0, none⟩) hb y0
  have h1 : Below B w0 ((w.setCell ⟨b, 0, none⟩ y0).setCell ⟨b, 1, none⟩ y1) := h0.setCell (p := ⟨b, 1, none⟩) hb y1
  have h2 : Below B w0 (((w.setCell ⟨b, 0, none⟩ y0).setCell ⟨b, 1, none⟩ y1).setCell ⟨b, 2, none⟩ y2) := h1.setCell (p := ⟨b, 2, none⟩) hb y2
  have h3 : Below B w0 ((((w.setCell ⟨b, 0, none⟩ y0).setCell ⟨b, 1, none⟩ y1).setCell ⟨b, 2, none⟩ y2).setCell ⟨b, 3, none⟩ y3) := h2.setCell (p := ⟨b, 3, none⟩) hb y3
  have h4 : Below B w0 (((((w.setCell ⟨b, 0, none⟩ y0).setCell ⟨b, 1, none⟩ y1).setCell ⟨b, 2, none⟩ y2).setCell ⟨b, 3, none⟩ y3).setCell ⟨b, 4, none⟩ y4) := h3.setCell (p := ⟨b, 4, none⟩) hb y4
  have h5 : Below B w0 ((((((w.setCell ⟨b, 0, none⟩ y0).setCell ⟨b, 1, none⟩ y1).setCell ⟨b, 2, none⟩ y2).setCell ⟨b, 3, none⟩ y3).setCell ⟨b, 4, none⟩ y4).setCell ⟨b, 5, none⟩ y5) := h4.setCell (p := ⟨b, 5, none⟩) hb y5
  have h6 : Below B w0 (((((((w.setCell ⟨b, 0, none⟩ y0).setCell ⟨b, 1, none⟩ y1).setCell ⟨b, 2, none⟩ y2).setCell ⟨b, 3, none⟩ y3).setCell ⟨b, 4, none⟩ y4).setCell ⟨b, 5, none⟩ y5).setCell ⟨b, 6, none⟩ y6) := h5.setCell (p := ⟨b, 6, none⟩) hb y6
  have h7 : Below B w0 ((((((((w.setCell ⟨b, 0, none⟩ y0).setCell ⟨b, 1, none⟩ y1).setCell ⟨b, 2, none⟩ y2).setCell ⟨b, 3, none⟩ y3).setCell ⟨b, 4, none⟩ y4).setCell ⟨b, 5, none⟩ y5).setCell ⟨b, 6, none⟩ y6).setCell ⟨b, 7, none⟩ y7) := h6.setCell (p := ⟨b, 7, none⟩) hb y7
  have h8 : Below B w0 (((((((((w.setCell ⟨b, 0, none⟩ y0).setCell ⟨b, 1, none⟩ y1).setCell ⟨b, 2, none⟩ y2).setCell ⟨b, 3, none⟩ y3).setCell ⟨b, 4, none⟩ y4).setCell ⟨b, 5, none⟩ y5).setCell ⟨b, 6, none⟩ y6).setCell ⟨b, 7, none⟩ y7).setCell ⟨b, 8, none⟩ y8) := h7.setCell (p := ⟨b, 8, none⟩) hb y8
  have h9 : Below B w0 ((((((((((w.setCell ⟨b, 0, none⟩ y0).setCell ⟨b, 1, none⟩ y1).setCell ⟨b, 2, none⟩ y2).setCell ⟨b, 3, none⟩ y3).setCell ⟨b, 4, none⟩ y4).setCell ⟨b, 5, none⟩ y5).setCell ⟨b, 6, none⟩ y6).setCell ⟨b, 7, none⟩ y7).setCell ⟨b, 8, none⟩ y8).setCell ⟨b, 9, none⟩ y9) := h8.setCell (p := ⟨b, 9, none⟩) hb y9
  have h10 : Below B w0 (((((((((((w.setCell ⟨b, 0, none⟩ y0).setCell ⟨b, 1, none⟩ y1).setCell ⟨b, 2, none⟩ y2).setCell ⟨b, 3, none⟩ y3).setCell ⟨b, 4, none⟩ y4).setCell ⟨b, 5, none⟩ y5).setCell ⟨b, 6, none⟩ y6).setCell ⟨b, 7, none⟩ y7).setCell ⟨b, 8, none⟩ y8).setCell ⟨b, 9, none⟩ y9).setCell ⟨b, 10, none⟩ y10) := h9.setCell (p := ⟨b, 10, none⟩) hb y10
  have h11 : Below B w0 ((((((((((((w.setCell ⟨b, 0, none⟩ y0).setCell ⟨b, 1, none⟩ y1).setCell ⟨b, 2, none⟩ y2).setCell ⟨b, 3, none⟩ y3).setCell ⟨b, 4, none⟩ y4).setCell ⟨b, 5, none⟩ y5).setCell ⟨b, 6, none⟩ y6).setCell ⟨b, 7, none⟩ y7).setCell ⟨b, 8, none⟩ y8).setCell ⟨b, 9, none⟩ y9).setCell ⟨b, 10, none⟩ y10).setCell ⟨b, 11, none⟩ y11) := h10.setCell (p := ⟨b, 11, none⟩) hb y11
  exact h11
theorem RF.below {B g : Nat} {w w' : World} (h : RF g w w') (hB : B ≤ w.heap.size) (hg : B ≤ g) : Below B w w' := ⟨h.os, h.tape, h.output, h.size, fun k hk => h.other k (by omega) (by omega)⟩
theorem decW_rf {w w' : World} {v : Value} (h : RF (w.heap.size + 1 + 1) (decW w v) w') : Below w.heap.size w w' :=
  (decW_below w v).trans (h.below (by rw [decW_size]; omega) (by omega))
theorem results_row_cell {P : Program} {fn : Func} {p q : Tmp} {ty ty2 : TypeId} (h : fn.results = #[.cell p ty, .cell q ty2]) (tmps : Array Value) (w : World) (g : Nat) (t : TypeId) (cs : Array Value) (fr : Nat × Nat) (d : TypeDesc)
    (hp : tmps.getD p undef = .pointer (some ⟨g, 0, none⟩)) (hg : w.heap[g]? = some (.cells cs t fr))
    (hu : P.underlying ty = some d) (hd : (match d with | .struct _ | .array _ _ => true | _ => false) = true) (hi : (P.info? ty).map (·.size) = some cs.size)
    (a2 : Addr) (v2 : Value) (hq : tmps.getD q undef = .pointer (some a2)) (hl : (loadVar ty2 a2).run P w = .ok v2 w) :
    (results fn tmps).run P w = .ok (.tuple #[.agg cs, v2]) w := by
  simp only [results, h]
  have hp' : tmps[p]?.getD undef = .pointer (some ⟨g, 0, none⟩) := by simpa using hp
  have hq' : tmps[q]?.getD undef = .pointer (some a2) := by simpa using hq
  simp [asAddr, Sem.run_bind, Result.andThen, run_loadVar_row w g t ty cs fr d hg hu hd hi, hl, hp', hq']
theorem load_errno (w : World) (g : Nat) (c : Int) (h : Whole w g 25 #[.int .i64 c]) : (loadVar 25 ⟨g, 0, none⟩).run Tryz.prog w = .ok (.int .i64 c) w := by
  have c2 : w.cell? ⟨g, 0, none⟩ = some (.int .i64 c) := by rw [h.cell]; rfl
  simp [go_sem, c2]

set_option maxRecDepth 100000 in
set_option maxHeartbeats 2000000 in
theorem decode_long (a : Option Addr) (n c : Nat) (w : World) (xs : List Int) (hn : xs.length = n) (hl : 16384 < n) :
    Calls Tryz.prog 64 #[.slice a n c] w (DDone w (dec xs)) := by
  have hd : dec xs = .error 2 := by rw [dec, if_pos (by omega)]
  rw [hd]
  clear hd
  have hw0 : Whole ((w.alloc (.cells MsgZ 43)).alloc (.cells #[.int .i64 2] 25)) w.heap.size 43 MsgZ :=
    (show Whole (w.alloc (.cells MsgZ 43)) w.heap.size 43 MsgZ from heap_alloc_new w _).kept (Below.heap_alloc _ _ _ (by simp))
  have hw1 : Whole ((w.alloc (.cells MsgZ 43)).alloc (.cells #[.int .i64 2] 25)) (w.heap.size + 1) 25 #[.int .i64 2] := by
    have := heap_alloc_new (w.alloc (.cells MsgZ 43)) (.cells #[.int .i64 2] 25)
    rwa [show (w.alloc (.cells MsgZ 43)).heap.size = w.heap.size + 1 by simp] at this
  have HW0 := Lib.hid hw0
  have HW1 := Lib.hid hw1
  clear hw0 hw1
  go_enter_defers Tryz.func64, Tryz.ntmps64
  go_wp2
  exact ⟨_, results_row_cell rfl _ _ w.heap.size _ _ _ _ rfl HW0.out Tryz.underlying43 rfl (by kernel_rfl) ⟨w.heap.size + 1, 0, none⟩ _ rfl (load_errno _ _ _ HW1.out), .inr ⟨2, rfl, rfl, ((Below.refl _ _).alloc (Nat.le_refl _) _).alloc (by simp) _⟩⟩

set_option maxRecDepth 100000 in
set_option maxHeartbeats 1000000 in
theorem decode_short (a : Option Addr) (n c : Nat) (w : World) (xs : List Int) (hn : xs.length = n) (hl : ¬ 16384 < n) (h : LiesAt w w.heap.size (.slice a n c) xs) :
    Calls Tryz.prog 64 #[.slice a n c] w (DDone w (dec xs)) := by
  have hmf : ∀ (fn : Fn) (first cap : Array Value) (w : World), (Instr.makeFunc fn first cap).run Tryz.prog w = .ok (.func fn first cap) w := fun _ _ _ _ => rfl
  have HM := Lib.hid (rmessage_any w.heap.size (w.heap.size + 1 + 1) _ xs _ (decW_rat h))
  have hd : dec xs = match rmsg xs with
    | .error c => .error c
    | .ok (m, ys) => if ys = [] then .ok m else .error 21 := by rw [dec, if_neg (by omega)]
  have HD := Lib.hid hd
  clear hd h
  go_enter_defers Tryz.func64, Tryz.ntmps64
  go_wp2_with fail
  refine (show Calls Tryz.prog 74 #[.pointer (some ⟨w.heap.size + 1 + 1, 0, none⟩)] (decW w (.slice a n c)) _ from HM.out).mono ?_
  rintro e w1 (⟨m, ys, u, v8, v9, v10, v11, hr, rfl, hO, hA, hF⟩ | ⟨cd, hr, rfl, hF⟩)
  · obtain ⟨p8, q8, rfl, _, _⟩ := owned_any hO.nodes
    obtain ⟨p9, q9, rfl, _, _⟩ := owned_some hO.muts
    obtain ⟨p10, q10, rfl, _, _⟩ := owned_some hO.pre
    obtain ⟨p11, q11, rfl, _, _⟩ := owned_some hO.rows
    obtain ⟨hp, hq, _⟩ := decW_at w (.slice a n c)
    have hp1 := hF.whole hp (by omega)
    have hq1 := hF.whole hq (by omega)
    have k0 : w1.cell? ⟨w.heap.size, 0, none⟩ = some (.int .i64 0) := by rw [hp1.cell]; rfl
    have z0 : w1.frozen? ⟨w.heap.size, 0, none⟩ = false := hp1.free 0
    have k1 : w1.cell? ⟨w.heap.size, 1, none⟩ = some (.int .i64 0) := by rw [hp1.cell]; rfl
    have z1 : w1.frozen? ⟨w.heap.size, 1, none⟩ = false := hp1.free 1
    have k2 : w1.cell? ⟨w.heap.size, 2, none⟩ = some (.int .i64 0) := by rw [hp1.cell]; rfl
    have z2 : w1.frozen? ⟨w.heap.size, 2, none⟩ = false := hp1.free 2
    have k3 : w1.cell? ⟨w.heap.size, 3, none⟩ = some (.int .i64 0) := by rw [hp1.cell]; rfl
    have z3 : w1.frozen? ⟨w.heap.size, 3, none⟩ = false := hp1.free 3
    have k4 : w1.cell? ⟨w.heap.size, 4, none⟩ = some (.int .i64 0) := by rw [hp1.cell]; rfl
    have z4 : w1.frozen? ⟨w.heap.size, 4, none⟩ = false := hp1.free 4
    have k5 : w1.cell? ⟨w.heap.size, 5, none⟩ = some (.int .i64 0) := by rw [hp1.cell]; rfl
    have z5 : w1.frozen? ⟨w.heap.size, 5, none⟩ = false := hp1.free 5
    have k6 : w1.cell? ⟨w.heap.size, 6, none⟩ = some (.int .i64 0) := by rw [hp1.cell]; rfl
    have z6 : w1.frozen? ⟨w.heap.size, 6, none⟩ = false := hp1.free 6
    have k7 : w1.cell? ⟨w.heap.size, 7, none⟩ = some (.bool false) := by rw [hp1.cell]; rfl
    have z7 : w1.frozen? ⟨w.heap.size, 7, none⟩ = false := hp1.free 7
    have k8 : w1.cell? ⟨w.heap.size, 8, none⟩ = some (.slice none 0 0) := by rw [hp1.cell]; rfl
    have z8 : w1.frozen? ⟨w.heap.size, 8, none⟩ = false := hp1.free 8
    have k9 : w1.cell? ⟨w.heap.size, 9, none⟩ = some (.slice none 0 0) := by rw [hp1.cell]; rfl
    have z9 : w1.frozen? ⟨w.heap.size, 9, none⟩ = false := hp1.free 9
    have k10 : w1.cell? ⟨w.heap.size, 10, none⟩ = some (.slice none 0 0) := by rw [hp1.cell]; rfl
    have z10 : w1.frozen? ⟨w.heap.size, 10, none⟩ = false := hp1.free 10
    have k11 : w1.cell? ⟨w.heap.size, 11, none⟩ = some (.slice none 0 0) := by rw [hp1.cell]; rfl
    have z11 : w1.frozen? ⟨w.heap.size, 11, none⟩ = false := hp1.free 11
    have hP := twelve_store hp1 (.int .i64 m.kind) (.int .i64 m.frm) (.int .i64 m.too) (.int .i64 m.id) (.int .i64 m.rev) (.int .i64 m.epoch) (.int .i64 m.slot) (.bool m.flag) (.slice p8 m.nodes.length q8) (.slice p9 m.muts.length q9) (.slice p10 m.pre.length q10) (.slice p11 m.rows.length q11)
    have hQ := twelve_whole hq1 (show w.heap.size + 1 ≠ w.heap.size by omega) (.int .i64 m.kind) (.int .i64 m.frm) (.int .i64 m.too) (.int .i64 m.id) (.int .i64 m.rev) (.int .i64 m.epoch) (.int .i64 m.slot) (.bool m.flag) (.slice p8 m.nodes.length q8) (.slice p9 m.muts.length q9) (.slice p10 m.pre.length q10) (.slice p11 m.rows.length q11)
    have hR := twelve_whole hA.blk (show w.heap.size + 1 + 1 ≠ w.heap.size by omega) (.int .i64 m.kind) (.int .i64 m.frm) (.int .i64 m.too) (.int .i64 m.id) (.int .i64 m.rev) (.int .i64 m.epoch) (.int .i64 m.slot) (.bool m.flag) (.slice p8 m.nodes.length q8) (.slice p9 m.muts.length q9) (.slice p10 m.pre.length q10) (.slice p11 m.rows.length q11)
    have hB := twelve_below (decW_rf hF) (Nat.le_refl _) (.int .i64 m.kind) (.int .i64 m.frm) (.int .i64 m.too) (.int .i64 m.id) (.int .i64 m.rev) (.int .i64 m.epoch) (.int .i64 m.slot) (.bool m.flag) (.slice p8 m.nodes.length q8) (.slice p9 m.muts.length q9) (.slice p10 m.pre.length q10) (.slice p11 m.rows.length q11)
    have hsz : w.heap.size < (decW w (.slice a n c)).heap.size := by rw [decW_size]; omega
    have hsq : w.heap.size + 1 < (decW w (.slice a n c)).heap.size := by rw [decW_size]; omega
    have hO8 := twelve_owns hO.nodes hsz (.int .i64 m.kind) (.int .i64 m.frm) (.int .i64 m.too) (.int .i64 m.id) (.int .i64 m.rev) (.int .i64 m.epoch) (.int .i64 m.slot) (.bool m.flag) (.slice p8 m.nodes.length q8) (.slice p9 m.muts.length q9) (.slice p10 m.pre.length q10) (.slice p11 m.rows.length q11)
    have hO9 := twelve_owns hO.muts hsz (.int .i64 m.kind) (.int .i64 m.frm) (.int .i64 m.too) (.int .i64 m.id) (.int .i64 m.rev) (.int .i64 m.epoch) (.int .i64 m.slot) (.bool m.flag) (.slice p8 m.nodes.length q8) (.slice p9 m.muts.length q9) (.slice p10 m.pre.length q10) (.slice p11 m.rows.length q11)
    have hO10 := twelve_owns hO.pre hsz (.int .i64 m.kind) (.int .i64 m.frm) (.int .i64 m.too) (.int .i64 m.id) (.int .i64 m.rev) (.int .i64 m.epoch) (.int .i64 m.slot) (.bool m.flag) (.slice p8 m.nodes.length q8) (.slice p9 m.muts.length q9) (.slice p10 m.pre.length q10) (.slice p11 m.rows.length q11)
    have hO11 := twelve_owns hO.rows hsz (.int .i64 m.kind) (.int .i64 m.frm) (.int .i64 m.too) (.int .i64 m.id) (.int .i64 m.rev) (.int .i64 m.epoch) (.int .i64 m.slot) (.bool m.flag) (.slice p8 m.nodes.length q8) (.slice p9 m.muts.length q9) (.slice p10 m.pre.length q10) (.slice p11 m.rows.length q11)
    have hlie := hA.lies
    have HSQ := Lib.hid hsq
    have HSZ := Lib.hid hsz
    have HR := Lib.hid hr
    clear hp hq hp1 hq1 hA hO hF hsz hsq hr HM
    unfold msgC
    go_upto_region 6 with fail
    clear k0 z0 k1 z1 k2 z2 k3 z3 k4 z4 k5 z5 k6 z6 k7 z7 k8 z8 k9 z9 k10 z10 k11 z11
    generalize ((((((((((((w1.setCell ⟨w.heap.size, 0, none⟩ (.int .i64 m.kind)).setCell ⟨w.heap.size, 1, none⟩ (.int .i64 m.frm)).setCell ⟨w.heap.size, 2, none⟩ (.int .i64 m.too)).setCell ⟨w.heap.size, 3, none⟩ (.int .i64 m.id)).setCell ⟨w.heap.size, 4, none⟩ (.int .i64 m.rev)).setCell ⟨w.heap.size, 5, none⟩ (.int .i64 m.epoch)).setCell ⟨w.heap.size, 6, none⟩ (.int .i64 m.slot)).setCell ⟨w.heap.size, 7, none⟩ (.bool m.flag)).setCell ⟨w.heap.size, 8, none⟩ (.slice p8 m.nodes.length q8)).setCell ⟨w.heap.size, 9, none⟩ (.slice p9 m.muts.length q9)).setCell ⟨w.heap.size, 10, none⟩ (.slice p10 m.pre.length q10)).setCell ⟨w.heap.size, 11, none⟩ (.slice p11 m.rows.length q11)) = W2 at *
    have kb : W2.cell? ⟨w.heap.size + 1 + 1, 0, none⟩ = some u := by rw [hR.cell]; rfl
    have k0 : W2.cell? ⟨w.heap.size, 0, none⟩ = some (.int .i64 m.kind) := by rw [hP.cell]; rfl
    have z0 : W2.frozen? ⟨w.heap.size, 0, none⟩ = false := hP.free 0
    have k1 : W2.cell? ⟨w.heap.size, 1, none⟩ = some (.int .i64 m.frm) := by rw [hP.cell]; rfl
    have z1 : W2.frozen? ⟨w.heap.size, 1, none⟩ = false := hP.free 1
    have k2 : W2.cell? ⟨w.heap.size, 2, none⟩ = some (.int .i64 m.too) := by rw [hP.cell]; rfl
    have z2 : W2.frozen? ⟨w.heap.size, 2, none⟩ = false := hP.free 2
    have k3 : W2.cell? ⟨w.heap.size, 3, none⟩ = some (.int .i64 m.id) := by rw [hP.cell]; rfl
    have z3 : W2.frozen? ⟨w.heap.size, 3, none⟩ = false := hP.free 3
    have k4 : W2.cell? ⟨w.heap.size, 4, none⟩ = some (.int .i64 m.rev) := by rw [hP.cell]; rfl
    have z4 : W2.frozen? ⟨w.heap.size, 4, none⟩ = false := hP.free 4
    have k5 : W2.cell? ⟨w.heap.size, 5, none⟩ = some (.int .i64 m.epoch) := by rw [hP.cell]; rfl
    have z5 : W2.frozen? ⟨w.heap.size, 5, none⟩ = false := hP.free 5
    have k6 : W2.cell? ⟨w.heap.size, 6, none⟩ = some (.int .i64 m.slot) := by rw [hP.cell]; rfl
    have z6 : W2.frozen? ⟨w.heap.size, 6, none⟩ = false := hP.free 6
    have k7 : W2.cell? ⟨w.heap.size, 7, none⟩ = some (.bool m.flag) := by rw [hP.cell]; rfl
    have z7 : W2.frozen? ⟨w.heap.size, 7, none⟩ = false := hP.free 7
    have k8 : W2.cell? ⟨w.heap.size, 8, none⟩ = some (.slice p8 m.nodes.length q8) := by rw [hP.cell]; rfl
    have z8 : W2.frozen? ⟨w.heap.size, 8, none⟩ = false := hP.free 8
    have k9 : W2.cell? ⟨w.heap.size, 9, none⟩ = some (.slice p9 m.muts.length q9) := by rw [hP.cell]; rfl
    have z9 : W2.frozen? ⟨w.heap.size, 9, none⟩ = false := hP.free 9
    have k10 : W2.cell? ⟨w.heap.size, 10, none⟩ = some (.slice p10 m.pre.length q10) := by rw [hP.cell]; rfl
    have z10 : W2.frozen? ⟨w.heap.size, 10, none⟩ = false := hP.free 10
    have k11 : W2.cell? ⟨w.heap.size, 11, none⟩ = some (.slice p11 m.rows.length q11) := by rw [hP.cell]; rfl
    have z11 : W2.frozen? ⟨w.heap.size, 11, none⟩ = false := hP.free 11
    have kq : W2.cell? ⟨w.heap.size + 1, 0, none⟩ = some (.int .i64 0) := by rw [hQ.cell]; rfl
    have zq : W2.frozen? ⟨w.heap.size + 1, 0, none⟩ = false := hQ.free 0
    have HP := Lib.hid hP
    have HQ := Lib.hid hQ
    have HB := Lib.hid hB
    have HO8 := Lib.hid hO8
    have HO9 := Lib.hid hO9
    have HO10 := Lib.hid hO10
    have HO11 := Lib.hid hO11
    clear hP hQ hR hB hO8 hO9 hO10 hO11
    by_cases hys : ys = []
    · have hul : ∃ pa ca, u = .slice pa 0 ca := by
        rcases hlie with ⟨h1, _⟩ | ⟨b1, o1, c1, h1, _⟩
        · exact ⟨_, _, h1⟩
        · exact ⟨_, _, by rw [h1, hys]; rfl⟩
      obtain ⟨pa, ca, rfl⟩ := hul
      have HE := Lib.hid (show dec xs = .ok m by rw [HD.out, HR.out]; simp only []; rw [if_pos hys])
      clear hlie hys HD HR
      go_wp2
      refine leaves_cons (f := 73) (args := #[.pointer (some ⟨w.heap.size, 0, none⟩), .pointer (some ⟨w.heap.size + 1, 0, none⟩)]) (by simp) (by simp [go_sem]) ?_
      refine (dcatch_idle _ _ _).mono ?_
      rintro e u' w'' ⟨rfl, rfl, rfl⟩
      have hP := (twelve_store HP.out (.int .i64 m.kind) (.int .i64 m.frm) (.int .i64 m.too) (.int .i64 m.id) (.int .i64 m.rev) (.int .i64 m.epoch) (.int .i64 m.slot) (.bool m.flag) (.slice p8 m.nodes.length q8) (.slice p9 m.muts.length q9) (.slice p10 m.pre.length q10) (.slice p11 m.rows.length q11)).far (w.heap.size + 1) 0 (by omega) (.int .i64 0)
      have hQ : Whole _ (w.heap.size + 1) 25 #[.int .i64 0] := (twelve_whole HQ.out (show w.heap.size + 1 ≠ w.heap.size by omega) (.int .i64 m.kind) (.int .i64 m.frm) (.int .i64 m.too) (.int .i64 m.id) (.int .i64 m.rev) (.int .i64 m.epoch) (.int .i64 m.slot) (.bool m.flag) (.slice p8 m.nodes.length q8) (.slice p9 m.muts.length q9) (.slice p10 m.pre.length q10) (.slice p11 m.rows.length q11)).store 0 (.int .i64 0)
      have hB := (twelve_below HB.out (Nat.le_refl _) (.int .i64 m.kind) (.int .i64 m.frm) (.int .i64 m.too) (.int .i64 m.id) (.int .i64 m.rev) (.int .i64 m.epoch) (.int .i64 m.slot) (.bool m.flag) (.slice p8 m.nodes.length q8) (.slice p9 m.muts.length q9) (.slice p10 m.pre.length q10) (.slice p11 m.rows.length q11)).setCell (p := ⟨w.heap.size + 1, 0, none⟩) (by simp) (.int .i64 0)
      have hO8 := owns_fars (twelve_owns HO8.out HSZ.out (.int .i64 m.kind) (.int .i64 m.frm) (.int .i64 m.too) (.int .i64 m.id) (.int .i64 m.rev) (.int .i64 m.epoch) (.int .i64 m.slot) (.bool m.flag) (.slice p8 m.nodes.length q8) (.slice p9 m.muts.length q9) (.slice p10 m.pre.length q10) (.slice p11 m.rows.length q11)) (w.heap.size + 1) 0 HSQ.out (.int .i64 0)
      have hO9 := owns_fars (twelve_owns HO9.out HSZ.out (.int .i64 m.kind) (.int .i64 m.frm) (.int .i64 m.too) (.int .i64 m.id) (.int .i64 m.rev) (.int .i64 m.epoch) (.int .i64 m.slot) (.bool m.flag) (.slice p8 m.nodes.length q8) (.slice p9 m.muts.length q9) (.slice p10 m.pre.length q10) (.slice p11 m.rows.length q11)) (w.heap.size + 1) 0 HSQ.out (.int .i64 0)
      have hO10 := owns_fars (twelve_owns HO10.out HSZ.out (.int .i64 m.kind) (.int .i64 m.frm) (.int .i64 m.too) (.int .i64 m.id) (.int .i64 m.rev) (.int .i64 m.epoch) (.int .i64 m.slot) (.bool m.flag) (.slice p8 m.nodes.length q8) (.slice p9 m.muts.length q9) (.slice p10 m.pre.length q10) (.slice p11 m.rows.length q11)) (w.heap.size + 1) 0 HSQ.out (.int .i64 0)
      have hO11 := owns_fars (twelve_owns HO11.out HSZ.out (.int .i64 m.kind) (.int .i64 m.frm) (.int .i64 m.too) (.int .i64 m.id) (.int .i64 m.rev) (.int .i64 m.epoch) (.int .i64 m.slot) (.bool m.flag) (.slice p8 m.nodes.length q8) (.slice p9 m.muts.length q9) (.slice p10 m.pre.length q10) (.slice p11 m.rows.length q11)) (w.heap.size + 1) 0 HSQ.out (.int .i64 0)
      generalize (((((((((((((W2.setCell ⟨w.heap.size, 0, none⟩ (.int .i64 m.kind)).setCell ⟨w.heap.size, 1, none⟩ (.int .i64 m.frm)).setCell ⟨w.heap.size, 2, none⟩ (.int .i64 m.too)).setCell ⟨w.heap.size, 3, none⟩ (.int .i64 m.id)).setCell ⟨w.heap.size, 4, none⟩ (.int .i64 m.rev)).setCell ⟨w.heap.size, 5, none⟩ (.int .i64 m.epoch)).setCell ⟨w.heap.size, 6, none⟩ (.int .i64 m.slot)).setCell ⟨w.heap.size, 7, none⟩ (.bool m.flag)).setCell ⟨w.heap.size, 8, none⟩ (.slice p8 m.nodes.length q8)).setCell ⟨w.heap.size, 9, none⟩ (.slice p9 m.muts.length q9)).setCell ⟨w.heap.size, 10, none⟩ (.slice p10 m.pre.length q10)).setCell ⟨w.heap.size, 11, none⟩ (.slice p11 m.rows.length q11)).setCell ⟨w.heap.size + 1, 0, none⟩ (.int .i64 0)) = X at *
      exact ⟨_, results_row_cell rfl _ X w.heap.size _ _ _ _ rfl hP Tryz.underlying43 rfl (by kernel_rfl) ⟨w.heap.size + 1, 0, none⟩ _ rfl (load_errno X _ _ hQ), .inl ⟨m, .slice p8 m.nodes.length q8, .slice p9 m.muts.length q9, .slice p10 m.pre.length q10, .slice p11 m.rows.length q11, HE.out, rfl, ⟨owns_lower hO8 (by rw [decW_size]; omega), owns_lower hO9 (by rw [decW_size]; omega), owns_lower hO10 (by rw [decW_size]; omega), owns_lower hO11 (by rw [decW_size]; omega)⟩, hB⟩⟩
    · have hul : ∃ pa k ca, u = .slice pa (k + 1) ca := by
        rcases hlie with ⟨_, h1⟩ | ⟨b1, o1, c1, h1, _⟩
        · exact absurd h1 hys
        · have hl : ys.length ≠ 0 := fun h0 => hys (List.eq_nil_of_length_eq_zero h0)
          exact ⟨_, ys.length - 1, _, by rw [h1]; congr 1; omega⟩
      obtain ⟨pa, kl, ca, rfl⟩ := hul
      have HE := Lib.hid (show dec xs = .error 21 by rw [HD.out, HR.out]; simp only []; rw [if_neg hys])
      clear hlie hys HD HR
      go_wp2
      refine leaves_cons (f := 73) (args := #[.pointer (some ⟨w.heap.size, 0, none⟩), .pointer (some ⟨w.heap.size + 1, 0, none⟩)]) (by simp) (by simp [go_sem]) ?_
      refine (dcatch_idle _ _ _).mono ?_
      rintro e u' w'' ⟨rfl, rfl, rfl⟩
      have hP := (twelve_store HP.out (.int .i64 0) (.int .i64 0) (.int .i64 0) (.int .i64 0) (.int .i64 0) (.int .i64 0) (.int .i64 0) (.bool false) (.slice none 0 0) (.slice none 0 0) (.slice none 0 0) (.slice none 0 0)).far (w.heap.size + 1) 0 (by omega) (.int .i64 21)
      have hQ : Whole _ (w.heap.size + 1) 25 #[.int .i64 21] := (twelve_whole HQ.out (show w.heap.size + 1 ≠ w.heap.size by omega) (.int .i64 0) (.int .i64 0) (.int .i64 0) (.int .i64 0) (.int .i64 0) (.int .i64 0) (.int .i64 0) (.bool false) (.slice none 0 0) (.slice none 0 0) (.slice none 0 0) (.slice none 0 0)).store 0 (.int .i64 21)
      have hB := (twelve_below HB.out (Nat.le_refl _) (.int .i64 0) (.int .i64 0) (.int .i64 0) (.int .i64 0) (.int .i64 0) (.int .i64 0) (.int .i64 0) (.bool false) (.slice none 0 0) (.slice none 0 0) (.slice none 0 0) (.slice none 0 0)).setCell (p := ⟨w.heap.size + 1, 0, none⟩) (by simp) (.int .i64 21)
      generalize (((((((((((((W2.setCell ⟨w.heap.size, 0, none⟩ (.int .i64 0)).setCell ⟨w.heap.size, 1, none⟩ (.int .i64 0)).setCell ⟨w.heap.size, 2, none⟩ (.int .i64 0)).setCell ⟨w.heap.size, 3, none⟩ (.int .i64 0)).setCell ⟨w.heap.size, 4, none⟩ (.int .i64 0)).setCell ⟨w.heap.size, 5, none⟩ (.int .i64 0)).setCell ⟨w.heap.size, 6, none⟩ (.int .i64 0)).setCell ⟨w.heap.size, 7, none⟩ (.bool false)).setCell ⟨w.heap.size, 8, none⟩ (.slice none 0 0)).setCell ⟨w.heap.size, 9, none⟩ (.slice none 0 0)).setCell ⟨w.heap.size, 10, none⟩ (.slice none 0 0)).setCell ⟨w.heap.size, 11, none⟩ (.slice none 0 0)).setCell ⟨w.heap.size + 1, 0, none⟩ (.int .i64 21)) = X at *
      exact ⟨_, results_row_cell rfl _ X w.heap.size _ _ _ _ rfl hP Tryz.underlying43 rfl (by kernel_rfl) ⟨w.heap.size + 1, 0, none⟩ _ rfl (load_errno X _ _ hQ), .inr ⟨21, HE.out, rfl, hB⟩⟩
  · go_wp2
    refine leaves_cons (f := 73) (args := #[.pointer (some ⟨w.heap.size, 0, none⟩), .pointer (some ⟨w.heap.size + 1, 0, none⟩)]) (by simp) (by simp [go_sem]) ?_
    obtain ⟨hp, hq, _⟩ := decW_at w (.slice a n c)
    refine (dcatch_panicking w.heap.size (w.heap.size + 1) (by omega) cd 0 _ _ _ _ _ _ _ _ _ _ _ _ w1 (hF.whole hp (by omega)) (hF.whole hq (by omega))).mono ?_
    rintro e u' w'' ⟨rfl, rfl, rfl⟩
    have hW := twelve_store (hF.whole hp (by omega)) (.int .i64 0) (.int .i64 0) (.int .i64 0) (.int .i64 0) (.int .i64 0) (.int .i64 0) (.int .i64 0) (.bool false) (.slice none 0 0) (.slice none 0 0) (.slice none 0 0) (.slice none 0 0)
    have hQ := twelve_whole (hF.whole hq (by omega)) (show w.heap.size + 1 ≠ w.heap.size by omega) (.int .i64 0) (.int .i64 0) (.int .i64 0) (.int .i64 0) (.int .i64 0) (.int .i64 0) (.int .i64 0) (.bool false) (.slice none 0 0) (.slice none 0 0) (.slice none 0 0) (.slice none 0 0)
    have hW2 := hW.far (w.heap.size + 1) 0 (by omega) (.int .i64 cd)
    have hQ2 : Whole _ (w.heap.size + 1) 25 #[.int .i64 cd] := hQ.store 0 (.int .i64 cd)
    have hB := twelve_below (decW_rf hF) (Nat.le_refl _) (.int .i64 0) (.int .i64 0) (.int .i64 0) (.int .i64 0) (.int .i64 0) (.int .i64 0) (.int .i64 0) (.bool false) (.slice none 0 0) (.slice none 0 0) (.slice none 0 0) (.slice none 0 0)
    have hB2 := hB.setCell (p := ⟨w.heap.size + 1, 0, none⟩) (by simp) (.int .i64 cd)
    have hE : dec xs = .error cd := by rw [HD.out, hr]
    clear hW hQ hB hp hq hF hr HD HM
    generalize (((((((((((((w1.setCell ⟨w.heap.size, 0, none⟩ (.int .i64 0)).setCell ⟨w.heap.size, 1, none⟩ (.int .i64 0)).setCell ⟨w.heap.size, 2, none⟩ (.int .i64 0)).setCell ⟨w.heap.size, 3, none⟩ (.int .i64 0)).setCell ⟨w.heap.size, 4, none⟩ (.int .i64 0)).setCell ⟨w.heap.size, 5, none⟩ (.int .i64 0)).setCell ⟨w.heap.size, 6, none⟩ (.int .i64 0)).setCell ⟨w.heap.size, 7, none⟩ (.bool false)).setCell ⟨w.heap.size, 8, none⟩ (.slice none 0 0)).setCell ⟨w.heap.size, 9, none⟩ (.slice none 0 0)).setCell ⟨w.heap.size, 10, none⟩ (.slice none 0 0)).setCell ⟨w.heap.size, 11, none⟩ (.slice none 0 0)).setCell ⟨w.heap.size + 1, 0, none⟩ (.int .i64 cd)) = X at *
    exact ⟨_, results_row_cell rfl _ X.drew w.heap.size _ _ _ _ rfl (show X.drew.heap[w.heap.size]? = _ from hW2) Tryz.underlying43 rfl (by kernel_rfl) ⟨w.heap.size + 1, 0, none⟩ _ rfl (load_errno X.drew _ _ hQ2), .inr ⟨cd, hE, rfl, hB2.trans (show Below w.heap.size X X.drew from ⟨rfl, rfl, rfl, Nat.le_refl _, fun _ _ => rfl⟩)⟩⟩
end Go.Proofs.YteodldmbnghfcaaGreat
