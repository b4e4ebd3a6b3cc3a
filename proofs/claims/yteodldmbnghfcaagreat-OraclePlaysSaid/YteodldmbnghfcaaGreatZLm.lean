/- The document's disk, beside a log. The document's Add of a record, beside a log. The document's Open of a log. A message that came in, opened: its texts are small. A script with messages that came in, opened. -/
import Derived.Test.YteodldmbnghfcaaGreatL7
import Derived.Test.YteodldmbnghfcaaGreatRa
import Derived.Test.YteodldmbnghfcaaGreatCRefEnc
import Derived.Test.YteodldmbnghfcaaGreatCD4
import Derived.Test.YteodldmbnghfcaaGreatCOpen
import Derived.Deep.Strs
import Derived.Deep.Slices
import Derived.ChangeSlices
import Derived.ChangeArms
import Derived.SizedLaws
namespace Go.Proofs.YteodldmbnghfcaaGreat.Rl
open Go.RowKit

/-- Only these blocks, and new memory, are other than they were. -/
structure Chg (w w' : World) (P : Nat → Prop) : Prop where
  os : w'.os = w.os
  tape : w'.tape = w.tape
  output : w'.output = w.output
  size : w.heap.size ≤ w'.heap.size
  block : ∀ k, k < w.heap.size → ¬ P k → w'.heap[k]? = w.heap[k]?
theorem Chg.refl (w : World) (P : Nat → Prop) : Chg w w P := ⟨rfl, rfl, rfl, Nat.le_refl _, fun _ _ _ => rfl⟩
theorem Chg.drewN {w w' : World} {P : Nat → Prop} (h : Chg w w' P) (n : Nat) : Chg w (w'.drewN n) P := ⟨h.os, h.tape, h.output, h.size, h.block⟩
theorem Chg.trans {a b c : World} {P : Nat → Prop} (h : Chg a b P) (k : Chg b c P) : Chg a c P :=
  ⟨k.os.trans h.os, k.tape.trans h.tape, k.output.trans h.output, Nat.le_trans h.size k.size, fun i hi hn => (k.block i (Nat.lt_of_lt_of_le hi h.size) hn).trans (h.block i hi hn)⟩
theorem Chg.mono {w w' : World} {P Q : Nat → Prop} (h : Chg w w' P) (hpq : ∀ k, k < w.heap.size → P k → Q k) : Chg w w' Q := ⟨h.os, h.tape, h.output, h.size, fun k hk hn => h.block k hk (fun hp => hn (hpq k hk hp))⟩
theorem Chg.ofBelow {w w' : World} (P : Nat → Prop) (h : Below w.heap.size w w') : Chg w w' P := ⟨h.os, h.tape, h.output, h.size, fun k hk _ => h.block k hk⟩
theorem Chg.below {w w' : World} {P : Nat → Prop} {B : Nat} (h : Chg w w' P) (hP : ∀ k, P k → B ≤ k) (hB : B ≤ w.heap.size) : Below B w w' := ⟨h.os, h.tape, h.output, h.size, fun k hk => h.block k (by omega) (fun hp => by have := hP k hp; omega)⟩
theorem Chg.up {w a b : World} {P : Nat → Prop} (h : Chg w a P) (hb : Below w.heap.size a b) : Chg w b P :=
  ⟨hb.os.trans h.os, hb.tape.trans h.tape, hb.output.trans h.output, Nat.le_trans h.size hb.size, fun k hk hn => (hb.block k hk).trans (h.block k hk hn)⟩
theorem Chg.set {w w' : World} {P : Nat → Prop} (h : Chg w w' P) {b : Nat} (hb : P b) (i : Nat) (u : Value) : Chg w (w'.setCell ⟨b, i, none⟩ u) P :=
  ⟨h.os, h.tape, h.output, by simpa [World.setCell] using h.size, fun k hk hn => (Below.heap_setCell w' ⟨b, i, none⟩ u k (by rintro rfl; exact hn hb)).trans (h.block k hk hn)⟩
theorem Chg.sets {P : Nat → Prop} {b : Nat} (hb : P b) : ∀ (l : List Value) (o : Nat) {w w' : World}, Chg w w' P → Chg w (w'.setCells b o l) P
  | [], _, _, _, h => h
  | v :: l, o, _, _, h => by
    rw [World.setCells]
    exact Chg.sets hb l (o + 1) (h.set hb o v)
theorem bell_up {w W W' : World} (hb : Below w.heap.size w W) (h : Below W.heap.size W W') : Below w.heap.size w W' := hb.trans (h.mono hb.size)
theorem whole_ne {w : World} {g k : Nat} {t u : TypeId} {cs ds : Array Value} (h : Whole w g t cs) (h2 : Whole w k u ds) (hn : t ≠ u) : g ≠ k := by
  rintro rfl
  unfold Whole at h h2
  rw [h] at h2
  injection h2 with h2
  injection h2 with _ h2
  exact hn h2
theorem owned_block {w : World} {base n s k : Nat} {v : Value} {e : TypeId} {l : List Value} (h : w.ownsRow base e s v n l) (hk : v.ownBlock = some k) : base ≤ k ∧ ∃ cur, Whole w k e cur := by
  rcases h.2 with ⟨rfl, _⟩ | ⟨g, cap, cur, rfl, hb, hh, _⟩
  · cases hk
  · have : g = k := by simpa [Value.ownBlock] using hk
    subst this
    exact ⟨hb, cur, hh⟩
/-- A box of so many cells, made anew. -/
theorem box_new (w : World) (t : TypeId) (cs : Array Value) : ∃ X, X = w.alloc (.cells cs t) ∧ Whole X w.heap.size t cs ∧ Below w.heap.size w X := ⟨_, rfl, heap_alloc_new w _, below_alloc w _⟩
theorem res_two {P : Program} {fn : Func} {p u : Tmp} {ty : TypeId} (h : fn.results = #[.cell p ty, .tmp u]) (tmps : Array Value) (w : World) (g : Nat) (t : TypeId) (cs : Array Value) (d : TypeDesc) (v : Value)
    (hp : tmps.getD p undef = .pointer (some ⟨g, 0, none⟩)) (hq : tmps.getD u undef = v) (hg : Whole w g t cs)
    (hu : P.underlying ty = some d) (hd : (match d with | .struct _ | .array _ _ => true | _ => false) = true) (hi : (P.info? ty).map (·.size) = some cs.size) :
    (results fn tmps).run P w = .ok (.tuple #[.agg cs, v]) w := by
  rw [results_cell_tmp h, hp, hq]
  simp [asAddr, run_loadVar_row w g t ty cs (0, 0) d hg hu hd hi, Result.andThen]
/-- The document's disk as a value. -/
def RD (S : ByteArray) (d r : Int) : Value := .agg #[.string S, .int .i64 d, .int .i64 r]

theorem rwrong_any (r : Int) (w : World) : Calls Tryz.prog 6 #[.int .i64 r] w fun e w' => e = .returned (.int .i64 (if r < 0 ∨ 1048576 < r then 1 else 0)) ∧ w = w' := by
  by_cases h : r < 0
  · go_enter Tryz.func6, Tryz.ntmps6
    go_wp2
    go_ret
    exact ⟨rfl, rfl⟩
  · by_cases h2 : 1048576 < r
    · go_enter Tryz.func6, Tryz.ntmps6
      go_wp2
      go_ret
      exact ⟨rfl, rfl⟩
    · go_enter Tryz.func6, Tryz.ntmps6
      go_wp2
      go_ret
      exact ⟨rfl, rfl⟩

set_option maxHeartbeats 1000000 in
theorem rsync_any (S : ByteArray) (d r : Int) (w : World) :
    Calls Tryz.prog 16 #[RD S d r] w fun e w' => e = .returned (RD S S.size r) ∧ Below w.heap.size w w' := by
  unfold RD
  go_enter Tryz.func16, Tryz.ntmps16
  go_wp2
  refine bodyPost_ret (v := .agg #[.string S, .int .i64 S.size, .int .i64 r]) (by simp [results, Tryz.results16, go_sem]) rfl ⟨rfl, ?_⟩
  exact ((Below.refl _ _).alloc (Nat.le_refl _) _).alloc (by simp) _

set_option maxHeartbeats 1000000 in
theorem rappend_full (S X : ByteArray) (d r : Int) (w : World) (hS : S.size ≤ 1048576) (hX : X.size ≤ 140737488355328) (h : r < (S.size : Int) + X.size) :
    Calls Tryz.prog 39 #[RD S d r, .string X] w fun e w' => e = .returned (.tuple #[RD S d r, .int .i64 3]) ∧ Below w.heap.size w w' := by
  unfold RD
  have hw : IntKind.i64.wrap ((S.size : Int) + (X.size : Int)) = (S.size : Int) + (X.size : Int) := IntWalk.i64_in _ (by omega)
  go_enter Tryz.func39, Tryz.ntmps39
  go_wp2
  refine bodyPost_ret (v := .tuple #[.agg #[.string S, .int .i64 d, .int .i64 r], .int .i64 3]) (by simp [results, Tryz.results39, go_sem]) rfl ⟨rfl, ?_⟩
  exact ((Below.refl _ _).alloc (Nat.le_refl _) _).alloc (by simp) _
set_option maxHeartbeats 1000000 in
theorem rappend_fits (S X : ByteArray) (d r : Int) (w : World) (hS : S.size ≤ 1048576) (hX : X.size ≤ 140737488355328) (h : (S.size : Int) + X.size ≤ r) :
    Calls Tryz.prog 39 #[RD S d r, .string X] w fun e w' => e = .returned (.tuple #[RD (S ++ X) d r, .int .i64 0]) ∧ Below w.heap.size w w' := by
  unfold RD
  have hw : IntKind.i64.wrap ((S.size : Int) + (X.size : Int)) = (S.size : Int) + (X.size : Int) := IntWalk.i64_in _ (by omega)
  have hadd : ∀ w, (Op.stringOp .add S X).run Tryz.prog w = .ok (.string (S ++ X)) w := fun w => by rw [run_string_add_sum w S X (by omega)]
  have h' : ¬ r < (S.size : Int) + X.size := by omega
  go_enter Tryz.func39, Tryz.ntmps39
  go_wp2
  refine bodyPost_ret (v := .tuple #[.agg #[.string (S ++ X), .int .i64 d, .int .i64 r], .int .i64 0]) (by simp [results, Tryz.results39, go_sem]) rfl ⟨rfl, ?_⟩
  exact ((Below.refl _ _).alloc (Nat.le_refl _) _).alloc (by simp) _
theorem str_head (S : ByteArray) (j : Nat) (hj : j ≤ S.size) (w : World) :
    (Instr.slice 9 (.string S) none (some (.int .i64 (j : Int))) none).run Tryz.prog w = .ok (.string (S.extract 0 j)) w := by
  rw [run_slice_string_to_if (P := Tryz.prog) (w := w) 9 S .i64 (j : Int) Tryz.underlying9, if_pos (by omega)]
  rfl

/-- Three cells of a new block, behind a call. -/
theorem three_new {w w1 : World} {o : Obj} {t : TypeId} {a b c : Value} (hb : Below ((w.alloc o).alloc (.cells #[a, b, c] t)).heap.size ((w.alloc o).alloc (.cells #[a, b, c] t)) w1) :
    w1.cell? ⟨w.heap.size + 1, 0, none⟩ = some a ∧ w1.cell? ⟨w.heap.size + 1, 1, none⟩ = some b ∧ w1.cell? ⟨w.heap.size + 1, 2, none⟩ = some c ∧ w1.frozen? ⟨w.heap.size + 1, 0, none⟩ = false ∧ w1.frozen? ⟨w.heap.size + 1, 1, none⟩ = false ∧ w1.frozen? ⟨w.heap.size + 1, 2, none⟩ = false ∧ w.heap.size + 1 < w1.heap.size := by
  have hz : (w.alloc o).heap.size = w.heap.size + 1 := by simp
  have h1 : Whole ((w.alloc o).alloc (.cells #[a, b, c] t)) (w.heap.size + 1) t #[a, b, c] := by rw [← hz]; exact heap_alloc_new (w.alloc o) _
  have h2 := h1.kept (hb.block _ h1.lt)
  exact ⟨by rw [h2.cell]; rfl, by rw [h2.cell]; rfl, by rw [h2.cell]; rfl, h2.free 0, h2.free 1, h2.free 2, h2.lt⟩

theorem two_new {w w1 : World} {A B : Obj} (hb : Below ((w.alloc A).alloc B).heap.size ((w.alloc A).alloc B) w1) : Below w.heap.size w w1 :=
  (((Below.refl _ _).alloc (Nat.le_refl _) A).alloc (by simp) B).trans (hb.mono (by simp; omega))

set_option maxHeartbeats 2000000 in
theorem rtrunc_good (S : ByteArray) (d r : Int) (k : Nat) (w : World) (h : k ≤ S.size) :
    Calls Tryz.prog 45 #[RD S d r, .int .i64 k] w fun e w' => e = .returned (.tuple #[RD (S.extract 0 k) k r, .int .i64 0]) ∧ Below w.heap.size w w' := by
  have hh := str_head S k h
  have hz : (S.extract 0 k).size = k := by simp; omega
  have h1 : ¬ (S.size : Int) < (k : Int) := by omega
  generalize S.extract 0 k = T at *
  go_enter Tryz.func45, Tryz.ntmps45
  unfold RD
  go_wp2_with fail
  refine (rsync_any _ _ r _).mono ?_
  rintro e w1 ⟨rfl, hb1⟩
  obtain ⟨c0, c1, c2, f0, f1, f2, hlt⟩ := three_new hb1
  have HB := Lib.hid (two_new hb1)
  have HZ := Lib.hid hz
  clear hb1 hz
  unfold RD
  go_wp2
  refine bodyPost_ret (v := .tuple #[.agg #[.string T, .int .i64 T.size, .int .i64 r], .int .i64 0]) (by simp [results, Tryz.results45, go_sem, c0, c1, c2]) rfl ⟨by rw [HZ.out], ?_⟩
  exact ((HB.out.setCell (p := ⟨_, 0, none⟩) (by simp) _).setCell (p := ⟨_, 1, none⟩) (by simp) _).setCell (p := ⟨_, 2, none⟩) (by simp) _
theorem RowsOwn.chg {w w' : World} {base : Nat} {v : Value} {ms : List MsgR} (h : RowsOwn w base v ms) (hc : Chg w w' (fun k => k < base)) : RowsOwn w' base v ms := by
  obtain ⟨qs, h1, h2, h3⟩ := h
  have hk : ∀ {n s : Nat} {u : Value} {e : TypeId} {l : List Value}, w.ownsRow base e s u n l → w'.ownsRow base e s u n l := fun hu => owns_keep hu fun k hk => hc.block k (hu.lt k hk).2 (by have := (hu.lt k hk).1; omega)
  exact ⟨qs, h1, hk h2, fun q hq => ⟨⟨hk (h3 q hq).1.nodes, hk (h3 q hq).1.muts, hk (h3 q hq).1.pre, hk (h3 q hq).1.rows⟩, (h3 q hq).2⟩⟩
theorem RowsOwn.lower {w : World} {base base' : Nat} {v : Value} {ms : List MsgR} (h : RowsOwn w base v ms) (hb : base' ≤ base) : RowsOwn w base' v ms := by
  obtain ⟨qs, h1, h2, h3⟩ := h
  refine ⟨qs, h1, ⟨h2.1, ?_⟩, fun q hq => ⟨(h3 q hq).1.lower hb, (h3 q hq).2⟩⟩
  rcases h2.2 with h2 | ⟨g, cap, cur, e, h4, r⟩
  · exact .inl h2
  · exact .inr ⟨g, cap, cur, e, Nat.le_trans hb h4, r⟩
theorem msgin_up {w w' : World} {V : Value} {m : MsgD} (h : MsgIn w V m) (hb : Below w.heap.size w w') : MsgIn w' V m := (show MsgB w' w.heap.size V m from MsgB.below h hb).msg hb.size
end Go.Proofs.YteodldmbnghfcaaGreat.Rl

namespace Go.Proofs.YteodldmbnghfcaaGreat.Rl
open Go.RowKit

/-- What the document's Add comes to. -/
def RAdd (S : ByteArray) (d : Int) (r : Nat) (m : MsgD) (e : Ending) : Prop :=
  (m.good ∧ S.size + (rcd m).length ≤ r ∧ e = .returned (.tuple #[RD (S ++ strOfNums (rcd m)) d r, .int .i64 0])) ∨ (m.good ∧ r < S.size + (rcd m).length ∧ e = .returned (.tuple #[RD S d r, .int .i64 3])) ∨ (¬ m.good ∧ e = .returned (.tuple #[RD S d r, .int .i64 2]))
theorem RAdd.fits {S : ByteArray} {d : Int} {r : Nat} {m : MsgD} {e : Ending} (h : m.ok ∧ (enc m).length ≤ 16384) (h2 : S.size + (rcd m).length ≤ r) (h3 : e = .returned (.tuple #[RD (S ++ strOfNums (rcd m)) d r, .int .i64 0])) : RAdd S d r m e := .inl ⟨h, h2, h3⟩
theorem RAdd.full {S : ByteArray} {d : Int} {r : Nat} {m : MsgD} {e : Ending} (h : m.ok ∧ (enc m).length ≤ 16384) (h2 : r < S.size + (rcd m).length) (h3 : e = .returned (.tuple #[RD S d r, .int .i64 3])) : RAdd S d r m e := .inr (.inl ⟨h, h2, h3⟩)
theorem RAdd.no {S : ByteArray} {d : Int} {r : Nat} {m : MsgD} {e : Ending} (h : ¬ (m.ok ∧ (enc m).length ≤ 16384)) (h3 : e = .returned (.tuple #[RD S d r, .int .i64 2])) : RAdd S d r m e := .inr (.inr ⟨h, h3⟩)
set_option maxRecDepth 100000 in
set_option maxHeartbeats 4000000 in
theorem radd_any (V : Value) (w : World) (m : MsgD) (hm : MsgIn w V m) (hs : m.small) (S : ByteArray) (d : Int) (r : Nat) (hS : S.size ≤ 1048576) :
    Calls Tryz.prog 15 #[RD S d r, V] w fun e w' => RAdd S d r m e ∧ Below w.heap.size w w' := by
  obtain ⟨na, ma, pa, ra, nn, nc, mn, mc, pn, pc, rn, rc, hm⟩ := hm
  have hv := hm.val
  subst hv
  have hm : MsgIn w (.agg #[.int .i64 m.kind, .int .i64 m.from_, .int .i64 m.«to», .int .i64 m.id, .int .i64 m.rev, .int .i64 m.epoch, .int .i64 m.slot, .bool m.flag, .slice na nn nc, .slice ma mn mc, .slice pa pn pc, .slice ra rn rc]) m := ⟨na, ma, pa, ra, nn, nc, mn, mc, pn, pc, rn, rc, hm⟩
  have hb : ∀ x ∈ enc m, 0 ≤ x ∧ x < 256 := enc_byte m
  unfold RD
  obtain ⟨X, hX, hwX, hbX⟩ := box_new w 32 #[.string S, .int .i64 d, .int .i64 (r : Int)]
  obtain ⟨Y, hY, hwY, hbY⟩ := box_new X 43 #[.int .i64 m.kind, .int .i64 m.from_, .int .i64 m.«to», .int .i64 m.id, .int .i64 m.rev, .int .i64 m.epoch, .int .i64 m.slot, .bool m.flag, .slice na nn nc, .slice ma mn mc, .slice pa pn pc, .slice ra rn rc]
  obtain ⟨Z, hZ, hwZ, hbZ⟩ := box_new Y 32 #[.string ⟨#[]⟩, .int .i64 0, .int .i64 0]
  have hsX : X.heap.size = w.heap.size + 1 := by rw [hX]; exact Array.size_push _
  have hsY : Y.heap.size = w.heap.size + 1 + 1 := by rw [hY, ← hsX]; exact Array.size_push _
  rw [hsX] at hwY
  rw [hsY] at hwZ
  have hb3 : Below w.heap.size w Z := bell_up (bell_up hbX hbY) hbZ
  have HXZ := Lib.hid ((hwX.kept (hbY.block _ hwX.lt)).kept (hbZ.block _ (Nat.lt_of_lt_of_le hwX.lt hbY.size)))
  have hyz := hwY.kept (hbZ.block _ hwY.lt)
  have HZZ := Lib.hid hwZ
  have HB3 := Lib.hid hb3
  have HEN := Lib.hid (refenc_any _ m Z (msgin_up hm hb3) hs)
  have HEB := Lib.hid hb
  have k0 := hyz.cell 0
  have k1 := hyz.cell 1
  have k2 := hyz.cell 2
  have k3 := hyz.cell 3
  have k4 := hyz.cell 4
  have k5 := hyz.cell 5
  have k6 := hyz.cell 6
  have k7 := hyz.cell 7
  have k8 := hyz.cell 8
  have k9 := hyz.cell 9
  have k10 := hyz.cell 10
  have k11 := hyz.cell 11
  clear hsX hsY hm hs hb hwX hwY hwZ hbX hbY hbZ hb3 hyz
  go_enter Tryz.func15, Tryz.ntmps15
  go_upto_region 1 with fail
  rw [← hX, ← hY, ← hZ]
  clear hX hY hZ
  go_wp2_with fail
  refine HEN.out.mono ?_
  rintro e w1 ⟨⟨hg, rfl⟩ | ⟨hno, rfl⟩, hb1⟩
  rotate_left
  · have HX2 := HXZ.out.kept (hb1.block _ HXZ.out.lt)
    have HZ3 := HZZ.out.kept (hb1.block _ HZZ.out.lt)
    have HNO := Lib.hid hno
    clear k0 k1 k2 k3 k4 k5 k6 k7 k8 k9 k10 k11 HEN
    have k0 := HX2.cell 0
    have k1 := HX2.cell 1
    have k2 := HX2.cell 2
    have z0 := HZ3.cell 0
    have z1 := HZ3.cell 1
    have z2 := HZ3.cell 2
    have y0 := HZ3.free 0
    have y1 := HZ3.free 1
    have y2 := HZ3.free 2
    have HF := Lib.hid (show Whole (((w1.setCell ⟨w.heap.size + 1 + 1, 0, none⟩ (.string S)).setCell ⟨w.heap.size + 1 + 1, 1, none⟩ (.int .i64 d)).setCell ⟨w.heap.size + 1 + 1, 2, none⟩ (.int .i64 (r : Int))) (w.heap.size + 1 + 1) 32 #[.string S, .int .i64 d, .int .i64 (r : Int)] from ((HZ3.store 0 _).store 1 _).store 2 _)
    have HBF := Lib.hid (show Below w.heap.size w (((w1.setCell ⟨w.heap.size + 1 + 1, 0, none⟩ (.string S)).setCell ⟨w.heap.size + 1 + 1, 1, none⟩ (.int .i64 d)).setCell ⟨w.heap.size + 1 + 1, 2, none⟩ (.int .i64 (r : Int))) from Chg.below (B := w.heap.size) ((((Chg.ofBelow (fun k => k = w.heap.size + 1 + 1) (bell_up HB3.out hb1)).set rfl 0 _).set rfl 1 _).set rfl 2 _) (fun k hk => by have h2 : k = w.heap.size + 1 + 1 := hk; omega) (Nat.le_refl _))
    clear hb1 HX2 HZ3 hno
    go_wp2_with fail
    refine bodyPost_ret (v := .tuple #[.agg #[.string S, .int .i64 d, .int .i64 (r : Int)], .int .i64 2]) (res_two Tryz.results15 _ _ (w.heap.size + 1 + 1) 32 #[.string S, .int .i64 d, .int .i64 (r : Int)] _ _ rfl rfl HF.out Tryz.underlying32 rfl (by kernel_rfl)) rfl ⟨RAdd.no HNO.out rfl, HBF.out⟩
  have HSE := Lib.hid (fun W => Fr.refseal_any (enc m) (strOfNums (enc m)) W rfl HEB.out (by have := hg.2; omega))
  have HG := Lib.hid hg
  clear hg
  have HX1 := Lib.hid (HXZ.out.kept (hb1.block _ HXZ.out.lt))
  have HZ1 := Lib.hid (HZZ.out.kept (hb1.block _ HZZ.out.lt))
  have HB1 := Lib.hid (bell_up HB3.out hb1)
  clear hb1 k0 k1 k2 k3 k4 k5 k6 k7 k8 k9 k10 k11 HEN
  have hlen : (enc m).length ≤ 16384 := HG.out.2
  go_wp2_with fail
  refine (HSE.out w1).mono ?_
  rintro e w2 ⟨rfl, hb2⟩
  rw [if_pos hlen]
  have HX2 := Lib.hid (HX1.out.kept (hb2.block _ HX1.out.lt))
  have HZ2 := Lib.hid (HZ1.out.kept (hb2.block _ HZ1.out.lt))
  have HB2 := Lib.hid (bell_up HB1.out hb2)
  have k0 := HX2.out.cell 0
  have k1 := HX2.out.cell 1
  have k2 := HX2.out.cell 2
  have hfl : (strOfNums (Fr.sealed (enc m))).size = (Fr.sealed (enc m)).length := by rw [strOfNums_size]
  have hsl : (Fr.sealed (enc m)).length = 8 + (enc m).length := Fr.sealed_length _
  clear hb2 HSE
  generalize hFe : strOfNums (Fr.sealed (enc m)) = F at *
  generalize hLe : (Fr.sealed (enc m)).length = L at *
  have HFE := Lib.hid (And.intro hFe hLe)
  clear hFe hLe
  by_cases hfit : S.size + L ≤ r
  · have HAP := Lib.hid (rappend_fits S F d r w2 hS (by omega) (by omega))
    go_wp2_with fail
    refine HAP.out.mono ?_
    rintro e w3 ⟨rfl, hb3⟩
    unfold RD
    have HZ3 := HZ2.out.kept (hb3.block _ HZ2.out.lt)
    have z0 := HZ3.cell 0
    have z1 := HZ3.cell 1
    have z2 := HZ3.cell 2
    have y0 := HZ3.free 0
    have y1 := HZ3.free 1
    have y2 := HZ3.free 2
    have HF := Lib.hid (show Whole (((w3.setCell ⟨w.heap.size + 1 + 1, 0, none⟩ (.string (S ++ F))).setCell ⟨w.heap.size + 1 + 1, 1, none⟩ (.int .i64 d)).setCell ⟨w.heap.size + 1 + 1, 2, none⟩ (.int .i64 (r : Int))) (w.heap.size + 1 + 1) 32 #[.string (S ++ F), .int .i64 d, .int .i64 (r : Int)] from ((HZ3.store 0 _).store 1 _).store 2 _)
    have HBF := Lib.hid (show Below w.heap.size w (((w3.setCell ⟨w.heap.size + 1 + 1, 0, none⟩ (.string (S ++ F))).setCell ⟨w.heap.size + 1 + 1, 1, none⟩ (.int .i64 d)).setCell ⟨w.heap.size + 1 + 1, 2, none⟩ (.int .i64 (r : Int))) from Chg.below (B := w.heap.size) ((((Chg.ofBelow (fun k => k = w.heap.size + 1 + 1) (bell_up HB2.out hb3)).set rfl 0 _).set rfl 1 _).set rfl 2 _) (fun k hk => by have h2 : k = w.heap.size + 1 + 1 := hk; omega) (Nat.le_refl _))
    clear hb3 HZ3 HAP
    go_wp2_with fail
    refine bodyPost_ret (v := .tuple #[.agg #[.string (S ++ F), .int .i64 d, .int .i64 (r : Int)], .int .i64 0]) (res_two Tryz.results15 _ _ (w.heap.size + 1 + 1) 32 #[.string (S ++ F), .int .i64 d, .int .i64 (r : Int)] _ _ rfl rfl HF.out Tryz.underlying32 rfl (by kernel_rfl)) rfl ⟨RAdd.fits HG.out (by rw [rcd, HFE.out.2]; exact hfit) (by rw [rcd, HFE.out.1]; rfl), HBF.out⟩
  · have HAP := Lib.hid (rappend_full S F d r w2 hS (by omega) (by omega))
    go_wp2_with fail
    refine HAP.out.mono ?_
    rintro e w3 ⟨rfl, hb3⟩
    unfold RD
    have HZ3 := HZ2.out.kept (hb3.block _ HZ2.out.lt)
    have z0 := HZ3.cell 0
    have z1 := HZ3.cell 1
    have z2 := HZ3.cell 2
    have y0 := HZ3.free 0
    have y1 := HZ3.free 1
    have y2 := HZ3.free 2
    have HF := Lib.hid (show Whole (((w3.setCell ⟨w.heap.size + 1 + 1, 0, none⟩ (.string S)).setCell ⟨w.heap.size + 1 + 1, 1, none⟩ (.int .i64 d)).setCell ⟨w.heap.size + 1 + 1, 2, none⟩ (.int .i64 (r : Int))) (w.heap.size + 1 + 1) 32 #[.string S, .int .i64 d, .int .i64 (r : Int)] from ((HZ3.store 0 _).store 1 _).store 2 _)
    have HBF := Lib.hid (show Below w.heap.size w (((w3.setCell ⟨w.heap.size + 1 + 1, 0, none⟩ (.string S)).setCell ⟨w.heap.size + 1 + 1, 1, none⟩ (.int .i64 d)).setCell ⟨w.heap.size + 1 + 1, 2, none⟩ (.int .i64 (r : Int))) from Chg.below (B := w.heap.size) ((((Chg.ofBelow (fun k => k = w.heap.size + 1 + 1) (bell_up HB2.out hb3)).set rfl 0 _).set rfl 1 _).set rfl 2 _) (fun k hk => by have h2 : k = w.heap.size + 1 + 1 := hk; omega) (Nat.le_refl _))
    clear hb3 HZ3 HAP
    go_wp2_with fail
    refine bodyPost_ret (v := .tuple #[.agg #[.string S, .int .i64 d, .int .i64 (r : Int)], .int .i64 3]) (res_two Tryz.results15 _ _ (w.heap.size + 1 + 1) 32 #[.string S, .int .i64 d, .int .i64 (r : Int)] _ _ rfl rfl HF.out Tryz.underlying32 rfl (by kernel_rfl)) rfl ⟨RAdd.full HG.out (by rw [rcd, HFE.out.2]; omega) rfl, HBF.out⟩
end Go.Proofs.YteodldmbnghfcaaGreat.Rl

namespace Go.Proofs.YteodldmbnghfcaaGreat.Rl
open Go.RowKit

theorem str_tail2 (S : ByteArray) (i : Nat) (hi : i ≤ S.size) (w : World) :
    (Instr.slice 9 (.string S) (some (.int .i64 (i : Int))) none none).run Tryz.prog w = .ok (.string (S.extract i S.size)) w := by
  rw [run_slice_string_from_if (P := Tryz.prog) (w := w) 9 S .i64 (i : Int) Tryz.underlying9, if_pos (by omega)]
  rfl
set_option maxRecDepth 100000 in
set_option maxHeartbeats 8000000 in
theorem ropen_any (xs : List Int) (d r : Int) (w : World) (hb : Byt xs) (hn : xs.length ≤ 1048576) :
    Calls Tryz.prog 18 #[RD (strOfNums xs) d r] w fun e w' => ∃ v, e = .returned (.tuple #[RD (strOfNums (xs.take (recs xs).2)) (recs xs).2 r, v]) ∧ RowsOwn w' w.heap.size v (recs xs).1 ∧ Below w.heap.size w w' := by
  obtain ⟨i0, hi, hz0, hz1, hz2⟩ := info_parts Tryz.infoG
  obtain ⟨S, hS⟩ : ∃ S, S = strOfNums xs := ⟨_, rfl⟩
  rw [← hS]
  have HSZ := Lib.hid (show S.size = xs.length by rw [hS, strOfNums_size])
  have hsn : S.size ≤ 1048576 := by rw [HSZ.out]; exact hn
  obtain ⟨X, hX, hwX, hbX⟩ := box_new w 32 #[.string S, .int .i64 d, .int .i64 r]
  obtain ⟨Z, hZ, hwZ, hbZ⟩ := box_new X 32 #[.string ⟨#[]⟩, .int .i64 0, .int .i64 0]
  have hsX : X.heap.size = w.heap.size + 1 := by rw [hX]; exact Array.size_push _
  have hsZ : Z.heap.size = w.heap.size + 1 + 1 := by rw [hZ, ← hsX]; exact Array.size_push _
  rw [hsX] at hwZ
  have HXZ := Lib.hid (hwX.kept (hbZ.block _ hwX.lt))
  have HZZ := Lib.hid hwZ
  have HBZ := Lib.hid (bell_up hbX hbZ)
  have HSZZ := Lib.hid hsZ
  have HS := Lib.hid hS
  have HB := Lib.hid hb
  clear hS hb hwX hwZ hbX hbZ hsX hsZ
  unfold RD
  go_enter Tryz.func18, Tryz.ntmps18
  go_upto_region 1 with fail
  rw [← hX, ← hZ]
  clear hX hZ
  go_wp2_with fail
  go_loopw [4, 5] (fun rv iv wr => ∃ (k q : Nat) (ra : Option Addr) (rc : Nat), k ≤ xs.length ∧ iv = .int .i64 k ∧ rv = .slice ra q rc ∧ Far Z wr xs (.slice ra q rc) k q) (fun _ iv _ => xs.length - (intOf iv).toNat)
  case atStart => exact ⟨0, 0, none, 0, by omega, rfl, rfl, [], rfl, ⟨[], rfl, ⟨rfl, .inl ⟨rfl, rfl⟩⟩, by simp⟩, Below.refl _ _, by omega, by simp⟩
  case round =>
    obtain ⟨k, q, ra, rc, hk, rfl, rfl, hfar⟩ := hrel
    have hq8 : q * 8 ≤ k := by obtain ⟨_, _, _, _, h, _⟩ := hfar; exact h
    have HFAR := Lib.hid hfar
    have hbr : Below Z.heap.size Z wr := by obtain ⟨_, _, _, h, _, _⟩ := hfar; exact h
    have HBR := Lib.hid hbr
    have c0 : wr.cell? ⟨w.heap.size, 0, none⟩ = some (.string S) := (HXZ.out.kept (hbr.block _ HXZ.out.lt)).cell 0
    have hs1 := fun w => str_tail2 S k (by rw [HSZ.out]; exact hk) w
    have hx1 : S.extract k S.size = strOfNums (xs.drop k) := by rw [HS.out, Fr.str_sub, strOfNums_size, List.take_of_length_le (by simp)]
    have hRO := Lib.hid (Fr.refopen_any (xs.drop k) (S.extract k S.size) wr hx1 (fun x hx => HB.out x (List.mem_of_mem_drop hx)) (by simp; omega))
    have hxn : ¬ (S.size : Int) < (k : Int) := by rw [HSZ.out]; omega
    generalize S.extract k S.size = T0 at *
    clear hbr hfar hx1
    go_wp2_with fail
    refine hRO.out.mono ?_
    rintro e w2 ⟨hb2, ⟨he, rfl⟩ | ⟨he, rfl⟩⟩
    · have hbp : Byt (Fr.pay (xs.drop k)) := pay_byt (fun x hx => HB.out x (List.mem_of_mem_drop hx))
      have HDC := Lib.hid (refdec_any (Fr.pay (xs.drop k)) w2 hbp)
      have HE := Lib.hid he
      have HB2 := Lib.hid hb2
      obtain ⟨P, hP⟩ : ∃ P, P = strOfNums (Fr.pay (xs.drop k)) := ⟨_, rfl⟩
      rw [← hP]
      rw [← hP] at HDC
      clear hP
      obtain ⟨kk, hkk⟩ : ∃ kk, kk = 8 + Fr.wd (xs.drop k) 4 := ⟨_, rfl⟩
      rw [← hkk]
      have HKK0 := Lib.hid hkk
      clear hb2 he hkk hRO c0 hs1
      go_wp2_with fail
      refine HDC.out.mono ?_
      rintro e w3 (⟨m, v8, v9, v10, v11, hd, rfl, hO, hb3⟩ | ⟨cd, hd, rfl, hb3⟩)
      · have hu : unp (xs.drop k) = some (m, kk) := by rw [HKK0.out]; exact unp_ok HE.out hd
        have hfine : m.fine := (dec_inv hbp hd).2.1
        obtain ⟨a8, n8, c8, rfl⟩ := own_sliceL hO.nodes
        obtain ⟨a9, n9, c9, rfl⟩ := own_sliceL hO.muts
        obtain ⟨a10, n10, c10, rfl⟩ := own_sliceL hO.pre
        obtain ⟨a11, n11, c11, rfl⟩ := own_sliceL hO.rows
        obtain ⟨X2, hX2, hw2, hbx2⟩ := alloc_box w3 (msgC m (.slice a8 n8 c8) (.slice a9 n9 c9) (.slice a10 n10 c10) (.slice a11 n11 c11))
        have hkk : kk + k ≤ xs.length ∧ 8 ≤ kk := by
          have h1 := unp_range hu
          rw [List.length_drop] at h1
          omega
        obtain ⟨hkk, hk8⟩ := hkk
        have hbw := (HB2.out.trans (hb3.mono HB2.out.size)).trans (hbx2.mono (Nat.le_trans HB2.out.size hb3.size))
        obtain ⟨acc, hacc, ⟨qs, hqs, hown, hall⟩, _⟩ := HFAR.out
        rw [hacc] at hown
        have hownX := owns_below hown hbw
        have HOW := Lib.hid hownX
        have HO := Lib.hid ((hO.below hbx2).lower (Nat.le_trans HBR.out.size HB2.out.size))
        have HFI := Lib.hid hfine
        have HUU := Lib.hid hu
        have HBW := Lib.hid hbw
        have HSX := Lib.hid (show Z.heap.size ≤ X2.heap.size from Nat.le_trans HBR.out.size hbw.size)
        have HNR := Lib.hid (show ∀ l : List Value, wr.ownsRow Z.heap.size 43 12 (.slice ra q rc) q l → l = qs.flatMap qC from fun l hl => row_one hl hown)
        unfold msgC at hX2 hw2 ⊢
        go_upto_region 6 with fail
        rw [← hX2]
        have j0 := hw2.cell 0
        have j1 := hw2.cell 1
        have j2 := hw2.cell 2
        have j3 := hw2.cell 3
        have j4 := hw2.cell 4
        have j5 := hw2.cell 5
        have j6 := hw2.cell 6
        have j7 := hw2.cell 7
        have j8 := hw2.cell 8
        have j9 := hw2.cell 9
        have j10 := hw2.cell 10
        have j11 := hw2.cell 11
        have hw1 : IntKind.i64.wrap ((k : Int) + (kk : Int)) = (k : Int) + (kk : Int) := IntWalk.i64_in _ (by omega)
        clear hb3 hw2 hbx2 hX2 hO hfine hu hbw hown hownX hall hqs hacc HDC hd hbp
        go_wp2_with (at_builtin; refine wpList_append_at_any _ rfl _ _ 33 rfl Z.heap.size 43 i0 (.agg MsgZ) 12 160 Tryz.underlying33 hi hz0 hz1 hz2 rfl (by decide) _ q _ rfl (HOW.out.alloc _) (some ⟨X2.heap.size, 0, none⟩) 1 1 [.int .i64 m.kind, .int .i64 m.frm, .int .i64 m.too, .int .i64 m.id, .int .i64 m.rev, .int .i64 m.epoch, .int .i64 m.slot, .bool m.flag, .slice a8 n8 c8, .slice a9 n9 c9, .slice a10 n10 c10, .slice a11 n11 c11] rfl rfl (by intro h; cases h) (by rintro ad he; injection he with he; subst he; exact cells_new _ [.int .i64 m.kind, .int .i64 m.frm, .int .i64 m.too, .int .i64 m.id, .int .i64 m.rev, .int .i64 m.epoch, .int .i64 m.slot, .bool m.flag, .slice a8 n8 c8, .slice a9 n9 c9, .slice a10 n10 c10, .slice a11 n11 c11] _) (by intro q hq; simp at hq; rcases hq with rfl | rfl | rfl | rfl | rfl | rfl | rfl | rfl | rfl | rfl | rfl | rfl <;> rfl) (by unfold maxLen; omega) (by omega) (by have := HSX.out; simp; omega) ?_; intro v2 w4 hown3 hgrow3 hat3)
        have HF3 := Lib.hid (HFAR.out.step (w2 := X2.alloc (.cells #[.int .i64 m.kind, .int .i64 m.frm, .int .i64 m.too, .int .i64 m.id, .int .i64 m.rev, .int .i64 m.epoch, .int .i64 m.slot, .bool m.flag, .slice a8 n8 c8, .slice a9 n9 c9, .slice a10 n10 c10, .slice a11 n11 c11] 43)) (w3 := w4) (v' := v2) HUU.out (HBW.out.alloc HBW.out.size _) (HO.out.below (below_alloc _ _)) HFI.out (fun l hl => by rw [HNR.out l hl]; exact hown3) hgrow3)
        obtain ⟨ra3, rc3, rfl, _, _⟩ := owned_some hown3
        clear hown3 hgrow3 hat3
        go_roundw
        case rel => exact ⟨k + kk, q + 1, ra3, rc3, by omega, by go_num, rfl, HF3.out⟩
        case measure => simp [intOf]; omega
      · have hcd : cd ≠ 0 := dec_err hd
        have hce : (cd != 0) = true := by simpa using hcd
        have HUB := Lib.hid (show unp (xs.drop k) = none from unp_bad HE.out hd)
        have HB3 := Lib.hid (HB2.out.trans (hb3.mono HB2.out.size))
        obtain ⟨w4, hw4, _, hb4⟩ := box_new w3 43 MsgZ
        have HB4 := Lib.hid (HB3.out.trans (hb4.mono HB3.out.size))
        clear hcd hb3 hd hb4 HDC hbp
        go_upto_region 6 with fail
        rw [← hw4]
        clear hw4
        have hdn := HFAR.out.done HUB.out HB4.out
        obtain ⟨v', hv', hrw, hbd⟩ := hdn
        injection hv' with hv'
        injection hv' with hv'
        injection hv' with hv'
        obtain ⟨rfl, hkk⟩ : v' = .slice ra q rc ∧ k = (recs xs).2 := by
          simp only [List.cons.injEq, Value.int.injEq, and_true, true_and] at hv'
          exact ⟨hv'.1.symm, by exact_mod_cast hv'.2⟩
        have HKK := Lib.hid hkk
        have HRW := Lib.hid hrw
        have HBD := Lib.hid hbd
        have hX4 := HXZ.out.kept (hbd.block _ HXZ.out.lt)
        have hZ4 := HZZ.out.kept (hbd.block _ HZZ.out.lt)
        have HX4 := Lib.hid hX4
        have HZ4 := Lib.hid hZ4
        have x0 := hX4.cell 0
        have x1 := hX4.cell 1
        have x2 := hX4.cell 2
        have HTR := Lib.hid (rtrunc_good S d r k w4 (by rw [HSZ.out]; exact hk))
        clear hv' hkk hrw hbd hX4 hZ4
        go_wp2_with fail
        refine HTR.out.mono ?_
        rintro e w5 ⟨rfl, hb5⟩
        have hX5 := HX4.out.kept (hb5.block _ HX4.out.lt)
        have hZ5 := HZ4.out.kept (hb5.block _ HZ4.out.lt)
        have HEX := Lib.hid (show S.extract 0 k = strOfNums (xs.take k) by rw [HS.out, Fr.str_sub]; simp)
        generalize S.extract 0 k = T at *
        have x0 := hX5.cell 0
        have x1 := hX5.cell 1
        have x2 := hX5.cell 2
        have y0 := hX5.free 0
        have y1 := hX5.free 1
        have y2 := hX5.free 2
        have HR5 := Lib.hid (HRW.out.below hb5)
        obtain ⟨w6, hw6⟩ : ∃ w6, w6 = ((w5.setCell ⟨w.heap.size, 0, none⟩ (.string T)).setCell ⟨w.heap.size, 1, none⟩ (.int .i64 k)).setCell ⟨w.heap.size, 2, none⟩ (.int .i64 r) := ⟨_, rfl⟩
        have hX6 : Whole w6 w.heap.size 32 #[.string T, .int .i64 k, .int .i64 r] := by
          rw [hw6]
          exact ((hX5.store 0 _).store 1 _).store 2 _
        have hZ6 : Whole w6 (w.heap.size + 1) 32 #[.string ⟨#[]⟩, .int .i64 0, .int .i64 0] := by
          rw [hw6]
          exact ((hZ5.kept (Below.heap_setCell w5 ⟨w.heap.size, 0, none⟩ (.string T) (w.heap.size + 1) (by simp))).kept (Below.heap_setCell _ ⟨w.heap.size, 1, none⟩ (.int .i64 k) (w.heap.size + 1) (by simp))).kept (Below.heap_setCell _ ⟨w.heap.size, 2, none⟩ (.int .i64 r) (w.heap.size + 1) (by simp))
        have h0 : (fun b => b < Z.heap.size) w.heap.size := by show w.heap.size < Z.heap.size; rw [HSZZ.out]; omega
        have h1 : (fun b => b < Z.heap.size) (w.heap.size + 1) := by show w.heap.size + 1 < Z.heap.size; rw [HSZZ.out]; omega
        have HC6 := Lib.hid (show Chg w5 w6 (fun b => b < Z.heap.size) from by
          rw [hw6]
          exact (((Chg.refl w5 (fun b => b < Z.heap.size)).set (b := w.heap.size) h0 0 _).set (b := w.heap.size) h0 1 _).set (b := w.heap.size) h0 2 _)
        have HB6 := Lib.hid (show Below w.heap.size w w6 from by
          rw [hw6]
          have h0 := HBZ.out.trans ((HBD.out.trans (hb5.mono HBD.out.size)).mono (by rw [HSZZ.out]; omega))
          exact ((h0.setCell (p := ⟨w.heap.size, 0, none⟩) (Nat.le_refl _) _).setCell (p := ⟨w.heap.size, 1, none⟩) (Nat.le_refl _) _).setCell (p := ⟨w.heap.size, 2, none⟩) (Nat.le_refl _) _)
        clear hX5 hZ5 hb5
        unfold RD
        go_upto_region 10 with fail
        rw [← hw6]
        clear hw6 x0 x1 x2 y0 y1 y2
        have x0 := hX6.cell 0
        have x1 := hX6.cell 1
        have x2 := hX6.cell 2
        have u0 := hZ6.free 0
        have u1 := hZ6.free 1
        have u2 := hZ6.free 2
        have z0 := hZ6.cell 0
        have z1 := hZ6.cell 1
        have z2 := hZ6.cell 2
        obtain ⟨w7, hw7⟩ : ∃ w7, w7 = ((w6.setCell ⟨w.heap.size + 1, 0, none⟩ (.string T)).setCell ⟨w.heap.size + 1, 1, none⟩ (.int .i64 k)).setCell ⟨w.heap.size + 1, 2, none⟩ (.int .i64 r) := ⟨_, rfl⟩
        have HW6 := Lib.hid (show Whole w7 (w.heap.size + 1) 32 #[.string T, .int .i64 k, .int .i64 r] from by
          rw [hw7]
          exact ((hZ6.store 0 _).store 1 _).store 2 _)
        have HC7 := Lib.hid (show Chg w5 w7 (fun b => b < Z.heap.size) from by
          rw [hw7]
          exact ((HC6.out.set (b := w.heap.size + 1) h1 0 _).set (b := w.heap.size + 1) h1 1 _).set (b := w.heap.size + 1) h1 2 _)
        have HB7 := Lib.hid (show Below w.heap.size w w7 from by
          rw [hw7]
          exact ((HB6.out.setCell (p := ⟨w.heap.size + 1, 0, none⟩) (Nat.le_succ _) _).setCell (p := ⟨w.heap.size + 1, 1, none⟩) (Nat.le_succ _) _).setCell (p := ⟨w.heap.size + 1, 2, none⟩) (Nat.le_succ _) _)
        have HW := Lib.hid hw7
        clear hX6 hZ6 hw7 h0 h1
        go_wp2_with fail
        rw [← HW.out]
        refine bodyPost_ret (v := .tuple #[.agg #[.string T, .int .i64 k, .int .i64 r], .slice ra q rc]) (res_two Tryz.results18 _ _ (w.heap.size + 1) 32 #[.string T, .int .i64 k, .int .i64 r] _ _ rfl rfl HW6.out Tryz.underlying32 rfl (by kernel_rfl)) rfl ⟨.slice ra q rc, by rw [← HKK.out, HEX.out], RowsOwn.lower (RowsOwn.chg HR5.out HC7.out) (by rw [HSZZ.out]; omega), HB7.out⟩
    · have HUB := Lib.hid (show unp (xs.drop k) = none from unp_no he)
      have hce : (((Fr.err (xs.drop k) : Nat) : Int) != 0) = true := by simpa using he
      have HB4 := Lib.hid hb2
      generalize ((Fr.err (xs.drop k) : Nat) : Int) = c at *
      clear he hb2 hRO c0 hs1
      have hdn := HFAR.out.done HUB.out HB4.out
      obtain ⟨v', hv', hrw, hbd⟩ := hdn
      injection hv' with hv'
      injection hv' with hv'
      injection hv' with hv'
      obtain ⟨rfl, hkk⟩ : v' = .slice ra q rc ∧ k = (recs xs).2 := by
        simp only [List.cons.injEq, Value.int.injEq, and_true, true_and] at hv'
        exact ⟨hv'.1.symm, by exact_mod_cast hv'.2⟩
      have HKK := Lib.hid hkk
      have HRW := Lib.hid hrw
      have HBD := Lib.hid hbd
      have hX4 := HXZ.out.kept (hbd.block _ HXZ.out.lt)
      have hZ4 := HZZ.out.kept (hbd.block _ HZZ.out.lt)
      have HX4 := Lib.hid hX4
      have HZ4 := Lib.hid hZ4
      have x0 := hX4.cell 0
      have x1 := hX4.cell 1
      have x2 := hX4.cell 2
      have HTR := Lib.hid (rtrunc_good S d r k w2 (by rw [HSZ.out]; exact hk))
      clear hv' hkk hrw hbd hX4 hZ4
      go_wp2_with fail
      refine HTR.out.mono ?_
      rintro e w5 ⟨rfl, hb5⟩
      have hX5 := HX4.out.kept (hb5.block _ HX4.out.lt)
      have hZ5 := HZ4.out.kept (hb5.block _ HZ4.out.lt)
      have HEX := Lib.hid (show S.extract 0 k = strOfNums (xs.take k) by rw [HS.out, Fr.str_sub]; simp)
      generalize S.extract 0 k = T at *
      have x0 := hX5.cell 0
      have x1 := hX5.cell 1
      have x2 := hX5.cell 2
      have y0 := hX5.free 0
      have y1 := hX5.free 1
      have y2 := hX5.free 2
      have HR5 := Lib.hid (HRW.out.below hb5)
      obtain ⟨w6, hw6⟩ : ∃ w6, w6 = ((w5.setCell ⟨w.heap.size, 0, none⟩ (.string T)).setCell ⟨w.heap.size, 1, none⟩ (.int .i64 k)).setCell ⟨w.heap.size, 2, none⟩ (.int .i64 r) := ⟨_, rfl⟩
      have hX6 : Whole w6 w.heap.size 32 #[.string T, .int .i64 k, .int .i64 r] := by
        rw [hw6]
        exact ((hX5.store 0 _).store 1 _).store 2 _
      have hZ6 : Whole w6 (w.heap.size + 1) 32 #[.string ⟨#[]⟩, .int .i64 0, .int .i64 0] := by
        rw [hw6]
        exact ((hZ5.kept (Below.heap_setCell w5 ⟨w.heap.size, 0, none⟩ (.string T) (w.heap.size + 1) (by simp))).kept (Below.heap_setCell _ ⟨w.heap.size, 1, none⟩ (.int .i64 k) (w.heap.size + 1) (by simp))).kept (Below.heap_setCell _ ⟨w.heap.size, 2, none⟩ (.int .i64 r) (w.heap.size + 1) (by simp))
      have h0 : (fun b => b < Z.heap.size) w.heap.size := by show w.heap.size < Z.heap.size; rw [HSZZ.out]; omega
      have h1 : (fun b => b < Z.heap.size) (w.heap.size + 1) := by show w.heap.size + 1 < Z.heap.size; rw [HSZZ.out]; omega
      have HC6 := Lib.hid (show Chg w5 w6 (fun b => b < Z.heap.size) from by
        rw [hw6]
        exact (((Chg.refl w5 (fun b => b < Z.heap.size)).set (b := w.heap.size) h0 0 _).set (b := w.heap.size) h0 1 _).set (b := w.heap.size) h0 2 _)
      have HB6 := Lib.hid (show Below w.heap.size w w6 from by
        rw [hw6]
        have h0 := HBZ.out.trans ((HBD.out.trans (hb5.mono HBD.out.size)).mono (by rw [HSZZ.out]; omega))
        exact ((h0.setCell (p := ⟨w.heap.size, 0, none⟩) (Nat.le_refl _) _).setCell (p := ⟨w.heap.size, 1, none⟩) (Nat.le_refl _) _).setCell (p := ⟨w.heap.size, 2, none⟩) (Nat.le_refl _) _)
      clear hX5 hZ5 hb5
      unfold RD
      go_upto_region 10 with fail
      rw [← hw6]
      clear hw6 x0 x1 x2 y0 y1 y2
      have x0 := hX6.cell 0
      have x1 := hX6.cell 1
      have x2 := hX6.cell 2
      have u0 := hZ6.free 0
      have u1 := hZ6.free 1
      have u2 := hZ6.free 2
      have z0 := hZ6.cell 0
      have z1 := hZ6.cell 1
      have z2 := hZ6.cell 2
      obtain ⟨w7, hw7⟩ : ∃ w7, w7 = ((w6.setCell ⟨w.heap.size + 1, 0, none⟩ (.string T)).setCell ⟨w.heap.size + 1, 1, none⟩ (.int .i64 k)).setCell ⟨w.heap.size + 1, 2, none⟩ (.int .i64 r) := ⟨_, rfl⟩
      have HW6 := Lib.hid (show Whole w7 (w.heap.size + 1) 32 #[.string T, .int .i64 k, .int .i64 r] from by
        rw [hw7]
        exact ((hZ6.store 0 _).store 1 _).store 2 _)
      have HC7 := Lib.hid (show Chg w5 w7 (fun b => b < Z.heap.size) from by
        rw [hw7]
        exact ((HC6.out.set (b := w.heap.size + 1) h1 0 _).set (b := w.heap.size + 1) h1 1 _).set (b := w.heap.size + 1) h1 2 _)
      have HB7 := Lib.hid (show Below w.heap.size w w7 from by
        rw [hw7]
        exact ((HB6.out.setCell (p := ⟨w.heap.size + 1, 0, none⟩) (Nat.le_succ _) _).setCell (p := ⟨w.heap.size + 1, 1, none⟩) (Nat.le_succ _) _).setCell (p := ⟨w.heap.size + 1, 2, none⟩) (Nat.le_succ _) _)
      have HW := Lib.hid hw7
      clear hX6 hZ6 hw7 h0 h1
      go_wp2_with fail
      rw [← HW.out]
      refine bodyPost_ret (v := .tuple #[.agg #[.string T, .int .i64 k, .int .i64 r], .slice ra q rc]) (res_two Tryz.results18 _ _ (w.heap.size + 1) 32 #[.string T, .int .i64 k, .int .i64 r] _ _ rfl rfl HW6.out Tryz.underlying32 rfl (by kernel_rfl)) rfl ⟨.slice ra q rc, by rw [← HKK.out, HEX.out], RowsOwn.lower (RowsOwn.chg HR5.out HC7.out) (by rw [HSZZ.out]; omega), HB7.out⟩
end Go.Proofs.YteodldmbnghfcaaGreat.Rl

namespace Go.Proofs.YteodldmbnghfcaaGreat
open Go.RowKit Go.ChangeShapes Go.WideShapes

theorem tup_openedW {H : Type} {enc : TypeId × Value → H} {W : World} {fuel : Nat} {v0 v1 v2 : Value} {x : DataW H × List MemPlace}
    (h : DataW.trod enc Tryz.prog W 0 (fun _ => true) true fuel 114 [v0, v1, v2] = some x) (hw : ∀ k ∈ x.1.weights Tryz.prog 114, k ≤ 140737488351232) :
    ∃ a b c, v0 = .string a ∧ v1 = .string b ∧ v2 = .string c ∧ a.size ≤ 9223372036854775807 ∧ b.size ≤ 9223372036854775807 ∧ c.size ≤ 9223372036854775807 ∧ small3 a b c := by
  obtain ⟨y0, y1, y2, n', hd, _, t0, t1, t2⟩ := Go.Deep.trod_struct3 Tryz.underlying114 h
  have k1 : Tryz.prog.cellsOf 9 = 1 := by kernel_rfl
  simp [k1] at t0 t1 t2
  obtain ⟨a, q0, p0, w0⟩ := DataW.trod_string Tryz.underlying9 t0
  obtain ⟨b, q1, p1, w1⟩ := DataW.trod_string Tryz.underlying9 t1
  obtain ⟨c, q2, p2, w2⟩ := DataW.trod_string Tryz.underlying9 t2
  simp at q0 q1 q2
  unfold maxLen at w0 w1 w2
  have hd1 := congrArg Prod.fst hd
  simp only at hd1
  rw [hd1, p0, p1, p2] at hw
  simp only [DataW.weights, Tryz.underlying114, List.map_cons, List.map_nil, DataW.weightsEach, List.mem_append, List.mem_cons, List.not_mem_nil, or_false] at hw
  have k0 := hw _ (.inl rfl)
  have k1 := hw _ (.inr (.inl rfl))
  have k2 := hw _ (.inr (.inr rfl))
  rw [← Lib.size_eq] at k0 k1 k2
  exact ⟨a, b, c, q0, q1, q2, by omega, by omega, by omega, k0, k1, k2⟩
set_option maxRecDepth 100000 in
set_option maxHeartbeats 1000000 in
theorem muts_openedW {H : Type} {enc : TypeId × Value → H} {W : World} {fuel : Nat} {v : Value} {x : DataW H × List MemPlace}
    (h : DataW.trod enc Tryz.prog W 0 (fun _ => true) true fuel 39 [v] = some x) (hw : ∀ k ∈ x.1.weights Tryz.prog 39, k ≤ 140737488351232) :
    ∃ a n c zs, v = .slice a n c ∧ MutsAt W W.heap.size a n zs ∧ n ≤ c ∧ c ≤ maxLen ∧ ∀ y ∈ zs, small3 y.a y.b y.c := by
  rcases Go.Deep.open_slice Tryz.underlying39 h with ⟨hcs, hx⟩ | ⟨ad, l, c, m, n, Dd, Pl, hcs, _, hl, hm, hmm, hx, hall⟩
  · simp at hcs
    subst hcs
    exact ⟨none, 0, 0, [], rfl, ⟨rfl, .inl rfl⟩, by omega, by simp [maxLen], by simp⟩
  · simp at hcs
    subst hcs
    have hcell : Tryz.prog.cellsOf 116 = 4 := by kernel_rfl
    rw [hcell] at hall
    simp only [if_true] at hmm
    rcases Nat.eq_zero_or_pos l with h0 | h0
    · subst h0
      exact ⟨some ad, 0, c, [], rfl, ⟨rfl, .inl rfl⟩, hl, hm, by simp⟩
    · obtain ⟨b, off, spot⟩ := ad
      have hs : spot = none := by
        obtain ⟨cs', hc, _⟩ := hall 0 (by omega)
        obtain ⟨_, hcl, hat⟩ := World.cells?_some hc
        have h1 := hat 0 (by omega)
        rw [List.getElem?_eq_getElem (by omega)] at h1
        simpa [Addr.add] using World.cell?_spot h1
      subst hs
      have key : ∀ i, i < l → ∃ m : Mut, W.cell? ⟨b, off + i * 4, none⟩ = some (.bool m.d) ∧ W.cell? ⟨b, off + i * 4 + 1, none⟩ = some (.string m.a) ∧ W.cell? ⟨b, off + i * 4 + 2, none⟩ = some (.string m.b) ∧ W.cell? ⟨b, off + i * 4 + 3, none⟩ = some (.string m.c) ∧ m.a.size ≤ 9223372036854775807 ∧ m.b.size ≤ 9223372036854775807 ∧ m.c.size ≤ 9223372036854775807 ∧ small3 m.a m.b m.c := by
        intro i hi
        obtain ⟨cs', hc, ht⟩ := hall i (by omega)
        obtain ⟨_, hcl, hat⟩ := World.cells?_some hc
        have hwi : ∀ k ∈ (Dd i).weights Tryz.prog 116, k ≤ 140737488351232 := fun k hk => hw k (by
          rw [hx]
          exact weights_slice Tryz.underlying39 (.inl (List.mem_map.2 ⟨i, List.mem_range.2 hi, rfl⟩)) hk)
        match cs', hcl with
        | [v0, v1, v2, v3], _ =>
          have e0 := hat 0 (by omega)
          have e1 := hat 1 (by omega)
          have e2 := hat 2 (by omega)
          have e3 := hat 3 (by omega)
          simp only [add_plain, Nat.add_zero, List.getElem?_cons_zero, List.getElem?_cons_succ] at e0 e1 e2 e3
          obtain ⟨xs, n', _, hd, _, hlen, hf⟩ := DataW.trod_struct Tryz.underlying116 ht
          match xs, hlen with
          | [y0, y1], _ =>
            have t0 := hf 0 _ rfl
            have t1 := hf 1 _ rfl
            have kb : Tryz.prog.cellsOf 4 = 1 := by kernel_rfl
            have kt : Tryz.prog.cellsOf 114 = 3 := by kernel_rfl
            simp [kb, kt] at t0 t1
            obtain ⟨d, hd0, _⟩ := DataW.trod_bool Tryz.underlying4 t0
            have hd1 := congrArg Prod.fst hd
            simp only at hd1
            obtain ⟨a, b', c', rfl, rfl, rfl, s1, s2, s3, s9⟩ := tup_openedW t1 (fun k hk => hwi k (by
              rw [hd1]
              simp only [DataW.weights, Tryz.underlying116]
              exact DataW.weights_mem_each (j := 1) rfl rfl k hk))
            simp at hd0
            subst hd0
            exact ⟨⟨d, a, b', c'⟩, e0, by rw [Nat.add_assoc]; exact e1, by rw [Nat.add_assoc]; exact e2, by rw [Nat.add_assoc]; exact e3, s1, s2, s3, s9⟩
      have hb : b < W.heap.size := by
        obtain ⟨m, c0, _⟩ := key 0 h0
        exact World.block_lt_of_cell? W ⟨b, off + 0 * 4, none⟩ c0
      refine ⟨_, l, c, (List.range l).map fun i => if h : i < l then (key i h).choose else ⟨false, ByteArray.empty, ByteArray.empty, ByteArray.empty⟩, rfl, ⟨by simp, .inr ⟨b, off, rfl, hb, ?_⟩⟩, hl, hm, ?_⟩
      rotate_left
      · intro y hy
        obtain ⟨i, hi⟩ := List.getElem?_of_mem hy
        have hil : i < l := by
          have := (List.getElem?_eq_some_iff.1 hi).1
          simpa using this
        rw [List.getElem?_map, List.getElem?_range hil] at hi
        simp only [Option.map_some, Option.some.injEq, dif_pos hil] at hi
        subst hi
        have hsp := (key i hil).choose_spec
        exact hsp.2.2.2.2.2.2.2
      intro i m hi
      have hil : i < l := by
        have := (List.getElem?_eq_some_iff.1 hi).1
        simpa using this
      rw [List.getElem?_map, List.getElem?_range hil] at hi
      simp only [Option.map_some, Option.some.injEq, dif_pos hil] at hi
      subst hi
      have hsp := (key i hil).choose_spec
      exact ⟨hsp.1, hsp.2.1, hsp.2.2.1, hsp.2.2.2.1, hsp.2.2.2.2.1, hsp.2.2.2.2.2.1, hsp.2.2.2.2.2.2.1⟩
set_option maxRecDepth 100000 in
set_option maxHeartbeats 1000000 in
theorem cons_openedW {H : Type} {enc : TypeId × Value → H} {W : World} {fuel : Nat} {v : Value} {x : DataW H × List MemPlace}
    (h : DataW.trod enc Tryz.prog W 0 (fun _ => true) true fuel 40 [v] = some x) (hw : ∀ k ∈ x.1.weights Tryz.prog 40, k ≤ 140737488351232) :
    ∃ a n c zs, v = .slice a n c ∧ MutsAt W W.heap.size a n zs ∧ n ≤ c ∧ c ≤ maxLen ∧ ∀ y ∈ zs, small3 y.a y.b y.c := by
  rcases Go.Deep.open_slice Tryz.underlying40 h with ⟨hcs, hx⟩ | ⟨ad, l, c, m, n, Dd, Pl, hcs, _, hl, hm, hmm, hx, hall⟩
  · simp at hcs
    subst hcs
    exact ⟨none, 0, 0, [], rfl, ⟨rfl, .inl rfl⟩, by omega, by simp [maxLen], by simp⟩
  · simp at hcs
    subst hcs
    have hcell : Tryz.prog.cellsOf 119 = 4 := by kernel_rfl
    rw [hcell] at hall
    simp only [if_true] at hmm
    rcases Nat.eq_zero_or_pos l with h0 | h0
    · subst h0
      exact ⟨some ad, 0, c, [], rfl, ⟨rfl, .inl rfl⟩, hl, hm, by simp⟩
    · obtain ⟨b, off, spot⟩ := ad
      have hs : spot = none := by
        obtain ⟨cs', hc, _⟩ := hall 0 (by omega)
        obtain ⟨_, hcl, hat⟩ := World.cells?_some hc
        have h1 := hat 0 (by omega)
        rw [List.getElem?_eq_getElem (by omega)] at h1
        simpa [Addr.add] using World.cell?_spot h1
      subst hs
      have key : ∀ i, i < l → ∃ m : Mut, W.cell? ⟨b, off + i * 4, none⟩ = some (.bool m.d) ∧ W.cell? ⟨b, off + i * 4 + 1, none⟩ = some (.string m.a) ∧ W.cell? ⟨b, off + i * 4 + 2, none⟩ = some (.string m.b) ∧ W.cell? ⟨b, off + i * 4 + 3, none⟩ = some (.string m.c) ∧ m.a.size ≤ 9223372036854775807 ∧ m.b.size ≤ 9223372036854775807 ∧ m.c.size ≤ 9223372036854775807 ∧ small3 m.a m.b m.c := by
        intro i hi
        obtain ⟨cs', hc, ht⟩ := hall i (by omega)
        obtain ⟨_, hcl, hat⟩ := World.cells?_some hc
        have hwi : ∀ k ∈ (Dd i).weights Tryz.prog 119, k ≤ 140737488351232 := fun k hk => hw k (by
          rw [hx]
          exact weights_slice Tryz.underlying40 (.inl (List.mem_map.2 ⟨i, List.mem_range.2 hi, rfl⟩)) hk)
        match cs', hcl with
        | [v0, v1, v2, v3], _ =>
          have e0 := hat 0 (by omega)
          have e1 := hat 1 (by omega)
          have e2 := hat 2 (by omega)
          have e3 := hat 3 (by omega)
          simp only [add_plain, Nat.add_zero, List.getElem?_cons_zero, List.getElem?_cons_succ] at e0 e1 e2 e3
          obtain ⟨xs, n', _, hd, _, hlen, hf⟩ := DataW.trod_struct Tryz.underlying119 ht
          match xs, hlen with
          | [y0, y1], _ =>
            have t0 := hf 0 _ rfl
            have t1 := hf 1 _ rfl
            have kb : Tryz.prog.cellsOf 4 = 1 := by kernel_rfl
            have kt : Tryz.prog.cellsOf 114 = 3 := by kernel_rfl
            simp [kb, kt] at t0 t1
            obtain ⟨d, hd0, _⟩ := DataW.trod_bool Tryz.underlying4 t0
            have hd1 := congrArg Prod.fst hd
            simp only at hd1
            obtain ⟨a, b', c', rfl, rfl, rfl, s1, s2, s3, s9⟩ := tup_openedW t1 (fun k hk => hwi k (by
              rw [hd1]
              simp only [DataW.weights, Tryz.underlying119]
              exact DataW.weights_mem_each (j := 1) rfl rfl k hk))
            simp at hd0
            subst hd0
            exact ⟨⟨d, a, b', c'⟩, e0, by rw [Nat.add_assoc]; exact e1, by rw [Nat.add_assoc]; exact e2, by rw [Nat.add_assoc]; exact e3, s1, s2, s3, s9⟩
      have hb : b < W.heap.size := by
        obtain ⟨m, c0, _⟩ := key 0 h0
        exact World.block_lt_of_cell? W ⟨b, off + 0 * 4, none⟩ c0
      refine ⟨_, l, c, (List.range l).map fun i => if h : i < l then (key i h).choose else ⟨false, ByteArray.empty, ByteArray.empty, ByteArray.empty⟩, rfl, ⟨by simp, .inr ⟨b, off, rfl, hb, ?_⟩⟩, hl, hm, ?_⟩
      rotate_left
      · intro y hy
        obtain ⟨i, hi⟩ := List.getElem?_of_mem hy
        have hil : i < l := by
          have := (List.getElem?_eq_some_iff.1 hi).1
          simpa using this
        rw [List.getElem?_map, List.getElem?_range hil] at hi
        simp only [Option.map_some, Option.some.injEq, dif_pos hil] at hi
        subst hi
        have hsp := (key i hil).choose_spec
        exact hsp.2.2.2.2.2.2.2
      intro i m hi
      have hil : i < l := by
        have := (List.getElem?_eq_some_iff.1 hi).1
        simpa using this
      rw [List.getElem?_map, List.getElem?_range hil] at hi
      simp only [Option.map_some, Option.some.injEq, dif_pos hil] at hi
      subst hi
      have hsp := (key i hil).choose_spec
      exact ⟨hsp.1, hsp.2.1, hsp.2.2.1, hsp.2.2.2.1, hsp.2.2.2.2.1, hsp.2.2.2.2.2.1, hsp.2.2.2.2.2.2.1⟩
set_option maxRecDepth 100000 in
set_option maxHeartbeats 1000000 in
theorem rows_openedW {H : Type} {enc : TypeId × Value → H} {W : World} {fuel : Nat} {v : Value} {x : DataW H × List MemPlace}
    (h : DataW.trod enc Tryz.prog W 0 (fun _ => true) true fuel 41 [v] = some x) (hw : ∀ k ∈ x.1.weights Tryz.prog 41, k ≤ 140737488351232) :
    ∃ a n c zs, v = .slice a n c ∧ RowsAt W W.heap.size a n zs ∧ n ≤ c ∧ c ≤ maxLen ∧ ∀ y ∈ zs, small3 y.a y.b y.c := by
  rcases Go.Deep.open_slice Tryz.underlying41 h with ⟨hcs, hx⟩ | ⟨ad, l, c, m, n, Dd, Pl, hcs, _, hl, hm, hmm, hx, hall⟩
  · simp at hcs
    subst hcs
    exact ⟨none, 0, 0, [], rfl, ⟨rfl, .inl rfl⟩, by omega, by simp [maxLen], by simp⟩
  · simp at hcs
    subst hcs
    have hcell : Tryz.prog.cellsOf 121 = 5 := by kernel_rfl
    rw [hcell] at hall
    simp only [if_true] at hmm
    rcases Nat.eq_zero_or_pos l with h0 | h0
    · subst h0
      exact ⟨some ad, 0, c, [], rfl, ⟨rfl, .inl rfl⟩, hl, hm, by simp⟩
    · obtain ⟨b, off, spot⟩ := ad
      have hs : spot = none := by
        obtain ⟨cs', hc, _⟩ := hall 0 (by omega)
        obtain ⟨_, hcl, hat⟩ := World.cells?_some hc
        have h1 := hat 0 (by omega)
        rw [List.getElem?_eq_getElem (by omega)] at h1
        simpa [Addr.add] using World.cell?_spot h1
      subst hs
      have key : ∀ i, i < l → ∃ m : RowD, W.cell? ⟨b, off + i * 5, none⟩ = some (.string m.a) ∧ W.cell? ⟨b, off + i * 5 + 1, none⟩ = some (.string m.b) ∧ W.cell? ⟨b, off + i * 5 + 2, none⟩ = some (.string m.c) ∧ W.cell? ⟨b, off + i * 5 + 3, none⟩ = some (.int .i64 m.s) ∧ W.cell? ⟨b, off + i * 5 + 4, none⟩ = some (.int .i64 m.u) ∧ m.a.size ≤ 9223372036854775807 ∧ m.b.size ≤ 9223372036854775807 ∧ m.c.size ≤ 9223372036854775807 ∧ (-9223372036854775808 ≤ m.s ∧ m.s ≤ 9223372036854775807) ∧ (-9223372036854775808 ≤ m.u ∧ m.u ≤ 9223372036854775807) ∧ small3 m.a m.b m.c := by
        intro i hi
        obtain ⟨cs', hc, ht⟩ := hall i (by omega)
        obtain ⟨_, hcl, hat⟩ := World.cells?_some hc
        have hwi : ∀ k ∈ (Dd i).weights Tryz.prog 121, k ≤ 140737488351232 := fun k hk => hw k (by
          rw [hx]
          exact weights_slice Tryz.underlying41 (.inl (List.mem_map.2 ⟨i, List.mem_range.2 hi, rfl⟩)) hk)
        match cs', hcl with
        | [v0, v1, v2, v3, v4], _ =>
          have e0 := hat 0 (by omega)
          have e1 := hat 1 (by omega)
          have e2 := hat 2 (by omega)
          have e3 := hat 3 (by omega)
          have e4 := hat 4 (by omega)
          simp only [add_plain, Nat.add_zero, List.getElem?_cons_zero, List.getElem?_cons_succ] at e0 e1 e2 e3 e4
          obtain ⟨xs, n', _, hd, _, hlen, hf⟩ := DataW.trod_struct Tryz.underlying121 ht
          match xs, hlen with
          | [y0, y1, y2], _ =>
            have t0 := hf 0 _ rfl
            have t1 := hf 1 _ rfl
            have t2 := hf 2 _ rfl
            have kb : Tryz.prog.cellsOf 2 = 1 := by kernel_rfl
            have kt : Tryz.prog.cellsOf 114 = 3 := by kernel_rfl
            simp [kb, kt] at t0 t1 t2
            have hd1 := congrArg Prod.fst hd
            simp only at hd1
            obtain ⟨a, b', c', rfl, rfl, rfl, s1, s2, s3, s9⟩ := tup_openedW t0 (fun k hk => hwi k (by
              rw [hd1]
              simp only [DataW.weights, Tryz.underlying121]
              exact DataW.weights_mem_each (j := 0) rfl rfl k hk))
            obtain ⟨s, hs0, _, ws⟩ := DataW.trod_int Tryz.underlying2 t1
            obtain ⟨u, hu0, _, wu⟩ := DataW.trod_int Tryz.underlying2 t2
            simp at hs0 hu0
            subst hs0 hu0
            exact ⟨⟨a, b', c', s, u⟩, e0, by rw [Nat.add_assoc]; exact e1, by rw [Nat.add_assoc]; exact e2, by rw [Nat.add_assoc]; exact e3, by rw [Nat.add_assoc]; exact e4, s1, s2, s3, wf_i64 ws, wf_i64 wu, s9⟩
      have hb : b < W.heap.size := by
        obtain ⟨m, c0, _⟩ := key 0 h0
        exact World.block_lt_of_cell? W ⟨b, off + 0 * 5, none⟩ c0
      refine ⟨_, l, c, (List.range l).map fun i => if h : i < l then (key i h).choose else ⟨ByteArray.empty, ByteArray.empty, ByteArray.empty, 0, 0⟩, rfl, ⟨by simp, .inr ⟨b, off, rfl, hb, ?_⟩⟩, hl, hm, ?_⟩
      rotate_left
      · intro y hy
        obtain ⟨i, hi⟩ := List.getElem?_of_mem hy
        have hil : i < l := by
          have := (List.getElem?_eq_some_iff.1 hi).1
          simpa using this
        rw [List.getElem?_map, List.getElem?_range hil] at hi
        simp only [Option.map_some, Option.some.injEq, dif_pos hil] at hi
        subst hi
        have hsp := (key i hil).choose_spec
        exact hsp.2.2.2.2.2.2.2.2.2.2
      intro i m hi
      have hil : i < l := by
        have := (List.getElem?_eq_some_iff.1 hi).1
        simpa using this
      rw [List.getElem?_map, List.getElem?_range hil] at hi
      simp only [Option.map_some, Option.some.injEq, dif_pos hil] at hi
      subst hi
      have hsp := (key i hil).choose_spec
      exact ⟨hsp.1, hsp.2.1, hsp.2.2.1, hsp.2.2.2.1, hsp.2.2.2.2.1, hsp.2.2.2.2.2.1, hsp.2.2.2.2.2.2.1, hsp.2.2.2.2.2.2.2.1, hsp.2.2.2.2.2.2.2.2.1, hsp.2.2.2.2.2.2.2.2.2.1⟩
set_option maxRecDepth 100000 in
set_option maxHeartbeats 1000000 in
theorem msg_openedW {H : Type} {enc : TypeId × Value → H} {W : World} {r : Reach} {b0 : Nat} {v : Value} {d : DataW H} {p : List MemPlace}
    (hv : Value.okWide Tryz.prog W r b0 43 v) (h : DataW.Trod enc Tryz.prog W 0 (fun _ => true) true 43 v d p) (hw : ∀ k ∈ d.weights Tryz.prog 43, k ≤ 140737488351232) :
    ∃ m, MsgIn W v m ∧ m.small := by
  have hu := Tryz.underlying43
  obtain ⟨cs, rfl, hsz⟩ := okWide_struct hu hv
  obtain ⟨fuel, hf⟩ := h
  obtain ⟨xs, n', _, hd, hl, hlen, hf⟩ := DataW.trod_struct hu hf
  have k12 : Tryz.prog.cellsOf 43 = 12 := by kernel_rfl
  have ki : Tryz.prog.cellsOf 3 = 1 := by kernel_rfl
  have kj : Tryz.prog.cellsOf 2 = 1 := by kernel_rfl
  have kb : Tryz.prog.cellsOf 4 = 1 := by kernel_rfl
  have kn : Tryz.prog.cellsOf 38 = 1 := by kernel_rfl
  have km : Tryz.prog.cellsOf 39 = 1 := by kernel_rfl
  have kc : Tryz.prog.cellsOf 40 = 1 := by kernel_rfl
  have kr : Tryz.prog.cellsOf 41 = 1 := by kernel_rfl
  rw [k12] at hsz
  obtain ⟨l⟩ := cs
  match l, hsz with
  | [c0, c1, c2, c3, c4, c5, c6, c7, c8, c9, c10, c11], _ =>
    match xs, hlen with
    | [y0, y1, y2, y3, y4, y5, y6, y7, y8, y9, y10, y11], _ =>
      have t0 := hf 0 _ rfl
      have t1 := hf 1 _ rfl
      have t2 := hf 2 _ rfl
      have t3 := hf 3 _ rfl
      have t4 := hf 4 _ rfl
      have t5 := hf 5 _ rfl
      have t6 := hf 6 _ rfl
      have t7 := hf 7 _ rfl
      have t8 := hf 8 _ rfl
      have t9 := hf 9 _ rfl
      have t10 := hf 10 _ rfl
      have t11 := hf 11 _ rfl
      simp [ki, kj, kb, kn, km, kc, kr, Value.cells] at t0 t1 t2 t3 t4 t5 t6 t7 t8 t9 t10 t11
      obtain ⟨q0, e0, _, w0⟩ := DataW.trod_int Tryz.underlying3 t0
      obtain ⟨q1, e1, _, w1⟩ := DataW.trod_int Tryz.underlying3 t1
      obtain ⟨q2, e2, _, w2⟩ := DataW.trod_int Tryz.underlying3 t2
      obtain ⟨q3, e3, _, w3⟩ := DataW.trod_int Tryz.underlying2 t3
      obtain ⟨q4, e4, _, w4⟩ := DataW.trod_int Tryz.underlying2 t4
      obtain ⟨q5, e5, _, w5⟩ := DataW.trod_int Tryz.underlying2 t5
      obtain ⟨q6, e6, _, w6⟩ := DataW.trod_int Tryz.underlying3 t6
      obtain ⟨q7, e7, _⟩ := DataW.trod_bool Tryz.underlying4 t7
      simp at e0 e1 e2 e3 e4 e5 e6 e7
      subst e0 e1 e2 e3 e4 e5 e6 e7
      have hd1 := congrArg Prod.fst hd
      simp only at hd1
      obtain ⟨a8, n8, k8, z8, rfl, l8, s8, r8⟩ := nodes_opened t8
      obtain ⟨a9, n9, k9, z9, rfl, l9, s9, r9, u9⟩ := muts_openedW t9 (fun k hk => hw k (by
        rw [hd1]
        simp only [DataW.weights, hu]
        exact DataW.weights_mem_each (j := 9) rfl rfl k hk))
      obtain ⟨a10, n10, k10, z10, rfl, l10, s10, r10, u10⟩ := cons_openedW t10 (fun k hk => hw k (by
        rw [hd1]
        simp only [DataW.weights, hu]
        exact DataW.weights_mem_each (j := 10) rfl rfl k hk))
      obtain ⟨a11, n11, k11, z11, rfl, l11, s11, r11, u11⟩ := rows_openedW t11 (fun k hk => hw k (by
        rw [hd1]
        simp only [DataW.weights, hu]
        exact DataW.weights_mem_each (j := 11) rfl rfl k hk))
      unfold maxLen at r8 r9 r10 r11
      exact ⟨⟨q0, q1, q2, q3, q4, q5, q6, q7, z8, z9, z10, z11⟩, ⟨a8, a9, a10, a11, n8, k8, n9, k9, n10, k10, n11, k11, ⟨rfl, wf_i64 w0, wf_i64 w1, wf_i64 w2, wf_i64 w3, wf_i64 w4, wf_i64 w5, wf_i64 w6, l8, l9, l10, l11, by omega, by omega, by omega, by omega⟩⟩, ⟨u9, u10, u11⟩⟩
end Go.Proofs.YteodldmbnghfcaaGreat

namespace Go.Proofs.YteodldmbnghfcaaGreat.Rl
open Go.RowKit Go.ChangeShapes Go.WideShapes

def InI (k : Int) : Prop := -9223372036854775808 ≤ k ∧ k ≤ 9223372036854775807
set_option maxRecDepth 100000 in
set_option maxHeartbeats 1000000 in
theorem msg_cellsW {H : Type} {enc : TypeId × Value → H} {W : World} {fuel : Nat} {c0 c1 c2 c3 c4 c5 c6 c7 c8 c9 c10 c11 : Value} {x : DataW H × List MemPlace}
    (h : DataW.trod enc Tryz.prog W 0 (fun _ => true) true fuel 43 [c0, c1, c2, c3, c4, c5, c6, c7, c8, c9, c10, c11] = some x) (hw : ∀ k ∈ x.1.weights Tryz.prog 43, k ≤ 140737488351232) :
    ∃ (m : MsgD) (s8 s9 s10 s11 : Value), c0 = .int .i64 m.kind ∧ c1 = .int .i64 m.from_ ∧ c2 = .int .i64 m.«to» ∧ c3 = .int .i64 m.id ∧ c4 = .int .i64 m.rev ∧ c5 = .int .i64 m.epoch ∧ c6 = .int .i64 m.slot ∧ c7 = .bool m.flag ∧ c8 = s8 ∧ c9 = s9 ∧ c10 = s10 ∧ c11 = s11 ∧ MsgIn W (.agg #[.int .i64 m.kind, .int .i64 m.from_, .int .i64 m.«to», .int .i64 m.id, .int .i64 m.rev, .int .i64 m.epoch, .int .i64 m.slot, .bool m.flag, s8, s9, s10, s11]) m ∧ m.small := by
  have hu := Tryz.underlying43
  obtain ⟨xs, n', _, hd, hl, hlen, hf⟩ := DataW.trod_struct hu h
  have ki : Tryz.prog.cellsOf 3 = 1 := by kernel_rfl
  have kj : Tryz.prog.cellsOf 2 = 1 := by kernel_rfl
  have kb : Tryz.prog.cellsOf 4 = 1 := by kernel_rfl
  have kn : Tryz.prog.cellsOf 38 = 1 := by kernel_rfl
  have km : Tryz.prog.cellsOf 39 = 1 := by kernel_rfl
  have kc : Tryz.prog.cellsOf 40 = 1 := by kernel_rfl
  have kr : Tryz.prog.cellsOf 41 = 1 := by kernel_rfl
  match xs, hlen with
  | [y0, y1, y2, y3, y4, y5, y6, y7, y8, y9, y10, y11], _ =>
    have t0 := hf 0 _ rfl
    have t1 := hf 1 _ rfl
    have t2 := hf 2 _ rfl
    have t3 := hf 3 _ rfl
    have t4 := hf 4 _ rfl
    have t5 := hf 5 _ rfl
    have t6 := hf 6 _ rfl
    have t7 := hf 7 _ rfl
    have t8 := hf 8 _ rfl
    have t9 := hf 9 _ rfl
    have t10 := hf 10 _ rfl
    have t11 := hf 11 _ rfl
    simp [ki, kj, kb, kn, km, kc, kr] at t0 t1 t2 t3 t4 t5 t6 t7 t8 t9 t10 t11
    obtain ⟨q0, e0, _, w0⟩ := DataW.trod_int Tryz.underlying3 t0
    obtain ⟨q1, e1, _, w1⟩ := DataW.trod_int Tryz.underlying3 t1
    obtain ⟨q2, e2, _, w2⟩ := DataW.trod_int Tryz.underlying3 t2
    obtain ⟨q3, e3, _, w3⟩ := DataW.trod_int Tryz.underlying2 t3
    obtain ⟨q4, e4, _, w4⟩ := DataW.trod_int Tryz.underlying2 t4
    obtain ⟨q5, e5, _, w5⟩ := DataW.trod_int Tryz.underlying2 t5
    obtain ⟨q6, e6, _, w6⟩ := DataW.trod_int Tryz.underlying3 t6
    obtain ⟨q7, e7, _⟩ := DataW.trod_bool Tryz.underlying4 t7
    simp at e0 e1 e2 e3 e4 e5 e6 e7
    subst e0 e1 e2 e3 e4 e5 e6 e7
    have hd1 := congrArg Prod.fst hd
    simp only at hd1
    obtain ⟨a8, n8, k8, z8, rfl, l8, s8, r8⟩ := nodes_opened t8
    obtain ⟨a9, n9, k9, z9, rfl, l9, s9, r9, u9⟩ := muts_openedW t9 (fun k hk => hw k (by
      rw [hd1]
      simp only [DataW.weights, hu]
      exact DataW.weights_mem_each (j := 9) rfl rfl k hk))
    obtain ⟨a10, n10, k10, z10, rfl, l10, s10, r10, u10⟩ := cons_openedW t10 (fun k hk => hw k (by
      rw [hd1]
      simp only [DataW.weights, hu]
      exact DataW.weights_mem_each (j := 10) rfl rfl k hk))
    obtain ⟨a11, n11, k11, z11, rfl, l11, s11, r11, u11⟩ := rows_openedW t11 (fun k hk => hw k (by
      rw [hd1]
      simp only [DataW.weights, hu]
      exact DataW.weights_mem_each (j := 11) rfl rfl k hk))
    unfold maxLen at r8 r9 r10 r11
    exact ⟨⟨q0, q1, q2, q3, q4, q5, q6, q7, z8, z9, z10, z11⟩, _, _, _, _, rfl, rfl, rfl, rfl, rfl, rfl, rfl, rfl, rfl, rfl, rfl, rfl, ⟨a8, a9, a10, a11, n8, k8, n9, k9, n10, k10, n11, k11, ⟨rfl, wf_i64 w0, wf_i64 w1, wf_i64 w2, wf_i64 w3, wf_i64 w4, wf_i64 w5, wf_i64 w6, l8, l9, l10, l11, by omega, by omega, by omega, by omega⟩⟩, ⟨u9, u10, u11⟩⟩

/-- One call of a script. -/
def OpP (w : World) (b o : Nat) (kd fr id : Int) (m : MsgD) (s8 s9 s10 s11 : Value) : Prop := w.cell? ⟨b, o, none⟩ = some (.int .i64 kd) ∧ w.cell? ⟨b, o + 1, none⟩ = some (.int .i64 fr) ∧ w.cell? ⟨b, o + 2, none⟩ = some (.int .i64 id) ∧ w.cell? ⟨b, o + 3, none⟩ = some (.int .i64 m.kind) ∧ w.cell? ⟨b, o + 4, none⟩ = some (.int .i64 m.from_) ∧ w.cell? ⟨b, o + 5, none⟩ = some (.int .i64 m.«to») ∧ w.cell? ⟨b, o + 6, none⟩ = some (.int .i64 m.id) ∧ w.cell? ⟨b, o + 7, none⟩ = some (.int .i64 m.rev) ∧ w.cell? ⟨b, o + 8, none⟩ = some (.int .i64 m.epoch) ∧ w.cell? ⟨b, o + 9, none⟩ = some (.int .i64 m.slot) ∧ w.cell? ⟨b, o + 10, none⟩ = some (.bool m.flag) ∧ w.cell? ⟨b, o + 11, none⟩ = some (s8) ∧ w.cell? ⟨b, o + 12, none⟩ = some (s9) ∧ w.cell? ⟨b, o + 13, none⟩ = some (s10) ∧ w.cell? ⟨b, o + 14, none⟩ = some (s11)
def OpsP (w : World) (a : Option Addr) (n : Nat) : Prop := n = 0 ∨ ∃ b off, a = some ⟨b, off, none⟩ ∧ b < w.heap.size ∧ ∀ i, i < n → ∃ (kd fr id : Int) (m : MsgD) (s8 s9 s10 s11 : Value), OpP w b (off + i * 15) kd fr id m s8 s9 s10 s11 ∧ InI kd ∧ InI fr ∧ InI id ∧ MsgIn w (.agg #[.int .i64 m.kind, .int .i64 m.from_, .int .i64 m.«to», .int .i64 m.id, .int .i64 m.rev, .int .i64 m.epoch, .int .i64 m.slot, .bool m.flag, s8, s9, s10, s11]) m ∧ m.small
theorem add_plain (b off i : Nat) : ((⟨b, off, none⟩ : Addr).add i) = ⟨b, off + i, none⟩ := by
  unfold Addr.add
  split <;> simp_all
set_option maxRecDepth 100000 in
set_option maxHeartbeats 1000000 in
theorem opsP_opened {H : Type} {enc : TypeId × Value → H} {W : World} {fuel : Nat} {a : Option Addr} {len cap : Nat} {x : DataW H × List MemPlace}
    (h : DataW.trod enc Tryz.prog W 0 (fun _ => true) true fuel 22 (Value.slice a len cap).cells.toList = some x) (hw : ∀ k ∈ x.1.weights Tryz.prog 22, k ≤ 140737488351232) : OpsP W a len ∧ len ≤ 140737488351232 := by
  have h' : DataW.trod enc Tryz.prog W 0 (fun _ => true) true fuel 22 [Value.slice a len cap] = some x := by simpa [Value.cells] using h
  rcases Go.Deep.open_slice Tryz.underlying22 h' with ⟨hcs, hx⟩ | ⟨ad, l, c, m, n, Dd, Pl, hcs, _, hl, hm, hmm, hx, hall⟩
  · simp at hcs
    obtain ⟨rfl, rfl, rfl⟩ := hcs
    exact ⟨.inl rfl, by omega⟩
  · simp at hcs
    obtain ⟨rfl, rfl, rfl⟩ := hcs
    have hcell : Tryz.prog.cellsOf 45 = 15 := by kernel_rfl
    rw [hcell] at hall
    simp only [if_true] at hmm
    have hlen : m * 184 ≤ 140737488351232 := by
      refine hw (m * 184) ?_
      rw [hx]
      simp only [DataW.weights, Tryz.underlying22, List.mem_cons]
      left
      rw [show Tryz.prog.bytesOf 45 = 184 by kernel_rfl]
      simp
      omega
    refine ⟨?_, by omega⟩
    rcases Nat.eq_zero_or_pos len with h0 | h0
    · exact .inl h0
    · obtain ⟨b, off, spot⟩ := ad
      have hs : spot = none := by
        obtain ⟨cs', hc, _⟩ := hall 0 (by omega)
        obtain ⟨_, hcl, hat⟩ := World.cells?_some hc
        have h1 := hat 0 (by omega)
        rw [List.getElem?_eq_getElem (by omega)] at h1
        simpa [Addr.add] using World.cell?_spot h1
      subst hs
      have hbl : b < W.heap.size := by
        obtain ⟨cs', hc, _⟩ := hall 0 (by omega)
        obtain ⟨_, hcl, hat⟩ := World.cells?_some hc
        have h1 := hat 0 (by omega)
        rw [List.getElem?_eq_getElem (by omega)] at h1
        have := World.block_lt_of_cell? W _ h1
        simpa [Addr.add] using this
      refine .inr ⟨b, off, rfl, hbl, fun i hi => ?_⟩
      obtain ⟨cs', hc, ht⟩ := hall i (by omega)
      obtain ⟨_, hcl, hat⟩ := World.cells?_some hc
      have hwi : ∀ k ∈ (Dd i).weights Tryz.prog 45, k ≤ 140737488351232 := fun k hk => hw k (by
        rw [hx]
        exact weights_slice Tryz.underlying22 (.inl (List.mem_map.2 ⟨i, List.mem_range.2 (by omega), rfl⟩)) hk)
      match cs', hcl with
      | [v0, v1, v2, v3, v4, v5, v6, v7, v8, v9, v10, v11, v12, v13, v14], _ =>
        have e0 := hat 0 (by omega)
        have e1 := hat 1 (by omega)
        have e2 := hat 2 (by omega)
        have e3 := hat 3 (by omega)
        have e4 := hat 4 (by omega)
        have e5 := hat 5 (by omega)
        have e6 := hat 6 (by omega)
        have e7 := hat 7 (by omega)
        have e8 := hat 8 (by omega)
        have e9 := hat 9 (by omega)
        have e10 := hat 10 (by omega)
        have e11 := hat 11 (by omega)
        have e12 := hat 12 (by omega)
        have e13 := hat 13 (by omega)
        have e14 := hat 14 (by omega)
        simp only [add_plain, Nat.add_zero, List.getElem?_cons_zero, List.getElem?_cons_succ] at e0 e1 e2 e3 e4 e5 e6 e7 e8 e9 e10 e11 e12 e13 e14
        obtain ⟨xs, n', _, hd, _, hlen, hf⟩ := DataW.trod_struct Tryz.underlying45 ht
        match xs, hlen with
        | [y0, y1, y2, y3], _ =>
          have t0 := hf 0 _ rfl
          have t1 := hf 1 _ rfl
          have t2 := hf 2 _ rfl
          have t3 := hf 3 _ rfl
          have hd1 := congrArg Prod.fst hd
          simp only at hd1
          have k1 : Tryz.prog.cellsOf 3 = 1 := by kernel_rfl
          have k3 : Tryz.prog.cellsOf 43 = 12 := by kernel_rfl
          have k2 : Tryz.prog.cellsOf 2 = 1 := by kernel_rfl
          simp [k1, k2, k3] at t0 t1 t2 t3
          obtain ⟨q0, h0, _, w0⟩ := DataW.trod_int Tryz.underlying3 t0
          obtain ⟨q1, h1, _, w1⟩ := DataW.trod_int Tryz.underlying3 t1
          obtain ⟨q2, h2, _, w2⟩ := DataW.trod_int Tryz.underlying2 t2
          simp at h0 h1 h2
          subst h0 h1 h2
          obtain ⟨m, s8, s9, s10, s11, rfl, rfl, rfl, rfl, rfl, rfl, rfl, rfl, rfl, rfl, rfl, rfl, hin, hsm⟩ := msg_cellsW t3 (fun k hk => hwi k (by
            rw [hd1]
            simp only [DataW.weights, Tryz.underlying45]
            exact DataW.weights_mem_each (j := 3) rfl rfl k hk))
          exact ⟨q0, q1, q2, m, _, _, _, _, ⟨e0, e1, e2, e3, e4, e5, e6, e7, e8, e9, e10, e11, e12, e13, e14⟩, wf_i64 w0, wf_i64 w1, wf_i64 w2, hin, hsm⟩
end Go.Proofs.YteodldmbnghfcaaGreat.Rl
