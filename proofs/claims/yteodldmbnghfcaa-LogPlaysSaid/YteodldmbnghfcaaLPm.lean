/- The document's disk, beside a log. The document's Add of a record, beside a log. The document's Open of a log. A message that came in, opened: its texts are small. A script with messages that came in, opened. LogPlays: what is known between two calls. LogPlays: bytes appended by the script. LogPlays: the walk. -/
import Derived.Test.YteodldmbnghfcaaL7
import Derived.Test.YteodldmbnghfcaaRa
import Derived.Test.YteodldmbnghfcaaCRefEnc
import Derived.Test.YteodldmbnghfcaaCD4
import Derived.Test.YteodldmbnghfcaaCOpen
import Derived.Deep.Strs
import Derived.Deep.Slices
import Derived.ChangeSlices
import Derived.ChangeArms
import Derived.SizedLaws
import Derived.Test.YteodldmbnghfcaaL9
import Derived.Test.YteodldmbnghfcaaD5
import Derived.Deep.DeepCutAuto
import Derived.Deep.CutBlock
namespace Go.Proofs.Yteodldmbnghfcaa.Rl
open Go.RowKit

/-- Only these blocks, and new memory, are other than they were. -/
structure Chg (w w' : World) (P : Nat → Prop) : Prop where
  os : w'.os = w.os
  tape : w'.tape = w.tape
  output : w'.output = w.output
  size : w.heap.size ≤ w'.heap.size
  block : ∀ k, k < w.heap.size → ¬ P k → w'.heap[k]? = w.heap[k]?
theorem Chg.refl (w : World) (P : Nat → Prop) : Chg w w P := ⟨rfl, rfl, rfl, Nat.le_refl _, fun _ _ _ => rfl⟩
theorem Chg.drewN {w w' : World} {P : Nat → Prop} (h : Chg w w' P) (n : Nat) : Chg w (w'.drewN n) P := ⟨h.os, h.tape, h.output, h.size, h.block⟩
theorem Chg.trans {a b c : World} {P : Nat → Prop} (h : Chg a b P) (k : Chg b c P) : Chg a c P :=
  ⟨k.os.trans h.os, k.tape.trans h.tape, k.output.trans h.output, Nat.le_trans h.size k.size, fun i hi hn => (k.block i (Nat.lt_of_lt_of_le hi h.size) hn).trans (h.block i hi hn)⟩
theorem Chg.mono {w w' : World} {P Q : Nat → Prop} (h : Chg w w' P) (hpq : ∀ k, k < w.heap.size → P k → Q k) : Chg w w' Q := ⟨h.os, h.tape, h.output, h.size, fun k hk hn => h.block k hk (fun hp => hn (hpq k hk hp))⟩
theorem Chg.ofBelow {w w' : World} (P : Nat → Prop) (h : Below w.heap.size w w') : Chg w w' P := ⟨h.os, h.tape, h.output, h.size, fun k hk _ => h.block k hk⟩
theorem Chg.below {w w' : World} {P : Nat → Prop} {B : Nat} (h : Chg w w' P) (hP : ∀ k, P k → B ≤ k) (hB : B ≤ w.heap.size) : Below B w w' := ⟨h.os, h.tape, h.output, h.size, fun k hk => h.block k (by omega) (fun hp => by have := hP k hp; omega)⟩
theorem Chg.up {w a b : World} {P : Nat → Prop} (h : Chg w a P) (hb : Below w.heap.size a b) : Chg w b P :=
  ⟨hb.os.trans h.os, hb.tape.trans h.tape, hb.output.trans h.output, Nat.le_trans h.size hb.size, fun k hk hn => (hb.block k hk).trans (h.block k hk hn)⟩
theorem Chg.set {w w' : World} {P : Nat → Prop} (h : Chg w w' P) {b : Nat} (hb : P b) (i : Nat) (u : Value) : Chg w (w'.setCell ⟨b, i, none⟩ u) P :=
  ⟨h.os, h.tape, h.output, by simpa [World.setCell] using h.size, fun k hk hn => (Below.heap_setCell w' ⟨b, i, none⟩ u k (by rintro rfl; exact hn hb)).trans (h.block k hk hn)⟩
theorem Chg.sets {P : Nat → Prop} {b : Nat} (hb : P b) : ∀ (l : List Value) (o : Nat) {w w' : World}, Chg w w' P → Chg w (w'.setCells b o l) P
  | [], _, _, _, h => h
  | v :: l, o, _, _, h => by
    rw [World.setCells]
    exact Chg.sets hb l (o + 1) (h.set hb o v)
theorem bell_up {w W W' : World} (hb : Below w.heap.size w W) (h : Below W.heap.size W W') : Below w.heap.size w W' := hb.trans (h.mono hb.size)
theorem whole_ne {w : World} {g k : Nat} {t u : TypeId} {cs ds : Array Value} (h : Whole w g t cs) (h2 : Whole w k u ds) (hn : t ≠ u) : g ≠ k := by
  rintro rfl
  unfold Whole at h h2
  rw [h] at h2
  injection h2 with h2
  injection h2 with _ h2
  exact hn h2
theorem owned_block {w : World} {base n s k : Nat} {v : Value} {e : TypeId} {l : List Value} (h : w.ownsRow base e s v n l) (hk : v.ownBlock = some k) : base ≤ k ∧ ∃ cur, Whole w k e cur := by
  rcases h.2 with ⟨rfl, _⟩ | ⟨g, cap, cur, rfl, hb, hh, _⟩
  · cases hk
  · have : g = k := by simpa [Value.ownBlock] using hk
    subst this
    exact ⟨hb, cur, hh⟩
/-- A box of so many cells, made anew. -/
theorem box_new (w : World) (t : TypeId) (cs : Array Value) : ∃ X, X = w.alloc (.cells cs t) ∧ Whole X w.heap.size t cs ∧ Below w.heap.size w X := ⟨_, rfl, heap_alloc_new w _, below_alloc w _⟩
theorem res_two {P : Program} {fn : Func} {p u : Tmp} {ty : TypeId} (h : fn.results = #[.cell p ty, .tmp u]) (tmps : Array Value) (w : World) (g : Nat) (t : TypeId) (cs : Array Value) (d : TypeDesc) (v : Value)
    (hp : tmps.getD p undef = .pointer (some ⟨g, 0, none⟩)) (hq : tmps.getD u undef = v) (hg : Whole w g t cs)
    (hu : P.underlying ty = some d) (hd : (match d with | .struct _ | .array _ _ => true | _ => false) = true) (hi : (P.info? ty).map (·.size) = some cs.size) :
    (results fn tmps).run P w = .ok (.tuple #[.agg cs, v]) w := by
  rw [results_cell_tmp h, hp, hq]
  simp [asAddr, run_loadVar_row w g t ty cs (0, 0) d hg hu hd hi, Result.andThen]
/-- The document's disk as a value. -/
def RD (S : ByteArray) (d r : Int) : Value := .agg #[.string S, .int .i64 d, .int .i64 r]

theorem rwrong_any (r : Int) (w : World) : Calls Try.prog 6 #[.int .i64 r] w fun e w' => e = .returned (.int .i64 (if r < 0 ∨ 1048576 < r then 1 else 0)) ∧ w = w' := by
  by_cases h : r < 0
  · go_enter Try.func6, Try.ntmps6
    go_wp2
    go_ret
    exact ⟨rfl, rfl⟩
  · by_cases h2 : 1048576 < r
    · go_enter Try.func6, Try.ntmps6
      go_wp2
      go_ret
      exact ⟨rfl, rfl⟩
    · go_enter Try.func6, Try.ntmps6
      go_wp2
      go_ret
      exact ⟨rfl, rfl⟩

set_option maxHeartbeats 1000000 in
theorem rsync_any (S : ByteArray) (d r : Int) (w : World) :
    Calls Try.prog 11 #[RD S d r] w fun e w' => e = .returned (RD S S.size r) ∧ Below w.heap.size w w' := by
  unfold RD
  go_enter Try.func11, Try.ntmps11
  go_wp2
  refine bodyPost_ret (v := .agg #[.string S, .int .i64 S.size, .int .i64 r]) (by simp [results, Try.results11, go_sem]) rfl ⟨rfl, ?_⟩
  exact ((Below.refl _ _).alloc (Nat.le_refl _) _).alloc (by simp) _

set_option maxHeartbeats 1000000 in
theorem rappend_full (S X : ByteArray) (d r : Int) (w : World) (hS : S.size ≤ 1048576) (hX : X.size ≤ 140737488355328) (h : r < (S.size : Int) + X.size) :
    Calls Try.prog 16 #[RD S d r, .string X] w fun e w' => e = .returned (.tuple #[RD S d r, .int .i64 3]) ∧ Below w.heap.size w w' := by
  unfold RD
  have hw : IntKind.i64.wrap ((S.size : Int) + (X.size : Int)) = (S.size : Int) + (X.size : Int) := IntWalk.i64_in _ (by omega)
  go_enter Try.func16, Try.ntmps16
  go_wp2
  refine bodyPost_ret (v := .tuple #[.agg #[.string S, .int .i64 d, .int .i64 r], .int .i64 3]) (by simp [results, Try.results16, go_sem]) rfl ⟨rfl, ?_⟩
  exact ((Below.refl _ _).alloc (Nat.le_refl _) _).alloc (by simp) _
set_option maxHeartbeats 1000000 in
theorem rappend_fits (S X : ByteArray) (d r : Int) (w : World) (hS : S.size ≤ 1048576) (hX : X.size ≤ 140737488355328) (h : (S.size : Int) + X.size ≤ r) :
    Calls Try.prog 16 #[RD S d r, .string X] w fun e w' => e = .returned (.tuple #[RD (S ++ X) d r, .int .i64 0]) ∧ Below w.heap.size w w' := by
  unfold RD
  have hw : IntKind.i64.wrap ((S.size : Int) + (X.size : Int)) = (S.size : Int) + (X.size : Int) := IntWalk.i64_in _ (by omega)
  have hadd : ∀ w, (Op.stringOp .add S X).run Try.prog w = .ok (.string (S ++ X)) w := fun w => by rw [run_string_add_sum w S X (by omega)]
  have h' : ¬ r < (S.size : Int) + X.size := by omega
  go_enter Try.func16, Try.ntmps16
  go_wp2
  refine bodyPost_ret (v := .tuple #[.agg #[.string (S ++ X), .int .i64 d, .int .i64 r], .int .i64 0]) (by simp [results, Try.results16, go_sem]) rfl ⟨rfl, ?_⟩
  exact ((Below.refl _ _).alloc (Nat.le_refl _) _).alloc (by simp) _
theorem str_head (S : ByteArray) (j : Nat) (hj : j ≤ S.size) (w : World) :
    (Instr.slice 9 (.string S) none (some (.int .i64 (j : Int))) none).run Try.prog w = .ok (.string (S.extract 0 j)) w := by
  rw [run_slice_string_to_if (P := Try.prog) (w := w) 9 S .i64 (j : Int) Try.underlying9, if_pos (by omega)]
  rfl

/-- Three cells of a new block, behind a call. -/
theorem three_new {w w1 : World} {o : Obj} {t : TypeId} {a b c : Value} (hb : Below ((w.alloc o).alloc (.cells #[a, b, c] t)).heap.size ((w.alloc o).alloc (.cells #[a, b, c] t)) w1) :
    w1.cell? ⟨w.heap.size + 1, 0, none⟩ = some a ∧ w1.cell? ⟨w.heap.size + 1, 1, none⟩ = some b ∧ w1.cell? ⟨w.heap.size + 1, 2, none⟩ = some c ∧ w1.frozen? ⟨w.heap.size + 1, 0, none⟩ = false ∧ w1.frozen? ⟨w.heap.size + 1, 1, none⟩ = false ∧ w1.frozen? ⟨w.heap.size + 1, 2, none⟩ = false ∧ w.heap.size + 1 < w1.heap.size := by
  have hz : (w.alloc o).heap.size = w.heap.size + 1 := by simp
  have h1 : Whole ((w.alloc o).alloc (.cells #[a, b, c] t)) (w.heap.size + 1) t #[a, b, c] := by rw [← hz]; exact heap_alloc_new (w.alloc o) _
  have h2 := h1.kept (hb.block _ h1.lt)
  exact ⟨by rw [h2.cell]; rfl, by rw [h2.cell]; rfl, by rw [h2.cell]; rfl, h2.free 0, h2.free 1, h2.free 2, h2.lt⟩

theorem two_new {w w1 : World} {A B : Obj} (hb : Below ((w.alloc A).alloc B).heap.size ((w.alloc A).alloc B) w1) : Below w.heap.size w w1 :=
  (((Below.refl _ _).alloc (Nat.le_refl _) A).alloc (by simp) B).trans (hb.mono (by simp; omega))

set_option maxHeartbeats 2000000 in
theorem rcrash_any (S : ByteArray) (d : Nat) (r keep : Int) (w : World) (hS : S.size ≤ 1048576) (hd : d ≤ S.size) (hk : keep < 9223372036854775808) :
    Calls Try.prog 14 #[RD S d r, .int .i64 keep] w fun e w' => e = .returned (RD (S.extract 0 (Dk.left S.size d keep)) (Dk.left S.size d keep) r) ∧ Below w.heap.size w w' := by
  have hw : IntKind.i64.wrap ((S.size : Int) - (d : Int)) = (S.size : Int) - (d : Int) := IntWalk.i64_in _ (by omega)
  obtain ⟨p, hp⟩ : ∃ p, p = Dk.left S.size d keep := ⟨_, rfl⟩
  rw [← hp]
  have hpl : d ≤ p ∧ p ≤ S.size := by rw [hp]; unfold Dk.left; omega
  have hz : (S.extract 0 p).size = p := by simp; omega
  by_cases hcut : (if keep < 0 then 0 else keep) < (S.size : Int) - (d : Int)
  · have hh := str_head S p hpl.2
    by_cases h0 : keep < 0
    · rw [if_pos h0] at hcut
      obtain rfl : p = d := by rw [hp]; unfold Dk.left; omega
      have hwd : IntKind.i64.wrap ((p : Int) + 0) = (p : Int) := by rw [IntWalk.i64_in _ (by omega)]; omega
      clear hp
      generalize S.extract 0 p = T at *
      go_enter Try.func14, Try.ntmps14
      unfold RD
      go_wp2_with fail
      refine (rsync_any _ _ r _).mono ?_
      rintro e w1 ⟨rfl, hb1⟩
      obtain ⟨c0, c1, c2, f0, f1, f2, hlt⟩ := three_new hb1
      have HB := Lib.hid (two_new hb1)
      have HZ := Lib.hid hz
      clear hb1 hz
      unfold RD
      go_wp2
      refine bodyPost_ret (v := .agg #[.string T, .int .i64 T.size, .int .i64 r]) (by simp [results, Try.results14, go_sem, c0, c1, c2]) rfl ⟨by rw [HZ.out], ?_⟩
      exact ((HB.out.setCell (p := ⟨_, 0, none⟩) (by simp) _).setCell (p := ⟨_, 1, none⟩) (by simp) _).setCell (p := ⟨_, 2, none⟩) (by simp) _
    · rw [if_neg h0] at hcut
      have hpk : (p : Int) = (d : Int) + keep := by rw [hp]; unfold Dk.left; omega
      have hwd : IntKind.i64.wrap ((d : Int) + keep) = (p : Int) := by rw [IntWalk.i64_in _ (by omega)]; omega
      have hwe : (d : Int) + keep = (p : Int) := hpk.symm
      clear hp hpk
      generalize S.extract 0 p = T at *
      go_enter Try.func14, Try.ntmps14
      unfold RD
      go_wp2_with fail
      refine (rsync_any _ _ r _).mono ?_
      rintro e w1 ⟨rfl, hb1⟩
      obtain ⟨c0, c1, c2, f0, f1, f2, hlt⟩ := three_new hb1
      have HB := Lib.hid (two_new hb1)
      have HZ := Lib.hid hz
      clear hb1 hz
      unfold RD
      go_wp2
      refine bodyPost_ret (v := .agg #[.string T, .int .i64 T.size, .int .i64 r]) (by simp [results, Try.results14, go_sem, c0, c1, c2]) rfl ⟨by rw [HZ.out], ?_⟩
      exact ((HB.out.setCell (p := ⟨_, 0, none⟩) (by simp) _).setCell (p := ⟨_, 1, none⟩) (by simp) _).setCell (p := ⟨_, 2, none⟩) (by simp) _
  · obtain rfl : p = S.size := by rw [hp]; unfold Dk.left; split at hcut <;> omega
    have hE : S.extract 0 S.size = S := by simp
    rw [hE]
    clear hp hE hz
    by_cases h0 : keep < 0
    · rw [if_pos h0] at hcut
      go_enter Try.func14, Try.ntmps14
      unfold RD
      go_wp2_with fail
      refine (rsync_any _ _ r _).mono ?_
      rintro e w1 ⟨rfl, hb1⟩
      obtain ⟨c0, c1, c2, f0, f1, f2, hlt⟩ := three_new hb1
      have HB := Lib.hid (two_new hb1)
      clear hb1
      unfold RD
      go_wp2
      refine bodyPost_ret (v := .agg #[.string S, .int .i64 S.size, .int .i64 r]) (by simp [results, Try.results14, go_sem, c0, c1, c2]) rfl ⟨rfl, ?_⟩
      exact ((HB.out.setCell (p := ⟨_, 0, none⟩) (by simp) _).setCell (p := ⟨_, 1, none⟩) (by simp) _).setCell (p := ⟨_, 2, none⟩) (by simp) _
    · rw [if_neg h0] at hcut
      go_enter Try.func14, Try.ntmps14
      unfold RD
      go_wp2_with fail
      refine (rsync_any _ _ r _).mono ?_
      rintro e w1 ⟨rfl, hb1⟩
      obtain ⟨c0, c1, c2, f0, f1, f2, hlt⟩ := three_new hb1
      have HB := Lib.hid (two_new hb1)
      clear hb1
      unfold RD
      go_wp2
      refine bodyPost_ret (v := .agg #[.string S, .int .i64 S.size, .int .i64 r]) (by simp [results, Try.results14, go_sem, c0, c1, c2]) rfl ⟨rfl, ?_⟩
      exact ((HB.out.setCell (p := ⟨_, 0, none⟩) (by simp) _).setCell (p := ⟨_, 1, none⟩) (by simp) _).setCell (p := ⟨_, 2, none⟩) (by simp) _

set_option maxHeartbeats 2000000 in
theorem rtrunc_bad (S : ByteArray) (d r k : Int) (w : World) (h : k < 0 ∨ (S.size : Int) < k) :
    Calls Try.prog 34 #[RD S d r, .int .i64 k] w fun e w' => e = .returned (.tuple #[RD S d r, .int .i64 1]) ∧ Below w.heap.size w w' := by
  unfold RD
  rcases h with h | h
  · go_enter Try.func34, Try.ntmps34
    go_wp2
    refine bodyPost_ret (v := .tuple #[.agg #[.string S, .int .i64 d, .int .i64 r], .int .i64 1]) (by simp [results, Try.results34, go_sem]) rfl ⟨rfl, ?_⟩
    exact ((Below.refl _ _).alloc (Nat.le_refl _) _).alloc (by simp) _
  · have h0 : ¬ k < 0 := by omega
    go_enter Try.func34, Try.ntmps34
    go_wp2
    refine bodyPost_ret (v := .tuple #[.agg #[.string S, .int .i64 d, .int .i64 r], .int .i64 1]) (by simp [results, Try.results34, go_sem]) rfl ⟨rfl, ?_⟩
    exact ((Below.refl _ _).alloc (Nat.le_refl _) _).alloc (by simp) _

set_option maxHeartbeats 2000000 in
theorem rtrunc_good (S : ByteArray) (d r : Int) (k : Nat) (w : World) (h : k ≤ S.size) :
    Calls Try.prog 34 #[RD S d r, .int .i64 k] w fun e w' => e = .returned (.tuple #[RD (S.extract 0 k) k r, .int .i64 0]) ∧ Below w.heap.size w w' := by
  have hh := str_head S k h
  have hz : (S.extract 0 k).size = k := by simp; omega
  have h1 : ¬ (S.size : Int) < (k : Int) := by omega
  generalize S.extract 0 k = T at *
  go_enter Try.func34, Try.ntmps34
  unfold RD
  go_wp2_with fail
  refine (rsync_any _ _ r _).mono ?_
  rintro e w1 ⟨rfl, hb1⟩
  obtain ⟨c0, c1, c2, f0, f1, f2, hlt⟩ := three_new hb1
  have HB := Lib.hid (two_new hb1)
  have HZ := Lib.hid hz
  clear hb1 hz
  unfold RD
  go_wp2
  refine bodyPost_ret (v := .tuple #[.agg #[.string T, .int .i64 T.size, .int .i64 r], .int .i64 0]) (by simp [results, Try.results34, go_sem, c0, c1, c2]) rfl ⟨by rw [HZ.out], ?_⟩
  exact ((HB.out.setCell (p := ⟨_, 0, none⟩) (by simp) _).setCell (p := ⟨_, 1, none⟩) (by simp) _).setCell (p := ⟨_, 2, none⟩) (by simp) _
theorem RowsOwn.chg {w w' : World} {base : Nat} {v : Value} {ms : List MsgR} (h : RowsOwn w base v ms) (hc : Chg w w' (fun k => k < base)) : RowsOwn w' base v ms := by
  obtain ⟨qs, h1, h2, h3⟩ := h
  have hk : ∀ {n s : Nat} {u : Value} {e : TypeId} {l : List Value}, w.ownsRow base e s u n l → w'.ownsRow base e s u n l := fun hu => owns_keep hu fun k hk => hc.block k (hu.lt k hk).2 (by have := (hu.lt k hk).1; omega)
  exact ⟨qs, h1, hk h2, fun q hq => ⟨⟨hk (h3 q hq).1.nodes, hk (h3 q hq).1.muts, hk (h3 q hq).1.pre, hk (h3 q hq).1.rows⟩, (h3 q hq).2⟩⟩
theorem RowsOwn.lower {w : World} {base base' : Nat} {v : Value} {ms : List MsgR} (h : RowsOwn w base v ms) (hb : base' ≤ base) : RowsOwn w base' v ms := by
  obtain ⟨qs, h1, h2, h3⟩ := h
  refine ⟨qs, h1, ⟨h2.1, ?_⟩, fun q hq => ⟨(h3 q hq).1.lower hb, (h3 q hq).2⟩⟩
  rcases h2.2 with h2 | ⟨g, cap, cur, e, h4, r⟩
  · exact .inl h2
  · exact .inr ⟨g, cap, cur, e, Nat.le_trans hb h4, r⟩
theorem msgin_up {w w' : World} {V : Value} {m : MsgD} (h : MsgIn w V m) (hb : Below w.heap.size w w') : MsgIn w' V m := (show MsgB w' w.heap.size V m from MsgB.below h hb).msg hb.size
end Go.Proofs.Yteodldmbnghfcaa.Rl

namespace Go.Proofs.Yteodldmbnghfcaa.Rl
open Go.RowKit

/-- What the document's Add comes to. -/
def RAdd (S : ByteArray) (d : Int) (r : Nat) (m : MsgD) (e : Ending) : Prop :=
  (m.good ∧ S.size + (rcd m).length ≤ r ∧ e = .returned (.tuple #[RD (S ++ strOfNums (rcd m)) d r, .int .i64 0])) ∨ (m.good ∧ r < S.size + (rcd m).length ∧ e = .returned (.tuple #[RD S d r, .int .i64 3])) ∨ (¬ m.good ∧ e = .returned (.tuple #[RD S d r, .int .i64 2]))
theorem RAdd.fits {S : ByteArray} {d : Int} {r : Nat} {m : MsgD} {e : Ending} (h : m.ok ∧ (enc m).length ≤ 16384) (h2 : S.size + (rcd m).length ≤ r) (h3 : e = .returned (.tuple #[RD (S ++ strOfNums (rcd m)) d r, .int .i64 0])) : RAdd S d r m e := .inl ⟨h, h2, h3⟩
theorem RAdd.full {S : ByteArray} {d : Int} {r : Nat} {m : MsgD} {e : Ending} (h : m.ok ∧ (enc m).length ≤ 16384) (h2 : r < S.size + (rcd m).length) (h3 : e = .returned (.tuple #[RD S d r, .int .i64 3])) : RAdd S d r m e := .inr (.inl ⟨h, h2, h3⟩)
theorem RAdd.no {S : ByteArray} {d : Int} {r : Nat} {m : MsgD} {e : Ending} (h : ¬ (m.ok ∧ (enc m).length ≤ 16384)) (h3 : e = .returned (.tuple #[RD S d r, .int .i64 2])) : RAdd S d r m e := .inr (.inr ⟨h, h3⟩)
set_option maxRecDepth 100000 in
set_option maxHeartbeats 4000000 in
theorem radd_any (V : Value) (w : World) (m : MsgD) (hm : MsgIn w V m) (hs : m.small) (S : ByteArray) (d : Int) (r : Nat) (hS : S.size ≤ 1048576) :
    Calls Try.prog 10 #[RD S d r, V] w fun e w' => RAdd S d r m e ∧ Below w.heap.size w w' := by
  obtain ⟨na, ma, pa, ra, nn, nc, mn, mc, pn, pc, rn, rc, hm⟩ := hm
  have hv := hm.val
  subst hv
  have hm : MsgIn w (.agg #[.int .i64 m.kind, .int .i64 m.from_, .int .i64 m.«to», .int .i64 m.id, .int .i64 m.rev, .int .i64 m.epoch, .int .i64 m.slot, .bool m.flag, .slice na nn nc, .slice ma mn mc, .slice pa pn pc, .slice ra rn rc]) m := ⟨na, ma, pa, ra, nn, nc, mn, mc, pn, pc, rn, rc, hm⟩
  have hb : ∀ x ∈ enc m, 0 ≤ x ∧ x < 256 := enc_byte m
  unfold RD
  obtain ⟨X, hX, hwX, hbX⟩ := box_new w 34 #[.string S, .int .i64 d, .int .i64 (r : Int)]
  obtain ⟨Y, hY, hwY, hbY⟩ := box_new X 40 #[.int .i64 m.kind, .int .i64 m.from_, .int .i64 m.«to», .int .i64 m.id, .int .i64 m.rev, .int .i64 m.epoch, .int .i64 m.slot, .bool m.flag, .slice na nn nc, .slice ma mn mc, .slice pa pn pc, .slice ra rn rc]
  obtain ⟨Z, hZ, hwZ, hbZ⟩ := box_new Y 34 #[.string ⟨#[]⟩, .int .i64 0, .int .i64 0]
  have hsX : X.heap.size = w.heap.size + 1 := by rw [hX]; exact Array.size_push _
  have hsY : Y.heap.size = w.heap.size + 1 + 1 := by rw [hY, ← hsX]; exact Array.size_push _
  rw [hsX] at hwY
  rw [hsY] at hwZ
  have hb3 : Below w.heap.size w Z := bell_up (bell_up hbX hbY) hbZ
  have HXZ := Lib.hid ((hwX.kept (hbY.block _ hwX.lt)).kept (hbZ.block _ (Nat.lt_of_lt_of_le hwX.lt hbY.size)))
  have hyz := hwY.kept (hbZ.block _ hwY.lt)
  have HZZ := Lib.hid hwZ
  have HB3 := Lib.hid hb3
  have HEN := Lib.hid (refenc_any _ m Z (msgin_up hm hb3) hs)
  have HEB := Lib.hid hb
  have k0 := hyz.cell 0
  have k1 := hyz.cell 1
  have k2 := hyz.cell 2
  have k3 := hyz.cell 3
  have k4 := hyz.cell 4
  have k5 := hyz.cell 5
  have k6 := hyz.cell 6
  have k7 := hyz.cell 7
  have k8 := hyz.cell 8
  have k9 := hyz.cell 9
  have k10 := hyz.cell 10
  have k11 := hyz.cell 11
  clear hsX hsY hm hs hb hwX hwY hwZ hbX hbY hbZ hb3 hyz
  go_enter Try.func10, Try.ntmps10
  go_upto_region 1 with fail
  rw [← hX, ← hY, ← hZ]
  clear hX hY hZ
  go_wp2_with fail
  refine HEN.out.mono ?_
  rintro e w1 ⟨⟨hg, rfl⟩ | ⟨hno, rfl⟩, hb1⟩
  rotate_left
  · have HX2 := HXZ.out.kept (hb1.block _ HXZ.out.lt)
    have HZ3 := HZZ.out.kept (hb1.block _ HZZ.out.lt)
    have HNO := Lib.hid hno
    clear k0 k1 k2 k3 k4 k5 k6 k7 k8 k9 k10 k11 HEN
    have k0 := HX2.cell 0
    have k1 := HX2.cell 1
    have k2 := HX2.cell 2
    have z0 := HZ3.cell 0
    have z1 := HZ3.cell 1
    have z2 := HZ3.cell 2
    have y0 := HZ3.free 0
    have y1 := HZ3.free 1
    have y2 := HZ3.free 2
    have HF := Lib.hid (show Whole (((w1.setCell ⟨w.heap.size + 1 + 1, 0, none⟩ (.string S)).setCell ⟨w.heap.size + 1 + 1, 1, none⟩ (.int .i64 d)).setCell ⟨w.heap.size + 1 + 1, 2, none⟩ (.int .i64 (r : Int))) (w.heap.size + 1 + 1) 34 #[.string S, .int .i64 d, .int .i64 (r : Int)] from ((HZ3.store 0 _).store 1 _).store 2 _)
    have HBF := Lib.hid (show Below w.heap.size w (((w1.setCell ⟨w.heap.size + 1 + 1, 0, none⟩ (.string S)).setCell ⟨w.heap.size + 1 + 1, 1, none⟩ (.int .i64 d)).setCell ⟨w.heap.size + 1 + 1, 2, none⟩ (.int .i64 (r : Int))) from Chg.below (B := w.heap.size) ((((Chg.ofBelow (fun k => k = w.heap.size + 1 + 1) (bell_up HB3.out hb1)).set rfl 0 _).set rfl 1 _).set rfl 2 _) (fun k hk => by have h2 : k = w.heap.size + 1 + 1 := hk; omega) (Nat.le_refl _))
    clear hb1 HX2 HZ3 hno
    go_wp2_with fail
    refine bodyPost_ret (v := .tuple #[.agg #[.string S, .int .i64 d, .int .i64 (r : Int)], .int .i64 2]) (res_two Try.results10 _ _ (w.heap.size + 1 + 1) 34 #[.string S, .int .i64 d, .int .i64 (r : Int)] _ _ rfl rfl HF.out Try.underlying34 rfl (by kernel_rfl)) rfl ⟨RAdd.no HNO.out rfl, HBF.out⟩
  have HSE := Lib.hid (fun W => Fr.refseal_any (enc m) (strOfNums (enc m)) W rfl HEB.out (by have := hg.2; omega))
  have HG := Lib.hid hg
  clear hg
  have HX1 := Lib.hid (HXZ.out.kept (hb1.block _ HXZ.out.lt))
  have HZ1 := Lib.hid (HZZ.out.kept (hb1.block _ HZZ.out.lt))
  have HB1 := Lib.hid (bell_up HB3.out hb1)
  clear hb1 k0 k1 k2 k3 k4 k5 k6 k7 k8 k9 k10 k11 HEN
  have hlen : (enc m).length ≤ 16384 := HG.out.2
  go_wp2_with fail
  refine (HSE.out w1).mono ?_
  rintro e w2 ⟨rfl, hb2⟩
  rw [if_pos hlen]
  have HX2 := Lib.hid (HX1.out.kept (hb2.block _ HX1.out.lt))
  have HZ2 := Lib.hid (HZ1.out.kept (hb2.block _ HZ1.out.lt))
  have HB2 := Lib.hid (bell_up HB1.out hb2)
  have k0 := HX2.out.cell 0
  have k1 := HX2.out.cell 1
  have k2 := HX2.out.cell 2
  have hfl : (strOfNums (Fr.sealed (enc m))).size = (Fr.sealed (enc m)).length := by rw [strOfNums_size]
  have hsl : (Fr.sealed (enc m)).length = 8 + (enc m).length := Fr.sealed_length _
  clear hb2 HSE
  generalize hFe : strOfNums (Fr.sealed (enc m)) = F at *
  generalize hLe : (Fr.sealed (enc m)).length = L at *
  have HFE := Lib.hid (And.intro hFe hLe)
  clear hFe hLe
  by_cases hfit : S.size + L ≤ r
  · have HAP := Lib.hid (rappend_fits S F d r w2 hS (by omega) (by omega))
    go_wp2_with fail
    refine HAP.out.mono ?_
    rintro e w3 ⟨rfl, hb3⟩
    unfold RD
    have HZ3 := HZ2.out.kept (hb3.block _ HZ2.out.lt)
    have z0 := HZ3.cell 0
    have z1 := HZ3.cell 1
    have z2 := HZ3.cell 2
    have y0 := HZ3.free 0
    have y1 := HZ3.free 1
    have y2 := HZ3.free 2
    have HF := Lib.hid (show Whole (((w3.setCell ⟨w.heap.size + 1 + 1, 0, none⟩ (.string (S ++ F))).setCell ⟨w.heap.size + 1 + 1, 1, none⟩ (.int .i64 d)).setCell ⟨w.heap.size + 1 + 1, 2, none⟩ (.int .i64 (r : Int))) (w.heap.size + 1 + 1) 34 #[.string (S ++ F), .int .i64 d, .int .i64 (r : Int)] from ((HZ3.store 0 _).store 1 _).store 2 _)
    have HBF := Lib.hid (show Below w.heap.size w (((w3.setCell ⟨w.heap.size + 1 + 1, 0, none⟩ (.string (S ++ F))).setCell ⟨w.heap.size + 1 + 1, 1, none⟩ (.int .i64 d)).setCell ⟨w.heap.size + 1 + 1, 2, none⟩ (.int .i64 (r : Int))) from Chg.below (B := w.heap.size) ((((Chg.ofBelow (fun k => k = w.heap.size + 1 + 1) (bell_up HB2.out hb3)).set rfl 0 _).set rfl 1 _).set rfl 2 _) (fun k hk => by have h2 : k = w.heap.size + 1 + 1 := hk; omega) (Nat.le_refl _))
    clear hb3 HZ3 HAP
    go_wp2_with fail
    refine bodyPost_ret (v := .tuple #[.agg #[.string (S ++ F), .int .i64 d, .int .i64 (r : Int)], .int .i64 0]) (res_two Try.results10 _ _ (w.heap.size + 1 + 1) 34 #[.string (S ++ F), .int .i64 d, .int .i64 (r : Int)] _ _ rfl rfl HF.out Try.underlying34 rfl (by kernel_rfl)) rfl ⟨RAdd.fits HG.out (by rw [rcd, HFE.out.2]; exact hfit) (by rw [rcd, HFE.out.1]; rfl), HBF.out⟩
  · have HAP := Lib.hid (rappend_full S F d r w2 hS (by omega) (by omega))
    go_wp2_with fail
    refine HAP.out.mono ?_
    rintro e w3 ⟨rfl, hb3⟩
    unfold RD
    have HZ3 := HZ2.out.kept (hb3.block _ HZ2.out.lt)
    have z0 := HZ3.cell 0
    have z1 := HZ3.cell 1
    have z2 := HZ3.cell 2
    have y0 := HZ3.free 0
    have y1 := HZ3.free 1
    have y2 := HZ3.free 2
    have HF := Lib.hid (show Whole (((w3.setCell ⟨w.heap.size + 1 + 1, 0, none⟩ (.string S)).setCell ⟨w.heap.size + 1 + 1, 1, none⟩ (.int .i64 d)).setCell ⟨w.heap.size + 1 + 1, 2, none⟩ (.int .i64 (r : Int))) (w.heap.size + 1 + 1) 34 #[.string S, .int .i64 d, .int .i64 (r : Int)] from ((HZ3.store 0 _).store 1 _).store 2 _)
    have HBF := Lib.hid (show Below w.heap.size w (((w3.setCell ⟨w.heap.size + 1 + 1, 0, none⟩ (.string S)).setCell ⟨w.heap.size + 1 + 1, 1, none⟩ (.int .i64 d)).setCell ⟨w.heap.size + 1 + 1, 2, none⟩ (.int .i64 (r : Int))) from Chg.below (B := w.heap.size) ((((Chg.ofBelow (fun k => k = w.heap.size + 1 + 1) (bell_up HB2.out hb3)).set rfl 0 _).set rfl 1 _).set rfl 2 _) (fun k hk => by have h2 : k = w.heap.size + 1 + 1 := hk; omega) (Nat.le_refl _))
    clear hb3 HZ3 HAP
    go_wp2_with fail
    refine bodyPost_ret (v := .tuple #[.agg #[.string S, .int .i64 d, .int .i64 (r : Int)], .int .i64 3]) (res_two Try.results10 _ _ (w.heap.size + 1 + 1) 34 #[.string S, .int .i64 d, .int .i64 (r : Int)] _ _ rfl rfl HF.out Try.underlying34 rfl (by kernel_rfl)) rfl ⟨RAdd.full HG.out (by rw [rcd, HFE.out.2]; omega) rfl, HBF.out⟩
end Go.Proofs.Yteodldmbnghfcaa.Rl

namespace Go.Proofs.Yteodldmbnghfcaa.Rl
open Go.RowKit

theorem str_tail2 (S : ByteArray) (i : Nat) (hi : i ≤ S.size) (w : World) :
    (Instr.slice 9 (.string S) (some (.int .i64 (i : Int))) none none).run Try.prog w = .ok (.string (S.extract i S.size)) w := by
  rw [run_slice_string_from_if (P := Try.prog) (w := w) 9 S .i64 (i : Int) Try.underlying9, if_pos (by omega)]
  rfl
set_option maxRecDepth 100000 in
set_option maxHeartbeats 8000000 in
theorem ropen_any (xs : List Int) (d r : Int) (w : World) (hb : Byt xs) (hn : xs.length ≤ 1048576) :
    Calls Try.prog 17 #[RD (strOfNums xs) d r] w fun e w' => ∃ v, e = .returned (.tuple #[RD (strOfNums (xs.take (recs xs).2)) (recs xs).2 r, v]) ∧ RowsOwn w' w.heap.size v (recs xs).1 ∧ Below w.heap.size w w' := by
  obtain ⟨i0, hi, hz0, hz1, hz2⟩ := info_parts Try.infoG
  obtain ⟨S, hS⟩ : ∃ S, S = strOfNums xs := ⟨_, rfl⟩
  rw [← hS]
  have HSZ := Lib.hid (show S.size = xs.length by rw [hS, strOfNums_size])
  have hsn : S.size ≤ 1048576 := by rw [HSZ.out]; exact hn
  obtain ⟨X, hX, hwX, hbX⟩ := box_new w 34 #[.string S, .int .i64 d, .int .i64 r]
  obtain ⟨Z, hZ, hwZ, hbZ⟩ := box_new X 34 #[.string ⟨#[]⟩, .int .i64 0, .int .i64 0]
  have hsX : X.heap.size = w.heap.size + 1 := by rw [hX]; exact Array.size_push _
  have hsZ : Z.heap.size = w.heap.size + 1 + 1 := by rw [hZ, ← hsX]; exact Array.size_push _
  rw [hsX] at hwZ
  have HXZ := Lib.hid (hwX.kept (hbZ.block _ hwX.lt))
  have HZZ := Lib.hid hwZ
  have HBZ := Lib.hid (bell_up hbX hbZ)
  have HSZZ := Lib.hid hsZ
  have HS := Lib.hid hS
  have HB := Lib.hid hb
  clear hS hb hwX hwZ hbX hbZ hsX hsZ
  unfold RD
  go_enter Try.func17, Try.ntmps17
  go_upto_region 1 with fail
  rw [← hX, ← hZ]
  clear hX hZ
  go_wp2_with fail
  go_loopw [4, 5] (fun rv iv wr => ∃ (k q : Nat) (ra : Option Addr) (rc : Nat), k ≤ xs.length ∧ iv = .int .i64 k ∧ rv = .slice ra q rc ∧ Far Z wr xs (.slice ra q rc) k q) (fun _ iv _ => xs.length - (intOf iv).toNat)
  case atStart => exact ⟨0, 0, none, 0, by omega, rfl, rfl, [], rfl, ⟨[], rfl, ⟨rfl, .inl ⟨rfl, rfl⟩⟩, by simp⟩, Below.refl _ _, by omega, by simp⟩
  case round =>
    obtain ⟨k, q, ra, rc, hk, rfl, rfl, hfar⟩ := hrel
    have hq8 : q * 8 ≤ k := by obtain ⟨_, _, _, _, h, _⟩ := hfar; exact h
    have HFAR := Lib.hid hfar
    have hbr : Below Z.heap.size Z wr := by obtain ⟨_, _, _, h, _, _⟩ := hfar; exact h
    have HBR := Lib.hid hbr
    have c0 : wr.cell? ⟨w.heap.size, 0, none⟩ = some (.string S) := (HXZ.out.kept (hbr.block _ HXZ.out.lt)).cell 0
    have hs1 := fun w => str_tail2 S k (by rw [HSZ.out]; exact hk) w
    have hx1 : S.extract k S.size = strOfNums (xs.drop k) := by rw [HS.out, Fr.str_sub, strOfNums_size, List.take_of_length_le (by simp)]
    have hRO := Lib.hid (Fr.refopen_any (xs.drop k) (S.extract k S.size) wr hx1 (fun x hx => HB.out x (List.mem_of_mem_drop hx)) (by simp; omega))
    have hxn : ¬ (S.size : Int) < (k : Int) := by rw [HSZ.out]; omega
    generalize S.extract k S.size = T0 at *
    clear hbr hfar hx1
    go_wp2_with fail
    refine hRO.out.mono ?_
    rintro e w2 ⟨hb2, ⟨he, rfl⟩ | ⟨he, rfl⟩⟩
    · have hbp : Byt (Fr.pay (xs.drop k)) := pay_byt (fun x hx => HB.out x (List.mem_of_mem_drop hx))
      have HDC := Lib.hid (refdec_any (Fr.pay (xs.drop k)) w2 hbp)
      have HE := Lib.hid he
      have HB2 := Lib.hid hb2
      obtain ⟨P, hP⟩ : ∃ P, P = strOfNums (Fr.pay (xs.drop k)) := ⟨_, rfl⟩
      rw [← hP]
      rw [← hP] at HDC
      clear hP
      obtain ⟨kk, hkk⟩ : ∃ kk, kk = 8 + Fr.wd (xs.drop k) 4 := ⟨_, rfl⟩
      rw [← hkk]
      have HKK0 := Lib.hid hkk
      clear hb2 he hkk hRO c0 hs1
      go_wp2_with fail
      refine HDC.out.mono ?_
      rintro e w3 (⟨m, v8, v9, v10, v11, hd, rfl, hO, hb3⟩ | ⟨cd, hd, rfl, hb3⟩)
      · have hu : unp (xs.drop k) = some (m, kk) := by rw [HKK0.out]; exact unp_ok HE.out hd
        have hfine : m.fine := (dec_inv hbp hd).2.1
        obtain ⟨a8, n8, c8, rfl⟩ := own_sliceL hO.nodes
        obtain ⟨a9, n9, c9, rfl⟩ := own_sliceL hO.muts
        obtain ⟨a10, n10, c10, rfl⟩ := own_sliceL hO.pre
        obtain ⟨a11, n11, c11, rfl⟩ := own_sliceL hO.rows
        obtain ⟨X2, hX2, hw2, hbx2⟩ := alloc_box w3 (msgC m (.slice a8 n8 c8) (.slice a9 n9 c9) (.slice a10 n10 c10) (.slice a11 n11 c11))
        have hkk : kk + k ≤ xs.length ∧ 8 ≤ kk := by
          have h1 := unp_range hu
          rw [List.length_drop] at h1
          omega
        obtain ⟨hkk, hk8⟩ := hkk
        have hbw := (HB2.out.trans (hb3.mono HB2.out.size)).trans (hbx2.mono (Nat.le_trans HB2.out.size hb3.size))
        obtain ⟨acc, hacc, ⟨qs, hqs, hown, hall⟩, _⟩ := HFAR.out
        rw [hacc] at hown
        have hownX := owns_below hown hbw
        have HOW := Lib.hid hownX
        have HO := Lib.hid ((hO.below hbx2).lower (Nat.le_trans HBR.out.size HB2.out.size))
        have HFI := Lib.hid hfine
        have HUU := Lib.hid hu
        have HBW := Lib.hid hbw
        have HSX := Lib.hid (show Z.heap.size ≤ X2.heap.size from Nat.le_trans HBR.out.size hbw.size)
        have HNR := Lib.hid (show ∀ l : List Value, wr.ownsRow Z.heap.size 40 12 (.slice ra q rc) q l → l = qs.flatMap qC from fun l hl => row_one hl hown)
        unfold msgC at hX2 hw2 ⊢
        go_upto_region 6 with fail
        rw [← hX2]
        have j0 := hw2.cell 0
        have j1 := hw2.cell 1
        have j2 := hw2.cell 2
        have j3 := hw2.cell 3
        have j4 := hw2.cell 4
        have j5 := hw2.cell 5
        have j6 := hw2.cell 6
        have j7 := hw2.cell 7
        have j8 := hw2.cell 8
        have j9 := hw2.cell 9
        have j10 := hw2.cell 10
        have j11 := hw2.cell 11
        have hw1 : IntKind.i64.wrap ((k : Int) + (kk : Int)) = (k : Int) + (kk : Int) := IntWalk.i64_in _ (by omega)
        clear hb3 hw2 hbx2 hX2 hO hfine hu hbw hown hownX hall hqs hacc HDC hd hbp
        go_wp2_with (at_builtin; refine wpList_append_at_any _ rfl _ _ 30 rfl Z.heap.size 40 i0 (.agg MsgZ) 12 160 Try.underlying30 hi hz0 hz1 hz2 rfl (by decide) _ q _ rfl (HOW.out.alloc _) (some ⟨X2.heap.size, 0, none⟩) 1 1 [.int .i64 m.kind, .int .i64 m.frm, .int .i64 m.too, .int .i64 m.id, .int .i64 m.rev, .int .i64 m.epoch, .int .i64 m.slot, .bool m.flag, .slice a8 n8 c8, .slice a9 n9 c9, .slice a10 n10 c10, .slice a11 n11 c11] rfl rfl (by intro h; cases h) (by rintro ad he; injection he with he; subst he; exact cells_new _ [.int .i64 m.kind, .int .i64 m.frm, .int .i64 m.too, .int .i64 m.id, .int .i64 m.rev, .int .i64 m.epoch, .int .i64 m.slot, .bool m.flag, .slice a8 n8 c8, .slice a9 n9 c9, .slice a10 n10 c10, .slice a11 n11 c11] _) (by intro q hq; simp at hq; rcases hq with rfl | rfl | rfl | rfl | rfl | rfl | rfl | rfl | rfl | rfl | rfl | rfl <;> rfl) (by unfold maxLen; omega) (by omega) (by have := HSX.out; simp; omega) ?_; intro v2 w4 hown3 hgrow3 hat3)
        have HF3 := Lib.hid (HFAR.out.step (w2 := X2.alloc (.cells #[.int .i64 m.kind, .int .i64 m.frm, .int .i64 m.too, .int .i64 m.id, .int .i64 m.rev, .int .i64 m.epoch, .int .i64 m.slot, .bool m.flag, .slice a8 n8 c8, .slice a9 n9 c9, .slice a10 n10 c10, .slice a11 n11 c11] 40)) (w3 := w4) (v' := v2) HUU.out (HBW.out.alloc HBW.out.size _) (HO.out.below (below_alloc _ _)) HFI.out (fun l hl => by rw [HNR.out l hl]; exact hown3) hgrow3)
        obtain ⟨ra3, rc3, rfl, _, _⟩ := owned_some hown3
        clear hown3 hgrow3 hat3
        go_roundw
        case rel => exact ⟨k + kk, q + 1, ra3, rc3, by omega, by go_num, rfl, HF3.out⟩
        case measure => simp [intOf]; omega
      · have hcd : cd ≠ 0 := dec_err hd
        have hce : (cd != 0) = true := by simpa using hcd
        have HUB := Lib.hid (show unp (xs.drop k) = none from unp_bad HE.out hd)
        have HB3 := Lib.hid (HB2.out.trans (hb3.mono HB2.out.size))
        obtain ⟨w4, hw4, _, hb4⟩ := box_new w3 40 MsgZ
        have HB4 := Lib.hid (HB3.out.trans (hb4.mono HB3.out.size))
        clear hcd hb3 hd hb4 HDC hbp
        go_upto_region 6 with fail
        rw [← hw4]
        clear hw4
        have hdn := HFAR.out.done HUB.out HB4.out
        obtain ⟨v', hv', hrw, hbd⟩ := hdn
        injection hv' with hv'
        injection hv' with hv'
        injection hv' with hv'
        obtain ⟨rfl, hkk⟩ : v' = .slice ra q rc ∧ k = (recs xs).2 := by
          simp only [List.cons.injEq, Value.int.injEq, and_true, true_and] at hv'
          exact ⟨hv'.1.symm, by exact_mod_cast hv'.2⟩
        have HKK := Lib.hid hkk
        have HRW := Lib.hid hrw
        have HBD := Lib.hid hbd
        have hX4 := HXZ.out.kept (hbd.block _ HXZ.out.lt)
        have hZ4 := HZZ.out.kept (hbd.block _ HZZ.out.lt)
        have HX4 := Lib.hid hX4
        have HZ4 := Lib.hid hZ4
        have x0 := hX4.cell 0
        have x1 := hX4.cell 1
        have x2 := hX4.cell 2
        have HTR := Lib.hid (rtrunc_good S d r k w4 (by rw [HSZ.out]; exact hk))
        clear hv' hkk hrw hbd hX4 hZ4
        go_wp2_with fail
        refine HTR.out.mono ?_
        rintro e w5 ⟨rfl, hb5⟩
        have hX5 := HX4.out.kept (hb5.block _ HX4.out.lt)
        have hZ5 := HZ4.out.kept (hb5.block _ HZ4.out.lt)
        have HEX := Lib.hid (show S.extract 0 k = strOfNums (xs.take k) by rw [HS.out, Fr.str_sub]; simp)
        generalize S.extract 0 k = T at *
        have x0 := hX5.cell 0
        have x1 := hX5.cell 1
        have x2 := hX5.cell 2
        have y0 := hX5.free 0
        have y1 := hX5.free 1
        have y2 := hX5.free 2
        have HR5 := Lib.hid (HRW.out.below hb5)
        obtain ⟨w6, hw6⟩ : ∃ w6, w6 = ((w5.setCell ⟨w.heap.size, 0, none⟩ (.string T)).setCell ⟨w.heap.size, 1, none⟩ (.int .i64 k)).setCell ⟨w.heap.size, 2, none⟩ (.int .i64 r) := ⟨_, rfl⟩
        have hX6 : Whole w6 w.heap.size 34 #[.string T, .int .i64 k, .int .i64 r] := by
          rw [hw6]
          exact ((hX5.store 0 _).store 1 _).store 2 _
        have hZ6 : Whole w6 (w.heap.size + 1) 34 #[.string ⟨#[]⟩, .int .i64 0, .int .i64 0] := by
          rw [hw6]
          exact ((hZ5.kept (Below.heap_setCell w5 ⟨w.heap.size, 0, none⟩ (.string T) (w.heap.size + 1) (by simp))).kept (Below.heap_setCell _ ⟨w.heap.size, 1, none⟩ (.int .i64 k) (w.heap.size + 1) (by simp))).kept (Below.heap_setCell _ ⟨w.heap.size, 2, none⟩ (.int .i64 r) (w.heap.size + 1) (by simp))
        have h0 : (fun b => b < Z.heap.size) w.heap.size := by show w.heap.size < Z.heap.size; rw [HSZZ.out]; omega
        have h1 : (fun b => b < Z.heap.size) (w.heap.size + 1) := by show w.heap.size + 1 < Z.heap.size; rw [HSZZ.out]; omega
        have HC6 := Lib.hid (show Chg w5 w6 (fun b => b < Z.heap.size) from by
          rw [hw6]
          exact (((Chg.refl w5 (fun b => b < Z.heap.size)).set (b := w.heap.size) h0 0 _).set (b := w.heap.size) h0 1 _).set (b := w.heap.size) h0 2 _)
        have HB6 := Lib.hid (show Below w.heap.size w w6 from by
          rw [hw6]
          have h0 := HBZ.out.trans ((HBD.out.trans (hb5.mono HBD.out.size)).mono (by rw [HSZZ.out]; omega))
          exact ((h0.setCell (p := ⟨w.heap.size, 0, none⟩) (Nat.le_refl _) _).setCell (p := ⟨w.heap.size, 1, none⟩) (Nat.le_refl _) _).setCell (p := ⟨w.heap.size, 2, none⟩) (Nat.le_refl _) _)
        clear hX5 hZ5 hb5
        unfold RD
        go_upto_region 10 with fail
        rw [← hw6]
        clear hw6 x0 x1 x2 y0 y1 y2
        have x0 := hX6.cell 0
        have x1 := hX6.cell 1
        have x2 := hX6.cell 2
        have u0 := hZ6.free 0
        have u1 := hZ6.free 1
        have u2 := hZ6.free 2
        have z0 := hZ6.cell 0
        have z1 := hZ6.cell 1
        have z2 := hZ6.cell 2
        obtain ⟨w7, hw7⟩ : ∃ w7, w7 = ((w6.setCell ⟨w.heap.size + 1, 0, none⟩ (.string T)).setCell ⟨w.heap.size + 1, 1, none⟩ (.int .i64 k)).setCell ⟨w.heap.size + 1, 2, none⟩ (.int .i64 r) := ⟨_, rfl⟩
        have HW6 := Lib.hid (show Whole w7 (w.heap.size + 1) 34 #[.string T, .int .i64 k, .int .i64 r] from by
          rw [hw7]
          exact ((hZ6.store 0 _).store 1 _).store 2 _)
        have HC7 := Lib.hid (show Chg w5 w7 (fun b => b < Z.heap.size) from by
          rw [hw7]
          exact ((HC6.out.set (b := w.heap.size + 1) h1 0 _).set (b := w.heap.size + 1) h1 1 _).set (b := w.heap.size + 1) h1 2 _)
        have HB7 := Lib.hid (show Below w.heap.size w w7 from by
          rw [hw7]
          exact ((HB6.out.setCell (p := ⟨w.heap.size + 1, 0, none⟩) (Nat.le_succ _) _).setCell (p := ⟨w.heap.size + 1, 1, none⟩) (Nat.le_succ _) _).setCell (p := ⟨w.heap.size + 1, 2, none⟩) (Nat.le_succ _) _)
        have HW := Lib.hid hw7
        clear hX6 hZ6 hw7 h0 h1
        go_wp2_with fail
        rw [← HW.out]
        refine bodyPost_ret (v := .tuple #[.agg #[.string T, .int .i64 k, .int .i64 r], .slice ra q rc]) (res_two Try.results17 _ _ (w.heap.size + 1) 34 #[.string T, .int .i64 k, .int .i64 r] _ _ rfl rfl HW6.out Try.underlying34 rfl (by kernel_rfl)) rfl ⟨.slice ra q rc, by rw [← HKK.out, HEX.out], RowsOwn.lower (RowsOwn.chg HR5.out HC7.out) (by rw [HSZZ.out]; omega), HB7.out⟩
    · have HUB := Lib.hid (show unp (xs.drop k) = none from unp_no he)
      have hce : (((Fr.err (xs.drop k) : Nat) : Int) != 0) = true := by simpa using he
      have HB4 := Lib.hid hb2
      generalize ((Fr.err (xs.drop k) : Nat) : Int) = c at *
      clear he hb2 hRO c0 hs1
      have hdn := HFAR.out.done HUB.out HB4.out
      obtain ⟨v', hv', hrw, hbd⟩ := hdn
      injection hv' with hv'
      injection hv' with hv'
      injection hv' with hv'
      obtain ⟨rfl, hkk⟩ : v' = .slice ra q rc ∧ k = (recs xs).2 := by
        simp only [List.cons.injEq, Value.int.injEq, and_true, true_and] at hv'
        exact ⟨hv'.1.symm, by exact_mod_cast hv'.2⟩
      have HKK := Lib.hid hkk
      have HRW := Lib.hid hrw
      have HBD := Lib.hid hbd
      have hX4 := HXZ.out.kept (hbd.block _ HXZ.out.lt)
      have hZ4 := HZZ.out.kept (hbd.block _ HZZ.out.lt)
      have HX4 := Lib.hid hX4
      have HZ4 := Lib.hid hZ4
      have x0 := hX4.cell 0
      have x1 := hX4.cell 1
      have x2 := hX4.cell 2
      have HTR := Lib.hid (rtrunc_good S d r k w2 (by rw [HSZ.out]; exact hk))
      clear hv' hkk hrw hbd hX4 hZ4
      go_wp2_with fail
      refine HTR.out.mono ?_
      rintro e w5 ⟨rfl, hb5⟩
      have hX5 := HX4.out.kept (hb5.block _ HX4.out.lt)
      have hZ5 := HZ4.out.kept (hb5.block _ HZ4.out.lt)
      have HEX := Lib.hid (show S.extract 0 k = strOfNums (xs.take k) by rw [HS.out, Fr.str_sub]; simp)
      generalize S.extract 0 k = T at *
      have x0 := hX5.cell 0
      have x1 := hX5.cell 1
      have x2 := hX5.cell 2
      have y0 := hX5.free 0
      have y1 := hX5.free 1
      have y2 := hX5.free 2
      have HR5 := Lib.hid (HRW.out.below hb5)
      obtain ⟨w6, hw6⟩ : ∃ w6, w6 = ((w5.setCell ⟨w.heap.size, 0, none⟩ (.string T)).setCell ⟨w.heap.size, 1, none⟩ (.int .i64 k)).setCell ⟨w.heap.size, 2, none⟩ (.int .i64 r) := ⟨_, rfl⟩
      have hX6 : Whole w6 w.heap.size 34 #[.string T, .int .i64 k, .int .i64 r] := by
        rw [hw6]
        exact ((hX5.store 0 _).store 1 _).store 2 _
      have hZ6 : Whole w6 (w.heap.size + 1) 34 #[.string ⟨#[]⟩, .int .i64 0, .int .i64 0] := by
        rw [hw6]
        exact ((hZ5.kept (Below.heap_setCell w5 ⟨w.heap.size, 0, none⟩ (.string T) (w.heap.size + 1) (by simp))).kept (Below.heap_setCell _ ⟨w.heap.size, 1, none⟩ (.int .i64 k) (w.heap.size + 1) (by simp))).kept (Below.heap_setCell _ ⟨w.heap.size, 2, none⟩ (.int .i64 r) (w.heap.size + 1) (by simp))
      have h0 : (fun b => b < Z.heap.size) w.heap.size := by show w.heap.size < Z.heap.size; rw [HSZZ.out]; omega
      have h1 : (fun b => b < Z.heap.size) (w.heap.size + 1) := by show w.heap.size + 1 < Z.heap.size; rw [HSZZ.out]; omega
      have HC6 := Lib.hid (show Chg w5 w6 (fun b => b < Z.heap.size) from by
        rw [hw6]
        exact (((Chg.refl w5 (fun b => b < Z.heap.size)).set (b := w.heap.size) h0 0 _).set (b := w.heap.size) h0 1 _).set (b := w.heap.size) h0 2 _)
      have HB6 := Lib.hid (show Below w.heap.size w w6 from by
        rw [hw6]
        have h0 := HBZ.out.trans ((HBD.out.trans (hb5.mono HBD.out.size)).mono (by rw [HSZZ.out]; omega))
        exact ((h0.setCell (p := ⟨w.heap.size, 0, none⟩) (Nat.le_refl _) _).setCell (p := ⟨w.heap.size, 1, none⟩) (Nat.le_refl _) _).setCell (p := ⟨w.heap.size, 2, none⟩) (Nat.le_refl _) _)
      clear hX5 hZ5 hb5
      unfold RD
      go_upto_region 10 with fail
      rw [← hw6]
      clear hw6 x0 x1 x2 y0 y1 y2
      have x0 := hX6.cell 0
      have x1 := hX6.cell 1
      have x2 := hX6.cell 2
      have u0 := hZ6.free 0
      have u1 := hZ6.free 1
      have u2 := hZ6.free 2
      have z0 := hZ6.cell 0
      have z1 := hZ6.cell 1
      have z2 := hZ6.cell 2
      obtain ⟨w7, hw7⟩ : ∃ w7, w7 = ((w6.setCell ⟨w.heap.size + 1, 0, none⟩ (.string T)).setCell ⟨w.heap.size + 1, 1, none⟩ (.int .i64 k)).setCell ⟨w.heap.size + 1, 2, none⟩ (.int .i64 r) := ⟨_, rfl⟩
      have HW6 := Lib.hid (show Whole w7 (w.heap.size + 1) 34 #[.string T, .int .i64 k, .int .i64 r] from by
        rw [hw7]
        exact ((hZ6.store 0 _).store 1 _).store 2 _)
      have HC7 := Lib.hid (show Chg w5 w7 (fun b => b < Z.heap.size) from by
        rw [hw7]
        exact ((HC6.out.set (b := w.heap.size + 1) h1 0 _).set (b := w.heap.size + 1) h1 1 _).set (b := w.heap.size + 1) h1 2 _)
      have HB7 := Lib.hid (show Below w.heap.size w w7 from by
        rw [hw7]
        exact ((HB6.out.setCell (p := ⟨w.heap.size + 1, 0, none⟩) (Nat.le_succ _) _).setCell (p := ⟨w.heap.size + 1, 1, none⟩) (Nat.le_succ _) _).setCell (p := ⟨w.heap.size + 1, 2, none⟩) (Nat.le_succ _) _)
      have HW := Lib.hid hw7
      clear hX6 hZ6 hw7 h0 h1
      go_wp2_with fail
      rw [← HW.out]
      refine bodyPost_ret (v := .tuple #[.agg #[.string T, .int .i64 k, .int .i64 r], .slice ra q rc]) (res_two Try.results17 _ _ (w.heap.size + 1) 34 #[.string T, .int .i64 k, .int .i64 r] _ _ rfl rfl HW6.out Try.underlying34 rfl (by kernel_rfl)) rfl ⟨.slice ra q rc, by rw [← HKK.out, HEX.out], RowsOwn.lower (RowsOwn.chg HR5.out HC7.out) (by rw [HSZZ.out]; omega), HB7.out⟩
end Go.Proofs.Yteodldmbnghfcaa.Rl

namespace Go.Proofs.Yteodldmbnghfcaa
open Go.RowKit Go.ChangeShapes Go.WideShapes

theorem tup_openedW {H : Type} {enc : TypeId × Value → H} {W : World} {fuel : Nat} {v0 v1 v2 : Value} {x : DataW H × List MemPlace}
    (h : DataW.trod enc Try.prog W 0 (fun _ => true) true fuel 87 [v0, v1, v2] = some x) (hw : ∀ k ∈ x.1.weights Try.prog 87, k ≤ 140737488351232) :
    ∃ a b c, v0 = .string a ∧ v1 = .string b ∧ v2 = .string c ∧ a.size ≤ 9223372036854775807 ∧ b.size ≤ 9223372036854775807 ∧ c.size ≤ 9223372036854775807 ∧ small3 a b c := by
  obtain ⟨y0, y1, y2, n', hd, _, t0, t1, t2⟩ := Go.Deep.trod_struct3 Try.underlying87 h
  have k1 : Try.prog.cellsOf 9 = 1 := by kernel_rfl
  simp [k1] at t0 t1 t2
  obtain ⟨a, q0, p0, w0⟩ := DataW.trod_string Try.underlying9 t0
  obtain ⟨b, q1, p1, w1⟩ := DataW.trod_string Try.underlying9 t1
  obtain ⟨c, q2, p2, w2⟩ := DataW.trod_string Try.underlying9 t2
  simp at q0 q1 q2
  unfold maxLen at w0 w1 w2
  have hd1 := congrArg Prod.fst hd
  simp only at hd1
  rw [hd1, p0, p1, p2] at hw
  simp only [DataW.weights, Try.underlying87, List.map_cons, List.map_nil, DataW.weightsEach, List.mem_append, List.mem_cons, List.not_mem_nil, or_false] at hw
  have k0 := hw _ (.inl rfl)
  have k1 := hw _ (.inr (.inl rfl))
  have k2 := hw _ (.inr (.inr rfl))
  rw [← Lib.size_eq] at k0 k1 k2
  exact ⟨a, b, c, q0, q1, q2, by omega, by omega, by omega, k0, k1, k2⟩
set_option maxRecDepth 100000 in
set_option maxHeartbeats 1000000 in
theorem muts_openedW {H : Type} {enc : TypeId × Value → H} {W : World} {fuel : Nat} {v : Value} {x : DataW H × List MemPlace}
    (h : DataW.trod enc Try.prog W 0 (fun _ => true) true fuel 36 [v] = some x) (hw : ∀ k ∈ x.1.weights Try.prog 36, k ≤ 140737488351232) :
    ∃ a n c zs, v = .slice a n c ∧ MutsAt W W.heap.size a n zs ∧ n ≤ c ∧ c ≤ maxLen ∧ ∀ y ∈ zs, small3 y.a y.b y.c := by
  rcases Go.Deep.open_slice Try.underlying36 h with ⟨hcs, hx⟩ | ⟨ad, l, c, m, n, Dd, Pl, hcs, _, hl, hm, hmm, hx, hall⟩
  · simp at hcs
    subst hcs
    exact ⟨none, 0, 0, [], rfl, ⟨rfl, .inl rfl⟩, by omega, by simp [maxLen], by simp⟩
  · simp at hcs
    subst hcs
    have hcell : Try.prog.cellsOf 89 = 4 := by kernel_rfl
    rw [hcell] at hall
    simp only [if_true] at hmm
    rcases Nat.eq_zero_or_pos l with h0 | h0
    · subst h0
      exact ⟨some ad, 0, c, [], rfl, ⟨rfl, .inl rfl⟩, hl, hm, by simp⟩
    · obtain ⟨b, off, spot⟩ := ad
      have hs : spot = none := by
        obtain ⟨cs', hc, _⟩ := hall 0 (by omega)
        obtain ⟨_, hcl, hat⟩ := World.cells?_some hc
        have h1 := hat 0 (by omega)
        rw [List.getElem?_eq_getElem (by omega)] at h1
        simpa [Addr.add] using World.cell?_spot h1
      subst hs
      have key : ∀ i, i < l → ∃ m : Mut, W.cell? ⟨b, off + i * 4, none⟩ = some (.bool m.d) ∧ W.cell? ⟨b, off + i * 4 + 1, none⟩ = some (.string m.a) ∧ W.cell? ⟨b, off + i * 4 + 2, none⟩ = some (.string m.b) ∧ W.cell? ⟨b, off + i * 4 + 3, none⟩ = some (.string m.c) ∧ m.a.size ≤ 9223372036854775807 ∧ m.b.size ≤ 9223372036854775807 ∧ m.c.size ≤ 9223372036854775807 ∧ small3 m.a m.b m.c := by
        intro i hi
        obtain ⟨cs', hc, ht⟩ := hall i (by omega)
        obtain ⟨_, hcl, hat⟩ := World.cells?_some hc
        have hwi : ∀ k ∈ (Dd i).weights Try.prog 89, k ≤ 140737488351232 := fun k hk => hw k (by
          rw [hx]
          exact weights_slice Try.underlying36 (.inl (List.mem_map.2 ⟨i, List.mem_range.2 hi, rfl⟩)) hk)
        match cs', hcl with
        | [v0, v1, v2, v3], _ =>
          have e0 := hat 0 (by omega)
          have e1 := hat 1 (by omega)
          have e2 := hat 2 (by omega)
          have e3 := hat 3 (by omega)
          simp only [add_plain, Nat.add_zero, List.getElem?_cons_zero, List.getElem?_cons_succ] at e0 e1 e2 e3
          obtain ⟨xs, n', _, hd, _, hlen, hf⟩ := DataW.trod_struct Try.underlying89 ht
          match xs, hlen with
          | [y0, y1], _ =>
            have t0 := hf 0 _ rfl
            have t1 := hf 1 _ rfl
            have kb : Try.prog.cellsOf 4 = 1 := by kernel_rfl
            have kt : Try.prog.cellsOf 87 = 3 := by kernel_rfl
            simp [kb, kt] at t0 t1
            obtain ⟨d, hd0, _⟩ := DataW.trod_bool Try.underlying4 t0
            have hd1 := congrArg Prod.fst hd
            simp only at hd1
            obtain ⟨a, b', c', rfl, rfl, rfl, s1, s2, s3, s9⟩ := tup_openedW t1 (fun k hk => hwi k (by
              rw [hd1]
              simp only [DataW.weights, Try.underlying89]
              exact DataW.weights_mem_each (j := 1) rfl rfl k hk))
            simp at hd0
            subst hd0
            exact ⟨⟨d, a, b', c'⟩, e0, by rw [Nat.add_assoc]; exact e1, by rw [Nat.add_assoc]; exact e2, by rw [Nat.add_assoc]; exact e3, s1, s2, s3, s9⟩
      have hb : b < W.heap.size := by
        obtain ⟨m, c0, _⟩ := key 0 h0
        exact World.block_lt_of_cell? W ⟨b, off + 0 * 4, none⟩ c0
      refine ⟨_, l, c, (List.range l).map fun i => if h : i < l then (key i h).choose else ⟨false, ByteArray.empty, ByteArray.empty, ByteArray.empty⟩, rfl, ⟨by simp, .inr ⟨b, off, rfl, hb, ?_⟩⟩, hl, hm, ?_⟩
      rotate_left
      · intro y hy
        obtain ⟨i, hi⟩ := List.getElem?_of_mem hy
        have hil : i < l := by
          have := (List.getElem?_eq_some_iff.1 hi).1
          simpa using this
        rw [List.getElem?_map, List.getElem?_range hil] at hi
        simp only [Option.map_some, Option.some.injEq, dif_pos hil] at hi
        subst hi
        have hsp := (key i hil).choose_spec
        exact hsp.2.2.2.2.2.2.2
      intro i m hi
      have hil : i < l := by
        have := (List.getElem?_eq_some_iff.1 hi).1
        simpa using this
      rw [List.getElem?_map, List.getElem?_range hil] at hi
      simp only [Option.map_some, Option.some.injEq, dif_pos hil] at hi
      subst hi
      have hsp := (key i hil).choose_spec
      exact ⟨hsp.1, hsp.2.1, hsp.2.2.1, hsp.2.2.2.1, hsp.2.2.2.2.1, hsp.2.2.2.2.2.1, hsp.2.2.2.2.2.2.1⟩
set_option maxRecDepth 100000 in
set_option maxHeartbeats 1000000 in
theorem cons_openedW {H : Type} {enc : TypeId × Value → H} {W : World} {fuel : Nat} {v : Value} {x : DataW H × List MemPlace}
    (h : DataW.trod enc Try.prog W 0 (fun _ => true) true fuel 37 [v] = some x) (hw : ∀ k ∈ x.1.weights Try.prog 37, k ≤ 140737488351232) :
    ∃ a n c zs, v = .slice a n c ∧ MutsAt W W.heap.size a n zs ∧ n ≤ c ∧ c ≤ maxLen ∧ ∀ y ∈ zs, small3 y.a y.b y.c := by
  rcases Go.Deep.open_slice Try.underlying37 h with ⟨hcs, hx⟩ | ⟨ad, l, c, m, n, Dd, Pl, hcs, _, hl, hm, hmm, hx, hall⟩
  · simp at hcs
    subst hcs
    exact ⟨none, 0, 0, [], rfl, ⟨rfl, .inl rfl⟩, by omega, by simp [maxLen], by simp⟩
  · simp at hcs
    subst hcs
    have hcell : Try.prog.cellsOf 92 = 4 := by kernel_rfl
    rw [hcell] at hall
    simp only [if_true] at hmm
    rcases Nat.eq_zero_or_pos l with h0 | h0
    · subst h0
      exact ⟨some ad, 0, c, [], rfl, ⟨rfl, .inl rfl⟩, hl, hm, by simp⟩
    · obtain ⟨b, off, spot⟩ := ad
      have hs : spot = none := by
        obtain ⟨cs', hc, _⟩ := hall 0 (by omega)
        obtain ⟨_, hcl, hat⟩ := World.cells?_some hc
        have h1 := hat 0 (by omega)
        rw [List.getElem?_eq_getElem (by omega)] at h1
        simpa [Addr.add] using World.cell?_spot h1
      subst hs
      have key : ∀ i, i < l → ∃ m : Mut, W.cell? ⟨b, off + i * 4, none⟩ = some (.bool m.d) ∧ W.cell? ⟨b, off + i * 4 + 1, none⟩ = some (.string m.a) ∧ W.cell? ⟨b, off + i * 4 + 2, none⟩ = some (.string m.b) ∧ W.cell? ⟨b, off + i * 4 + 3, none⟩ = some (.string m.c) ∧ m.a.size ≤ 9223372036854775807 ∧ m.b.size ≤ 9223372036854775807 ∧ m.c.size ≤ 9223372036854775807 ∧ small3 m.a m.b m.c := by
        intro i hi
        obtain ⟨cs', hc, ht⟩ := hall i (by omega)
        obtain ⟨_, hcl, hat⟩ := World.cells?_some hc
        have hwi : ∀ k ∈ (Dd i).weights Try.prog 92, k ≤ 140737488351232 := fun k hk => hw k (by
          rw [hx]
          exact weights_slice Try.underlying37 (.inl (List.mem_map.2 ⟨i, List.mem_range.2 hi, rfl⟩)) hk)
        match cs', hcl with
        | [v0, v1, v2, v3], _ =>
          have e0 := hat 0 (by omega)
          have e1 := hat 1 (by omega)
          have e2 := hat 2 (by omega)
          have e3 := hat 3 (by omega)
          simp only [add_plain, Nat.add_zero, List.getElem?_cons_zero, List.getElem?_cons_succ] at e0 e1 e2 e3
          obtain ⟨xs, n', _, hd, _, hlen, hf⟩ := DataW.trod_struct Try.underlying92 ht
          match xs, hlen with
          | [y0, y1], _ =>
            have t0 := hf 0 _ rfl
            have t1 := hf 1 _ rfl
            have kb : Try.prog.cellsOf 4 = 1 := by kernel_rfl
            have kt : Try.prog.cellsOf 87 = 3 := by kernel_rfl
            simp [kb, kt] at t0 t1
            obtain ⟨d, hd0, _⟩ := DataW.trod_bool Try.underlying4 t0
            have hd1 := congrArg Prod.fst hd
            simp only at hd1
            obtain ⟨a, b', c', rfl, rfl, rfl, s1, s2, s3, s9⟩ := tup_openedW t1 (fun k hk => hwi k (by
              rw [hd1]
              simp only [DataW.weights, Try.underlying92]
              exact DataW.weights_mem_each (j := 1) rfl rfl k hk))
            simp at hd0
            subst hd0
            exact ⟨⟨d, a, b', c'⟩, e0, by rw [Nat.add_assoc]; exact e1, by rw [Nat.add_assoc]; exact e2, by rw [Nat.add_assoc]; exact e3, s1, s2, s3, s9⟩
      have hb : b < W.heap.size := by
        obtain ⟨m, c0, _⟩ := key 0 h0
        exact World.block_lt_of_cell? W ⟨b, off + 0 * 4, none⟩ c0
      refine ⟨_, l, c, (List.range l).map fun i => if h : i < l then (key i h).choose else ⟨false, ByteArray.empty, ByteArray.empty, ByteArray.empty⟩, rfl, ⟨by simp, .inr ⟨b, off, rfl, hb, ?_⟩⟩, hl, hm, ?_⟩
      rotate_left
      · intro y hy
        obtain ⟨i, hi⟩ := List.getElem?_of_mem hy
        have hil : i < l := by
          have := (List.getElem?_eq_some_iff.1 hi).1
          simpa using this
        rw [List.getElem?_map, List.getElem?_range hil] at hi
        simp only [Option.map_some, Option.some.injEq, dif_pos hil] at hi
        subst hi
        have hsp := (key i hil).choose_spec
        exact hsp.2.2.2.2.2.2.2
      intro i m hi
      have hil : i < l := by
        have := (List.getElem?_eq_some_iff.1 hi).1
        simpa using this
      rw [List.getElem?_map, List.getElem?_range hil] at hi
      simp only [Option.map_some, Option.some.injEq, dif_pos hil] at hi
      subst hi
      have hsp := (key i hil).choose_spec
      exact ⟨hsp.1, hsp.2.1, hsp.2.2.1, hsp.2.2.2.1, hsp.2.2.2.2.1, hsp.2.2.2.2.2.1, hsp.2.2.2.2.2.2.1⟩
set_option maxRecDepth 100000 in
set_option maxHeartbeats 1000000 in
theorem rows_openedW {H : Type} {enc : TypeId × Value → H} {W : World} {fuel : Nat} {v : Value} {x : DataW H × List MemPlace}
    (h : DataW.trod enc Try.prog W 0 (fun _ => true) true fuel 38 [v] = some x) (hw : ∀ k ∈ x.1.weights Try.prog 38, k ≤ 140737488351232) :
    ∃ a n c zs, v = .slice a n c ∧ RowsAt W W.heap.size a n zs ∧ n ≤ c ∧ c ≤ maxLen ∧ ∀ y ∈ zs, small3 y.a y.b y.c := by
  rcases Go.Deep.open_slice Try.underlying38 h with ⟨hcs, hx⟩ | ⟨ad, l, c, m, n, Dd, Pl, hcs, _, hl, hm, hmm, hx, hall⟩
  · simp at hcs
    subst hcs
    exact ⟨none, 0, 0, [], rfl, ⟨rfl, .inl rfl⟩, by omega, by simp [maxLen], by simp⟩
  · simp at hcs
    subst hcs
    have hcell : Try.prog.cellsOf 94 = 5 := by kernel_rfl
    rw [hcell] at hall
    simp only [if_true] at hmm
    rcases Nat.eq_zero_or_pos l with h0 | h0
    · subst h0
      exact ⟨some ad, 0, c, [], rfl, ⟨rfl, .inl rfl⟩, hl, hm, by simp⟩
    · obtain ⟨b, off, spot⟩ := ad
      have hs : spot = none := by
        obtain ⟨cs', hc, _⟩ := hall 0 (by omega)
        obtain ⟨_, hcl, hat⟩ := World.cells?_some hc
        have h1 := hat 0 (by omega)
        rw [List.getElem?_eq_getElem (by omega)] at h1
        simpa [Addr.add] using World.cell?_spot h1
      subst hs
      have key : ∀ i, i < l → ∃ m : RowD, W.cell? ⟨b, off + i * 5, none⟩ = some (.string m.a) ∧ W.cell? ⟨b, off + i * 5 + 1, none⟩ = some (.string m.b) ∧ W.cell? ⟨b, off + i * 5 + 2, none⟩ = some (.string m.c) ∧ W.cell? ⟨b, off + i * 5 + 3, none⟩ = some (.int .i64 m.s) ∧ W.cell? ⟨b, off + i * 5 + 4, none⟩ = some (.int .i64 m.u) ∧ m.a.size ≤ 9223372036854775807 ∧ m.b.size ≤ 9223372036854775807 ∧ m.c.size ≤ 9223372036854775807 ∧ (-9223372036854775808 ≤ m.s ∧ m.s ≤ 9223372036854775807) ∧ (-9223372036854775808 ≤ m.u ∧ m.u ≤ 9223372036854775807) ∧ small3 m.a m.b m.c := by
        intro i hi
        obtain ⟨cs', hc, ht⟩ := hall i (by omega)
        obtain ⟨_, hcl, hat⟩ := World.cells?_some hc
        have hwi : ∀ k ∈ (Dd i).weights Try.prog 94, k ≤ 140737488351232 := fun k hk => hw k (by
          rw [hx]
          exact weights_slice Try.underlying38 (.inl (List.mem_map.2 ⟨i, List.mem_range.2 hi, rfl⟩)) hk)
        match cs', hcl with
        | [v0, v1, v2, v3, v4], _ =>
          have e0 := hat 0 (by omega)
          have e1 := hat 1 (by omega)
          have e2 := hat 2 (by omega)
          have e3 := hat 3 (by omega)
          have e4 := hat 4 (by omega)
          simp only [add_plain, Nat.add_zero, List.getElem?_cons_zero, List.getElem?_cons_succ] at e0 e1 e2 e3 e4
          obtain ⟨xs, n', _, hd, _, hlen, hf⟩ := DataW.trod_struct Try.underlying94 ht
          match xs, hlen with
          | [y0, y1, y2], _ =>
            have t0 := hf 0 _ rfl
            have t1 := hf 1 _ rfl
            have t2 := hf 2 _ rfl
            have kb : Try.prog.cellsOf 2 = 1 := by kernel_rfl
            have kt : Try.prog.cellsOf 87 = 3 := by kernel_rfl
            simp [kb, kt] at t0 t1 t2
            have hd1 := congrArg Prod.fst hd
            simp only at hd1
            obtain ⟨a, b', c', rfl, rfl, rfl, s1, s2, s3, s9⟩ := tup_openedW t0 (fun k hk => hwi k (by
              rw [hd1]
              simp only [DataW.weights, Try.underlying94]
              exact DataW.weights_mem_each (j := 0) rfl rfl k hk))
            obtain ⟨s, hs0, _, ws⟩ := DataW.trod_int Try.underlying2 t1
            obtain ⟨u, hu0, _, wu⟩ := DataW.trod_int Try.underlying2 t2
            simp at hs0 hu0
            subst hs0 hu0
            exact ⟨⟨a, b', c', s, u⟩, e0, by rw [Nat.add_assoc]; exact e1, by rw [Nat.add_assoc]; exact e2, by rw [Nat.add_assoc]; exact e3, by rw [Nat.add_assoc]; exact e4, s1, s2, s3, wf_i64 ws, wf_i64 wu, s9⟩
      have hb : b < W.heap.size := by
        obtain ⟨m, c0, _⟩ := key 0 h0
        exact World.block_lt_of_cell? W ⟨b, off + 0 * 5, none⟩ c0
      refine ⟨_, l, c, (List.range l).map fun i => if h : i < l then (key i h).choose else ⟨ByteArray.empty, ByteArray.empty, ByteArray.empty, 0, 0⟩, rfl, ⟨by simp, .inr ⟨b, off, rfl, hb, ?_⟩⟩, hl, hm, ?_⟩
      rotate_left
      · intro y hy
        obtain ⟨i, hi⟩ := List.getElem?_of_mem hy
        have hil : i < l := by
          have := (List.getElem?_eq_some_iff.1 hi).1
          simpa using this
        rw [List.getElem?_map, List.getElem?_range hil] at hi
        simp only [Option.map_some, Option.some.injEq, dif_pos hil] at hi
        subst hi
        have hsp := (key i hil).choose_spec
        exact hsp.2.2.2.2.2.2.2.2.2.2
      intro i m hi
      have hil : i < l := by
        have := (List.getElem?_eq_some_iff.1 hi).1
        simpa using this
      rw [List.getElem?_map, List.getElem?_range hil] at hi
      simp only [Option.map_some, Option.some.injEq, dif_pos hil] at hi
      subst hi
      have hsp := (key i hil).choose_spec
      exact ⟨hsp.1, hsp.2.1, hsp.2.2.1, hsp.2.2.2.1, hsp.2.2.2.2.1, hsp.2.2.2.2.2.1, hsp.2.2.2.2.2.2.1, hsp.2.2.2.2.2.2.2.1, hsp.2.2.2.2.2.2.2.2.1, hsp.2.2.2.2.2.2.2.2.2.1⟩
set_option maxRecDepth 100000 in
set_option maxHeartbeats 1000000 in
theorem msg_openedW {H : Type} {enc : TypeId × Value → H} {W : World} {r : Reach} {b0 : Nat} {v : Value} {d : DataW H} {p : List MemPlace}
    (hv : Value.okWide Try.prog W r b0 40 v) (h : DataW.Trod enc Try.prog W 0 (fun _ => true) true 40 v d p) (hw : ∀ k ∈ d.weights Try.prog 40, k ≤ 140737488351232) :
    ∃ m, MsgIn W v m ∧ m.small := by
  have hu := Try.underlying40
  obtain ⟨cs, rfl, hsz⟩ := okWide_struct hu hv
  obtain ⟨fuel, hf⟩ := h
  obtain ⟨xs, n', _, hd, hl, hlen, hf⟩ := DataW.trod_struct hu hf
  have k12 : Try.prog.cellsOf 40 = 12 := by kernel_rfl
  have ki : Try.prog.cellsOf 3 = 1 := by kernel_rfl
  have kj : Try.prog.cellsOf 2 = 1 := by kernel_rfl
  have kb : Try.prog.cellsOf 4 = 1 := by kernel_rfl
  have kn : Try.prog.cellsOf 35 = 1 := by kernel_rfl
  have km : Try.prog.cellsOf 36 = 1 := by kernel_rfl
  have kc : Try.prog.cellsOf 37 = 1 := by kernel_rfl
  have kr : Try.prog.cellsOf 38 = 1 := by kernel_rfl
  rw [k12] at hsz
  obtain ⟨l⟩ := cs
  match l, hsz with
  | [c0, c1, c2, c3, c4, c5, c6, c7, c8, c9, c10, c11], _ =>
    match xs, hlen with
    | [y0, y1, y2, y3, y4, y5, y6, y7, y8, y9, y10, y11], _ =>
      have t0 := hf 0 _ rfl
      have t1 := hf 1 _ rfl
      have t2 := hf 2 _ rfl
      have t3 := hf 3 _ rfl
      have t4 := hf 4 _ rfl
      have t5 := hf 5 _ rfl
      have t6 := hf 6 _ rfl
      have t7 := hf 7 _ rfl
      have t8 := hf 8 _ rfl
      have t9 := hf 9 _ rfl
      have t10 := hf 10 _ rfl
      have t11 := hf 11 _ rfl
      simp [ki, kj, kb, kn, km, kc, kr, Value.cells] at t0 t1 t2 t3 t4 t5 t6 t7 t8 t9 t10 t11
      obtain ⟨q0, e0, _, w0⟩ := DataW.trod_int Try.underlying3 t0
      obtain ⟨q1, e1, _, w1⟩ := DataW.trod_int Try.underlying3 t1
      obtain ⟨q2, e2, _, w2⟩ := DataW.trod_int Try.underlying3 t2
      obtain ⟨q3, e3, _, w3⟩ := DataW.trod_int Try.underlying2 t3
      obtain ⟨q4, e4, _, w4⟩ := DataW.trod_int Try.underlying2 t4
      obtain ⟨q5, e5, _, w5⟩ := DataW.trod_int Try.underlying2 t5
      obtain ⟨q6, e6, _, w6⟩ := DataW.trod_int Try.underlying3 t6
      obtain ⟨q7, e7, _⟩ := DataW.trod_bool Try.underlying4 t7
      simp at e0 e1 e2 e3 e4 e5 e6 e7
      subst e0 e1 e2 e3 e4 e5 e6 e7
      have hd1 := congrArg Prod.fst hd
      simp only at hd1
      obtain ⟨a8, n8, k8, z8, rfl, l8, s8, r8⟩ := nodes_opened t8
      obtain ⟨a9, n9, k9, z9, rfl, l9, s9, r9, u9⟩ := muts_openedW t9 (fun k hk => hw k (by
        rw [hd1]
        simp only [DataW.weights, hu]
        exact DataW.weights_mem_each (j := 9) rfl rfl k hk))
      obtain ⟨a10, n10, k10, z10, rfl, l10, s10, r10, u10⟩ := cons_openedW t10 (fun k hk => hw k (by
        rw [hd1]
        simp only [DataW.weights, hu]
        exact DataW.weights_mem_each (j := 10) rfl rfl k hk))
      obtain ⟨a11, n11, k11, z11, rfl, l11, s11, r11, u11⟩ := rows_openedW t11 (fun k hk => hw k (by
        rw [hd1]
        simp only [DataW.weights, hu]
        exact DataW.weights_mem_each (j := 11) rfl rfl k hk))
      unfold maxLen at r8 r9 r10 r11
      exact ⟨⟨q0, q1, q2, q3, q4, q5, q6, q7, z8, z9, z10, z11⟩, ⟨a8, a9, a10, a11, n8, k8, n9, k9, n10, k10, n11, k11, ⟨rfl, wf_i64 w0, wf_i64 w1, wf_i64 w2, wf_i64 w3, wf_i64 w4, wf_i64 w5, wf_i64 w6, l8, l9, l10, l11, by omega, by omega, by omega, by omega⟩⟩, ⟨u9, u10, u11⟩⟩
end Go.Proofs.Yteodldmbnghfcaa

namespace Go.Proofs.Yteodldmbnghfcaa.Rl
open Go.RowKit Go.ChangeShapes Go.WideShapes

def InI (k : Int) : Prop := -9223372036854775808 ≤ k ∧ k ≤ 9223372036854775807
set_option maxRecDepth 100000 in
set_option maxHeartbeats 1000000 in
theorem msg_cellsW {H : Type} {enc : TypeId × Value → H} {W : World} {fuel : Nat} {c0 c1 c2 c3 c4 c5 c6 c7 c8 c9 c10 c11 : Value} {x : DataW H × List MemPlace}
    (h : DataW.trod enc Try.prog W 0 (fun _ => true) true fuel 40 [c0, c1, c2, c3, c4, c5, c6, c7, c8, c9, c10, c11] = some x) (hw : ∀ k ∈ x.1.weights Try.prog 40, k ≤ 140737488351232) :
    ∃ (m : MsgD) (s8 s9 s10 s11 : Value), c0 = .int .i64 m.kind ∧ c1 = .int .i64 m.from_ ∧ c2 = .int .i64 m.«to» ∧ c3 = .int .i64 m.id ∧ c4 = .int .i64 m.rev ∧ c5 = .int .i64 m.epoch ∧ c6 = .int .i64 m.slot ∧ c7 = .bool m.flag ∧ c8 = s8 ∧ c9 = s9 ∧ c10 = s10 ∧ c11 = s11 ∧ MsgIn W (.agg #[.int .i64 m.kind, .int .i64 m.from_, .int .i64 m.«to», .int .i64 m.id, .int .i64 m.rev, .int .i64 m.epoch, .int .i64 m.slot, .bool m.flag, s8, s9, s10, s11]) m ∧ m.small := by
  have hu := Try.underlying40
  obtain ⟨xs, n', _, hd, hl, hlen, hf⟩ := DataW.trod_struct hu h
  have ki : Try.prog.cellsOf 3 = 1 := by kernel_rfl
  have kj : Try.prog.cellsOf 2 = 1 := by kernel_rfl
  have kb : Try.prog.cellsOf 4 = 1 := by kernel_rfl
  have kn : Try.prog.cellsOf 35 = 1 := by kernel_rfl
  have km : Try.prog.cellsOf 36 = 1 := by kernel_rfl
  have kc : Try.prog.cellsOf 37 = 1 := by kernel_rfl
  have kr : Try.prog.cellsOf 38 = 1 := by kernel_rfl
  match xs, hlen with
  | [y0, y1, y2, y3, y4, y5, y6, y7, y8, y9, y10, y11], _ =>
    have t0 := hf 0 _ rfl
    have t1 := hf 1 _ rfl
    have t2 := hf 2 _ rfl
    have t3 := hf 3 _ rfl
    have t4 := hf 4 _ rfl
    have t5 := hf 5 _ rfl
    have t6 := hf 6 _ rfl
    have t7 := hf 7 _ rfl
    have t8 := hf 8 _ rfl
    have t9 := hf 9 _ rfl
    have t10 := hf 10 _ rfl
    have t11 := hf 11 _ rfl
    simp [ki, kj, kb, kn, km, kc, kr] at t0 t1 t2 t3 t4 t5 t6 t7 t8 t9 t10 t11
    obtain ⟨q0, e0, _, w0⟩ := DataW.trod_int Try.underlying3 t0
    obtain ⟨q1, e1, _, w1⟩ := DataW.trod_int Try.underlying3 t1
    obtain ⟨q2, e2, _, w2⟩ := DataW.trod_int Try.underlying3 t2
    obtain ⟨q3, e3, _, w3⟩ := DataW.trod_int Try.underlying2 t3
    obtain ⟨q4, e4, _, w4⟩ := DataW.trod_int Try.underlying2 t4
    obtain ⟨q5, e5, _, w5⟩ := DataW.trod_int Try.underlying2 t5
    obtain ⟨q6, e6, _, w6⟩ := DataW.trod_int Try.underlying3 t6
    obtain ⟨q7, e7, _⟩ := DataW.trod_bool Try.underlying4 t7
    simp at e0 e1 e2 e3 e4 e5 e6 e7
    subst e0 e1 e2 e3 e4 e5 e6 e7
    have hd1 := congrArg Prod.fst hd
    simp only at hd1
    obtain ⟨a8, n8, k8, z8, rfl, l8, s8, r8⟩ := nodes_opened t8
    obtain ⟨a9, n9, k9, z9, rfl, l9, s9, r9, u9⟩ := muts_openedW t9 (fun k hk => hw k (by
      rw [hd1]
      simp only [DataW.weights, hu]
      exact DataW.weights_mem_each (j := 9) rfl rfl k hk))
    obtain ⟨a10, n10, k10, z10, rfl, l10, s10, r10, u10⟩ := cons_openedW t10 (fun k hk => hw k (by
      rw [hd1]
      simp only [DataW.weights, hu]
      exact DataW.weights_mem_each (j := 10) rfl rfl k hk))
    obtain ⟨a11, n11, k11, z11, rfl, l11, s11, r11, u11⟩ := rows_openedW t11 (fun k hk => hw k (by
      rw [hd1]
      simp only [DataW.weights, hu]
      exact DataW.weights_mem_each (j := 11) rfl rfl k hk))
    unfold maxLen at r8 r9 r10 r11
    exact ⟨⟨q0, q1, q2, q3, q4, q5, q6, q7, z8, z9, z10, z11⟩, _, _, _, _, rfl, rfl, rfl, rfl, rfl, rfl, rfl, rfl, rfl, rfl, rfl, rfl, ⟨a8, a9, a10, a11, n8, k8, n9, k9, n10, k10, n11, k11, ⟨rfl, wf_i64 w0, wf_i64 w1, wf_i64 w2, wf_i64 w3, wf_i64 w4, wf_i64 w5, wf_i64 w6, l8, l9, l10, l11, by omega, by omega, by omega, by omega⟩⟩, ⟨u9, u10, u11⟩⟩

/-- One call of a script. -/
def OpP (w : World) (b o : Nat) (kd kk : Int) (m : MsgD) (s8 s9 s10 s11 : Value) (ua : Option Addr) (um uc : Nat) : Prop := w.cell? ⟨b, o, none⟩ = some (.int .i64 kd) ∧ w.cell? ⟨b, o + 1, none⟩ = some (.int .i64 m.kind) ∧ w.cell? ⟨b, o + 2, none⟩ = some (.int .i64 m.from_) ∧ w.cell? ⟨b, o + 3, none⟩ = some (.int .i64 m.«to») ∧ w.cell? ⟨b, o + 4, none⟩ = some (.int .i64 m.id) ∧ w.cell? ⟨b, o + 5, none⟩ = some (.int .i64 m.rev) ∧ w.cell? ⟨b, o + 6, none⟩ = some (.int .i64 m.epoch) ∧ w.cell? ⟨b, o + 7, none⟩ = some (.int .i64 m.slot) ∧ w.cell? ⟨b, o + 8, none⟩ = some (.bool m.flag) ∧ w.cell? ⟨b, o + 9, none⟩ = some (s8) ∧ w.cell? ⟨b, o + 10, none⟩ = some (s9) ∧ w.cell? ⟨b, o + 11, none⟩ = some (s10) ∧ w.cell? ⟨b, o + 12, none⟩ = some (s11) ∧ w.cell? ⟨b, o + 13, none⟩ = some (.slice ua um uc) ∧ w.cell? ⟨b, o + 14, none⟩ = some (.int .i64 kk)
def OpsP (w : World) (a : Option Addr) (n : Nat) : Prop := n = 0 ∨ ∃ b off, a = some ⟨b, off, none⟩ ∧ b < w.heap.size ∧ ∀ i, i < n → ∃ (kd kk : Int) (m : MsgD) (s8 s9 s10 s11 : Value) (ua : Option Addr) (um uc : Nat) (ys : List Int), OpP w b (off + i * 15) kd kk m s8 s9 s10 s11 ua um uc ∧ InI kd ∧ InI kk ∧ MsgIn w (.agg #[.int .i64 m.kind, .int .i64 m.from_, .int .i64 m.«to», .int .i64 m.id, .int .i64 m.rev, .int .i64 m.epoch, .int .i64 m.slot, .bool m.flag, s8, s9, s10, s11]) m ∧ m.small ∧ IsB w ua um ys ∧ (ua = none → um = 0 ∧ uc = 0) ∧ um ≤ 140737488351232
theorem add_plain (b off i : Nat) : ((⟨b, off, none⟩ : Addr).add i) = ⟨b, off + i, none⟩ := by
  unfold Addr.add
  split <;> simp_all
set_option maxRecDepth 100000 in
set_option maxHeartbeats 1000000 in
theorem opsP_opened {H : Type} {enc : TypeId × Value → H} {W : World} {fuel : Nat} {a : Option Addr} {len cap : Nat} {x : DataW H × List MemPlace}
    (h : DataW.trod enc Try.prog W 0 (fun _ => true) true fuel 22 (Value.slice a len cap).cells.toList = some x) (hw : ∀ k ∈ x.1.weights Try.prog 22, k ≤ 140737488351232) : OpsP W a len ∧ len ≤ 140737488351232 := by
  have h' : DataW.trod enc Try.prog W 0 (fun _ => true) true fuel 22 [Value.slice a len cap] = some x := by simpa [Value.cells] using h
  rcases Go.Deep.open_slice Try.underlying22 h' with ⟨hcs, hx⟩ | ⟨ad, l, c, m, n, Dd, Pl, hcs, _, hl, hm, hmm, hx, hall⟩
  · simp at hcs
    obtain ⟨rfl, rfl, rfl⟩ := hcs
    exact ⟨.inl rfl, by omega⟩
  · simp at hcs
    obtain ⟨rfl, rfl, rfl⟩ := hcs
    have hcell : Try.prog.cellsOf 43 = 15 := by kernel_rfl
    rw [hcell] at hall
    simp only [if_true] at hmm
    have hlen : m * 200 ≤ 140737488351232 := by
      refine hw (m * 200) ?_
      rw [hx]
      simp only [DataW.weights, Try.underlying22, List.mem_cons]
      left
      rw [show Try.prog.bytesOf 43 = 200 by kernel_rfl]
      simp
      omega
    refine ⟨?_, by omega⟩
    rcases Nat.eq_zero_or_pos len with h0 | h0
    · exact .inl h0
    · obtain ⟨b, off, spot⟩ := ad
      have hs : spot = none := by
        obtain ⟨cs', hc, _⟩ := hall 0 (by omega)
        obtain ⟨_, hcl, hat⟩ := World.cells?_some hc
        have h1 := hat 0 (by omega)
        rw [List.getElem?_eq_getElem (by omega)] at h1
        simpa [Addr.add] using World.cell?_spot h1
      subst hs
      have hbl : b < W.heap.size := by
        obtain ⟨cs', hc, _⟩ := hall 0 (by omega)
        obtain ⟨_, hcl, hat⟩ := World.cells?_some hc
        have h1 := hat 0 (by omega)
        rw [List.getElem?_eq_getElem (by omega)] at h1
        have := World.block_lt_of_cell? W _ h1
        simpa [Addr.add] using this
      refine .inr ⟨b, off, rfl, hbl, fun i hi => ?_⟩
      obtain ⟨cs', hc, ht⟩ := hall i (by omega)
      obtain ⟨_, hcl, hat⟩ := World.cells?_some hc
      have hwi : ∀ k ∈ (Dd i).weights Try.prog 43, k ≤ 140737488351232 := fun k hk => hw k (by
        rw [hx]
        exact weights_slice Try.underlying22 (.inl (List.mem_map.2 ⟨i, List.mem_range.2 (by omega), rfl⟩)) hk)
      match cs', hcl with
      | [v0, v1, v2, v3, v4, v5, v6, v7, v8, v9, v10, v11, v12, v13, v14], _ =>
        have e0 := hat 0 (by omega)
        have e1 := hat 1 (by omega)
        have e2 := hat 2 (by omega)
        have e3 := hat 3 (by omega)
        have e4 := hat 4 (by omega)
        have e5 := hat 5 (by omega)
        have e6 := hat 6 (by omega)
        have e7 := hat 7 (by omega)
        have e8 := hat 8 (by omega)
        have e9 := hat 9 (by omega)
        have e10 := hat 10 (by omega)
        have e11 := hat 11 (by omega)
        have e12 := hat 12 (by omega)
        have e13 := hat 13 (by omega)
        have e14 := hat 14 (by omega)
        simp only [add_plain, Nat.add_zero, List.getElem?_cons_zero, List.getElem?_cons_succ] at e0 e1 e2 e3 e4 e5 e6 e7 e8 e9 e10 e11 e12 e13 e14
        obtain ⟨xs, n', _, hd, _, hlen, hf⟩ := DataW.trod_struct Try.underlying43 ht
        match xs, hlen with
        | [y0, y1, y2, y3], _ =>
          have t0 := hf 0 _ rfl
          have t1 := hf 1 _ rfl
          have t2 := hf 2 _ rfl
          have t3 := hf 3 _ rfl
          have hd1 := congrArg Prod.fst hd
          simp only at hd1
          have k1 : Try.prog.cellsOf 3 = 1 := by kernel_rfl
          have k3 : Try.prog.cellsOf 40 = 12 := by kernel_rfl
          have k2 : Try.prog.cellsOf 41 = 1 := by kernel_rfl
          simp [k1, k2, k3] at t0 t1 t2 t3
          obtain ⟨q0, h0, _, w0⟩ := DataW.trod_int Try.underlying3 t0
          obtain ⟨q3, h3, _, w3⟩ := DataW.trod_int Try.underlying3 t3
          simp at h0 h3
          subst h0 h3
          have hwd : ∀ k ∈ y2.1.weights Try.prog 41, k ≤ 140737488351232 := fun k hk => hwi k (by
            rw [hd1]
            simp only [DataW.weights, Try.underlying43]
            exact DataW.weights_mem_each (j := 2) rfl rfl k hk)
          have hrow : ∃ ua m uc zs, v13 = .slice ua m uc ∧ IsRow .u8 W ua m uc zs ∧ uc ≤ 140737488351232 := by
            rcases open_ints Try.underlying41 Try.underlying5 (by kernel_rfl) t2 with ⟨hcs, _⟩ | ⟨x, l, c, zs, hcs, _, hl, hm, hz, hx, hcell, hwz⟩
            · simp at hcs
              subst hcs
              exact ⟨none, 0, 0, [], rfl, .inl ⟨rfl, rfl, rfl, rfl⟩, by omega⟩
            · simp at hcs
              subst hcs
              have hd' := congrArg Prod.fst hx
              simp only at hd'
              simp only [if_true] at hz
              have hwt := hwd (zs.length * 1) (by
                rw [hd']
                simp only [DataW.weights, Try.underlying41, List.mem_cons]
                left
                rw [show Try.prog.bytesOf 5 = 1 by kernel_rfl]
                simp [lits]
                omega)
              exact ⟨some x, l, c, zs, rfl, .inr ⟨_, rfl, hl, hm, by simpa using hz, hcell, hwz⟩, by omega⟩
          obtain ⟨ua, um, uc, zs, rfl, hr, hcap⟩ := hrow
          obtain ⟨r1, r2, r3, r4⟩ := hr.isB
          obtain ⟨m, s8, s9, s10, s11, rfl, rfl, rfl, rfl, rfl, rfl, rfl, rfl, rfl, rfl, rfl, rfl, hin, hsm⟩ := msg_cellsW t1 (fun k hk => hwi k (by
            rw [hd1]
            simp only [DataW.weights, Try.underlying43]
            exact DataW.weights_mem_each (j := 1) rfl rfl k hk))
          exact ⟨q0, q3, m, _, _, _, _, ua, um, uc, _, ⟨e0, e1, e2, e3, e4, e5, e6, e7, e8, e9, e10, e11, e12, e13, e14⟩, wf_i64 w0, wf_i64 w3, hin, hsm, r1, r2, by omega⟩
end Go.Proofs.Yteodldmbnghfcaa.Rl

namespace Go.Proofs.Yteodldmbnghfcaa.Dk
open Go.RowKit
theorem PartsIn.one {w : World} {no : Nat → Prop} {b off n c : Nat} {pa : Option Addr} {xs : List Int} (hno : ¬ no b) (hcell : w.cell? ⟨b, off, none⟩ = some (.slice pa n c)) (hn : n ≤ maxLen) (hnil : pa = none → n = 0 ∧ c = 0) (hx : IsB w pa n xs) (haw : n = 0 ∨ ∀ ad, pa = some ad → ¬ no ad.block) : PartsIn w no (some ⟨b, off, none⟩) 1 [xs] :=
  ⟨rfl, by simp [maxLen], fun i hi => by
    obtain rfl : i = 0 := by omega
    exact ⟨b, off, pa, n, c, rfl, hno, hcell, hn, hnil, hx, haw⟩⟩

theorem DAt.alloc {w : World} {B g d r : Nat} {v : Value} {xs : List Int} (h : DAt w B g v xs d r) (o : Obj) : DAt (w.alloc o) B g v xs d r := h.below ((Below.refl _ _).alloc (Nat.le_refl _) _)
theorem DAt.off {w : World} {B g d r : Nat} {v : Value} {xs : List Int} (h : DAt w B g v xs d r) {k : Nat} (hk : w.heap.size ≤ k) : ¬ (k = g ∨ some k = v.ownBlock) := by
  have h1 := h.blk.lt
  rintro (rfl | he)
  · omega
  · have := (h.own.lt k he.symm).2
    omega
theorem new_cell (w : World) (cs : Array Value) (t : TypeId) (fr : Nat × Nat) (i : Nat) : (w.alloc (.cells cs t fr)).cell? ⟨w.heap.size, i, none⟩ = cs[i]? := by
  rw [World.cell?_alloc_mark]
theorem PartsIn.new {w : World} {B g d r : Nat} {v : Value} {ys : List Int} (h : DAt w B g v ys d r) {a : Option Addr} {n c : Nat} {xs : List Int} (hn : n ≤ maxLen) (hnil : a = none → n = 0 ∧ c = 0) (hx : IsB w a n xs) (haw : n = 0 ∨ ∀ ad, a = some ad → ¬ (ad.block = g ∨ some ad.block = v.ownBlock)) :
    PartsIn (w.alloc (.cells #[.slice a n c] 41)) (fun k => k = g ∨ some k = v.ownBlock) (some ⟨w.heap.size, 0, none⟩) 1 [xs] :=
  PartsIn.one (h.off (Nat.le_refl _)) (new_cell w #[.slice a n c] 41 (0, 0) 0) hn hnil (hx.alloc _) haw
end Go.Proofs.Yteodldmbnghfcaa.Dk
namespace Go.Proofs.Yteodldmbnghfcaa.Rl
open Go.RowKit

theorem dblk {w : World} {B g d r : Nat} {v : Value} {xs : List Int} (h : Dk.DAt w B g v xs d r) : ∃ cs, Whole w g 60 cs := ⟨_, h.blk⟩
theorem Lg.whole {w w' : World} {B gl g d r n : Nat} {v : Value} {xs : List Int} (h : Lg w B gl g v xs d r n) (hk : Kept w w' gl g v) {k : Nat} {t : TypeId} {cs : Array Value} (hm : Whole w k t cs) (h1 : t ≠ 66) (h2 : t ≠ 60) (h3 : t ≠ 5) : Whole w' k t cs := by
  obtain ⟨ds, hd⟩ := dblk h.disk
  exact hm.kept (hk.block k hm.lt (whole_ne hm h.lg h1) (whole_ne hm hd h2) (fun e => whole_apart hm (Ne.symm h3) h.disk.own e.symm))
theorem dfar {w : World} {B g d r gw : Nat} {v : Value} {xs : List Int} {t : TypeId} {cs : Array Value} (h : Dk.DAt w B g v xs d r) (hm : Whole w gw t cs) (h1 : t ≠ 60) (h2 : t ≠ 5) (i : Nat) (u : Value) : Dk.DAt (w.setCell ⟨gw, i, none⟩ u) B g v xs d r := by
  obtain ⟨ds, hd⟩ := dblk h
  exact ⟨h.blk.kept (Below.heap_setCell w ⟨gw, i, none⟩ u g (whole_ne hm hd h1).symm), h.ge, owns_far h.own gw i (whole_apart hm (Ne.symm h2) h.own) u, h.byte, h.hd, h.hr, h.hm⟩
theorem lfar {w : World} {B gl g d r n gw : Nat} {v : Value} {xs : List Int} {t : TypeId} {cs : Array Value} (h : Lg w B gl g v xs d r n) (hm : Whole w gw t cs) (h0 : t ≠ 66) (h1 : t ≠ 60) (h2 : t ≠ 5) (i : Nat) (u : Value) : Lg (w.setCell ⟨gw, i, none⟩ u) B gl g v xs d r n :=
  ⟨h.lg.kept (Below.heap_setCell w ⟨gw, i, none⟩ u gl (whole_ne hm h.lg h0).symm), h.ge, dfar h.disk hm h1 h2 i u⟩
/-- The program's log, and the document's disk in block gw. -/
structure PM (w W : World) (gw g r gl : Nat) (v : Value) (xs : List Int) (d n : Nat) (T : ByteArray) (D : Int) : Prop where
  lg : Lg W w.heap.size gl g v xs d r n
  m : Whole W gw 34 #[.string T, .int .i64 D, .int .i64 (r : Int)]
  b : Below w.heap.size w W
  ge : w.heap.size ≤ gw
  nb : n * 8 ≤ xs.length
/-- The program's disk, and the document's in block gw. -/
structure PD (w W : World) (gw g r : Nat) (v : Value) (xs : List Int) (d : Nat) (T : ByteArray) (D : Int) : Prop where
  dk : Dk.DAt W w.heap.size g v xs d r
  m : Whole W gw 34 #[.string T, .int .i64 D, .int .i64 (r : Int)]
  b : Below w.heap.size w W
  ge : w.heap.size ≤ gw
section
variable {w W W' : World} {gw g r gl : Nat} {v : Value} {xs : List Int} {d n : Nat} {T : ByteArray} {D : Int}
theorem PM.below (h : PM w W gw g r gl v xs d n T D) (hb : Below W.heap.size W W') : PM w W' gw g r gl v xs d n T D := ⟨h.lg.keep hb, h.m.kept (hb.block _ h.m.lt), h.b.trans (hb.mono h.b.size), h.ge, h.nb⟩
theorem PD.below (h : PD w W gw g r v xs d T D) (hb : Below W.heap.size W W') : PD w W' gw g r v xs d T D := ⟨h.dk.below hb, h.m.kept (hb.block _ h.m.lt), h.b.trans (hb.mono h.b.size), h.ge⟩
theorem PM.disk (h : PM w W gw g r gl v xs d n T D) : PD w W gw g r v xs d T D := ⟨h.lg.disk, h.m, h.b, h.ge⟩
theorem PM.small (h : PM w W gw g r gl v xs d n T D) : xs.length ≤ r ∧ r ≤ 1048576 ∧ n ≤ 1048576 := by
  have h1 := h.lg.disk.hr
  have h2 := h.lg.disk.hm
  have h3 := h.nb
  omega
theorem PM.byt (h : PM w W gw g r gl v xs d n T D) : Byt xs := h.lg.disk.byte
/-- The disk has turned; the document's disk has not. -/
theorem PD.turned (h : PD w W gw g r v xs d T D) {o : Option Nat} {v' : Value} {xs' : List Int} {d' : Nat} (hd' : Dk.DAt W' w.heap.size g v' xs' d' r) (ht : Dk.Turned W W' g o) (ho : o = v.ownBlock ∨ o = none) : PD w W' gw g r v' xs' d' T D := by
  obtain ⟨ds, hd⟩ := dblk h.dk
  refine ⟨hd', h.m.kept (ht.block _ h.m.lt (whole_ne h.m hd (by decide)) ?_), h.b.trans (ht.below h.dk.ge (fun k hk => ?_) h.b.size), h.ge⟩
  · rcases ho with rfl | rfl
    · exact fun e => whole_apart h.m (by decide) h.dk.own e.symm
    · simp
  · rcases ho with rfl | rfl
    · exact (h.dk.own.lt k hk).1
    · cases hk
/-- Another block has stayed. -/
theorem PD.stays (h : PD w W gw g r v xs d T D) {o : Option Nat} (ht : Dk.Turned W W' g o) (ho : o = v.ownBlock ∨ o = none) {k : Nat} {t : TypeId} {cs : Array Value} (hm : Whole W k t cs) (h1 : t ≠ 60) (h2 : t ≠ 5) : Whole W' k t cs := by
  obtain ⟨ds, hd⟩ := dblk h.dk
  refine hm.kept (ht.block _ hm.lt (whole_ne hm hd h1) ?_)
  rcases ho with rfl | rfl
  · exact fun e => whole_apart hm (Ne.symm h2) h.dk.own e.symm
  · simp
theorem PM.kept (h : PM w W gw g r gl v xs d n T D) (hk : Kept W W' gl g v) {v' : Value} {xs' : List Int} {d' n' : Nat} (hl : Lg W' w.heap.size gl g v' xs' d' r n') (hn : n' * 8 ≤ xs'.length) : PM w W' gw g r gl v' xs' d' n' T D :=
  ⟨hl, Lg.whole h.lg hk h.m (by decide) (by decide) (by decide), h.b.trans (h.lg.below hk h.b.size), h.ge, hn⟩
theorem whole3 {W : World} {gw : Nat} {t : TypeId} {a b c : Value} (h : Whole W gw t #[a, b, c]) : W.cell? ⟨gw, 0, none⟩ = some a ∧ W.cell? ⟨gw, 1, none⟩ = some b ∧ W.cell? ⟨gw, 2, none⟩ = some c ∧ W.frozen? ⟨gw, 0, none⟩ = false ∧ W.frozen? ⟨gw, 1, none⟩ = false ∧ W.frozen? ⟨gw, 2, none⟩ = false :=
  ⟨by rw [h.cell]; rfl, by rw [h.cell]; rfl, by rw [h.cell]; rfl, h.free 0, h.free 1, h.free 2⟩
/-- The document's disk is stored. -/
theorem PM.put (h : PM w W gw g r gl v xs d n T D) (T' : ByteArray) (D' : Int) :
    PM w (((W.setCell ⟨gw, 0, none⟩ (.string T')).setCell ⟨gw, 1, none⟩ (.int .i64 D')).setCell ⟨gw, 2, none⟩ (.int .i64 (r : Int))) gw g r gl v xs d n T' D' := by
  have m1 := h.m.store 0 (.string T')
  have m2 := m1.store 1 (.int .i64 D')
  have m3 := m2.store 2 (.int .i64 (r : Int))
  refine ⟨lfar (lfar (lfar h.lg h.m (by decide) (by decide) (by decide) 0 _) m1 (by decide) (by decide) (by decide) 1 _) m2 (by decide) (by decide) (by decide) 2 _, by simpa using m3, ?_, h.ge, h.nb⟩
  exact ((h.b.setCell (p := ⟨gw, 0, none⟩) h.ge _).setCell (p := ⟨gw, 1, none⟩) h.ge _).setCell (p := ⟨gw, 2, none⟩) h.ge _
theorem PD.put (h : PD w W gw g r v xs d T D) (T' : ByteArray) (D' : Int) :
    PD w (((W.setCell ⟨gw, 0, none⟩ (.string T')).setCell ⟨gw, 1, none⟩ (.int .i64 D')).setCell ⟨gw, 2, none⟩ (.int .i64 (r : Int))) gw g r v xs d T' D' := by
  have m1 := h.m.store 0 (.string T')
  have m2 := m1.store 1 (.int .i64 D')
  have m3 := m2.store 2 (.int .i64 (r : Int))
  refine ⟨dfar (dfar (dfar h.dk h.m (by decide) (by decide) 0 _) m1 (by decide) (by decide) 1 _) m2 (by decide) (by decide) 2 _, by simpa using m3, ?_, h.ge⟩
  exact ((h.b.setCell (p := ⟨gw, 0, none⟩) h.ge _).setCell (p := ⟨gw, 1, none⟩) h.ge _).setCell (p := ⟨gw, 2, none⟩) h.ge _
theorem PM.cells (h : PM w W gw g r gl v xs d n T D) : W.cell? ⟨gw, 0, none⟩ = some (.string T) ∧ W.cell? ⟨gw, 1, none⟩ = some (.int .i64 D) ∧ W.cell? ⟨gw, 2, none⟩ = some (.int .i64 (r : Int)) :=
  ⟨by rw [h.m.cell]; rfl, by rw [h.m.cell]; rfl, by rw [h.m.cell]; rfl⟩
theorem recs_bd {xs : List Int} : (recs xs).2 ≤ xs.length ∧ (recs xs).1.length * 8 ≤ (recs xs).2 := ⟨(recs_le xs.length xs (Nat.le_refl _)).1, (recs_le xs.length xs (Nat.le_refl _)).2.1⟩
theorem nb_snoc (h : n * 8 ≤ xs.length) (m : MsgD) : (n + 1) * 8 ≤ (xs ++ rcd m).length := by
  have := rcd_pos m
  rw [List.length_append]
  omega
theorem recs_none : recs [] = ([], 0) := recs_end unp_nil
end
/-- What is known where a call of the script is behind: a log and its number of records. -/
def PC (w W : World) (gw g r : Nat) (lv nv : Value) : Prop := ∃ (gl : Nat) (v : Value) (xs : List Int) (d n : Nat) (T : ByteArray), lv = .pointer (some ⟨gl, 0, none⟩) ∧ nv = .int .i64 (n : Nat) ∧ T = strOfNums xs ∧ PM w W gw g r gl v xs d n T d
end Go.Proofs.Yteodldmbnghfcaa.Rl

namespace Go.Proofs.Yteodldmbnghfcaa.Dk
open Go.RowKit

theorem append_arg {B g d r : Nat} {v : Value} {ys : List Int} (a : Option Addr) (n c : Nat) (xs : List Int) (w0 w : World) (h : DAt w B g v ys d r) (hx : IsB w0 a n xs) (hxn : a = none → n = 0 ∧ c = 0) (hb : Below w0.heap.size w0 w) (hB : w0.heap.size ≤ B) (hn : n ≤ maxLen) (hf : ys.length + n ≤ r) :
    Calls Try.prog 15 #[.pointer (some ⟨g, 0, none⟩), .slice (some ⟨w.heap.size, 0, none⟩) 1 1] (w.alloc (.cells #[.slice a n c] 41)) fun e w' =>
      e = .returned (.int .i64 0) ∧ ∃ v', DAt w' B g v' (ys ++ xs) d r ∧ Turned w w' g v.ownBlock ∧ (v'.ownBlock = v.ownBlock ∨ ∃ q, v'.ownBlock = some q ∧ w.heap.size ≤ q) := by
  have haw : n = 0 ∨ ∀ ad, a = some ad → ¬ (ad.block = g ∨ some ad.block = v.ownBlock) := by
    rcases hx.2.2 with h0 | ⟨b, off, rfl, hc⟩
    · exact .inl h0
    · rcases Nat.eq_zero_or_pos n with h0 | h0
      · exact .inl h0
      · have hlt := World.block_lt_of_cell? w0 _ (hc 0 h0)
        refine .inr (fun ad he => ?_)
        injection he with he
        subst he
        rintro (h1 | h1)
        · have := h.ge
          simp at hlt h1
          omega
        · have := (h.own.lt _ h1.symm).1
          simp at hlt this
          omega
  have hp := PartsIn.new h hn hxn (hx.below hb) haw
  have hfl : ([xs] : List (List Int)).flatten = xs := by simp
  refine (append_fits _ _ 1 _ _ (h.alloc _) hp (by rw [hfl, hx.1]; exact hf)).mono ?_
  rintro e w' ⟨rfl, v', hd, ht, ho⟩
  rw [hfl] at hd
  refine ⟨rfl, v', hd, (Turned.ofBelow g v.ownBlock (below_alloc w _)).then_ ht (.inl rfl), ho.imp_right ?_⟩
  rintro ⟨q, h1, h2⟩
  exact ⟨q, h1, by simp at h2; omega⟩
theorem full_arg {B g d r : Nat} {v : Value} {ys : List Int} (a : Option Addr) (n c : Nat) (xs : List Int) (w0 w : World) (h : DAt w B g v ys d r) (hx : IsB w0 a n xs) (hxn : a = none → n = 0 ∧ c = 0) (hb : Below w0.heap.size w0 w) (hB : w0.heap.size ≤ B) (hn : n ≤ maxLen) (hf : r < ys.length + n) :
    Calls Try.prog 15 #[.pointer (some ⟨g, 0, none⟩), .slice (some ⟨w.heap.size, 0, none⟩) 1 1] (w.alloc (.cells #[.slice a n c] 41)) fun e w' => e = .returned (.int .i64 3) ∧ Below w.heap.size w w' := by
  have haw : n = 0 ∨ ∀ ad, a = some ad → ¬ (ad.block = g ∨ some ad.block = v.ownBlock) := by
    rcases hx.2.2 with h0 | ⟨b, off, rfl, hc⟩
    · exact .inl h0
    · rcases Nat.eq_zero_or_pos n with h0 | h0
      · exact .inl h0
      · have hlt := World.block_lt_of_cell? w0 _ (hc 0 h0)
        refine .inr (fun ad he => ?_)
        injection he with he
        subst he
        rintro (h1 | h1)
        · have := h.ge
          simp at hlt h1
          omega
        · have := (h.own.lt _ h1.symm).1
          simp at hlt this
          omega
  have hp := PartsIn.new h hn hxn (hx.below hb) haw
  have hfl : ([xs] : List (List Int)).flatten = xs := by simp
  refine (append_full _ _ 1 _ _ (h.alloc _) hp (by rw [hfl, hx.1]; exact hf)).mono ?_
  rintro e w' ⟨rfl, q, rfl⟩
  exact ⟨rfl, (below_alloc w _).trans ⟨rfl, rfl, rfl, Nat.le_refl _, fun _ _ => rfl⟩⟩
/-- What Append of the script's bytes comes to. -/
theorem append_any {B g d r : Nat} {v : Value} {ys : List Int} (a : Option Addr) (n c : Nat) (xs : List Int) (w0 w : World) (h : DAt w B g v ys d r) (hx : IsB w0 a n xs) (hxn : a = none → n = 0 ∧ c = 0) (hb : Below w0.heap.size w0 w) (hB : w0.heap.size ≤ B) (hn : n ≤ maxLen) :
    Calls Try.prog 15 #[.pointer (some ⟨g, 0, none⟩), .slice (some ⟨w.heap.size, 0, none⟩) 1 1] (w.alloc (.cells #[.slice a n c] 41)) fun e w' =>
      (ys.length + n ≤ r ∧ e = .returned (.int .i64 0) ∧ ∃ v', DAt w' B g v' (ys ++ xs) d r ∧ Turned w w' g v.ownBlock) ∨ (r < ys.length + n ∧ e = .returned (.int .i64 3) ∧ Below w.heap.size w w') := by
  by_cases hf : ys.length + n ≤ r
  · refine (append_arg a n c xs w0 w h hx hxn hb hB hn hf).mono ?_
    rintro e w' ⟨he, v', h1, h2, _⟩
    exact .inl ⟨hf, he, v', h1, h2⟩
  · refine (full_arg a n c xs w0 w h hx hxn hb hB hn (by omega)).mono ?_
    rintro e w' ⟨he, h1⟩
    exact .inr ⟨by omega, he, h1⟩
end Go.Proofs.Yteodldmbnghfcaa.Dk

namespace Go.Proofs.Yteodldmbnghfcaa.Rl
open Go.RowKit

set_option maxRecDepth 100000 in
set_option maxHeartbeats 2000000 in
theorem plays_bad (r : Int) (a : Option Addr) (n c : Nat) (w : World) (h : r < 0 ∨ 1048576 < r) :
    Calls Try.prog 3 #[.int .i64 r, .slice a n c] w fun e w' => e = .returned (.bool true) ∧ Below w.heap.size w w' := by
  have HH := Lib.hid h
  have hif : (if r < 0 ∨ 1048576 < r then (1 : Int) else 0) = 1 := if_pos h
  have HI := Lib.hid hif
  clear h hif
  go_enter Try.func3, Try.ntmps3
  go_wp2_with (first
    | (go_at_call 4; refine (lawake_any _).mono ?_; rintro e w1 ⟨rfl, hb1⟩; have HB1 := Lib.hid hb1; clear hb1)
    | (go_at_call 5; refine (Dk.new_bad _ _ HH.out).mono ?_; rintro e w' ⟨rfl, rfl⟩)
    | (go_at_call 6; refine (rwrong_any r _).mono ?_; rintro e w' ⟨rfl, rfl⟩; rw [HI.out]))
  go_ret
  exact ⟨rfl, HB1.out⟩

set_option maxRecDepth 100000 in
set_option maxHeartbeats 64000000 in
theorem plays_good (r : Nat) (a : Option Addr) (n cp : Nat) (w : World) (hr : r ≤ 1048576) (hx : OpsP w a n) (hn : n ≤ 140737488351232) :
    Calls Try.prog 3 #[.int .i64 r, .slice a n cp] w fun e w' => e = .returned (.bool true) ∧ Below w.heap.size w w' := by
  have HX := Lib.hid hx
  have HR := Lib.hid hr
  clear hx hr
  go_enter Try.func3, Try.ntmps3
  go_wp2_with fail
  refine (lawake_any _).mono ?_
  rintro e w1 ⟨rfl, hb1⟩
  have HB1 := Lib.hid hb1
  have HN := Lib.hid (Dk.new_good w.heap.size r w1 HR.out hb1.size)
  clear hb1
  go_wp2_with fail
  refine HN.out.mono ?_
  rintro e w2 ⟨rfl, hd2, hb2⟩
  have HB2 := Lib.hid (HB1.out.trans (hb2.mono HB1.out.size))
  have HGE := Lib.hid HB1.out.size
  have HOP := Lib.hid (lopen_any w.heap.size w1.heap.size (.slice none 0 0) [] 0 r w2 hd2)
  have HD2 := Lib.hid hd2
  clear hd2 hb2 HN HB1
  generalize w1.heap.size = g at *
  go_wp2_with fail
  refine HOP.out.mono ?_
  rintro e w3 ⟨gl, rv, v3, rfl, hgl, hl3, _, hrw3, ht3⟩
  rw [recs_none] at hl3
  have HL3 := Lib.hid (show Lg w3 w.heap.size gl g v3 [] 0 r 0 from ⟨hl3.lg, hl3.ge, hl3.disk⟩)
  have HB3 := Lib.hid (HB2.out.trans (ht3.below (B := w.heap.size) HGE.out (by simp) HB2.out.size))
  obtain ⟨Z, hZ, hwZ, hbZ⟩ := box_new w3 34 #[.string ⟨#[]⟩, .int .i64 0, .int .i64 (r : Int)]
  have HPC := Lib.hid (show PC w Z w3.heap.size g r (.pointer (some ⟨gl, 0, none⟩)) (.int .i64 0) from ⟨gl, v3, [], 0, 0, ⟨#[]⟩, rfl, rfl, rfl, ⟨HL3.out.keep hbZ, hwZ, HB3.out.trans (hbZ.mono HB3.out.size), HB3.out.size, by simp⟩⟩)
  obtain ⟨ra, rc, rfl, _, _⟩ := hrw3.slice
  clear hgl hl3 hrw3 ht3 hwZ hbZ HOP HL3 HB2 HB3 HD2 HGE
  go_upto_region 8 with fail
  rw [← hZ]
  clear hZ
  generalize w3.heap.size = gw at *
  go_wp2_with fail
  go_loopw [7, 10, 39] (fun lv nv iv wr => ∃ i : Nat, i ≤ n ∧ iv = .int .i64 (i : Int) ∧ PC w wr gw g r lv nv) (fun _ _ iv _ => n - (intOf iv).toNat)
  case atStart => exact ⟨0, by omega, rfl, HPC.out⟩
  case round =>
    obtain ⟨i, hin, rfl, gl, v, xs, d, k, S, rfl, rfl, hS, hpm⟩ := hrel
    have HP := Lib.hid hpm
    have HS := Lib.hid hS
    clear hpm hS HPC
    by_cases hil : i < n
    · obtain ⟨b, off, rfl, hbl, hcc⟩ := HX.out.resolve_left (by omega)
      obtain ⟨kd, kk, m, s8, s9, s10, s11, ua, um, uc, ys, hcell, hkd, hkk, hmi, hsm, hib, hnil, hum⟩ := hcc i hil
      obtain ⟨na, ma, pa, qa, nn, nc, mn, mc, pn, pc, rn, qc, hma⟩ := hmi
      obtain ⟨rfl, rfl, rfl, rfl⟩ : s8 = .slice na nn nc ∧ s9 = .slice ma mn mc ∧ s10 = .slice pa pn pc ∧ s11 = .slice qa rn qc := by simpa using hma.val
      have hmi : MsgIn w (.agg #[.int .i64 m.kind, .int .i64 m.from_, .int .i64 m.«to», .int .i64 m.id, .int .i64 m.rev, .int .i64 m.epoch, .int .i64 m.slot, .bool m.flag, .slice na nn nc, .slice ma mn mc, .slice pa pn pc, .slice qa rn qc]) m := ⟨na, ma, pa, qa, nn, nc, mn, mc, pn, pc, rn, qc, hma⟩
      clear hma
      obtain ⟨q0, q1, q2, q3, q4, q5, q6, q7, q8, q9, q10, q11, q12, q13, q14⟩ := hcell
      have p0 := (HP.out.b.cell (p := ⟨b, _, none⟩) hbl).trans q0
      have p1 := (HP.out.b.cell (p := ⟨b, _, none⟩) hbl).trans q1
      have p2 := (HP.out.b.cell (p := ⟨b, _, none⟩) hbl).trans q2
      have p3 := (HP.out.b.cell (p := ⟨b, _, none⟩) hbl).trans q3
      have p4 := (HP.out.b.cell (p := ⟨b, _, none⟩) hbl).trans q4
      have p5 := (HP.out.b.cell (p := ⟨b, _, none⟩) hbl).trans q5
      have p6 := (HP.out.b.cell (p := ⟨b, _, none⟩) hbl).trans q6
      have p7 := (HP.out.b.cell (p := ⟨b, _, none⟩) hbl).trans q7
      have p8 := (HP.out.b.cell (p := ⟨b, _, none⟩) hbl).trans q8
      have p9 := (HP.out.b.cell (p := ⟨b, _, none⟩) hbl).trans q9
      have p10 := (HP.out.b.cell (p := ⟨b, _, none⟩) hbl).trans q10
      have p11 := (HP.out.b.cell (p := ⟨b, _, none⟩) hbl).trans q11
      have p12 := (HP.out.b.cell (p := ⟨b, _, none⟩) hbl).trans q12
      have p13 := (HP.out.b.cell (p := ⟨b, _, none⟩) hbl).trans q13
      have p14 := (HP.out.b.cell (p := ⟨b, _, none⟩) hbl).trans q14
      obtain ⟨X, hX, hwx, hbx⟩ := box_new wr 43 #[.int .i64 kd, .int .i64 m.kind, .int .i64 m.from_, .int .i64 m.«to», .int .i64 m.id, .int .i64 m.rev, .int .i64 m.epoch, .int .i64 m.slot, .bool m.flag, .slice na nn nc, .slice ma mn mc, .slice pa pn pc, .slice qa rn qc, .slice ua um uc, .int .i64 kk]
      have HX8 := Lib.hid hwx
      have HP8 := Lib.hid (HP.out.below hbx)
      have HMI := Lib.hid hmi
      have HSM := Lib.hid hsm
      have HIB := Lib.hid hib
      have HNI := Lib.hid hnil
      have HKK := Lib.hid hkk
      have HUM := Lib.hid hum
      have HKD := Lib.hid hkd
      have hij : (0:Int) ≤ (i:Int) ∧ (i:Int) < (n:Int) := by omega
      clear hcc q0 q1 q2 q3 q4 q5 q6 q7 q8 q9 q10 q11 q12 q13 q14 hmi hsm hib hnil hkk hum hkd
      go_upto_region 12 with fail
      rw [← hX]
      clear hX hwx hbx p0 p1 p2 p3 p4 p5 p6 p7 p8 p9 p10 p11 p12 p13 p14 HP
      generalize wr.heap.size = ob at *
      have d0 := HX8.out.cell 0
      go_upto_block 2 with fail
      go_cut [7, 10] (fun lv nv wx => PC w wx gw g r lv nv)
      case first J KK hJR hMK =>
        by_cases hk0 : kd = 0
        · skip
          subst hk0
          as_aux_lemma =>
            have d1 := HX8.out.cell 1
            have d2 := HX8.out.cell 2
            have d3 := HX8.out.cell 3
            have d4 := HX8.out.cell 4
            have d5 := HX8.out.cell 5
            have d6 := HX8.out.cell 6
            have d7 := HX8.out.cell 7
            have d8 := HX8.out.cell 8
            have d9 := HX8.out.cell 9
            have d10 := HX8.out.cell 10
            have d11 := HX8.out.cell 11
            have d12 := HX8.out.cell 12
            have HM8 := Lib.hid (msgin_up HMI.out HP8.out.b)
            have HAD := Lib.hid (add_any w.heap.size gl g v xs d r k (.agg #[.int .i64 m.kind, .int .i64 m.from_, .int .i64 m.«to», .int .i64 m.id, .int .i64 m.rev, .int .i64 m.epoch, .int .i64 m.slot, .bool m.flag, .slice na nn nc, .slice ma mn mc, .slice pa pn pc, .slice qa rn qc]) m X HP8.out.lg HM8.out (by have := HP8.out.small; omega))
            have hk1 : IntKind.i64.wrap ((k : Int) + 1) = (k : Int) + 1 := IntWalk.i64_in _ (by have := HP8.out.small; omega)
            go_wp2_with fail
            refine HAD.out.mono ?_
            rintro e w9 (⟨hg, hfit, rfl, v9, hl9, hk9, ho9⟩ | ⟨⟨hg, hno⟩, rfl, hl9, hb9⟩ | ⟨hg, rfl, hl9, hb9⟩)
            · skip
              have HP9 := Lib.hid (HP8.out.kept hk9 hl9 (nb_snoc HP8.out.nb m))
              have HX9 := Lib.hid (Lg.whole HP8.out.lg hk9 HX8.out (by decide) (by decide) (by decide))
              have HFI := Lib.hid (show S.size + (rcd m).length ≤ r from by rw [HS.out, strOfNums_size]; exact hfit)
              have HG := Lib.hid hg
              clear hl9 hk9 ho9 hfit hg HAD d1 d2 d3 d4 d5 d6 d7 d8 d9 d10 d11 d12 d0
              have HRA := Lib.hid (radd_any (.agg #[.int .i64 m.kind, .int .i64 m.from_, .int .i64 m.«to», .int .i64 m.id, .int .i64 m.rev, .int .i64 m.epoch, .int .i64 m.slot, .bool m.flag, .slice na nn nc, .slice ma mn mc, .slice pa pn pc, .slice qa rn qc]) w9 m (msgin_up HMI.out HP9.out.b) HSM.out S d r (by rw [HS.out, strOfNums_size]; have := HP8.out.small; omega))
              have d0 := HX9.out.cell 0
              have d1 := HX9.out.cell 1
              have d2 := HX9.out.cell 2
              have d3 := HX9.out.cell 3
              have d4 := HX9.out.cell 4
              have d5 := HX9.out.cell 5
              have d6 := HX9.out.cell 6
              have d7 := HX9.out.cell 7
              have d8 := HX9.out.cell 8
              have d9 := HX9.out.cell 9
              have d10 := HX9.out.cell 10
              have d11 := HX9.out.cell 11
              have d12 := HX9.out.cell 12
              have c0 := HP9.out.cells.1
              have c1 := HP9.out.cells.2.1
              have c2 := HP9.out.cells.2.2
              go_wp2_with fail
              refine HRA.out.mono ?_
              rintro e wa ⟨⟨hg, hfit, rfl⟩ | ⟨hg, hno, rfl⟩ | ⟨hg, rfl⟩, hba⟩
              · skip
                have HPA := Lib.hid (HP9.out.below hba)
                have HXA := Lib.hid (HX9.out.kept (hba.block _ HX9.out.lt))
                clear hba HRA HP9 HX9 d1 d2 d3 d4 d5 d6 d7 d8 d9 d10 d11 d12 d0 c0 c1 c2 hg hfit
                unfold RD
                have HTT := Lib.hid (show S ++ strOfNums (rcd m) = strOfNums (xs ++ rcd m) from by rw [HS.out, str_append])
                generalize S ++ strOfNums (rcd m) = T at *
                obtain ⟨Z, hZ, hwZ, hbZ⟩ := box_new wa 34 #[.string T, .int .i64 d, .int .i64 (r : Int)]
                have HPZ := Lib.hid (HPA.out.below hbZ)
                have HXZ := Lib.hid (HXA.out.kept (hbZ.block _ HXA.out.lt))
                go_upto_region 20 with fail
                rw [← hZ]
                have z0 := hwZ.cell 0
                have z1 := hwZ.cell 1
                have z2 := hwZ.cell 2
                have f0 := HPZ.out.m.free 0
                have f1 := HPZ.out.m.free 1
                have f2 := HPZ.out.m.free 2
                have g0 := HPZ.out.m.cell 0
                have g1 := HPZ.out.m.cell 1
                have g2 := HPZ.out.m.cell 2
                have HPB := Lib.hid (HPZ.out.put T d)
                have HXB := Lib.hid (show Whole (((Z.setCell ⟨gw, 0, none⟩ (.string T)).setCell ⟨gw, 1, none⟩ (.int .i64 d)).setCell ⟨gw, 2, none⟩ (.int .i64 (r : Int))) ob 43 _ from by
                  have hne : ob ≠ gw := whole_ne HXZ.out HPZ.out.m (by decide)
                  exact ((HXZ.out.kept (Below.heap_setCell _ ⟨gw, 0, none⟩ _ ob hne)).kept (Below.heap_setCell _ ⟨gw, 1, none⟩ _ ob hne)).kept (Below.heap_setCell _ ⟨gw, 2, none⟩ _ ob hne))
                clear hZ hwZ hbZ HPA HXA
                go_upto_region 21 with fail
                generalize ((Z.setCell ⟨gw, 0, none⟩ (.string T)).setCell ⟨gw, 1, none⟩ (.int .i64 d)).setCell ⟨gw, 2, none⟩ (.int .i64 (r : Int)) = wb at *
                clear z0 z1 z2 f0 f1 f2 g0 g1 g2
                have d0 := HXB.out.cell 0
                go_wp2_with fail
                go_meet
                exact ⟨gl, v9, _, _, k + 1, T, rfl, by go_num, HTT.out, HPB.out⟩
              · exact absurd hno (by have := HFI.out; omega)
              · exact absurd HG.out hg
            · skip
              have HP9 := Lib.hid (show PM w w9 gw g r gl v xs d k S d from HP8.out.below hb9)
              have HX9 := Lib.hid (HX8.out.kept (hb9.block _ HX8.out.lt))
              have HFI := Lib.hid (show r < S.size + (rcd m).length from by rw [HS.out, strOfNums_size]; exact hno)
              have HG := Lib.hid hg
              clear hl9 hb9 hno hg HAD d1 d2 d3 d4 d5 d6 d7 d8 d9 d10 d11 d12 d0
              have HRA := Lib.hid (radd_any (.agg #[.int .i64 m.kind, .int .i64 m.from_, .int .i64 m.«to», .int .i64 m.id, .int .i64 m.rev, .int .i64 m.epoch, .int .i64 m.slot, .bool m.flag, .slice na nn nc, .slice ma mn mc, .slice pa pn pc, .slice qa rn qc]) w9 m (msgin_up HMI.out HP9.out.b) HSM.out S d r (by rw [HS.out, strOfNums_size]; have := HP8.out.small; omega))
              have d0 := HX9.out.cell 0
              have d1 := HX9.out.cell 1
              have d2 := HX9.out.cell 2
              have d3 := HX9.out.cell 3
              have d4 := HX9.out.cell 4
              have d5 := HX9.out.cell 5
              have d6 := HX9.out.cell 6
              have d7 := HX9.out.cell 7
              have d8 := HX9.out.cell 8
              have d9 := HX9.out.cell 9
              have d10 := HX9.out.cell 10
              have d11 := HX9.out.cell 11
              have d12 := HX9.out.cell 12
              have c0 := HP9.out.cells.1
              have c1 := HP9.out.cells.2.1
              have c2 := HP9.out.cells.2.2
              go_wp2_with fail
              refine HRA.out.mono ?_
              rintro e wa ⟨⟨hg, hfit, rfl⟩ | ⟨hg, hno, rfl⟩ | ⟨hg, rfl⟩, hba⟩
              · exact absurd hfit (by have := HFI.out; omega)
              · skip
                have HPA := Lib.hid (HP9.out.below hba)
                have HXA := Lib.hid (HX9.out.kept (hba.block _ HX9.out.lt))
                clear hba HRA HP9 HX9 d1 d2 d3 d4 d5 d6 d7 d8 d9 d10 d11 d12 d0 c0 c1 c2 hg hno
                unfold RD
                obtain ⟨Z, hZ, hwZ, hbZ⟩ := box_new wa 34 #[.string S, .int .i64 d, .int .i64 (r : Int)]
                have HPZ := Lib.hid (HPA.out.below hbZ)
                have HXZ := Lib.hid (HXA.out.kept (hbZ.block _ HXA.out.lt))
                go_upto_region 20 with fail
                rw [← hZ]
                have z0 := hwZ.cell 0
                have z1 := hwZ.cell 1
                have z2 := hwZ.cell 2
                have f0 := HPZ.out.m.free 0
                have f1 := HPZ.out.m.free 1
                have f2 := HPZ.out.m.free 2
                have g0 := HPZ.out.m.cell 0
                have g1 := HPZ.out.m.cell 1
                have g2 := HPZ.out.m.cell 2
                have HPB := Lib.hid (HPZ.out.put S d)
                have HXB := Lib.hid (show Whole (((Z.setCell ⟨gw, 0, none⟩ (.string S)).setCell ⟨gw, 1, none⟩ (.int .i64 d)).setCell ⟨gw, 2, none⟩ (.int .i64 (r : Int))) ob 43 _ from by
                  have hne : ob ≠ gw := whole_ne HXZ.out HPZ.out.m (by decide)
                  exact ((HXZ.out.kept (Below.heap_setCell _ ⟨gw, 0, none⟩ _ ob hne)).kept (Below.heap_setCell _ ⟨gw, 1, none⟩ _ ob hne)).kept (Below.heap_setCell _ ⟨gw, 2, none⟩ _ ob hne))
                clear hZ hwZ hbZ HPA HXA
                go_upto_region 21 with fail
                generalize ((Z.setCell ⟨gw, 0, none⟩ (.string S)).setCell ⟨gw, 1, none⟩ (.int .i64 d)).setCell ⟨gw, 2, none⟩ (.int .i64 (r : Int)) = wb at *
                clear z0 z1 z2 f0 f1 f2 g0 g1 g2
                have d0 := HXB.out.cell 0
                go_wp2_with fail
                go_meet
                exact ⟨gl, v, xs, d, k, S, rfl, rfl, HS.out, HPB.out⟩
              · exact absurd HG.out hg
            · skip
              have HP9 := Lib.hid (show PM w w9 gw g r gl v xs d k S d from HP8.out.below hb9)
              have HX9 := Lib.hid (HX8.out.kept (hb9.block _ HX8.out.lt))
              have HFI := Lib.hid (trivial : True)
              have HG := Lib.hid hg
              clear hl9 hb9 hg HAD d1 d2 d3 d4 d5 d6 d7 d8 d9 d10 d11 d12 d0
              have HRA := Lib.hid (radd_any (.agg #[.int .i64 m.kind, .int .i64 m.from_, .int .i64 m.«to», .int .i64 m.id, .int .i64 m.rev, .int .i64 m.epoch, .int .i64 m.slot, .bool m.flag, .slice na nn nc, .slice ma mn mc, .slice pa pn pc, .slice qa rn qc]) w9 m (msgin_up HMI.out HP9.out.b) HSM.out S d r (by rw [HS.out, strOfNums_size]; have := HP8.out.small; omega))
              have d0 := HX9.out.cell 0
              have d1 := HX9.out.cell 1
              have d2 := HX9.out.cell 2
              have d3 := HX9.out.cell 3
              have d4 := HX9.out.cell 4
              have d5 := HX9.out.cell 5
              have d6 := HX9.out.cell 6
              have d7 := HX9.out.cell 7
              have d8 := HX9.out.cell 8
              have d9 := HX9.out.cell 9
              have d10 := HX9.out.cell 10
              have d11 := HX9.out.cell 11
              have d12 := HX9.out.cell 12
              have c0 := HP9.out.cells.1
              have c1 := HP9.out.cells.2.1
              have c2 := HP9.out.cells.2.2
              go_wp2_with fail
              refine HRA.out.mono ?_
              rintro e wa ⟨⟨hg, hfit, rfl⟩ | ⟨hg, hno, rfl⟩ | ⟨hg, rfl⟩, hba⟩
              · exact absurd hg HG.out
              · exact absurd hg HG.out
              · skip
                have HPA := Lib.hid (HP9.out.below hba)
                have HXA := Lib.hid (HX9.out.kept (hba.block _ HX9.out.lt))
                clear hba HRA HP9 HX9 d1 d2 d3 d4 d5 d6 d7 d8 d9 d10 d11 d12 d0 c0 c1 c2 hg 
                unfold RD
                obtain ⟨Z, hZ, hwZ, hbZ⟩ := box_new wa 34 #[.string S, .int .i64 d, .int .i64 (r : Int)]
                have HPZ := Lib.hid (HPA.out.below hbZ)
                have HXZ := Lib.hid (HXA.out.kept (hbZ.block _ HXA.out.lt))
                go_upto_region 20 with fail
                rw [← hZ]
                have z0 := hwZ.cell 0
                have z1 := hwZ.cell 1
                have z2 := hwZ.cell 2
                have f0 := HPZ.out.m.free 0
                have f1 := HPZ.out.m.free 1
                have f2 := HPZ.out.m.free 2
                have g0 := HPZ.out.m.cell 0
                have g1 := HPZ.out.m.cell 1
                have g2 := HPZ.out.m.cell 2
                have HPB := Lib.hid (HPZ.out.put S d)
                have HXB := Lib.hid (show Whole (((Z.setCell ⟨gw, 0, none⟩ (.string S)).setCell ⟨gw, 1, none⟩ (.int .i64 d)).setCell ⟨gw, 2, none⟩ (.int .i64 (r : Int))) ob 43 _ from by
                  have hne : ob ≠ gw := whole_ne HXZ.out HPZ.out.m (by decide)
                  exact ((HXZ.out.kept (Below.heap_setCell _ ⟨gw, 0, none⟩ _ ob hne)).kept (Below.heap_setCell _ ⟨gw, 1, none⟩ _ ob hne)).kept (Below.heap_setCell _ ⟨gw, 2, none⟩ _ ob hne))
                clear hZ hwZ hbZ HPA HXA
                go_upto_region 21 with fail
                generalize ((Z.setCell ⟨gw, 0, none⟩ (.string S)).setCell ⟨gw, 1, none⟩ (.int .i64 d)).setCell ⟨gw, 2, none⟩ (.int .i64 (r : Int)) = wb at *
                clear z0 z1 z2 f0 f1 f2 g0 g1 g2
                have d0 := HXB.out.cell 0
                go_wp2_with fail
                go_meet
                exact ⟨gl, v, xs, d, k, S, rfl, rfl, HS.out, HPB.out⟩
        by_cases hk1 : kd = 1
        · skip
          subst hk1
          as_aux_lemma =>
            have d1 := HX8.out.cell 1
            have d2 := HX8.out.cell 2
            have d3 := HX8.out.cell 3
            have d4 := HX8.out.cell 4
            have d5 := HX8.out.cell 5
            have d6 := HX8.out.cell 6
            have d7 := HX8.out.cell 7
            have d8 := HX8.out.cell 8
            have d9 := HX8.out.cell 9
            have d10 := HX8.out.cell 10
            have d11 := HX8.out.cell 11
            have d12 := HX8.out.cell 12
            have HM8 := Lib.hid (msgin_up HMI.out HP8.out.b)
            have HAD := Lib.hid (write_any w.heap.size gl g v xs d r k (.agg #[.int .i64 m.kind, .int .i64 m.from_, .int .i64 m.«to», .int .i64 m.id, .int .i64 m.rev, .int .i64 m.epoch, .int .i64 m.slot, .bool m.flag, .slice na nn nc, .slice ma mn mc, .slice pa pn pc, .slice qa rn qc]) m X HP8.out.lg HM8.out (by have := HP8.out.small; omega))
            have hk1 : IntKind.i64.wrap ((k : Int) + 1) = (k : Int) + 1 := IntWalk.i64_in _ (by have := HP8.out.small; omega)
            go_wp2_with fail
            refine HAD.out.mono ?_
            rintro e w9 (⟨hg, hfit, rfl, v9, hl9, hk9, ho9⟩ | ⟨⟨hg, hno⟩, rfl, hl9, hb9⟩ | ⟨hg, rfl, hl9, hb9⟩)
            · skip
              have HP9 := Lib.hid (HP8.out.kept hk9 hl9 (nb_snoc HP8.out.nb m))
              have HX9 := Lib.hid (Lg.whole HP8.out.lg hk9 HX8.out (by decide) (by decide) (by decide))
              have HFI := Lib.hid (show S.size + (rcd m).length ≤ r from by rw [HS.out, strOfNums_size]; exact hfit)
              have HG := Lib.hid hg
              clear hl9 hk9 ho9 hfit hg HAD d1 d2 d3 d4 d5 d6 d7 d8 d9 d10 d11 d12 d0
              have HRA := Lib.hid (radd_any (.agg #[.int .i64 m.kind, .int .i64 m.from_, .int .i64 m.«to», .int .i64 m.id, .int .i64 m.rev, .int .i64 m.epoch, .int .i64 m.slot, .bool m.flag, .slice na nn nc, .slice ma mn mc, .slice pa pn pc, .slice qa rn qc]) w9 m (msgin_up HMI.out HP9.out.b) HSM.out S d r (by rw [HS.out, strOfNums_size]; have := HP8.out.small; omega))
              have d0 := HX9.out.cell 0
              have d1 := HX9.out.cell 1
              have d2 := HX9.out.cell 2
              have d3 := HX9.out.cell 3
              have d4 := HX9.out.cell 4
              have d5 := HX9.out.cell 5
              have d6 := HX9.out.cell 6
              have d7 := HX9.out.cell 7
              have d8 := HX9.out.cell 8
              have d9 := HX9.out.cell 9
              have d10 := HX9.out.cell 10
              have d11 := HX9.out.cell 11
              have d12 := HX9.out.cell 12
              have c0 := HP9.out.cells.1
              have c1 := HP9.out.cells.2.1
              have c2 := HP9.out.cells.2.2
              go_wp2_with fail
              refine HRA.out.mono ?_
              rintro e wa ⟨⟨hg, hfit, rfl⟩ | ⟨hg, hno, rfl⟩ | ⟨hg, rfl⟩, hba⟩
              · skip
                have HPA := Lib.hid (HP9.out.below hba)
                have HXA := Lib.hid (HX9.out.kept (hba.block _ HX9.out.lt))
                clear hba HRA HP9 HX9 d1 d2 d3 d4 d5 d6 d7 d8 d9 d10 d11 d12 d0 c0 c1 c2 hg hfit
                unfold RD
                have HTT := Lib.hid (show S ++ strOfNums (rcd m) = strOfNums (xs ++ rcd m) from by rw [HS.out, str_append])
                generalize S ++ strOfNums (rcd m) = T at *
                obtain ⟨Z, hZ, hwZ, hbZ⟩ := box_new wa 34 #[.string T, .int .i64 d, .int .i64 (r : Int)]
                have HPZ := Lib.hid (HPA.out.below hbZ)
                have HXZ := Lib.hid (HXA.out.kept (hbZ.block _ HXA.out.lt))
                go_upto_region 20 with fail
                rw [← hZ]
                have z0 := hwZ.cell 0
                have z1 := hwZ.cell 1
                have z2 := hwZ.cell 2
                have f0 := HPZ.out.m.free 0
                have f1 := HPZ.out.m.free 1
                have f2 := HPZ.out.m.free 2
                have g0 := HPZ.out.m.cell 0
                have g1 := HPZ.out.m.cell 1
                have g2 := HPZ.out.m.cell 2
                have HPB := Lib.hid (HPZ.out.put T d)
                have HXB := Lib.hid (show Whole (((Z.setCell ⟨gw, 0, none⟩ (.string T)).setCell ⟨gw, 1, none⟩ (.int .i64 d)).setCell ⟨gw, 2, none⟩ (.int .i64 (r : Int))) ob 43 _ from by
                  have hne : ob ≠ gw := whole_ne HXZ.out HPZ.out.m (by decide)
                  exact ((HXZ.out.kept (Below.heap_setCell _ ⟨gw, 0, none⟩ _ ob hne)).kept (Below.heap_setCell _ ⟨gw, 1, none⟩ _ ob hne)).kept (Below.heap_setCell _ ⟨gw, 2, none⟩ _ ob hne))
                clear hZ hwZ hbZ HPA HXA
                go_upto_region 21 with fail
                generalize ((Z.setCell ⟨gw, 0, none⟩ (.string T)).setCell ⟨gw, 1, none⟩ (.int .i64 d)).setCell ⟨gw, 2, none⟩ (.int .i64 (r : Int)) = wb at *
                clear z0 z1 z2 f0 f1 f2 g0 g1 g2
                have d0 := HXB.out.cell 0
                have HSY := Lib.hid (rsync_any T d r wb)
                have c0 := HPB.out.cells.1
                have c1 := HPB.out.cells.2.1
                have c2 := HPB.out.cells.2.2
                go_wp2_with fail
                refine HSY.out.mono ?_
                rintro e wc ⟨rfl, hbc⟩
                have HPC2 := Lib.hid (HPB.out.below hbc)
                have HTS := Lib.hid (show T.size = (xs ++ rcd m).length from by rw [HTT.out, strOfNums_size])
                have HPD2 := Lib.hid (HPC2.out.put T (T.size : Int))
                have f0 := HPC2.out.m.free 0
                have f1 := HPC2.out.m.free 1
                have f2 := HPC2.out.m.free 2
                have g0 := HPC2.out.m.cell 0
                have g1 := HPC2.out.m.cell 1
                have g2 := HPC2.out.m.cell 2
                clear hbc d0 c0 c1 c2
                unfold RD
                go_wp2_with fail
                generalize ((wc.setCell ⟨gw, 0, none⟩ (.string T)).setCell ⟨gw, 1, none⟩ (.int .i64 (T.size : Int))).setCell ⟨gw, 2, none⟩ (.int .i64 (r : Int)) = wd at *
                rw [HTS.out] at HPD2
                go_meet
                exact ⟨gl, v9, _, _, k + 1, T, rfl, by go_num, HTT.out, HPD2.out⟩
              · exact absurd hno (by have := HFI.out; omega)
              · exact absurd HG.out hg
            · skip
              have HP9 := Lib.hid (show PM w w9 gw g r gl v xs d k S d from HP8.out.below hb9)
              have HX9 := Lib.hid (HX8.out.kept (hb9.block _ HX8.out.lt))
              have HFI := Lib.hid (show r < S.size + (rcd m).length from by rw [HS.out, strOfNums_size]; exact hno)
              have HG := Lib.hid hg
              clear hl9 hb9 hno hg HAD d1 d2 d3 d4 d5 d6 d7 d8 d9 d10 d11 d12 d0
              have HRA := Lib.hid (radd_any (.agg #[.int .i64 m.kind, .int .i64 m.from_, .int .i64 m.«to», .int .i64 m.id, .int .i64 m.rev, .int .i64 m.epoch, .int .i64 m.slot, .bool m.flag, .slice na nn nc, .slice ma mn mc, .slice pa pn pc, .slice qa rn qc]) w9 m (msgin_up HMI.out HP9.out.b) HSM.out S d r (by rw [HS.out, strOfNums_size]; have := HP8.out.small; omega))
              have d0 := HX9.out.cell 0
              have d1 := HX9.out.cell 1
              have d2 := HX9.out.cell 2
              have d3 := HX9.out.cell 3
              have d4 := HX9.out.cell 4
              have d5 := HX9.out.cell 5
              have d6 := HX9.out.cell 6
              have d7 := HX9.out.cell 7
              have d8 := HX9.out.cell 8
              have d9 := HX9.out.cell 9
              have d10 := HX9.out.cell 10
              have d11 := HX9.out.cell 11
              have d12 := HX9.out.cell 12
              have c0 := HP9.out.cells.1
              have c1 := HP9.out.cells.2.1
              have c2 := HP9.out.cells.2.2
              go_wp2_with fail
              refine HRA.out.mono ?_
              rintro e wa ⟨⟨hg, hfit, rfl⟩ | ⟨hg, hno, rfl⟩ | ⟨hg, rfl⟩, hba⟩
              · exact absurd hfit (by have := HFI.out; omega)
              · skip
                have HPA := Lib.hid (HP9.out.below hba)
                have HXA := Lib.hid (HX9.out.kept (hba.block _ HX9.out.lt))
                clear hba HRA HP9 HX9 d1 d2 d3 d4 d5 d6 d7 d8 d9 d10 d11 d12 d0 c0 c1 c2 hg hno
                unfold RD
                obtain ⟨Z, hZ, hwZ, hbZ⟩ := box_new wa 34 #[.string S, .int .i64 d, .int .i64 (r : Int)]
                have HPZ := Lib.hid (HPA.out.below hbZ)
                have HXZ := Lib.hid (HXA.out.kept (hbZ.block _ HXA.out.lt))
                go_upto_region 20 with fail
                rw [← hZ]
                have z0 := hwZ.cell 0
                have z1 := hwZ.cell 1
                have z2 := hwZ.cell 2
                have f0 := HPZ.out.m.free 0
                have f1 := HPZ.out.m.free 1
                have f2 := HPZ.out.m.free 2
                have g0 := HPZ.out.m.cell 0
                have g1 := HPZ.out.m.cell 1
                have g2 := HPZ.out.m.cell 2
                have HPB := Lib.hid (HPZ.out.put S d)
                have HXB := Lib.hid (show Whole (((Z.setCell ⟨gw, 0, none⟩ (.string S)).setCell ⟨gw, 1, none⟩ (.int .i64 d)).setCell ⟨gw, 2, none⟩ (.int .i64 (r : Int))) ob 43 _ from by
                  have hne : ob ≠ gw := whole_ne HXZ.out HPZ.out.m (by decide)
                  exact ((HXZ.out.kept (Below.heap_setCell _ ⟨gw, 0, none⟩ _ ob hne)).kept (Below.heap_setCell _ ⟨gw, 1, none⟩ _ ob hne)).kept (Below.heap_setCell _ ⟨gw, 2, none⟩ _ ob hne))
                clear hZ hwZ hbZ HPA HXA
                go_upto_region 21 with fail
                generalize ((Z.setCell ⟨gw, 0, none⟩ (.string S)).setCell ⟨gw, 1, none⟩ (.int .i64 d)).setCell ⟨gw, 2, none⟩ (.int .i64 (r : Int)) = wb at *
                clear z0 z1 z2 f0 f1 f2 g0 g1 g2
                have d0 := HXB.out.cell 0
                go_wp2_with fail
                go_meet
                exact ⟨gl, v, xs, d, k, S, rfl, rfl, HS.out, HPB.out⟩
              · exact absurd HG.out hg
            · skip
              have HP9 := Lib.hid (show PM w w9 gw g r gl v xs d k S d from HP8.out.below hb9)
              have HX9 := Lib.hid (HX8.out.kept (hb9.block _ HX8.out.lt))
              have HFI := Lib.hid (trivial : True)
              have HG := Lib.hid hg
              clear hl9 hb9 hg HAD d1 d2 d3 d4 d5 d6 d7 d8 d9 d10 d11 d12 d0
              have HRA := Lib.hid (radd_any (.agg #[.int .i64 m.kind, .int .i64 m.from_, .int .i64 m.«to», .int .i64 m.id, .int .i64 m.rev, .int .i64 m.epoch, .int .i64 m.slot, .bool m.flag, .slice na nn nc, .slice ma mn mc, .slice pa pn pc, .slice qa rn qc]) w9 m (msgin_up HMI.out HP9.out.b) HSM.out S d r (by rw [HS.out, strOfNums_size]; have := HP8.out.small; omega))
              have d0 := HX9.out.cell 0
              have d1 := HX9.out.cell 1
              have d2 := HX9.out.cell 2
              have d3 := HX9.out.cell 3
              have d4 := HX9.out.cell 4
              have d5 := HX9.out.cell 5
              have d6 := HX9.out.cell 6
              have d7 := HX9.out.cell 7
              have d8 := HX9.out.cell 8
              have d9 := HX9.out.cell 9
              have d10 := HX9.out.cell 10
              have d11 := HX9.out.cell 11
              have d12 := HX9.out.cell 12
              have c0 := HP9.out.cells.1
              have c1 := HP9.out.cells.2.1
              have c2 := HP9.out.cells.2.2
              go_wp2_with fail
              refine HRA.out.mono ?_
              rintro e wa ⟨⟨hg, hfit, rfl⟩ | ⟨hg, hno, rfl⟩ | ⟨hg, rfl⟩, hba⟩
              · exact absurd hg HG.out
              · exact absurd hg HG.out
              · skip
                have HPA := Lib.hid (HP9.out.below hba)
                have HXA := Lib.hid (HX9.out.kept (hba.block _ HX9.out.lt))
                clear hba HRA HP9 HX9 d1 d2 d3 d4 d5 d6 d7 d8 d9 d10 d11 d12 d0 c0 c1 c2 hg 
                unfold RD
                obtain ⟨Z, hZ, hwZ, hbZ⟩ := box_new wa 34 #[.string S, .int .i64 d, .int .i64 (r : Int)]
                have HPZ := Lib.hid (HPA.out.below hbZ)
                have HXZ := Lib.hid (HXA.out.kept (hbZ.block _ HXA.out.lt))
                go_upto_region 20 with fail
                rw [← hZ]
                have z0 := hwZ.cell 0
                have z1 := hwZ.cell 1
                have z2 := hwZ.cell 2
                have f0 := HPZ.out.m.free 0
                have f1 := HPZ.out.m.free 1
                have f2 := HPZ.out.m.free 2
                have g0 := HPZ.out.m.cell 0
                have g1 := HPZ.out.m.cell 1
                have g2 := HPZ.out.m.cell 2
                have HPB := Lib.hid (HPZ.out.put S d)
                have HXB := Lib.hid (show Whole (((Z.setCell ⟨gw, 0, none⟩ (.string S)).setCell ⟨gw, 1, none⟩ (.int .i64 d)).setCell ⟨gw, 2, none⟩ (.int .i64 (r : Int))) ob 43 _ from by
                  have hne : ob ≠ gw := whole_ne HXZ.out HPZ.out.m (by decide)
                  exact ((HXZ.out.kept (Below.heap_setCell _ ⟨gw, 0, none⟩ _ ob hne)).kept (Below.heap_setCell _ ⟨gw, 1, none⟩ _ ob hne)).kept (Below.heap_setCell _ ⟨gw, 2, none⟩ _ ob hne))
                clear hZ hwZ hbZ HPA HXA
                go_upto_region 21 with fail
                generalize ((Z.setCell ⟨gw, 0, none⟩ (.string S)).setCell ⟨gw, 1, none⟩ (.int .i64 d)).setCell ⟨gw, 2, none⟩ (.int .i64 (r : Int)) = wb at *
                clear z0 z1 z2 f0 f1 f2 g0 g1 g2
                have d0 := HXB.out.cell 0
                go_wp2_with fail
                go_meet
                exact ⟨gl, v, xs, d, k, S, rfl, rfl, HS.out, HPB.out⟩
        by_cases hk2 : kd = 2
        · skip
          subst hk2
          as_aux_lemma =>
            have HSY := Lib.hid (lsync_any w.heap.size gl g v xs d r k X HP8.out.lg)
            go_wp2_with fail
            refine HSY.out.mono ?_
            rintro e w9 ⟨rfl, hl9, hk9⟩
            have HP9 := Lib.hid (HP8.out.kept hk9 hl9 HP8.out.nb)
            have HRS := Lib.hid (rsync_any S d r w9)
            have c0 := HP9.out.cells.1
            have c1 := HP9.out.cells.2.1
            have c2 := HP9.out.cells.2.2
            clear hl9 hk9 HSY
            go_wp2_with fail
            refine HRS.out.mono ?_
            rintro e wc ⟨rfl, hbc⟩
            have HPC2 := Lib.hid (HP9.out.below hbc)
            have HTS := Lib.hid (show S.size = xs.length from by rw [HS.out, strOfNums_size])
            have HPD2 := Lib.hid (HPC2.out.put S (S.size : Int))
            have f0 := HPC2.out.m.free 0
            have f1 := HPC2.out.m.free 1
            have f2 := HPC2.out.m.free 2
            have g0 := HPC2.out.m.cell 0
            have g1 := HPC2.out.m.cell 1
            have g2 := HPC2.out.m.cell 2
            clear hbc d0 c0 c1 c2 HRS
            unfold RD
            go_wp2_with fail
            generalize ((wc.setCell ⟨gw, 0, none⟩ (.string S)).setCell ⟨gw, 1, none⟩ (.int .i64 (S.size : Int))).setCell ⟨gw, 2, none⟩ (.int .i64 (r : Int)) = wd at *
            rw [HTS.out] at HPD2
            go_meet
            exact ⟨gl, v, _, _, k, S, rfl, rfl, HS.out, HPD2.out⟩
        by_cases hk3 : kd = 3
        · skip
          subst hk3
          as_aux_lemma =>
            have hkc : kk < 9223372036854775808 := by have h := HKK.out.2; omega
            have HCR := Lib.hid (Dk.crash_any kk X HP8.out.lg.disk hkc)
            have d14 := HX8.out.cell 14
            go_wp2_with fail
            refine HCR.out.mono ?_
            rintro e w9 ⟨rfl, v9, hd9, ht9, _⟩
            obtain ⟨p, hpp⟩ : ∃ p, p = Dk.left xs.length d kk := ⟨_, rfl⟩
            rw [← hpp] at hd9
            have HX9 := Lib.hid (HP8.out.disk.stays ht9 (.inr rfl) HX8.out (by decide) (by decide))
            have HP9 := Lib.hid (HP8.out.disk.turned hd9 ht9 (.inr rfl))
            have HRA := Lib.hid (rcrash_any S d r kk w9 (by rw [HS.out, strOfNums_size]; have := HP8.out.small; omega) (by rw [HS.out, strOfNums_size]; exact HP8.out.lg.disk.hd) hkc)
            have HTB := Lib.hid (show S.extract 0 p = strOfNums (xs.take p) from by rw [HS.out, Fr.str_sub]; simp)
            have HSZ := Lib.hid (show S.size = xs.length from by rw [HS.out, strOfNums_size])
            rw [HSZ.out, ← hpp] at HRA
            generalize S.extract 0 p = T at *
            clear hd9 ht9 HCR d14 d0 hpp
            have d14 := HX9.out.cell 14
            have d0 := HX9.out.cell 0
            have c0 := HP9.out.m.cell 0
            have c1 := HP9.out.m.cell 1
            have c2 := HP9.out.m.cell 2
            go_wp2_with fail
            refine HRA.out.mono ?_
            rintro e wa ⟨rfl, hba⟩
            have HPA := Lib.hid (HP9.out.below hba)
            have f0 := HPA.out.m.free 0
            have f1 := HPA.out.m.free 1
            have f2 := HPA.out.m.free 2
            have g0 := HPA.out.m.cell 0
            have g1 := HPA.out.m.cell 1
            have g2 := HPA.out.m.cell 2
            have HPB := Lib.hid (HPA.out.put T (p : Int))
            clear hba HRA HP9 HX9 d14 d0 c0 c1 c2
            unfold RD
            go_upto_region 37 with fail
            generalize ((wa.setCell ⟨gw, 0, none⟩ (.string T)).setCell ⟨gw, 1, none⟩ (.int .i64 (p : Int))).setCell ⟨gw, 2, none⟩ (.int .i64 (r : Int)) = wb at *
            clear f0 f1 f2 g0 g1 g2 HPA
            have HOP := Lib.hid (lopen_any w.heap.size g v9 (xs.take p) (p) r wb HPB.out.dk)
            have HRO := Lib.hid (fun W => ropen_any (xs.take p) ((p : Nat) : Int) (r : Int) W HPB.out.dk.byte (Nat.le_trans HPB.out.dk.hr HPB.out.dk.hm))
            rw [← HTB.out] at HRO
            obtain ⟨qs, hqs⟩ : ∃ qs, qs = (xs.take p) := ⟨_, rfl⟩
            rw [← hqs] at HOP HRO HTB HPB
            clear hqs
            obtain ⟨DB, hDB⟩ : ∃ DB : Nat, DB = (p) := ⟨_, rfl⟩
            rw [← hDB] at HRO HPB
            clear hDB
            go_wp2_with fail
            refine HOP.out.mono ?_
            rintro e wc ⟨gl2, rv, vc, rfl, hgl, hlc, _, hrwc, htc⟩
            have HGB := Lib.hid HPB.out.m.lt
            have HPC := Lib.hid (HPB.out.turned hlc.disk htc (.inr rfl))
            have HLC := Lib.hid (show Lg wc w.heap.size gl2 g vc (qs.take (recs qs).2) (recs qs).2 r (recs qs).1.length from ⟨hlc.lg, hlc.ge, hlc.disk⟩)
            have HRC := Lib.hid hrwc
            obtain ⟨ra, rc, rfl, _, _⟩ := hrwc.slice
            clear hgl hlc hrwc htc HOP HPB
            have c0 := HPC.out.m.cell 0
            have c1 := HPC.out.m.cell 1
            have c2 := HPC.out.m.cell 2
            have HRO2 := Lib.hid (HRO.out wc)
            clear HRO
            unfold RD at HRO2
            go_wp2_with fail
            refine HRO2.out.mono ?_
            rintro e wd ⟨rd, rfl, hrd, hbd⟩
            obtain ⟨da, dc, rfl, _, _⟩ := hrd.slice
            have HNB := Lib.hid (show (recs qs).1.length * 8 ≤ (qs.take (recs qs).2).length from by have := @recs_bd qs; rw [List.length_take]; omega)
            have HPM := Lib.hid (show PM w wd gw g r gl2 vc (qs.take (recs qs).2) (recs qs).2 (recs qs).1.length T (DB : Int) from ⟨HLC.out.keep hbd, (HPC.out.below hbd).m, (HPC.out.below hbd).b, HPC.out.ge, HNB.out⟩)
            have f0 := HPM.out.m.free 0
            have f1 := HPM.out.m.free 1
            have f2 := HPM.out.m.free 2
            have g0 := HPM.out.m.cell 0
            have g1 := HPM.out.m.cell 1
            have g2 := HPM.out.m.cell 2
            generalize hUU : strOfNums (qs.take (recs qs).2) = UU at *
            have HUU := Lib.hid hUU.symm
            obtain ⟨we, hwe⟩ : ∃ we, we = ((wd.setCell ⟨gw, 0, none⟩ (.string UU)).setCell ⟨gw, 1, none⟩ (.int .i64 ((recs qs).2 : Int))).setCell ⟨gw, 2, none⟩ (.int .i64 (r : Int)) := ⟨_, rfl⟩
            have HPN := Lib.hid (show PM w we gw g r gl2 vc (qs.take (recs qs).2) (recs qs).2 (recs qs).1.length UU ((recs qs).2 : Int) from by rw [hwe]; exact HPM.out.put UU ((recs qs).2 : Int))
            have hch : ∀ B, gw < B → Chg wd we (fun q => q < B) := fun B hB => by
              rw [hwe]
              exact (((Chg.refl wd (fun q => q < B)).set (b := gw) hB 0 _).set (b := gw) hB 1 _).set (b := gw) hB 2 _
            have hR1 := RowsOwn.chg (HRC.out.below hbd) (hch _ HGB.out)
            have hR2 := RowsOwn.chg hrd (hch _ HPC.out.m.lt)
            have HSM2 := Lib.hid (same_msgs ra _ rc _ da _ dc _ we (rows_msgs hR1) (rows_msgs hR2) (by have := HPM.out.small.2.2; omega) (by have := HPM.out.small.2.2; omega))
            clear hUU hrd hbd HRO2 c0 c1 c2 hch hR1 hR2
            go_upto_region 40 with fail
            rw [← hwe]
            clear hwe f0 f1 f2 g0 g1 g2
            generalize hLL : (recs qs).1.length = LL at *
            have HLL := Lib.hid hLL
            clear hLL
            go_wp2_with fail
            refine HSM2.out.mono ?_
            rintro e wf ⟨rr, rfl, hrr, hbf⟩
            obtain rfl : rr = true := hrr.2 rfl
            have HPO := Lib.hid (HPN.out.below hbf)
            clear hrr hbf HSM2
            go_wp2_with fail
            go_meet
            exact ⟨gl2, vc, _, _, LL, UU, rfl, rfl, HUU.out, HPO.out⟩
        by_cases hk4 : kd = 4
        · skip
          subst hk4
          as_aux_lemma =>
            have HAP := Lib.hid (Dk.append_any ua um uc ys w X HP8.out.lg.disk HIB.out HNI.out HP8.out.b (Nat.le_refl _) (by unfold maxLen; have := HUM.out; omega))
            have HYZ := Lib.hid (show (strOfNums ys).size = um from by rw [strOfNums_size]; exact HIB.out.1)
            have HSZ := Lib.hid (show S.size = xs.length from by rw [HS.out, strOfNums_size])
            have d13 := HX8.out.cell 13
            go_wp2_with fail
            refine HAP.out.mono ?_
            rintro e w9 (⟨hf, rfl, v9, hd9, ht9⟩ | ⟨hf, rfl, hb9⟩)
            · skip
              have HX9 := Lib.hid (HP8.out.disk.stays ht9 (.inl rfl) HX8.out (by decide) (by decide))
              have HP9 := Lib.hid (HP8.out.disk.turned hd9 ht9 (.inl rfl))
              have HRA := Lib.hid (rappend_fits S (strOfNums ys) d r w9 (by rw [HSZ.out]; have := HP8.out.small; omega) (by rw [HYZ.out]; have := HUM.out; omega) (by rw [HSZ.out, HYZ.out]; omega))
              have HTB := Lib.hid (show S ++ strOfNums ys = strOfNums (xs ++ ys) from by rw [HS.out, str_append])
              have hcv := Fr.IsB.str (HIB.out.below HP9.out.b) uc
              generalize S ++ strOfNums ys = T at *
              generalize strOfNums ys = U at *
              clear hd9 ht9 hf HAP d13 d0
              have d13 := HX9.out.cell 13
              have d0 := HX9.out.cell 0
              have c0 := HP9.out.m.cell 0
              have c1 := HP9.out.m.cell 1
              have c2 := HP9.out.m.cell 2
              go_wp2_with fail
              refine HRA.out.mono ?_
              rintro e wa ⟨rfl, hba⟩
              have HPA := Lib.hid (HP9.out.below hba)
              have f0 := HPA.out.m.free 0
              have f1 := HPA.out.m.free 1
              have f2 := HPA.out.m.free 2
              have g0 := HPA.out.m.cell 0
              have g1 := HPA.out.m.cell 1
              have g2 := HPA.out.m.cell 2
              have HPB := Lib.hid (HPA.out.put T (d : Int))
              clear hba HRA HP9 HX9 d13 d0 c0 c1 c2 hcv
              unfold RD
              go_upto_region 37 with fail
              generalize ((wa.setCell ⟨gw, 0, none⟩ (.string T)).setCell ⟨gw, 1, none⟩ (.int .i64 (d : Int))).setCell ⟨gw, 2, none⟩ (.int .i64 (r : Int)) = wb at *
              clear f0 f1 f2 g0 g1 g2 HPA
              have HOP := Lib.hid (lopen_any w.heap.size g v9 (xs ++ ys) (d) r wb HPB.out.dk)
              have HRO := Lib.hid (fun W => ropen_any (xs ++ ys) ((d : Nat) : Int) (r : Int) W HPB.out.dk.byte (Nat.le_trans HPB.out.dk.hr HPB.out.dk.hm))
              rw [← HTB.out] at HRO
              obtain ⟨qs, hqs⟩ : ∃ qs, qs = (xs ++ ys) := ⟨_, rfl⟩
              rw [← hqs] at HOP HRO HTB HPB
              clear hqs
              obtain ⟨DB, hDB⟩ : ∃ DB : Nat, DB = (d) := ⟨_, rfl⟩
              rw [← hDB] at HRO HPB
              clear hDB
              go_wp2_with fail
              refine HOP.out.mono ?_
              rintro e wc ⟨gl2, rv, vc, rfl, hgl, hlc, _, hrwc, htc⟩
              have HGB := Lib.hid HPB.out.m.lt
              have HPC := Lib.hid (HPB.out.turned hlc.disk htc (.inr rfl))
              have HLC := Lib.hid (show Lg wc w.heap.size gl2 g vc (qs.take (recs qs).2) (recs qs).2 r (recs qs).1.length from ⟨hlc.lg, hlc.ge, hlc.disk⟩)
              have HRC := Lib.hid hrwc
              obtain ⟨ra, rc, rfl, _, _⟩ := hrwc.slice
              clear hgl hlc hrwc htc HOP HPB
              have c0 := HPC.out.m.cell 0
              have c1 := HPC.out.m.cell 1
              have c2 := HPC.out.m.cell 2
              have HRO2 := Lib.hid (HRO.out wc)
              clear HRO
              unfold RD at HRO2
              go_wp2_with fail
              refine HRO2.out.mono ?_
              rintro e wd ⟨rd, rfl, hrd, hbd⟩
              obtain ⟨da, dc, rfl, _, _⟩ := hrd.slice
              have HNB := Lib.hid (show (recs qs).1.length * 8 ≤ (qs.take (recs qs).2).length from by have := @recs_bd qs; rw [List.length_take]; omega)
              have HPM := Lib.hid (show PM w wd gw g r gl2 vc (qs.take (recs qs).2) (recs qs).2 (recs qs).1.length T (DB : Int) from ⟨HLC.out.keep hbd, (HPC.out.below hbd).m, (HPC.out.below hbd).b, HPC.out.ge, HNB.out⟩)
              have f0 := HPM.out.m.free 0
              have f1 := HPM.out.m.free 1
              have f2 := HPM.out.m.free 2
              have g0 := HPM.out.m.cell 0
              have g1 := HPM.out.m.cell 1
              have g2 := HPM.out.m.cell 2
              generalize hUU : strOfNums (qs.take (recs qs).2) = UU at *
              have HUU := Lib.hid hUU.symm
              obtain ⟨we, hwe⟩ : ∃ we, we = ((wd.setCell ⟨gw, 0, none⟩ (.string UU)).setCell ⟨gw, 1, none⟩ (.int .i64 ((recs qs).2 : Int))).setCell ⟨gw, 2, none⟩ (.int .i64 (r : Int)) := ⟨_, rfl⟩
              have HPN := Lib.hid (show PM w we gw g r gl2 vc (qs.take (recs qs).2) (recs qs).2 (recs qs).1.length UU ((recs qs).2 : Int) from by rw [hwe]; exact HPM.out.put UU ((recs qs).2 : Int))
              have hch : ∀ B, gw < B → Chg wd we (fun q => q < B) := fun B hB => by
                rw [hwe]
                exact (((Chg.refl wd (fun q => q < B)).set (b := gw) hB 0 _).set (b := gw) hB 1 _).set (b := gw) hB 2 _
              have hR1 := RowsOwn.chg (HRC.out.below hbd) (hch _ HGB.out)
              have hR2 := RowsOwn.chg hrd (hch _ HPC.out.m.lt)
              have HSM2 := Lib.hid (same_msgs ra _ rc _ da _ dc _ we (rows_msgs hR1) (rows_msgs hR2) (by have := HPM.out.small.2.2; omega) (by have := HPM.out.small.2.2; omega))
              clear hUU hrd hbd HRO2 c0 c1 c2 hch hR1 hR2
              go_upto_region 40 with fail
              rw [← hwe]
              clear hwe f0 f1 f2 g0 g1 g2
              generalize hLL : (recs qs).1.length = LL at *
              have HLL := Lib.hid hLL
              clear hLL
              go_wp2_with fail
              refine HSM2.out.mono ?_
              rintro e wf ⟨rr, rfl, hrr, hbf⟩
              obtain rfl : rr = true := hrr.2 rfl
              have HPO := Lib.hid (HPN.out.below hbf)
              clear hrr hbf HSM2
              go_wp2_with fail
              go_meet
              exact ⟨gl2, vc, _, _, LL, UU, rfl, rfl, HUU.out, HPO.out⟩
            · skip
              have HX9 := Lib.hid (HX8.out.kept (hb9.block _ HX8.out.lt))
              have HP9 := Lib.hid ((show PM w w9 gw g r gl v xs d k S d from HP8.out.below hb9).disk)
              have HRA := Lib.hid (rappend_full S (strOfNums ys) d r w9 (by rw [HSZ.out]; have := HP8.out.small; omega) (by rw [HYZ.out]; have := HUM.out; omega) (by rw [HSZ.out, HYZ.out]; omega))
              have hcv := Fr.IsB.str (HIB.out.below HP9.out.b) uc
              generalize strOfNums ys = U at *
              have HTB := HS
              clear hb9 hf HAP d13 d0
              have d13 := HX9.out.cell 13
              have d0 := HX9.out.cell 0
              have c0 := HP9.out.m.cell 0
              have c1 := HP9.out.m.cell 1
              have c2 := HP9.out.m.cell 2
              go_wp2_with fail
              refine HRA.out.mono ?_
              rintro e wa ⟨rfl, hba⟩
              have HPA := Lib.hid (HP9.out.below hba)
              have f0 := HPA.out.m.free 0
              have f1 := HPA.out.m.free 1
              have f2 := HPA.out.m.free 2
              have g0 := HPA.out.m.cell 0
              have g1 := HPA.out.m.cell 1
              have g2 := HPA.out.m.cell 2
              have HPB := Lib.hid (HPA.out.put S (d : Int))
              clear hba HRA HP9 HX9 d13 d0 c0 c1 c2 hcv
              unfold RD
              go_upto_region 37 with fail
              generalize ((wa.setCell ⟨gw, 0, none⟩ (.string S)).setCell ⟨gw, 1, none⟩ (.int .i64 (d : Int))).setCell ⟨gw, 2, none⟩ (.int .i64 (r : Int)) = wb at *
              clear f0 f1 f2 g0 g1 g2 HPA
              have HOP := Lib.hid (lopen_any w.heap.size g v (xs) (d) r wb HPB.out.dk)
              have HRO := Lib.hid (fun W => ropen_any (xs) ((d : Nat) : Int) (r : Int) W HPB.out.dk.byte (Nat.le_trans HPB.out.dk.hr HPB.out.dk.hm))
              rw [← HTB.out] at HRO
              obtain ⟨qs, hqs⟩ : ∃ qs, qs = (xs) := ⟨_, rfl⟩
              rw [← hqs] at HOP HRO HTB HPB
              clear hqs
              obtain ⟨DB, hDB⟩ : ∃ DB : Nat, DB = (d) := ⟨_, rfl⟩
              rw [← hDB] at HRO HPB
              clear hDB
              go_wp2_with fail
              refine HOP.out.mono ?_
              rintro e wc ⟨gl2, rv, vc, rfl, hgl, hlc, _, hrwc, htc⟩
              have HGB := Lib.hid HPB.out.m.lt
              have HPC := Lib.hid (HPB.out.turned hlc.disk htc (.inr rfl))
              have HLC := Lib.hid (show Lg wc w.heap.size gl2 g vc (qs.take (recs qs).2) (recs qs).2 r (recs qs).1.length from ⟨hlc.lg, hlc.ge, hlc.disk⟩)
              have HRC := Lib.hid hrwc
              obtain ⟨ra, rc, rfl, _, _⟩ := hrwc.slice
              clear hgl hlc hrwc htc HOP HPB
              have c0 := HPC.out.m.cell 0
              have c1 := HPC.out.m.cell 1
              have c2 := HPC.out.m.cell 2
              have HRO2 := Lib.hid (HRO.out wc)
              clear HRO
              unfold RD at HRO2
              go_wp2_with fail
              refine HRO2.out.mono ?_
              rintro e wd ⟨rd, rfl, hrd, hbd⟩
              obtain ⟨da, dc, rfl, _, _⟩ := hrd.slice
              have HNB := Lib.hid (show (recs qs).1.length * 8 ≤ (qs.take (recs qs).2).length from by have := @recs_bd qs; rw [List.length_take]; omega)
              have HPM := Lib.hid (show PM w wd gw g r gl2 vc (qs.take (recs qs).2) (recs qs).2 (recs qs).1.length S (DB : Int) from ⟨HLC.out.keep hbd, (HPC.out.below hbd).m, (HPC.out.below hbd).b, HPC.out.ge, HNB.out⟩)
              have f0 := HPM.out.m.free 0
              have f1 := HPM.out.m.free 1
              have f2 := HPM.out.m.free 2
              have g0 := HPM.out.m.cell 0
              have g1 := HPM.out.m.cell 1
              have g2 := HPM.out.m.cell 2
              generalize hUU : strOfNums (qs.take (recs qs).2) = UU at *
              have HUU := Lib.hid hUU.symm
              obtain ⟨we, hwe⟩ : ∃ we, we = ((wd.setCell ⟨gw, 0, none⟩ (.string UU)).setCell ⟨gw, 1, none⟩ (.int .i64 ((recs qs).2 : Int))).setCell ⟨gw, 2, none⟩ (.int .i64 (r : Int)) := ⟨_, rfl⟩
              have HPN := Lib.hid (show PM w we gw g r gl2 vc (qs.take (recs qs).2) (recs qs).2 (recs qs).1.length UU ((recs qs).2 : Int) from by rw [hwe]; exact HPM.out.put UU ((recs qs).2 : Int))
              have hch : ∀ B, gw < B → Chg wd we (fun q => q < B) := fun B hB => by
                rw [hwe]
                exact (((Chg.refl wd (fun q => q < B)).set (b := gw) hB 0 _).set (b := gw) hB 1 _).set (b := gw) hB 2 _
              have hR1 := RowsOwn.chg (HRC.out.below hbd) (hch _ HGB.out)
              have hR2 := RowsOwn.chg hrd (hch _ HPC.out.m.lt)
              have HSM2 := Lib.hid (same_msgs ra _ rc _ da _ dc _ we (rows_msgs hR1) (rows_msgs hR2) (by have := HPM.out.small.2.2; omega) (by have := HPM.out.small.2.2; omega))
              clear hUU hrd hbd HRO2 c0 c1 c2 hch hR1 hR2
              go_upto_region 40 with fail
              rw [← hwe]
              clear hwe f0 f1 f2 g0 g1 g2
              generalize hLL : (recs qs).1.length = LL at *
              have HLL := Lib.hid hLL
              clear hLL
              go_wp2_with fail
              refine HSM2.out.mono ?_
              rintro e wf ⟨rr, rfl, hrr, hbf⟩
              obtain rfl : rr = true := hrr.2 rfl
              have HPO := Lib.hid (HPN.out.below hbf)
              clear hrr hbf HSM2
              go_wp2_with fail
              go_meet
              exact ⟨gl2, vc, _, _, LL, UU, rfl, rfl, HUU.out, HPO.out⟩
        have e0 : (kd == 0) = false := by simpa using hk0
        have e1 : (kd == 1) = false := by simpa using hk1
        have e2 : (kd == 2) = false := by simpa using hk2
        have e3 : (kd == 3) = false := by simpa using hk3
        have e4 : (kd == 4) = false := by simpa using hk4
        clear hk0 hk1 hk2 hk3 hk4
        go_wp2_with fail
        go_meet
        exact ⟨gl, v, xs, d, k, S, rfl, rfl, HS.out, HP8.out⟩
      case rest =>
        clear HP8 HX8 HS d0 HMI HSM HIB HNI HKK HUM HKD
        obtain ⟨gl5, v5, ys5, d5, k5, T, rfl, rfl, hT, hp5⟩ := hcut
        have HP5 := Lib.hid hp5
        have HT := Lib.hid hT
        have hTT : (T.toList == T.toList) = true := by simp
        have hTN : (T.toList != T.toList) = false := by simp
        have hts : T.size = ys5.length := by rw [hT, strOfNums_size]
        have hl2 : ((r - ys5.length : Nat) : Int) = (r : Int) - (T.size : Int) := by have h1 := hp5.small; omega
        have hwr : IntKind.i64.wrap ((r : Int) - (T.size : Int)) = (r : Int) - (T.size : Int) := by have h1 := hp5.small; exact IntWalk.i64_in _ (by omega)
        have HL2 := Lib.hid hl2
        clear hl2 hT hp5 hts
        go_upto_region 43 with fail
        refine wp_region_held_drew (S := fun W => PM w W gw g r gl5 v5 ys5 d5 k5 T (d5 : Int) ∧ W.cell? ⟨gw, 0, none⟩ = some (.string T) ∧ W.cell? ⟨gw, 1, none⟩ = some (.int .i64 (d5 : Nat)) ∧ W.cell? ⟨gw, 2, none⟩ = some (.int .i64 (r : Int))) (by kernel_rfl) ⟨HP5.out.below (below_drewN _ 1), (HP5.out.below (below_drewN _ 1)).cells⟩ (fun hHeld => ?_)
        refine wpAnyH_take (i := 0) (oi := { dst := Option.some 132, op := Go.Op.move (Go.Operand.tmp 7), type := 29, pos := "law.go:109", after := #[], guard := Option.none }) (v := ?_) rfl (by kernel_rfl) (by kernel_rfl) (by kernel_rfl) (fun _ _ _ h => h) (Or.inl ⟨by rfl, ?_⟩) (by assumption) ?_
        rotate_left
        · intro w hSw; (try dsimp only at hSw); go_simp; all_goals (with_reducible rfl)
        try simp only [Act.put, List.setIfInBounds_toArray, List.set_cons_zero, List.set_cons_succ]
        refine wpAnyH_take (i := 2) (oi := { dst := Option.some 134, op := Go.Op.move (Go.Operand.tmp 10), type := 3, pos := "law.go:109", after := #[], guard := Option.none }) (v := ?_) rfl (by kernel_rfl) (by kernel_rfl) (by kernel_rfl) (fun _ _ _ h => h) (Or.inl ⟨by rfl, ?_⟩) (by assumption) ?_
        rotate_left
        · intro w hSw; (try dsimp only at hSw); go_simp; all_goals (with_reducible rfl)
        try simp only [Act.put, List.setIfInBounds_toArray, List.set_cons_zero, List.set_cons_succ]
        refine wpAnyH_ready (rs := [1]) (by kernel_rfl) (by simp) ?_
        refine AllReadyH.cons (o := { dst := Option.some 133, op := Go.Op.call { callee := Go.Callee.value (Go.Operand.func 19), args := #[Go.Operand.tmp 132], argTypes := #[29] }, type := 3, pos := "law.go:109", after := #[{ on := 0, ground := Go.Ground.data }], guard := Option.none }) rfl (fun K hK => ?_) AllReadyH.nil
        go_simp
        refine (count_any w.heap.size gl5 g v5 ys5 d5 r k5 _ hHeld.1.lg).mono ?_
        rintro e w' ⟨rfl, rfl⟩
        go_wp2_with fail
        refine hK.out _ _ (hHeld) (fun hHeld => ?_)
        clear hK K
        try simp only [Act.put, List.setIfInBounds_toArray, List.set_cons_zero, List.set_cons_succ]
        refine wpAnyH_take (i := 3) (oi := { dst := Option.some 135, op := Go.Op.binOp Go.BinOp.neq 3 (Go.Operand.tmp 133) (Go.Operand.tmp 134) 3, type := 4, pos := "law.go:109", after := #[{ on := 1, ground := Go.Ground.data }, { on := 2, ground := Go.Ground.data }], guard := Option.none }) (v := ?_) rfl (by kernel_rfl) (by kernel_rfl) (by kernel_rfl) (fun _ _ _ h => h) (Or.inl ⟨by rfl, ?_⟩) (by assumption) ?_
        rotate_left
        · intro w hSw; (try dsimp only at hSw); go_simp; all_goals (with_reducible rfl)
        try simp only [Act.put, List.setIfInBounds_toArray, List.set_cons_zero, List.set_cons_succ]
        refine wpAnyH_take (i := 4) (oi := { dst := Option.some 136, op := Go.Op.move (Go.Operand.tmp 135), type := 4, pos := "law.go:109", after := #[{ on := 3, ground := Go.Ground.data }, { on := 1, ground := Go.Ground.chain }], guard := Option.none }) (v := ?_) rfl (by kernel_rfl) (by kernel_rfl) (by kernel_rfl) (fun _ _ _ h => h) (Or.inl ⟨by rfl, ?_⟩) (by assumption) ?_
        rotate_left
        · intro w hSw; (try dsimp only at hSw); go_simp; all_goals (with_reducible rfl)
        try simp only [Act.put, List.setIfInBounds_toArray, List.set_cons_zero, List.set_cons_succ]
        refine wpAnyH_take (i := 5) (oi := { dst := Option.some 137, op := Go.Op.move (Go.Operand.tmp 5), type := 24, pos := "law.go:109", after := #[{ on := 4, ground := Go.Ground.guard }], guard := Option.some (4, Bool.false) }) (v := ?_) rfl (by kernel_rfl) (by kernel_rfl) (by kernel_rfl) (fun _ _ _ h => h) (Or.inl ⟨by rfl, ?_⟩) (by assumption) ?_
        rotate_left
        · intro w hSw; (try dsimp only at hSw); go_simp; all_goals (with_reducible rfl)
        try simp only [Act.put, List.setIfInBounds_toArray, List.set_cons_zero, List.set_cons_succ]
        refine wpAnyH_take (i := 6) (oi := { dst := Option.some 138, op := Go.Op.nilCheck (Go.Operand.tmp 137), type := 0, pos := "law.go:109", after := #[{ on := 5, ground := Go.Ground.data }, { on := 4, ground := Go.Ground.guard }], guard := Option.some (4, Bool.false) }) (v := ?_) rfl (by kernel_rfl) (by kernel_rfl) (by kernel_rfl) (fun _ _ _ h => h) (Or.inl ⟨by rfl, ?_⟩) (by assumption) ?_
        rotate_left
        · intro w hSw; (try dsimp only at hSw); go_simp; all_goals (with_reducible rfl)
        try simp only [Act.put, List.setIfInBounds_toArray, List.set_cons_zero, List.set_cons_succ]
        refine wpAnyH_take (i := 7) (oi := { dst := Option.some 139, op := Go.Op.fieldAddr 60 (Go.Operand.tmp 138) 0, type := 0, pos := "law.go:109", after := #[{ on := 6, ground := Go.Ground.data }, { on := 4, ground := Go.Ground.guard }], guard := Option.some (4, Bool.false) }) (v := ?_) rfl (by kernel_rfl) (by kernel_rfl) (by kernel_rfl) (fun _ _ _ h => h) (Or.inl ⟨by rfl, ?_⟩) (by assumption) ?_
        rotate_left
        · intro w hSw; (try dsimp only at hSw); go_simp; all_goals (with_reducible rfl)
        try simp only [Act.put, List.setIfInBounds_toArray, List.set_cons_zero, List.set_cons_succ]
        refine wpAnyH_take (i := 10) (oi := { dst := Option.some 142, op := Go.Op.fieldAddr 34 (Go.Operand.tmp 9) 0, type := 0, pos := "law.go:109", after := #[{ on := 4, ground := Go.Ground.guard }], guard := Option.some (4, Bool.false) }) (v := ?_) rfl (by kernel_rfl) (by kernel_rfl) (by kernel_rfl) (fun _ _ _ h => h) (Or.inl ⟨by rfl, ?_⟩) (by assumption) ?_
        rotate_left
        · intro w hSw; (try dsimp only at hSw); go_simp; all_goals (with_reducible rfl)
        try simp only [Act.put, List.setIfInBounds_toArray, List.set_cons_zero, List.set_cons_succ]
        refine wpAnyH_take (i := 11) (oi := { dst := Option.some 143, op := Go.Op.load 9 (Go.Operand.tmp 142), type := 9, pos := "law.go:109", after := #[{ on := 10, ground := Go.Ground.data }, { on := 4, ground := Go.Ground.guard }], guard := Option.some (4, Bool.false) }) (v := ?_) rfl (by kernel_rfl) (by kernel_rfl) (by kernel_rfl) (fun _ _ _ h => h) (Or.inl ⟨by rfl, ?_⟩) (by assumption) ?_
        rotate_left
        · intro w hSw; (try dsimp only at hSw); go_simp; all_goals (with_reducible rfl)
        try simp only [Act.put, List.setIfInBounds_toArray, List.set_cons_zero, List.set_cons_succ]
        refine wpAnyH_ready (rs := [8]) (by kernel_rfl) (by simp) ?_
        refine AllReadyH.cons (o := { dst := Option.some 140, op := Go.Op.call { callee := Go.Callee.value (Go.Operand.func 20), args := #[Go.Operand.tmp 139], argTypes := #[58] }, type := 41, pos := "law.go:109", after := #[{ on := 7, ground := Go.Ground.data }, { on := 4, ground := Go.Ground.chain }, { on := 4, ground := Go.Ground.guard }], guard := Option.some (4, Bool.false) }) rfl (fun K hK => ?_) AllReadyH.nil
        go_simp
        refine (Dk.bytes_any (B := w.heap.size) (g := g) (d := d5) (r := r) (v := v5) (xs := ys5) _ hHeld.1.lg.disk).mono ?_
        rintro e w8 ⟨u2, rfl, hown8, hb8⟩
        obtain ⟨ua2, uc2, rfl, hui, _⟩ := owned_slice hown8 hHeld.1.lg.disk.byte
        have hcu := Fr.IsB.str hui uc2
        rw [← HT.out] at hcu
        have hF8 := Lib.hid (hHeld.1.below hb8)
        clear hown8 hb8 hui hHeld
        go_wp2_with fail
        refine hK.out _ _ (⟨hF8.out, hF8.out.cells⟩) (fun hHeld => ?_)
        clear hK K
        try simp only [Act.put, List.setIfInBounds_toArray, List.set_cons_zero, List.set_cons_succ]
        refine wpAnyH_ready (rs := [9]) (by kernel_rfl) (by simp) ?_
        refine AllReadyH.cons (o := { dst := Option.some 141, op := Go.Op.convert 41 9 (Go.Operand.tmp 140), type := 9, pos := "law.go:109", after := #[{ on := 8, ground := Go.Ground.data }, { on := 4, ground := Go.Ground.guard }], guard := Option.some (4, Bool.false) }) rfl (fun K hK => ?_) AllReadyH.nil
        go_simp
        refine hK.out _ _ (hHeld) (fun hHeld => ?_)
        clear hK K
        try simp only [Act.put, List.setIfInBounds_toArray, List.set_cons_zero, List.set_cons_succ]
        refine wpAnyH_take (i := 12) (oi := { dst := Option.some 144, op := Go.Op.binOp Go.BinOp.neq 9 (Go.Operand.tmp 141) (Go.Operand.tmp 143) 9, type := 4, pos := "law.go:109", after := #[{ on := 9, ground := Go.Ground.data }, { on := 11, ground := Go.Ground.data }, { on := 4, ground := Go.Ground.guard }], guard := Option.some (4, Bool.false) }) (v := ?_) rfl (by kernel_rfl) (by kernel_rfl) (by kernel_rfl) (fun _ _ _ h => h) (Or.inl ⟨by rfl, ?_⟩) (by assumption) ?_
        rotate_left
        · intro w hSw; (try dsimp only at hSw); go_simp; all_goals (with_reducible rfl)
        try simp only [Act.put, List.setIfInBounds_toArray, List.set_cons_zero, List.set_cons_succ]
        refine wpAnyH_take (i := 13) (oi := { dst := Option.some 145, op := Go.Op.pick (Go.Operand.tmp 136) (Go.Operand.const (Go.Value.bool Bool.true)) (Go.Operand.tmp 144), type := 4, pos := "law.go:109", after := #[{ on := 4, ground := Go.Ground.data }, { on := 12, ground := Go.Ground.data }], guard := Option.none }) (v := ?_) rfl (by kernel_rfl) (by kernel_rfl) (by kernel_rfl) (fun _ _ _ h => h) (Or.inl ⟨by rfl, ?_⟩) (by assumption) ?_
        rotate_left
        · intro w hSw; (try dsimp only at hSw); go_simp; all_goals (with_reducible rfl)
        try simp only [Act.put, List.setIfInBounds_toArray, List.set_cons_zero, List.set_cons_succ]
        refine wpAnyH_take (i := 14) (oi := { dst := Option.some 146, op := Go.Op.move (Go.Operand.tmp 145), type := 4, pos := "law.go:109", after := #[{ on := 13, ground := Go.Ground.data }, { on := 8, ground := Go.Ground.chain }], guard := Option.none }) (v := ?_) rfl (by kernel_rfl) (by kernel_rfl) (by kernel_rfl) (fun _ _ _ h => h) (Or.inl ⟨by rfl, ?_⟩) (by assumption) ?_
        rotate_left
        · intro w hSw; (try dsimp only at hSw); go_simp; all_goals (with_reducible rfl)
        try simp only [Act.put, List.setIfInBounds_toArray, List.set_cons_zero, List.set_cons_succ]
        refine wpAnyH_take (i := 15) (oi := { dst := Option.some 147, op := Go.Op.move (Go.Operand.tmp 5), type := 24, pos := "law.go:109", after := #[{ on := 14, ground := Go.Ground.guard }], guard := Option.some (14, Bool.false) }) (v := ?_) rfl (by kernel_rfl) (by kernel_rfl) (by kernel_rfl) (fun _ _ _ h => h) (Or.inl ⟨by rfl, ?_⟩) (by assumption) ?_
        rotate_left
        · intro w hSw; (try dsimp only at hSw); go_simp; all_goals (with_reducible rfl)
        try simp only [Act.put, List.setIfInBounds_toArray, List.set_cons_zero, List.set_cons_succ]
        refine wpAnyH_take (i := 16) (oi := { dst := Option.some 148, op := Go.Op.nilCheck (Go.Operand.tmp 147), type := 0, pos := "law.go:109", after := #[{ on := 15, ground := Go.Ground.data }, { on := 14, ground := Go.Ground.guard }], guard := Option.some (14, Bool.false) }) (v := ?_) rfl (by kernel_rfl) (by kernel_rfl) (by kernel_rfl) (fun _ _ _ h => h) (Or.inl ⟨by rfl, ?_⟩) (by assumption) ?_
        rotate_left
        · intro w hSw; (try dsimp only at hSw); go_simp; all_goals (with_reducible rfl)
        try simp only [Act.put, List.setIfInBounds_toArray, List.set_cons_zero, List.set_cons_succ]
        refine wpAnyH_take (i := 17) (oi := { dst := Option.some 149, op := Go.Op.fieldAddr 60 (Go.Operand.tmp 148) 0, type := 0, pos := "law.go:109", after := #[{ on := 16, ground := Go.Ground.data }, { on := 14, ground := Go.Ground.guard }], guard := Option.some (14, Bool.false) }) (v := ?_) rfl (by kernel_rfl) (by kernel_rfl) (by kernel_rfl) (fun _ _ _ h => h) (Or.inl ⟨by rfl, ?_⟩) (by assumption) ?_
        rotate_left
        · intro w hSw; (try dsimp only at hSw); go_simp; all_goals (with_reducible rfl)
        try simp only [Act.put, List.setIfInBounds_toArray, List.set_cons_zero, List.set_cons_succ]
        refine wpAnyH_take (i := 19) (oi := { dst := Option.some 151, op := Go.Op.fieldAddr 34 (Go.Operand.tmp 9) 1, type := 0, pos := "law.go:109", after := #[{ on := 14, ground := Go.Ground.guard }], guard := Option.some (14, Bool.false) }) (v := ?_) rfl (by kernel_rfl) (by kernel_rfl) (by kernel_rfl) (fun _ _ _ h => h) (Or.inl ⟨by rfl, ?_⟩) (by assumption) ?_
        rotate_left
        · intro w hSw; (try dsimp only at hSw); go_simp; all_goals (with_reducible rfl)
        try simp only [Act.put, List.setIfInBounds_toArray, List.set_cons_zero, List.set_cons_succ]
        refine wpAnyH_take (i := 20) (oi := { dst := Option.some 152, op := Go.Op.load 3 (Go.Operand.tmp 151), type := 3, pos := "law.go:109", after := #[{ on := 19, ground := Go.Ground.data }, { on := 14, ground := Go.Ground.guard }], guard := Option.some (14, Bool.false) }) (v := ?_) rfl (by kernel_rfl) (by kernel_rfl) (by kernel_rfl) (fun _ _ _ h => h) (Or.inl ⟨by rfl, ?_⟩) (by assumption) ?_
        rotate_left
        · intro w hSw; (try dsimp only at hSw); go_simp; all_goals (with_reducible rfl)
        try simp only [Act.put, List.setIfInBounds_toArray, List.set_cons_zero, List.set_cons_succ]
        refine wpAnyH_ready (rs := [18]) (by kernel_rfl) (by simp) ?_
        refine AllReadyH.cons (o := { dst := Option.some 150, op := Go.Op.call { callee := Go.Callee.value (Go.Operand.func 21), args := #[Go.Operand.tmp 149], argTypes := #[58] }, type := 3, pos := "law.go:109", after := #[{ on := 17, ground := Go.Ground.data }, { on := 14, ground := Go.Ground.chain }, { on := 14, ground := Go.Ground.guard }], guard := Option.some (14, Bool.false) }) rfl (fun K hK => ?_) AllReadyH.nil
        go_simp
        refine (Dk.durable_any (B := w.heap.size) (g := g) (d := d5) (r := r) (v := v5) (xs := ys5) _ hHeld.1.lg.disk).mono ?_
        rintro e w' ⟨rfl, rfl⟩
        go_wp2_with fail
        refine hK.out _ _ (hHeld) (fun hHeld => ?_)
        clear hK K
        try simp only [Act.put, List.setIfInBounds_toArray, List.set_cons_zero, List.set_cons_succ]
        refine wpAnyH_take (i := 21) (oi := { dst := Option.some 153, op := Go.Op.binOp Go.BinOp.neq 3 (Go.Operand.tmp 150) (Go.Operand.tmp 152) 3, type := 4, pos := "law.go:109", after := #[{ on := 18, ground := Go.Ground.data }, { on := 20, ground := Go.Ground.data }, { on := 14, ground := Go.Ground.guard }], guard := Option.some (14, Bool.false) }) (v := ?_) rfl (by kernel_rfl) (by kernel_rfl) (by kernel_rfl) (fun _ _ _ h => h) (Or.inl ⟨by rfl, ?_⟩) (by assumption) ?_
        rotate_left
        · intro w hSw; (try dsimp only at hSw); go_simp; all_goals (with_reducible rfl)
        try simp only [Act.put, List.setIfInBounds_toArray, List.set_cons_zero, List.set_cons_succ]
        refine wpAnyH_take (i := 22) (oi := { dst := Option.some 154, op := Go.Op.pick (Go.Operand.tmp 146) (Go.Operand.const (Go.Value.bool Bool.true)) (Go.Operand.tmp 153), type := 4, pos := "law.go:109", after := #[{ on := 14, ground := Go.Ground.data }, { on := 21, ground := Go.Ground.data }], guard := Option.none }) (v := ?_) rfl (by kernel_rfl) (by kernel_rfl) (by kernel_rfl) (fun _ _ _ h => h) (Or.inl ⟨by rfl, ?_⟩) (by assumption) ?_
        rotate_left
        · intro w hSw; (try dsimp only at hSw); go_simp; all_goals (with_reducible rfl)
        try simp only [Act.put, List.setIfInBounds_toArray, List.set_cons_zero, List.set_cons_succ]
        refine wpAnyH_take (i := 23) (oi := { dst := Option.some 155, op := Go.Op.move (Go.Operand.tmp 154), type := 4, pos := "law.go:109", after := #[{ on := 22, ground := Go.Ground.data }, { on := 18, ground := Go.Ground.chain }], guard := Option.none }) (v := ?_) rfl (by kernel_rfl) (by kernel_rfl) (by kernel_rfl) (fun _ _ _ h => h) (Or.inl ⟨by rfl, ?_⟩) (by assumption) ?_
        rotate_left
        · intro w hSw; (try dsimp only at hSw); go_simp; all_goals (with_reducible rfl)
        try simp only [Act.put, List.setIfInBounds_toArray, List.set_cons_zero, List.set_cons_succ]
        refine wpAnyH_take (i := 24) (oi := { dst := Option.some 156, op := Go.Op.move (Go.Operand.tmp 7), type := 29, pos := "law.go:109", after := #[{ on := 23, ground := Go.Ground.guard }], guard := Option.some (23, Bool.false) }) (v := ?_) rfl (by kernel_rfl) (by kernel_rfl) (by kernel_rfl) (fun _ _ _ h => h) (Or.inl ⟨by rfl, ?_⟩) (by assumption) ?_
        rotate_left
        · intro w hSw; (try dsimp only at hSw); go_simp; all_goals (with_reducible rfl)
        try simp only [Act.put, List.setIfInBounds_toArray, List.set_cons_zero, List.set_cons_succ]
        refine wpAnyH_take (i := 26) (oi := { dst := Option.some 158, op := Go.Op.fieldAddr 34 (Go.Operand.tmp 9) 2, type := 0, pos := "law.go:109", after := #[{ on := 23, ground := Go.Ground.guard }], guard := Option.some (23, Bool.false) }) (v := ?_) rfl (by kernel_rfl) (by kernel_rfl) (by kernel_rfl) (fun _ _ _ h => h) (Or.inl ⟨by rfl, ?_⟩) (by assumption) ?_
        rotate_left
        · intro w hSw; (try dsimp only at hSw); go_simp; all_goals (with_reducible rfl)
        try simp only [Act.put, List.setIfInBounds_toArray, List.set_cons_zero, List.set_cons_succ]
        refine wpAnyH_take (i := 27) (oi := { dst := Option.some 159, op := Go.Op.load 3 (Go.Operand.tmp 158), type := 3, pos := "law.go:109", after := #[{ on := 26, ground := Go.Ground.data }, { on := 23, ground := Go.Ground.guard }], guard := Option.some (23, Bool.false) }) (v := ?_) rfl (by kernel_rfl) (by kernel_rfl) (by kernel_rfl) (fun _ _ _ h => h) (Or.inl ⟨by rfl, ?_⟩) (by assumption) ?_
        rotate_left
        · intro w hSw; (try dsimp only at hSw); go_simp; all_goals (with_reducible rfl)
        try simp only [Act.put, List.setIfInBounds_toArray, List.set_cons_zero, List.set_cons_succ]
        refine wpAnyH_take (i := 28) (oi := { dst := Option.some 160, op := Go.Op.fieldAddr 34 (Go.Operand.tmp 9) 0, type := 0, pos := "law.go:109", after := #[{ on := 23, ground := Go.Ground.guard }], guard := Option.some (23, Bool.false) }) (v := ?_) rfl (by kernel_rfl) (by kernel_rfl) (by kernel_rfl) (fun _ _ _ h => h) (Or.inl ⟨by rfl, ?_⟩) (by assumption) ?_
        rotate_left
        · intro w hSw; (try dsimp only at hSw); go_simp; all_goals (with_reducible rfl)
        try simp only [Act.put, List.setIfInBounds_toArray, List.set_cons_zero, List.set_cons_succ]
        refine wpAnyH_take (i := 29) (oi := { dst := Option.some 161, op := Go.Op.load 9 (Go.Operand.tmp 160), type := 9, pos := "law.go:109", after := #[{ on := 28, ground := Go.Ground.data }, { on := 23, ground := Go.Ground.guard }], guard := Option.some (23, Bool.false) }) (v := ?_) rfl (by kernel_rfl) (by kernel_rfl) (by kernel_rfl) (fun _ _ _ h => h) (Or.inl ⟨by rfl, ?_⟩) (by assumption) ?_
        rotate_left
        · intro w hSw; (try dsimp only at hSw); go_simp; all_goals (with_reducible rfl)
        try simp only [Act.put, List.setIfInBounds_toArray, List.set_cons_zero, List.set_cons_succ]
        refine wpAnyH_take (i := 30) (oi := { dst := Option.some 162, op := Go.Op.call { callee := Go.Callee.builtin Go.Builtin.len, args := #[Go.Operand.tmp 161], argTypes := #[9] }, type := 3, pos := "law.go:109", after := #[{ on := 29, ground := Go.Ground.data }, { on := 23, ground := Go.Ground.guard }], guard := Option.some (23, Bool.false) }) (v := ?_) rfl (by kernel_rfl) (by kernel_rfl) (by kernel_rfl) (fun _ _ _ h => h) (Or.inl ⟨by rfl, ?_⟩) (by assumption) ?_
        rotate_left
        · intro w hSw; (try dsimp only at hSw); go_simp; all_goals (with_reducible rfl)
        try simp only [Act.put, List.setIfInBounds_toArray, List.set_cons_zero, List.set_cons_succ]
        refine wpAnyH_take (i := 31) (oi := { dst := Option.some 163, op := Go.Op.binOp Go.BinOp.sub 3 (Go.Operand.tmp 159) (Go.Operand.tmp 162) 3, type := 3, pos := "law.go:109", after := #[{ on := 27, ground := Go.Ground.data }, { on := 30, ground := Go.Ground.data }, { on := 23, ground := Go.Ground.guard }], guard := Option.some (23, Bool.false) }) (v := ?_) rfl (by kernel_rfl) (by kernel_rfl) (by kernel_rfl) (fun _ _ _ h => h) (Or.inl ⟨by rfl, ?_⟩) (by assumption) ?_
        rotate_left
        · intro w hSw; (try dsimp only at hSw); go_simp; all_goals (with_reducible rfl)
        try simp only [Act.put, List.setIfInBounds_toArray, List.set_cons_zero, List.set_cons_succ]
        refine wpAnyH_ready (rs := [25]) (by kernel_rfl) (by simp) ?_
        refine AllReadyH.cons (o := { dst := Option.some 157, op := Go.Op.call { callee := Go.Callee.value (Go.Operand.func 22), args := #[Go.Operand.tmp 156], argTypes := #[29] }, type := 3, pos := "law.go:109", after := #[{ on := 24, ground := Go.Ground.data }, { on := 23, ground := Go.Ground.chain }, { on := 23, ground := Go.Ground.guard }], guard := Option.some (23, Bool.false) }) rfl (fun K hK => ?_) AllReadyH.nil
        go_simp
        refine (lleft_any w.heap.size gl5 g v5 ys5 d5 r k5 _ hHeld.1.lg).mono ?_
        rintro e w' ⟨rfl, qd, rfl⟩
        rw [HL2.out]
        have hF9 := Lib.hid (hHeld.1.below (below_drewN _ qd))
        clear hHeld
        go_wp2_with fail
        refine hK.out _ _ (⟨hF9.out, hF9.out.cells⟩) (fun hHeld => ?_)
        clear hK K
        try simp only [Act.put, List.setIfInBounds_toArray, List.set_cons_zero, List.set_cons_succ]
        refine wpAnyH_take (i := 32) (oi := { dst := Option.some 164, op := Go.Op.binOp Go.BinOp.neq 3 (Go.Operand.tmp 157) (Go.Operand.tmp 163) 3, type := 4, pos := "law.go:109", after := #[{ on := 25, ground := Go.Ground.data }, { on := 31, ground := Go.Ground.data }, { on := 23, ground := Go.Ground.guard }], guard := Option.some (23, Bool.false) }) (v := ?_) rfl (by kernel_rfl) (by kernel_rfl) (by kernel_rfl) (fun _ _ _ h => h) (Or.inl ⟨by rfl, ?_⟩) (by assumption) ?_
        rotate_left
        · intro w hSw; (try dsimp only at hSw); go_simp; all_goals (with_reducible rfl)
        try simp only [Act.put, List.setIfInBounds_toArray, List.set_cons_zero, List.set_cons_succ]
        refine wpAnyH_take (i := 33) (oi := { dst := Option.some 165, op := Go.Op.pick (Go.Operand.tmp 155) (Go.Operand.const (Go.Value.bool Bool.true)) (Go.Operand.tmp 164), type := 4, pos := "law.go:109", after := #[{ on := 23, ground := Go.Ground.data }, { on := 32, ground := Go.Ground.data }], guard := Option.none }) (v := ?_) rfl (by kernel_rfl) (by kernel_rfl) (by kernel_rfl) (fun _ _ _ h => h) (Or.inl ⟨by rfl, ?_⟩) (by assumption) ?_
        rotate_left
        · intro w hSw; (try dsimp only at hSw); go_simp; all_goals (with_reducible rfl)
        try simp only [Act.put, List.setIfInBounds_toArray, List.set_cons_zero, List.set_cons_succ]
        refine wpAnyH_done (by kernel_rfl) ?_ _
        have HF := Lib.hid hHeld.1
        clear hHeld
        go_wp2
        go_roundw
        case rel => exact ⟨i + 1, by omega, by go_num, gl5, v5, ys5, d5, k5, T, rfl, rfl, HT.out, HF.out⟩
        case measure => simp [intOf]; omega
    · have HPF := Lib.hid HP.out.b
      go_wp2
      go_ret
      exact ⟨rfl, HPF.out⟩
theorem plays_walk (r : Int) (a : Option Addr) (n cp : Nat) (w : World) (hx : OpsP w a n) (hn : n ≤ 140737488351232) :
    Calls Try.prog 3 #[.int .i64 r, .slice a n cp] w fun e w' => e = .returned (.bool true) ∧ Below w.heap.size w w' := by
  by_cases hr : r < 0 ∨ 1048576 < r
  · exact plays_bad r a n cp w hr
  · obtain ⟨m, rfl⟩ : ∃ m : Nat, r = (m : Int) := ⟨r.toNat, by omega⟩
    exact plays_good m a n cp w (by omega) hx hn
end Go.Proofs.Yteodldmbnghfcaa.Rl
