/- A coordinator is opened. -/
import Derived.Test.YtkailiifgdjgmaaGreatWc
namespace Go.Proofs.YtkailiifgdjgmaaGreat
open Go.RowKit
open Go.Maps (Keyed)

def co0 (node : Int) : Co := ⟨node, 0, 0, fun _ => none, [], fun _ => none, 0⟩
/-- What records come to. -/
def rep (node : Int) (ms : List MsgD) : Co := ms.foldl ctake (co0 node)
theorem rep_snoc (node : Int) (ms : List MsgD) (m : MsgD) : rep node (ms ++ [m]) = ctake (rep node ms) m := by unfold rep; rw [List.foldl_append]; rfl
theorem rep_few (node : Int) (ms : List MsgD) : (rep node ms).opened ≤ ms.length ∧ (rep node ms).com ≤ ms.length := by
  suffices g : ∀ (ms : List MsgD) (c : Co), (ms.foldl ctake c).opened ≤ c.opened + ms.length ∧ (ms.foldl ctake c).com ≤ c.com + ms.length by
    have h1 := g ms (co0 node)
    have h2 : (co0 node).opened = 0 ∧ (co0 node).com = 0 := ⟨rfl, rfl⟩
    unfold rep
    omega
  intro ms
  induction ms with
  | nil => intro c; exact ⟨Nat.le_refl _, Nat.le_refl _⟩
  | cons m ms ih =>
    intro c
    have h1 := ih (ctake c m)
    have h2 := ctake_few c m
    rw [List.foldl_cons, List.length_cons]
    omega
theorem ctake_node (c : Co) (m : MsgD) : (ctake c m).node = c.node ∧ (ctake c m).begun = c.begun := by
  unfold ctake
  split
  · exact ⟨rfl, rfl⟩
  · split
    · exact ⟨rfl, rfl⟩
    · split <;> exact ⟨rfl, rfl⟩
theorem ctake_boot (c : Co) (m : MsgD) (h : m.kind = 5) : ctake c m = { c with opened := c.opened + 1 } := by unfold ctake; rw [if_pos h]
/-- The record that a coordinator was opened. -/
def bootM (c : Co) : MsgD := oC 5 ((c.opened : Int) + 1) 0 []
theorem bell_alloc {w W : World} (h : Below w.heap.size w W) (o : Obj) : Below w.heap.size w (W.alloc o) := h.alloc h.size o
section
variable {w w' : World} {B gc gl b1 b2 b3 g r : Nat} {v : Value} {c : Co} {ms : List MsgD}
theorem CoAt.made (w : World) (gl : Nat) {node : Int} (hn : isN node) : CoAt ((((w.alloc (.map #[] 0)).alloc (.map #[] 0)).alloc (.map #[] 0)).alloc (.cells #[.pointer (some ⟨gl, 0, none⟩), .int .i64 node, .int .i64 0, .int .i64 0, .map (some w.heap.size), .map (some (w.heap.size + 1)), .map (some (w.heap.size + 2)), .int .i64 0] 83)) w.heap.size (w.heap.size + 3) gl w.heap.size (w.heap.size + 1) (w.heap.size + 2) (co0 node) := by
  have s1 : (w.alloc (.map #[] 0)).heap.size = w.heap.size + 1 := by simp
  have s2 : ((w.alloc (.map #[] 0)).alloc (.map #[] 0)).heap.size = w.heap.size + 2 := by simp
  have s3 : (((w.alloc (.map #[] 0)).alloc (.map #[] 0)).alloc (.map #[] 0)).heap.size = w.heap.size + 3 := by simp
  have h1 := heap_alloc_new (((w.alloc (.map #[] 0)).alloc (.map #[] 0)).alloc (.map #[] 0)) (.cells #[.pointer (some ⟨gl, 0, none⟩), .int .i64 node, .int .i64 0, .int .i64 0, .map (some w.heap.size), .map (some (w.heap.size + 1)), .map (some (w.heap.size + 2)), .int .i64 0] 83)
  rw [s3] at h1
  have m1 := MapAt.made w Tryz.prog 2
  have m2 := MapAt.made (w.alloc (.map #[] 0)) Tryz.prog 2
  have m3 := MapAt.made ((w.alloc (.map #[] 0)).alloc (.map #[] 0)) Tryz.prog 2
  rw [s1] at m2
  rw [s2] at m3
  refine ⟨h1, ⟨_, 0, ((m1.below (below_alloc _ _)).below (below_alloc _ _)).below (below_alloc _ _), Nat.le_refl _, fun k _ => rfl⟩, ⟨_, (m2.below (below_alloc _ _)).below (below_alloc _ _), fun k _ => rfl⟩, ⟨_, 0, m3.below (below_alloc _ _), Nat.le_refl _, fun k _ => rfl⟩, ?_, by omega, by omega⟩
  exact ⟨hn, by simp [co0], by simp [co0], by simp [co0], by simp [co0], by simp [co0], by simp [co0], by simp [co0], by simp [co0], by simp [co0]⟩
theorem rep_take_succ (node : Int) {i : Nat} {m : MsgD} (h : ms[i]? = some m) : rep node (ms.take (i + 1)) = ctake (rep node (ms.take i)) m := by
  rw [List.take_succ_eq_append_getElem (List.getElem?_eq_some_iff.1 h).1, rep_snoc, (List.getElem?_eq_some_iff.1 h).2]
/-- How far the records are read. -/
def StO (w wr : World) (gc gl b1 b2 b3 : Nat) (c : Co) : Prop := CoAt wr w.heap.size gc gl b1 b2 b3 c ∧ Below w.heap.size w wr
/-- The disk's blocks. -/
def DB (g : Nat) (v : Value) (k : Nat) : Prop := k = g ∨ v.ownBlock = some k
def LB (gl g : Nat) (v : Value) (k : Nat) : Prop := k = gl ∨ k = g ∨ v.ownBlock = some k
/-- What Open comes to. -/
def CoR (w : World) (B gl g : Nat) (v : Value) (node : Int) (ms : List MsgD) (r : Nat) (e : Ending) (w' : World) : Prop :=
  ((cat ms).length + (rcd (bootM (rep node ms))).length ≤ r ∧ ∃ gc b1 b2 b3 v', e = .returned (.tuple #[.pointer (some ⟨gc, 0, none⟩), .int .i64 0]) ∧ CS w' B gc gl b1 b2 b3 g v' (ctake (rep node ms) (bootM (rep node ms))) (ms ++ [bootM (rep node ms)]) r ∧ Chg w w' (LB gl g v) ∧ w.heap.size ≤ b1 ∧ w.heap.size ≤ b2 ∧ w.heap.size ≤ b3) ∨
    (r < (cat ms).length + (rcd (bootM (rep node ms))).length ∧ e = .returned (.tuple #[.pointer none, .int .i64 3]) ∧ Ls w' B gl g v ms (cat ms).length r ∧ Chg w w' (LB gl g v))
set_option maxRecDepth 100000 in
theorem copen_bad (w : World) (gl : Nat) (a : Option Addr) (n cp : Nat) (node : Int) (hn : ¬ isN node) :
    Calls Tryz.prog 23 #[.pointer (some ⟨gl, 0, none⟩), .int .i64 node, .slice a n cp] w fun e w' => e = .returned (.tuple #[.pointer none, .int .i64 1]) ∧ w' = w := by
  have hnn := noNode_any w node
  rw [decide_eq_false hn] at hnn
  go_enter Tryz.func23, Tryz.ntmps23
  go_wp2_with (go_at_call 25; refine hnn.mono ?_; rintro e w9 ⟨rfl, hw9⟩; rw [hw9]; clear hw9 w9)
  go_ret2
  exact ⟨rfl, rfl⟩
theorem CoAt.ofMade (h : CoAt w' w.heap.size gc gl b1 b2 b3 c) (hb : Below w.heap.size w w') (hl : Ls w B gl g v ms (cat ms).length r) (hf : ∀ m ∈ ms, m.fine) (hfew : c.opened ≤ ms.length ∧ c.com ≤ ms.length) (hB : B ≤ w.heap.size) : CS w' B gc gl b1 b2 b3 g v c ms r :=
  ⟨Lg.keep hl hb, h.lower hB, hf, hfew⟩
set_option maxRecDepth 100000 in
set_option maxHeartbeats 16000000 in
theorem copen_good (w : World) (hl : Ls w B gl g v ms (cat ms).length r) (hf : ∀ m ∈ ms, m.fine) (hB : B ≤ w.heap.size) (a : Option Addr) (n cp : Nat) (hx : MsgsIn w a n ms) (node : Int) (hn : isN node) :
    Calls Tryz.prog 23 #[.pointer (some ⟨gl, 0, none⟩), .int .i64 node, .slice a n cp] w (CoR w B gl g v node ms r) := by
  have HX := Lib.hid hx
  have HN := Lib.hid (show n = ms.length from hx.1.symm)
  have HSM := Lib.hid (show ms.length ≤ 52428 by have := Ls.small hl; omega)
  have HMD := Lib.hid (CoAt.made w gl hn)
  have hmm := @run_makeMap Tryz.prog
  have hnn := noNode_any w node
  rw [decide_eq_true hn] at hnn
  have HFW := Lib.hid (fun i => rep_few node (ms.take i))
  have HLG := Lib.hid hl
  have HFI := Lib.hid hf
  have HBB := Lib.hid hB
  clear hx hl hf hB
  go_enter Tryz.func23, Tryz.ntmps23
  go_upto_region 3 with (go_at_call 25; refine hnn.mono ?_; rintro e w9 ⟨rfl, hw9⟩; rw [hw9]; clear hw9 w9)
  go_upto_region 4 with fail
  obtain ⟨W0, hW0⟩ : ∃ W0, W0 = (((w.alloc (.map #[] 0)).alloc (.map #[] 0)).alloc (.map #[] 0)).alloc (.cells #[.pointer (some ⟨gl, 0, none⟩), .int .i64 node, .int .i64 0, .int .i64 0, .map (some w.heap.size), .map (some (w.heap.size + 1)), .map (some (w.heap.size + 2)), .int .i64 0] 83) := ⟨_, rfl⟩
  have HS0 := Lib.hid (show StO w W0 (w.heap.size + 3) gl w.heap.size (w.heap.size + 1) (w.heap.size + 2) (co0 node) from ⟨by rw [hW0]; exact HMD.out, by rw [hW0]; exact bell_alloc (bell_alloc (bell_alloc (below_alloc w _) _) _) _⟩)
  try rw [← hW0]
  clear hW0
  go_wp2_with fail
  go_loopw [23] (fun iv wr => ∃ i : Nat, i ≤ n ∧ iv = .int .i64 i ∧ StO w wr (w.heap.size + 3) gl w.heap.size (w.heap.size + 1) (w.heap.size + 2) (rep node (ms.take i))) (fun iv _ => n - (intOf iv).toNat)
  case atStart => exact ⟨0, by omega, rfl, HS0.out⟩
  case round =>
    obtain ⟨i, hin, rfl, hst⟩ := hrel
    have HST := Lib.hid hst
    clear hst
    by_cases hil : i < n
    · as_aux_lemma =>
        obtain ⟨b, off, rfl, hbl, hcc⟩ := HX.out.2.resolve_left (by omega)
        obtain ⟨m, hmi⟩ := get_some HX.out.1 hil
        have HTS := Lib.hid (rep_take_succ node hmi)
        obtain ⟨s8, s9, s10, s11, hbx, hmin⟩ := (hcc i m hmi)
        obtain ⟨q0, q1, q2, q3, q4, q5, q6, q7, q8, q9, q10, q11⟩ := hbx
        have p0 := (HST.out.2.cell (p := ⟨b, off + i * 12, none⟩) hbl).trans q0
        have p1 := (HST.out.2.cell (p := ⟨b, off + i * 12 + 1, none⟩) hbl).trans q1
        have p2 := (HST.out.2.cell (p := ⟨b, off + i * 12 + 2, none⟩) hbl).trans q2
        have p3 := (HST.out.2.cell (p := ⟨b, off + i * 12 + 3, none⟩) hbl).trans q3
        have p4 := (HST.out.2.cell (p := ⟨b, off + i * 12 + 4, none⟩) hbl).trans q4
        have p5 := (HST.out.2.cell (p := ⟨b, off + i * 12 + 5, none⟩) hbl).trans q5
        have p6 := (HST.out.2.cell (p := ⟨b, off + i * 12 + 6, none⟩) hbl).trans q6
        have p7 := (HST.out.2.cell (p := ⟨b, off + i * 12 + 7, none⟩) hbl).trans q7
        have p8 := (HST.out.2.cell (p := ⟨b, off + i * 12 + 8, none⟩) hbl).trans q8
        have p9 := (HST.out.2.cell (p := ⟨b, off + i * 12 + 9, none⟩) hbl).trans q9
        have p10 := (HST.out.2.cell (p := ⟨b, off + i * 12 + 10, none⟩) hbl).trans q10
        have p11 := (HST.out.2.cell (p := ⟨b, off + i * 12 + 11, none⟩) hbl).trans q11
        have HMB := Lib.hid (fun w' (hb : Below w.heap.size w w') => (show MsgB w' w.heap.size (.agg #[.int .i64 m.kind, .int .i64 m.from_, .int .i64 m.«to», .int .i64 m.id, .int .i64 m.rev, .int .i64 m.epoch, .int .i64 m.slot, .bool m.flag, s8, s9, s10, s11]) m from MsgB.below hmin hb))
        have hshape : ∃ a8 n8 c8 a9 n9 c9 a10 n10 c10 a11 n11 c11, s8 = .slice a8 n8 c8 ∧ s9 = .slice a9 n9 c9 ∧ s10 = .slice a10 n10 c10 ∧ s11 = .slice a11 n11 c11 := by
          obtain ⟨na, ma, pa, ra, nn, nc, mn, mc, pn, pc, rn, rc, h⟩ := hmin
          have hv := h.val
          injection hv with hv
          injection hv with hv
          simp only [List.cons.injEq, and_true] at hv
          obtain ⟨_, _, _, _, _, _, _, _, rfl, rfl, rfl, rfl⟩ := hv
          exact ⟨_, _, _, _, _, _, _, _, _, _, _, _, rfl, rfl, rfl, rfl⟩
        obtain ⟨a8, n8, c8, a9, n9, c9, a10, n10, c10, a11, n11, c11, rfl, rfl, rfl, rfl⟩ := hshape
        clear hcc hmi hmin q0 q1 q2 q3 q4 q5 q6 q7 q8 q9 q10 q11
        obtain ⟨X, hX, hwx, hbx⟩ := alloc_box wr #[.int .i64 m.kind, .int .i64 m.from_, .int .i64 m.«to», .int .i64 m.id, .int .i64 m.rev, .int .i64 m.epoch, .int .i64 m.slot, .bool m.flag, .slice a8 n8 c8, .slice a9 n9 c9, .slice a10 n10 c10, .slice a11 n11 c11]
        have hbX : Below w.heap.size w X := HST.out.2.trans (hbx.mono HST.out.2.size)
        have hfw := HFW.out i
        have hlt := List.length_take_le' i ms
        have HTK := Lib.hid (take_any X (.agg #[.int .i64 m.kind, .int .i64 m.from_, .int .i64 m.«to», .int .i64 m.id, .int .i64 m.rev, .int .i64 m.epoch, .int .i64 m.slot, .bool m.flag, .slice a8 n8 c8, .slice a9 n9 c9, .slice a10 n10 c10, .slice a11 n11 c11]) m ((HMB.out X hbX).msg hbX.size) (HST.out.1.below hbx) (by have := HSM.out; omega) (by have := HSM.out; omega))
        have HOX := Lib.hid (HST.out.1.below hbx)
        have HBX := Lib.hid hbX
        have hij : (0:Int) ≤ (i:Int) ∧ (i:Int) < (n:Int) := by omega
        have hn5 : n ≤ 52428 := by have h1 := HN.out; have h2 := HSM.out; omega
        clear hfw hlt
        go_upto_region 7 with fail
        rw [← hX]
        have k0 := hwx.cell 0
        have k1 := hwx.cell 1
        have k2 := hwx.cell 2
        have k3 := hwx.cell 3
        have k4 := hwx.cell 4
        have k5 := hwx.cell 5
        have k6 := hwx.cell 6
        have k7 := hwx.cell 7
        have k8 := hwx.cell 8
        have k9 := hwx.cell 9
        have k10 := hwx.cell 10
        have k11 := hwx.cell 11
        clear hX hwx hbx hbX p0 p1 p2 p3 p4 p5 p6 p7 p8 p9 p10 p11
        go_wp2_with fail
        refine HTK.out.mono ?_
        rintro e w4 ⟨rfl, hO4, hC4⟩
        have HS4 := Lib.hid (show StO w w4 (w.heap.size + 3) gl w.heap.size (w.heap.size + 1) (w.heap.size + 2) (rep node (ms.take (i + 1))) from ⟨by rw [HTS.out]; exact hO4, HBX.out.trans (hC4.below (fun k hk => HOX.out.geB hk) HBX.out.size)⟩)
        clear hO4 hC4
        go_wp2_with fail
        exact ⟨⟨i + 1, by omega, by go_num, HS4.out⟩, by simp [intOf]; omega⟩
    · as_aux_lemma =>
        obtain rfl : i = n := by omega
        have htk : ms.take i = ms := by rw [HN.out, List.take_length]
        rw [htk] at HST
        have hfw := rep_few node ms
        have hop := HSM.out
        have HCS := Lib.hid (CoAt.ofMade HST.out.1 HST.out.2 HLG.out HFI.out hfw HBB.out)
        obtain ⟨_, _, c2, _, _, _, _, _, _, _, _⟩ := HST.out.1.cells
        have HBE := Lib.hid HST.out.2
        have hbd : InI (((rep node ms).opened : Int) + 1) := ⟨by omega, by omega⟩
        have hadd : IntKind.i64.wrap (((rep node ms).opened : Int) + 1) = ((rep node ms).opened : Int) + 1 := i64_wrap hbd
        have hge : decide (((rep node ms).opened : Int) ≥ 65535) = false := decide_eq_false (by omega)
        have HF := Lib.hid (oc_fine (k := 5) (id := ((rep node ms).opened : Int) + 1) (rev := 0) (ns := []) ⟨by omega, by omega⟩ hbd ⟨by omega, by omega⟩ (by simp) (by simp))
        have HWR := Lib.hid (cwrite_any wr HCS.out HCS.out.geB _ (bootM (rep node ms)) HF.out (fun W w' _ _ => oc_none w' ⟨by omega, by omega⟩ hbd ⟨by omega, by omega⟩))
        have HEND := Lib.hid (show ∀ (k : Int) (w' : World), WrR wr B (w.heap.size + 3) gl w.heap.size (w.heap.size + 1) (w.heap.size + 2) g v (rep node ms) ms r (bootM (rep node ms)) k w' → (k = 0 ∧ CoR w B gl g v node ms r (.returned (.tuple #[.pointer (some ⟨w.heap.size + 3, 0, none⟩), .int .i64 0])) w') ∨ (k = 3 ∧ CoR w B gl g v node ms r (.returned (.tuple #[.pointer none, .int .i64 3])) w') from by
          have hnew : ∀ w', Chg wr w' (SB (w.heap.size + 3) gl w.heap.size (w.heap.size + 1) (w.heap.size + 2) g v) → Chg w w' (LB gl g v) := fun w' hc => ⟨hc.os.trans HBE.out.os, hc.tape.trans HBE.out.tape, hc.output.trans HBE.out.output, Nat.le_trans HBE.out.size hc.size, fun k hk hn => (hc.block k (Nat.lt_of_lt_of_le hk HBE.out.size) (by
            rintro (h1 | h1 | h1 | h1 | h1 | h1 | h1)
            · exact hn (.inl h1)
            · exact hn (.inr (.inl h1))
            · exact hn (.inr (.inr h1))
            · omega
            · omega
            · omega
            · omega)).trans (HBE.out.block k hk)⟩
          rintro k w' (⟨rfl, h1, v', h2, h3⟩ | ⟨rfl, h1, h2, h3⟩)
          · exact .inl ⟨rfl, .inl ⟨h1, _, _, _, _, v', rfl, h2, hnew _ h3, Nat.le_refl _, by omega, by omega⟩⟩
          · exact .inr ⟨rfl, .inr ⟨h1, rfl, h2.log, (Chg.ofBelow _ HBE.out).trans (Chg.ofBelow _ (h3.mono HBE.out.size |> fun h => ⟨h.os, h.tape, h.output, h3.size, fun k hk => h3.block k hk⟩))⟩⟩)
        clear hfw hop hbd htk HF HCS
        generalize rep node ms = c0 at *
        go_upto_region 11 with fail
        go_wp2_with fail
        refine HWR.out.mono ?_
        rintro e w4 ⟨k, rfl, hc⟩
        rcases HEND.out k w4 hc with ⟨rfl, he⟩ | ⟨rfl, he⟩
        · have HE := Lib.hid he
          clear hc he
          go_wp2
          go_ret2
          exact HE.out
        · have HE := Lib.hid he
          clear hc he
          go_wp2
          go_ret2
          exact HE.out
end
end Go.Proofs.YtkailiifgdjgmaaGreat
