/- A controller of moves that is opened. A controller of moves on a disk: opened, a crash. A controller of moves: a table compared with itself; the move under way. -/
import Derived.Test.YtbmmgmdjhhnkfaaVc
import Derived.Laws.StructEq
namespace Go.Proofs.Ytbmmgmdjhhnkfaa
open Go.RowKit

/-- A controller in the beginning. -/
def mv0 (e : Int) (o : List Int) : Mv := { e := e, o := o, ver := 0, st := 0, kd := 0, fr := 0, tw := 0, id := 0, sl := 0, ra := none, rn := 0, rc := 0, e2 := 0, o2 := noOwn }
/-- What records come to. -/
def rep (e : Int) (o : List Int) (ms : List MsgD) : Mv := ms.foldl mtake (mv0 e o)
theorem rep_snoc (e : Int) (o : List Int) (ms : List MsgD) (m : MsgD) : rep e o (ms ++ [m]) = mtake (rep e o ms) m := by unfold rep; rw [List.foldl_append]; rfl
theorem rep_take_succ (e : Int) (o : List Int) {ms : List MsgD} {i : Nat} {m : MsgD} (h : ms[i]? = some m) : rep e o (ms.take (i + 1)) = mtake (rep e o (ms.take i)) m := by
  have hi := (List.getElem?_eq_some_iff.1 h).1
  have hm := (List.getElem?_eq_some_iff.1 h).2
  rw [List.take_succ_eq_append_getElem hi, hm, rep_snoc]
def DB (g : Nat) (v : Value) (k : Nat) : Prop := k = g ∨ v.ownBlock = some k
def LB (gl g : Nat) (v : Value) (k : Nat) : Prop := k = gl ∨ k = g ∨ v.ownBlock = some k
/-- What Open comes to. -/
def OpnR (w : World) (B gl g : Nat) (v : Value) (e : Int) (o : List Int) (ms : List MsgD) (r : Nat) (x : Ending) (w' : World) : Prop :=
  ((rep e o ms).st = 0 ∧ ∃ gm, x = .returned (.tuple #[.pointer (some ⟨gm, 0, none⟩), .int .i64 0]) ∧ MS w' B gm gl g v (rep e o ms) ms r ∧ Chg w w' (LB gl g v) ∧ w.heap.size ≤ gm) ∨
    ((rep e o ms).st ≠ 0 ∧ (cat ms).length + (rcd (mM 13 0 0 (rep e o ms).id 0)).length ≤ r ∧ ∃ gm v', x = .returned (.tuple #[.pointer (some ⟨gm, 0, none⟩), .int .i64 0]) ∧ MS w' B gm gl g v' (mtake (rep e o ms) (mM 13 0 0 (rep e o ms).id 0)) (ms ++ [mM 13 0 0 (rep e o ms).id 0]) r ∧ Chg w w' (LB gl g v) ∧ w.heap.size ≤ gm) ∨
    ((rep e o ms).st ≠ 0 ∧ r < (cat ms).length + (rcd (mM 13 0 0 (rep e o ms).id 0)).length ∧ x = .returned (.tuple #[.pointer none, .int .i64 3]) ∧ Ls w' B gl g v ms (cat ms).length r ∧ Chg w w' (LB gl g v))
theorem MvAt.made (w : World) (gl : Nat) {e : Int} {o : List Int} (ho : o.length = 16) : MvAt (w.alloc (.cells (mvL gl (mv0 e o)).toArray 89)) w.heap.size w.heap.size gl (mv0 e o) :=
  ⟨heap_alloc_new _ _, ho, rfl, Nat.le_refl _⟩
/-- The ids of records. -/
theorem rep_id (e : Int) (o : List Int) {ms : List MsgD} (hf : ∀ m ∈ ms, m.fine) : InI (rep e o ms).id := by
  have key : ∀ (ms : List MsgD) (M : Mv), (∀ m ∈ ms, m.fine) → InI M.id → InI (ms.foldl mtake M).id := by
    intro ms
    induction ms with
    | nil => exact fun M _ h => h
    | cons m ms ih =>
      intro M hf h
      refine ih (mtake M m) (fun x hx => hf x (List.mem_cons_of_mem _ hx)) ?_
      unfold mtake
      split
      · exact (hf m (List.mem_cons_self ..)).2.id
      · split
        · exact ini0
        · split
          · exact ini0
          · exact h
  exact key ms _ hf ini0
/-- SECOND -/
theorem Try.zeroTabL : (tL 0 noOwn) = [Value.int .i64 0, Value.int .i64 0, Value.int .i64 0, Value.int .i64 0, Value.int .i64 0, Value.int .i64 0, Value.int .i64 0, Value.int .i64 0, Value.int .i64 0, Value.int .i64 0, Value.int .i64 0, Value.int .i64 0, Value.int .i64 0, Value.int .i64 0, Value.int .i64 0, Value.int .i64 0, Value.int .i64 0] := rfl
def StO (w wr : World) (gm gl : Nat) (M : Mv) : Prop := MvAt wr w.heap.size gm gl M ∧ Below w.heap.size w wr
section
variable {w w' : World} {B gm gl g r : Nat} {v : Value} {M : Mv} {ms : List MsgD}
set_option maxRecDepth 100000 in
set_option maxHeartbeats 16000000 in
theorem mopen_any (w : World) (hl : Ls w B gl g v ms (cat ms).length r) (hf : ∀ m ∈ ms, m.fine) (hB : B ≤ w.heap.size) (a : Option Addr) (n cp : Nat) (hx : MsgsIn w a n ms) :
    Calls Try.prog 30 #[.pointer (some ⟨gl, 0, none⟩), .agg (tcs 0 noOwn), .slice a n cp] w (OpnR w B gl g v 0 noOwn ms r) := by
  have HX := Lib.hid hx
  have HN := Lib.hid (show n = ms.length from hx.1.symm)
  have HSM := Lib.hid (show ms.length ≤ 52428 by have := Ls.small hl; omega)
  have HID := Lib.hid (rep_id 0 noOwn hf)
  have HLG := Lib.hid hl
  have HFI := Lib.hid hf
  have HBB := Lib.hid hB
  clear hx hl hf hB
  obtain ⟨W1, hW1, hw1, hb1⟩ := box_new w 24 (tcs 0 noOwn)
  have HR1 := Lib.hid (show W1.rangeAt w.heap.size 0 [Value.int .i64 0, Value.int .i64 0, Value.int .i64 0, Value.int .i64 0, Value.int .i64 0, Value.int .i64 0, Value.int .i64 0, Value.int .i64 0, Value.int .i64 0, Value.int .i64 0, Value.int .i64 0, Value.int .i64 0, Value.int .i64 0, Value.int .i64 0, Value.int .i64 0, Value.int .i64 0, Value.int .i64 0] from whole_all_range hw1)
  have HI := Lib.hid (show (Try.prog.info? 24).map (·.size) = some ([Value.int .i64 0, Value.int .i64 0, Value.int .i64 0, Value.int .i64 0, Value.int .i64 0, Value.int .i64 0, Value.int .i64 0, Value.int .i64 0, Value.int .i64 0, Value.int .i64 0, Value.int .i64 0, Value.int .i64 0, Value.int .i64 0, Value.int .i64 0, Value.int .i64 0, Value.int .i64 0, Value.int .i64 0] : List Value).length from Try.infoT)
  have hck := check_any 8 W1 noOwn_tab
  rw [show Mt.check 0 noOwn 8 = 0 by decide] at hck
  have HCK := Lib.hid hck
  have HB1 := Lib.hid hb1
  have HW1 := Lib.hid hw1
  rw [zero_tab] at hW1 HCK
  rw [zero_tab]
  clear hw1 hb1 hck
  go_enter Try.func30, Try.ntmps30
  go_upto_region 1 with fail
  rw [← hW1]
  clear hW1
  go_wp2_with (refine wpList_load_mid rfl 24 (.tmp 4) rfl w.heap.size 0 rfl [Value.int .i64 0, Value.int .i64 0, Value.int .i64 0, Value.int .i64 0, Value.int .i64 0, Value.int .i64 0, Value.int .i64 0, Value.int .i64 0, Value.int .i64 0, Value.int .i64 0, Value.int .i64 0, Value.int .i64 0, Value.int .i64 0, Value.int .i64 0, Value.int .i64 0, Value.int .i64 0, Value.int .i64 0] _ HR1.out Try.underlying24 rfl HI.out ?_)
  refine HCK.out.mono ?_
  rintro e w2 ⟨rfl, hb2⟩
  have HR2 := Lib.hid (show w2.rangeAt w.heap.size 0 [Value.int .i64 0, Value.int .i64 0, Value.int .i64 0, Value.int .i64 0, Value.int .i64 0, Value.int .i64 0, Value.int .i64 0, Value.int .i64 0, Value.int .i64 0, Value.int .i64 0, Value.int .i64 0, Value.int .i64 0, Value.int .i64 0, Value.int .i64 0, Value.int .i64 0, Value.int .i64 0, Value.int .i64 0] from whole_all_range (HW1.out.kept (hb2.block _ HW1.out.lt)))
  have HB2 := Lib.hid (bell_up HB1.out hb2)
  have HLT := Lib.hid (show w.heap.size < w2.heap.size from Nat.lt_of_lt_of_le HW1.out.lt hb2.size)
  clear hb2 HCK HR1
  go_upto_region 4 with (refine wpList_load_mid rfl 24 (.tmp 4) rfl w.heap.size 0 rfl [Value.int .i64 0, Value.int .i64 0, Value.int .i64 0, Value.int .i64 0, Value.int .i64 0, Value.int .i64 0, Value.int .i64 0, Value.int .i64 0, Value.int .i64 0, Value.int .i64 0, Value.int .i64 0, Value.int .i64 0, Value.int .i64 0, Value.int .i64 0, Value.int .i64 0, Value.int .i64 0, Value.int .i64 0] _ HR2.out Try.underlying24 rfl HI.out ?_)
  obtain ⟨W0, hW0⟩ : ∃ W0, W0 = w2.alloc (.cells #[.pointer (some ⟨gl, 0, none⟩), .int .i64 0, .int .i64 0, .int .i64 0, .int .i64 0, .int .i64 0, .int .i64 0, .int .i64 0, .int .i64 0, .int .i64 0, .int .i64 0, .int .i64 0, .int .i64 0, .int .i64 0, .int .i64 0, .int .i64 0, .int .i64 0, .int .i64 0, .int .i64 0, .int .i64 0, .int .i64 0, .int .i64 0, .int .i64 0, .int .i64 0, .int .i64 0, .int .i64 0, .int .i64 0, .bool false, .slice none 0 0, .slice none 0 0, .slice none 0 0, .slice none 0 0, .int .i64 0, .int .i64 0, .int .i64 0, .int .i64 0, .int .i64 0, .int .i64 0, .int .i64 0, .int .i64 0, .int .i64 0, .int .i64 0, .int .i64 0, .int .i64 0, .int .i64 0, .int .i64 0, .int .i64 0, .int .i64 0, .int .i64 0] 89) := ⟨_, rfl⟩
  have HS0 := Lib.hid (show StO w W0 w2.heap.size gl (mv0 0 noOwn) from ⟨by rw [hW0]; exact (MvAt.made w2 gl (e := 0) (o := noOwn) rfl).lower HB2.out.size, by rw [hW0]; exact bell_up HB2.out (below_alloc w2 _)⟩)
  rw [← hW0]
  clear hW0
  generalize w2.heap.size = gm at *
  go_wp2_with fail
  go_loopw [21] (fun iv wr => ∃ i : Nat, i ≤ n ∧ iv = .int .i64 i ∧ StO w wr gm gl (rep 0 noOwn (ms.take i))) (fun iv _ => n - (intOf iv).toNat)
  case atStart => exact ⟨0, by omega, rfl, HS0.out⟩
  case round =>
    obtain ⟨i, hin, rfl, hst⟩ := hrel
    have HST := Lib.hid hst
    clear hst
    by_cases hil : i < n
    · as_aux_lemma =>
        obtain ⟨b, off, rfl, hbl, hcc⟩ := HX.out.2.resolve_left (by omega)
        obtain ⟨m, hmi⟩ := get_some HX.out.1 hil
        have HTS := Lib.hid (rep_take_succ 0 noOwn hmi)
        obtain ⟨s8, s9, s10, s11, hbx, hmin⟩ := (hcc i m hmi)
        obtain ⟨q0, q1, q2, q3, q4, q5, q6, q7, q8, q9, q10, q11⟩ := hbx
        have p0 := (HST.out.2.cell (p := ⟨b, off + i * 12, none⟩) hbl).trans q0
        have p1 := (HST.out.2.cell (p := ⟨b, off + i * 12 + 1, none⟩) hbl).trans q1
        have p2 := (HST.out.2.cell (p := ⟨b, off + i * 12 + 2, none⟩) hbl).trans q2
        have p3 := (HST.out.2.cell (p := ⟨b, off + i * 12 + 3, none⟩) hbl).trans q3
        have p4 := (HST.out.2.cell (p := ⟨b, off + i * 12 + 4, none⟩) hbl).trans q4
        have p5 := (HST.out.2.cell (p := ⟨b, off + i * 12 + 5, none⟩) hbl).trans q5
        have p6 := (HST.out.2.cell (p := ⟨b, off + i * 12 + 6, none⟩) hbl).trans q6
        have p7 := (HST.out.2.cell (p := ⟨b, off + i * 12 + 7, none⟩) hbl).trans q7
        have p8 := (HST.out.2.cell (p := ⟨b, off + i * 12 + 8, none⟩) hbl).trans q8
        have p9 := (HST.out.2.cell (p := ⟨b, off + i * 12 + 9, none⟩) hbl).trans q9
        have p10 := (HST.out.2.cell (p := ⟨b, off + i * 12 + 10, none⟩) hbl).trans q10
        have p11 := (HST.out.2.cell (p := ⟨b, off + i * 12 + 11, none⟩) hbl).trans q11
        have hshape : ∃ a8 n8 c8 a9 n9 c9 a10 n10 c10 a11 n11 c11, s8 = .slice a8 n8 c8 ∧ s9 = .slice a9 n9 c9 ∧ s10 = .slice a10 n10 c10 ∧ s11 = .slice a11 n11 c11 := by
          obtain ⟨na, ma, pa, ra, nn, nc, mn, mc, pn, pc, rn, rc, h⟩ := hmin
          have hv := h.val
          injection hv with hv
          injection hv with hv
          simp only [List.cons.injEq, and_true] at hv
          obtain ⟨_, _, _, _, _, _, _, _, rfl, rfl, rfl, rfl⟩ := hv
          exact ⟨_, _, _, _, _, _, _, _, _, _, _, _, rfl, rfl, rfl, rfl⟩
        obtain ⟨a8, n8, c8, a9, n9, c9, a10, n10, c10, a11, n11, c11, rfl, rfl, rfl, rfl⟩ := hshape
        clear hcc hmi hmin q0 q1 q2 q3 q4 q5 q6 q7 q8 q9 q10 q11
        obtain ⟨X, hX, hwx, hbx⟩ := box_new wr 45 #[.int .i64 m.kind, .int .i64 m.from_, .int .i64 m.«to», .int .i64 m.id, .int .i64 m.rev, .int .i64 m.epoch, .int .i64 m.slot, .bool m.flag, .slice a8 n8 c8, .slice a9 n9 c9, .slice a10 n10 c10, .slice a11 n11 c11]
        have HTK := Lib.hid (mtake_any X m a8 a9 a10 a11 n8 c8 n9 c9 n10 c10 n11 c11 (HST.out.1.below hbx))
        have HBX := Lib.hid (HST.out.2.trans (hbx.mono HST.out.2.size))
        have hij : (0:Int) ≤ (i:Int) ∧ (i:Int) < (n:Int) := by omega
        have hn5 : n ≤ 52428 := by have h1 := HN.out; have h2 := HSM.out; omega
        go_upto_region 7 with fail
        rw [← hX]
        have k0 := hwx.cell 0
        have k1 := hwx.cell 1
        have k2 := hwx.cell 2
        have k3 := hwx.cell 3
        have k4 := hwx.cell 4
        have k5 := hwx.cell 5
        have k6 := hwx.cell 6
        have k7 := hwx.cell 7
        have k8 := hwx.cell 8
        have k9 := hwx.cell 9
        have k10 := hwx.cell 10
        have k11 := hwx.cell 11
        clear hX hwx hbx p0 p1 p2 p3 p4 p5 p6 p7 p8 p9 p10 p11
        go_wp2_with fail
        refine HTK.out.mono ?_
        rintro e w4 ⟨rfl, hO4, hC4⟩
        have HS4 := Lib.hid (show StO w w4 gm gl (rep 0 noOwn (ms.take (i + 1))) from ⟨by rw [HTS.out]; exact hO4, HBX.out.trans (hC4.below (fun k hk => by rw [hk]; exact hO4.ge) HBX.out.size)⟩)
        clear hO4 hC4
        go_wp2_with fail
        exact ⟨⟨i + 1, by omega, by go_num, HS4.out⟩, by simp [intOf]; omega⟩
    · as_aux_lemma =>
        obtain rfl : i = n := by omega
        have htk : ms.take i = ms := by rw [HN.out, List.take_length]
        rw [htk] at HST
        clear htk
        have HCS := Lib.hid (show MS wr B gm gl g v (rep 0 noOwn ms) ms r from ⟨Lg.keep HLG.out (HST.out.2), HST.out.1.lower HBB.out, HFI.out⟩)
        obtain ⟨_, c19, _⟩ := HST.out.1.two
        have HBE := Lib.hid HST.out.2
        have HGM := Lib.hid HST.out.1.ge
        have hnew : ∀ w', Chg wr w' (SB gm gl g v) → Chg w w' (LB gl g v) := fun w' hc => ⟨hc.os.trans HBE.out.os, hc.tape.trans HBE.out.tape, hc.output.trans HBE.out.output, Nat.le_trans HBE.out.size hc.size, fun k hk hn => (hc.block k (Nat.lt_of_lt_of_le hk HBE.out.size) (by
          rintro (h1 | h1 | h1 | h1)
          · exact hn (.inl h1)
          · exact hn (.inr (.inl h1))
          · exact hn (.inr (.inr h1))
          · have := HGM.out
            omega)).trans (HBE.out.block k hk)⟩
        have HNEW := Lib.hid hnew
        clear hnew
        by_cases h0 : (rep 0 noOwn ms).st = 0
        · rw [h0] at c19
          have HE := Lib.hid (show OpnR w B gl g v 0 noOwn ms r (.returned (.tuple #[.pointer (some ⟨gm, 0, none⟩), .int .i64 0])) wr from .inl ⟨h0, gm, rfl, HCS.out, Chg.ofBelow _ HBE.out, HGM.out⟩)
          clear h0
          generalize rep 0 noOwn ms = M0 at *
          go_wp2_with fail
          go_ret2
          exact HE.out
        · have HUN := Lib.hid (undo_any wr HCS.out h0 HID.out)
          have HEND := Lib.hid (show ∀ (k : Int) (w' : World), WrR wr B gm gl g v (rep 0 noOwn ms) ms r (mM 13 0 0 (rep 0 noOwn ms).id 0) k w' → (k = 0 ∧ OpnR w B gl g v 0 noOwn ms r (.returned (.tuple #[.pointer (some ⟨gm, 0, none⟩), .int .i64 0])) w') ∨ (k = 3 ∧ OpnR w B gl g v 0 noOwn ms r (.returned (.tuple #[.pointer none, .int .i64 3])) w') from by
            rintro k w' (⟨rfl, h1, v', h2, h3⟩ | ⟨rfl, h1, h2, h3⟩)
            · exact .inl ⟨rfl, .inr (.inl ⟨h0, h1, gm, v', rfl, h2, HNEW.out _ h3, HGM.out⟩)⟩
            · exact .inr ⟨rfl, .inr (.inr ⟨h0, h1, rfl, h2.log, HNEW.out _ (Chg.ofBelow _ h3)⟩)⟩)
          have f0 : ((rep 0 noOwn ms).st == 0) = false := by simpa using h0
          clear h0
          generalize rep 0 noOwn ms = M0 at *
          go_wp2_with fail
          refine HUN.out.mono ?_
          rintro e w4 ⟨k, rfl, hc⟩
          rcases HEND.out k w4 hc with ⟨rfl, he⟩ | ⟨rfl, he⟩
          · have HE := Lib.hid he
            clear he hc
            go_wp2_with fail
            go_ret2
            exact HE.out
          · have HE := Lib.hid he
            clear he hc
            go_wp2_with fail
            go_ret2
            exact HE.out
end
end Go.Proofs.Ytbmmgmdjhhnkfaa

namespace Go.Proofs.Ytbmmgmdjhhnkfaa
open Go.RowKit

section
variable {w w' : World} {B gm gl g r : Nat} {v : Value} {M : Mv} {ms : List MsgD}
theorem Turned.chg (h : Dk.Turned w w' g none) (P : Nat → Prop) (hg : P g) : Chg w w' P := ⟨h.os, h.tape, h.output, h.size, fun k hk hn => h.block k hk (fun e => hn (by rw [e]; exact hg)) (by simp)⟩
/-- That a move is undone. -/
def undoM (ms : List MsgD) : MsgD := mM 13 0 0 (rep 0 noOwn ms).id 0
/-- What opened comes to. -/
def OpdR (w : World) (B g : Nat) (v : Value) (ms : List MsgD) (r : Nat) (x : Ending) (w' : World) : Prop :=
  (∃ gm gl v' ms', x = .returned (.tuple #[.pointer (some ⟨gm, 0, none⟩), .int .i64 0]) ∧ MS w' B gm gl g v' (rep 0 noOwn ms') ms' r ∧ Chg w w' (DB g v) ∧ w.heap.size ≤ gm ∧ ((rep 0 noOwn ms).st = 0 ∧ ms' = ms ∨ (rep 0 noOwn ms).st ≠ 0 ∧ ms' = ms ++ [undoM ms])) ∨
    ((rep 0 noOwn ms).st ≠ 0 ∧ r < (cat ms).length + (rcd (undoM ms)).length ∧ x = .returned (.tuple #[.pointer none, .int .i64 3]) ∧ (∃ v', Dk.DAt w' B g v' (cat ms) (cat ms).length r) ∧ Chg w w' (DB g v))
set_option maxRecDepth 100000 in
set_option maxHeartbeats 4000000 in
theorem opened_any (w : World) (d : Nat) (h : Dk.DAt w B g v (cat ms) d r) (hf : ∀ m ∈ ms, m.fine) (hB : B ≤ w.heap.size) :
    Calls Try.prog 9 #[.pointer (some ⟨g, 0, none⟩), .agg (tcs 0 noOwn)] w (OpdR w B g v ms r) := by
  obtain ⟨X, hX, hw, hb⟩ := box_new w 24 (tcs 0 noOwn)
  have HL := Lib.hid (lopen_cat B g v ms d r X (h.below hb) hf)
  have HF := Lib.hid hf
  have HB := Lib.hid (Nat.le_trans hB hb.size)
  have hne : w.heap.size ≠ g := by have := (show Whole w g 72 _ from h.blk).lt; omega
  have HW := Lib.hid hw
  have HBX := Lib.hid hb
  rw [zero_tab] at hX
  clear h hf hB hw hb
  go_enter Try.func9, Try.ntmps9
  rw [zero_tab]
  go_upto_region 1 with fail
  rw [← hX]
  clear hX
  go_wp2_with fail
  refine HL.out.mono ?_
  rintro e w1 ⟨gl, ra, rc, v', rfl, h1, h2, h3, hls, h5, _, hms, ht⟩
  have HO := Lib.hid (mopen_any w1 hls HF.out (Nat.le_trans HB.out ht.size) ra ms.length rc hms)
  have HCH := Lib.hid (show ∀ w2, Chg w1 w2 (LB gl g v') → Chg w w2 (DB g v) from fun w2 hc => (Chg.ofBelow _ HBX.out).trans ⟨hc.os.trans ht.os, hc.tape.trans ht.tape, hc.output.trans ht.output, Nat.le_trans ht.size hc.size, fun k hk hn => (hc.block k (Nat.lt_of_lt_of_le hk ht.size) (by
    rintro (e | e | e)
    · omega
    · exact hn (.inl e)
    · exact hn (.inr (by rw [← h5]; exact e)))).trans (ht.block k hk (fun e => hn (.inl e)) (by simp))⟩)
  have HSZ := Lib.hid (Nat.le_trans HBX.out.size ht.size)
  have HR := Lib.hid (show w1.rangeAt w.heap.size 0 (tL 0 noOwn) from whole_all_range (HW.out.kept (ht.block _ HW.out.lt hne (by simp))))
  clear h1 h2 h3 hls h5 hms ht
  go_wp2_with (refine wpList_load_mid rfl 24 (.tmp 3) rfl w.heap.size 0 rfl (tL 0 noOwn) _ HR.out Try.underlying24 rfl Try.infoT ?_)
  refine HO.out.mono ?_
  rintro e w2 (⟨h1, gm, rfl, h3, h4, h5⟩ | ⟨h1, h2, gm, v2, rfl, h3, h4, h5⟩ | ⟨h1, h2, rfl, h3, h4⟩)
  · have HE := Lib.hid (show OpdR w B g v ms r (.returned (.tuple #[.pointer (some ⟨gm, 0, none⟩), .int .i64 0])) w2 from .inl ⟨gm, gl, v', ms, rfl, h3, HCH.out w2 h4, Nat.le_trans HSZ.out h5, .inl ⟨h1, rfl⟩⟩)
    clear h1 h3 h4 h5
    go_wp2
    go_ret2
    exact HE.out
  · have HE := Lib.hid (show OpdR w B g v ms r (.returned (.tuple #[.pointer (some ⟨gm, 0, none⟩), .int .i64 0])) w2 from .inl ⟨gm, gl, v2, ms ++ [undoM ms], rfl, by rw [rep_snoc]; exact h3, HCH.out w2 h4, Nat.le_trans HSZ.out h5, .inr ⟨h1, rfl⟩⟩)
    clear h1 h2 h3 h4 h5
    go_wp2
    go_ret2
    exact HE.out
  · have HE := Lib.hid (show OpdR w B g v ms r (.returned (.tuple #[.pointer none, .int .i64 3])) w2 from .inr ⟨h1, h2, rfl, ⟨v', (show Lg w2 B gl g v' (cat ms) (cat ms).length r ms.length from h3).disk⟩, HCH.out w2 h4⟩)
    clear h1 h2 h3 h4
    go_wp2
    go_ret2
    exact HE.out
theorem crash_all (w : World) (h : MS w B gm gl g v M ms r) :
    Calls Try.prog 20 #[.pointer (some ⟨g, 0, none⟩), .int .i64 0] w fun e w' => e = .returned (.tuple #[]) ∧ ∃ v', Dk.DAt w' B g v' (cat ms) (cat ms).length r ∧ Chg w w' (fun k => k = g) ∧ v'.ownBlock = v.ownBlock := by
  have hl : Lg w B gl g v (cat ms) (cat ms).length r ms.length := h.log
  refine (Dk.crash_any 0 w hl.disk (by omega)).mono ?_
  rintro e w' ⟨rfl, v', h1, h2, h3⟩
  have hle : Dk.left (cat ms).length (cat ms).length 0 = (cat ms).length := by unfold Dk.left; simp
  rw [hle, List.take_length] at h1
  exact ⟨rfl, v', h1, Turned.chg h2 _ rfl, h3⟩
theorem cat_one (m : MsgD) : (cat [m]).length = (rcd m).length := by simp [cat]
theorem cat_snoc_len (ms : List MsgD) (m : MsgD) : (cat (ms ++ [m])).length = (cat ms).length + (rcd m).length := by rw [cat_snoc, List.length_append]
end
end Go.Proofs.Ytbmmgmdjhhnkfaa

namespace Go.Proofs.Ytbmmgmdjhhnkfaa
open Go.RowKit

theorem in64_wf {y : Int} (h : In64 y) : (Lit.int .i64 y).wf = true := by unfold In64 at h; simp [Lit.wf, IntKind.min, IntKind.max, IntKind.signed, IntKind.bits]; omega
theorem lits_arr (o : List Int) (h : o.length = 16) (hin : ∀ y ∈ o, In64 y) : ∃ l, Try.prog.keyLits 2 22 (o.map (Value.int .i64)) = some l := by
  have hc : Try.prog.cellsOf 22 = 16 := by kernel_rfl
  have k1 : Try.prog.cellsOf 3 = 1 := by kernel_rfl
  have hm : ∀ is : List Nat, (∀ i ∈ is, i < 16) → ∃ l, (is.mapM fun i => Try.prog.keyLits 1 3 (((o.map (Value.int .i64)).drop (i * Try.prog.cellsOf 3)).take (Try.prog.cellsOf 3))) = some l := by
    intro is
    induction is with
    | nil => exact fun _ => ⟨[], rfl⟩
    | cons i is ih =>
      intro hi
      obtain ⟨l, hl⟩ := ih (fun j hj => hi j (by simp [hj]))
      have hio : i < o.length := by rw [h]; exact hi i (by simp)
      have h1 : ((o.map (Value.int .i64)).drop (i * Try.prog.cellsOf 3)).take (Try.prog.cellsOf 3) = [.int .i64 o[i]] := by
        rw [k1, Nat.mul_one]
        apply List.ext_getElem?
        intro j
        rw [List.getElem?_take, List.getElem?_drop]
        cases j with
        | zero => simp [hio]
        | succ j => simp
      have h2 : Try.prog.keyLits 1 3 [.int .i64 o[i]] = some [.int .i64 o[i]] := by
        simp [Program.keyLits, Try.underlying3, in64_wf (hin o[i] (List.getElem_mem hio))]
      refine ⟨[.int .i64 o[i]] :: l, ?_⟩
      rw [List.mapM_cons, h1, h2, hl]
      rfl
  obtain ⟨l, hl⟩ := hm (List.range 16) (fun i hi => List.mem_range.1 hi)
  refine ⟨l.flatten, ?_⟩
  unfold Program.keyLits
  rw [Try.underlying22]
  simp only
  rw [if_pos (by rw [List.length_map, h, hc])]
  rw [hl]
  rfl
theorem eq_arr (o : List Int) (h : o.length = 16) (hin : ∀ y ∈ o, In64 y) (w : World) : (binOp .eql 22 (.agg (acs o)) (.agg (acs o))).run Try.prog w = .ok (.bool true) w := by
  obtain ⟨l, hl⟩ := lits_arr o h hin
  obtain ⟨r, hr, hi⟩ := run_equalIn_deep (P := Try.prog) 9998 2 22 (by kernel_rfl) w 2 2 (.agg (acs o)) (.agg (acs o)) l l
    (by simp [Value.formed, Try.underlying22, acs_size, h]; kernel_rfl) (by simp [Value.formed, Try.underlying22, acs_size, h]; kernel_rfl) (by simpa [Value.cells, acs] using hl) (by simpa [Value.cells, acs] using hl)
  have ht : r = true := hi.2 rfl
  subst ht
  rw [run_eql_struct, show (10000 : Nat) = 9998 + 2 from rfl, hr]
  rfl
theorem lits_tab (e : Int) (o : List Int) (h : o.length = 16) (he : In64 e) (hin : ∀ y ∈ o, In64 y) : ∃ l, Try.prog.keyLits 3 24 (tcs e o).toList = some l := by
  obtain ⟨l, hl⟩ := lits_arr o h hin
  have k1 : Try.prog.cellsOf 2 = 1 := by kernel_rfl
  have k16 : Try.prog.cellsOf 22 = 16 := by kernel_rfl
  have k17 : Try.prog.cellsOf 24 = 17 := by kernel_rfl
  have h0 : Try.prog.keyLits 2 2 [.int .i64 e] = some [.int .i64 e] := by simp [Program.keyLits, Try.underlying2, in64_wf he]
  have h1 : ((tcs e o).toList.drop 0).take 1 = [.int .i64 e] := by simp [tcs]
  have h2 : ((tcs e o).toList.drop 1).take 16 = o.map (Value.int .i64) := by
    simp [tcs]
    rw [List.take_of_length_le (by simp [h])]
  refine ⟨[.int .i64 e] ++ l, ?_⟩
  unfold Program.keyLits
  rw [Try.underlying24]
  simp only
  rw [if_pos (by rw [k17]; simp [tcs, h])]
  simp only [List.mapM_cons, List.mapM_nil, k1, k16, h1, h2, h0, hl]
  simp
theorem eq_tab (e : Int) (o : List Int) (h : o.length = 16) (he : In64 e) (hin : ∀ y ∈ o, In64 y) (w : World) : (Op.equalIn 10000 24 (.agg (tcs e o)) (.agg (tcs e o))).run Try.prog w = .ok true w := by
  obtain ⟨l, hl⟩ := lits_tab e o h he hin
  obtain ⟨r, hr, hi⟩ := run_equalIn_deep (P := Try.prog) 9997 3 24 (by kernel_rfl) w 3 3 (.agg (tcs e o)) (.agg (tcs e o)) l l
    (by simp [Value.formed, Try.underlying24, tcs_size e o h]; kernel_rfl) (by simp [Value.formed, Try.underlying24, tcs_size e o h]; kernel_rfl) (by simpa [Value.cells] using hl) (by simpa [Value.cells] using hl)
  have ht : r = true := hi.2 rfl
  subst ht
  rw [show (10000 : Nat) = 9997 + 3 from rfl]
  exact hr
section
variable {P : Program} {ops : Array Oper} {rest : List Oper} {o : Oper} {a : Act} {w : World} {Q : Exit → Act → World → Prop}
theorem wp_eql_self {K : Act → World → Prop} (t : TypeId) (x y : Operand) (t' : TypeId) (ho : o.op = .binOp .eql t x y t') (C : Array Value) (hx : a.eval x = .agg C) (hy : a.eval y = .agg C) (hg : P.eqGuardType P.depth t = false)
    (he : (Op.equalIn 10000 t (.agg C) (.agg C)).run P w = .ok true w) (h : K (a.put o.dst (.bool true)) w) : o.wp P a w K Q := by
  unfold Oper.wp
  simp [execOp, ho, hx, hy, run_eqGuard_agg, hg, run_eql_struct, he, Result.andThen]
  exact h
theorem wp_neq_self {K : Act → World → Prop} (t : TypeId) (x y : Operand) (t' : TypeId) (ho : o.op = .binOp .neq t x y t') (C : Array Value) (hx : a.eval x = .agg C) (hy : a.eval y = .agg C) (hg : P.eqGuardType P.depth t = false)
    (he : (Op.equalIn 10000 t (.agg C) (.agg C)).run P w = .ok true w) (h : K (a.put o.dst (.bool false)) w) : o.wp P a w K Q := by
  unfold Oper.wp
  simp [execOp, ho, hx, hy, run_eqGuard_agg, hg, run_neq_struct, he, Result.andThen]
  exact h
theorem wpList_eql_self (hw : Region.wanted o (yielded ops a.tmps) = true) (t : TypeId) (x y : Operand) (t' : TypeId) (ho : o.op = .binOp .eql t x y t') (C : Array Value) (hx : a.eval x = .agg C) (hy : a.eval y = .agg C) (hg : P.eqGuardType P.depth t = false)
    (he : (Op.equalIn 10000 t (.agg C) (.agg C)).run P w = .ok true w) (h : wpList P ops Q rest (a.put o.dst (.bool true)) w) : wpList P ops Q (o :: rest) a w :=
  Go.BigFrame.wpList_want hw fun _ hK => wp_eql_self t x y t' ho C hx hy hg he (hK _ _ h)
theorem wpList_neq_self (hw : Region.wanted o (yielded ops a.tmps) = true) (t : TypeId) (x y : Operand) (t' : TypeId) (ho : o.op = .binOp .neq t x y t') (C : Array Value) (hx : a.eval x = .agg C) (hy : a.eval y = .agg C) (hg : P.eqGuardType P.depth t = false)
    (he : (Op.equalIn 10000 t (.agg C) (.agg C)).run P w = .ok true w) (h : wpList P ops Q rest (a.put o.dst (.bool false)) w) : wpList P ops Q (o :: rest) a w :=
  Go.BigFrame.wpList_want hw fun _ hK => wp_neq_self t x y t' ho C hx hy hg he (hK _ _ h)
theorem exec_eql_self (ρ : Operand → Value) (t : TypeId) (x y : Operand) (t' : TypeId) (ho : o.op = .binOp .eql t x y t') (C : Array Value) (hx : ρ x = .agg C) (hy : ρ y = .agg C) (hg : P.eqGuardType P.depth t = false)
    (he : (Op.equalIn 10000 t (.agg C) (.agg C)).run P w = .ok true w) : (execOp ρ o).run P w = .ok (.value (.bool true)) w := by
  simp [execOp, ho, hx, hy, run_eqGuard_agg, hg, run_eql_struct, he, Result.andThen]
end
theorem guardT : Try.prog.eqGuardType Try.prog.depth 24 = false := by kernel_rfl
theorem zeros_in : ∀ y ∈ noOwn, In64 y := by
  intro y hy
  have : y = 0 := List.eq_of_mem_replicate hy
  subst this
  unfold In64
  omega
theorem in64_0 : In64 0 := by unfold In64; omega

/-- A move with other rows. -/
def mrows (M : Mv) (a : Option Addr) (n c : Nat) : Mv := { M with ra := a, rn := n, rc := c }
section
variable {w w' : World} {B gm gl g r : Nat} {v : Value} {M : Mv} {ms : List MsgD}
set_option maxRecDepth 100000 in
set_option maxHeartbeats 8000000 in
theorem moving_any (w : World) (h : MvAt w B gm gl M) (hcl : ∀ W, Below w.heap.size w W → Calls Try.prog 35 #[.slice M.ra M.rn M.rc] W (CloneR W)) :
    Calls Try.prog 23 #[.pointer (some ⟨gm, 0, none⟩)] w fun e w' => ∃ a n c, e = .returned (.tuple #[.agg (mcs (mrows M a n c)).toArray, .int .i64 M.st]) ∧ Below w.heap.size w w' := by
  obtain ⟨W0, hW0, hw0, hb0⟩ := box_new w 45 #[.int .i64 0, .int .i64 0, .int .i64 0, .int .i64 0, .int .i64 0, .int .i64 0, .int .i64 0, .bool false, .slice none 0 0, .slice none 0 0, .slice none 0 0, .slice none 0 0]
  obtain ⟨W1, hW1, hw1, hb1⟩ := box_new W0 45 #[.int .i64 0, .int .i64 0, .int .i64 0, .int .i64 0, .int .i64 0, .int .i64 0, .int .i64 0, .bool false, .slice none 0 0, .slice none 0 0, .slice none 0 0, .slice none 0 0]
  have hs0 : W0.heap.size = w.heap.size + 1 := by rw [hW0]; exact Array.size_push _
  have HX := Lib.hid ((h.below hb0).below hb1)
  have HX0 := Lib.hid (h.below hb0)
  have HGL := Lib.hid h.own.lt
  have HCL := Lib.hid hcl
  have HB1 := Lib.hid (bell_up hb0 hb1)
  have HR := Lib.hid (hw0.kept (hb1.block _ hw0.lt))
  have HY := Lib.hid hw1
  have HS0 := Lib.hid hs0
  clear h hcl hw0 hb0 hw1 hb1 hs0
  go_enter Try.func23, Try.ntmps23
  go_upto_region 1 with fail
  rw [← hW0]
  clear hW0
  have hmr : W0.rangeAt gm 20 (mcs M) := HX0.out.mov.1
  have h12 := whole_all HY.out
  have hth : W1.there W0.heap.size 0 (mcs M).toArray.size := h12
  clear h12
  have him : (Try.prog.info? 45).map (·.size) = some (mcs M).toArray.size := Try.infoMs
  have HIM := Lib.hid him
  clear him
  subst hW1
  go_upto_region 2 with (first
    | (refine wpList_load_mid rfl 45 (.tmp 7) rfl gm 20 rfl (mcs M) _ hmr Try.underlying45 rfl HIM.out ?_)
    | (refine wpList_store_mid rfl 45 (.tmp 4) (.tmp 8) rfl W0.heap.size 0 (mcs M).toArray rfl rfl hth HIM.out (mcs_one _) ?_; have HY2 := Lib.hid (show Whole ((W0.alloc (.cells #[.int .i64 0, .int .i64 0, .int .i64 0, .int .i64 0, .int .i64 0, .int .i64 0, .int .i64 0, .bool false, .slice none 0 0, .slice none 0 0, .slice none 0 0, .slice none 0 0] 45)).setCells W0.heap.size 0 (mcs M).toArray.toList) W0.heap.size 45 (mcs M).toArray from whole_row HY.out rfl); have HR2 := Lib.hid (show Whole ((W0.alloc (.cells #[.int .i64 0, .int .i64 0, .int .i64 0, .int .i64 0, .int .i64 0, .int .i64 0, .int .i64 0, .bool false, .slice none 0 0, .slice none 0 0, .slice none 0 0, .slice none 0 0] 45)).setCells W0.heap.size 0 (mcs M).toArray.toList) w.heap.size 45 _ from HR.out.kept (heap_setCells w.heap.size (by have := HS0.out; omega) _ _)); have HX2 := Lib.hid (show MvAt ((W0.alloc (.cells #[.int .i64 0, .int .i64 0, .int .i64 0, .int .i64 0, .int .i64 0, .int .i64 0, .int .i64 0, .bool false, .slice none 0 0, .slice none 0 0, .slice none 0 0, .slice none 0 0] 45)).setCells W0.heap.size 0 (mcs M).toArray.toList) B gm gl M from HX.out.kept (heap_setCells gm (by have := HS0.out; have := HGL.out; omega) _ _)); have HB2 := Lib.hid (show Below w.heap.size w ((W0.alloc (.cells #[.int .i64 0, .int .i64 0, .int .i64 0, .int .i64 0, .int .i64 0, .int .i64 0, .int .i64 0, .bool false, .slice none 0 0, .slice none 0 0, .slice none 0 0, .slice none 0 0] 45)).setCells W0.heap.size 0 (mcs M).toArray.toList) from Chg.below (B := w.heap.size) (Chg.sets (P := fun k => k = W0.heap.size) rfl _ _ (Chg.ofBelow _ HB1.out)) (fun k hk => by have h1 := HS0.out; have h2 : k = W0.heap.size := hk; omega) (Nat.le_refl _)); clear hth hmr; generalize World.setCells _ W0.heap.size 0 _ = W2 at *))
  have c11 := HY2.out.cell 11
  rw [show (mcs M).toArray[11]? = some (.slice M.ra M.rn M.rc) from rfl] at c11
  go_wp2_with fail
  refine (HCL.out W2 HB2.out).mono ?_
  rintro e w3 ⟨a, n, c, rfl, hb3⟩
  have HY3 := Lib.hid (HY2.out.kept (hb3.block _ HY2.out.lt))
  have HR3 := Lib.hid (HR2.out.kept (hb3.block _ HR2.out.lt))
  have HX3 := Lib.hid (HX2.out.below hb3)
  have HB3 := Lib.hid (bell_up HB2.out hb3)
  have HY4 := Lib.hid (show Whole (w3.setCell ⟨W0.heap.size, 11, none⟩ (.slice a n c)) W0.heap.size 45 (mcs (mrows M a n c)).toArray from HY3.out.store 11 (.slice a n c))
  have HR4 := Lib.hid (show Whole (w3.setCell ⟨W0.heap.size, 11, none⟩ (.slice a n c)) w.heap.size 45 _ from HR3.out.kept (Below.heap_setCell w3 ⟨W0.heap.size, 11, none⟩ (.slice a n c) w.heap.size (by have := HS0.out; show _ ≠ W0.heap.size; omega)))
  have HX4 := Lib.hid (show MvAt (w3.setCell ⟨W0.heap.size, 11, none⟩ (.slice a n c)) B gm gl M from HX3.out.kept (Below.heap_setCell w3 ⟨W0.heap.size, 11, none⟩ (.slice a n c) gm (by have := HS0.out; have := HGL.out; show _ ≠ W0.heap.size; omega)))
  have HB4 := Lib.hid (show Below w.heap.size w (w3.setCell ⟨W0.heap.size, 11, none⟩ (.slice a n c)) from Chg.below (B := w.heap.size) ((Chg.ofBelow (fun k => k = W0.heap.size) HB3.out).set rfl 11 _) (fun k hk => by have h1 := HS0.out; have h2 : k = W0.heap.size := hk; omega) (Nat.le_refl _))
  have c11 := HY3.out.cell 11
  have z11 := HY3.out.free 11
  rw [show (mcs M).toArray[11]? = some (.slice M.ra M.rn M.rc) from rfl] at c11
  clear hb3
  go_upto_region 3 with fail
  clear c11 z11 HB3 HX3 HR3 HY3
  generalize World.setCell w3 _ _ = W4 at *
  obtain ⟨wd, hwd, hbd⟩ : ∃ wd, wd = W4.drew ∧ Below W4.heap.size W4 wd := ⟨_, rfl, below_drewN W4 1⟩
  have hne : gm ≠ w.heap.size ∧ W0.heap.size ≠ w.heap.size := by have := HGL.out; have := HS0.out; omega
  have HYD := Lib.hid (HY4.out.kept (hbd.block _ HY4.out.lt))
  have HRD := Lib.hid (HR4.out.kept (hbd.block _ HR4.out.lt))
  have HXD := Lib.hid (HX4.out.below hbd)
  have HBD := Lib.hid (bell_up HB4.out hbd)
  have hS0 : wd.rangeAt W0.heap.size 0 (mcs (mrows M a n c)) ∧ wd.cell? ⟨gm, 19, none⟩ = some (.int .i64 M.st) := ⟨whole_all_range HYD.out, HXD.out.two.2.1⟩
  have htr := whole_all HRD.out
  have HTR := Lib.hid (show wd.there w.heap.size 0 (mcs (mrows M a n c)).toArray.size from htr)
  clear hbd htr
  subst hwd
  refine wp_region_held_drew (S := fun V : World => V.rangeAt W0.heap.size 0 (mcs (mrows M a n c)) ∧ V.cell? ⟨gm, 19, none⟩ = some (.int .i64 M.st)) (by kernel_rfl) (hS0) (fun hHeld => ?_)
  refine wpAnyH_take (i := 0) (oi := { dst := Option.some 13, op := Go.Op.load 45 (Go.Operand.tmp 4), type := 45, pos := "move.go:61", after := #[], guard := Option.none }) (v := .agg (mcs (mrows M a n c)).toArray) rfl (by kernel_rfl) (by kernel_rfl) (by kernel_rfl) (fun _ _ _ h => h) (Or.inl ⟨by rfl, fun V hV => exec_mid _ _ V 45 (.tmp 4) rfl W0.heap.size 0 rfl (mcs (mrows M a n c)) _ hV.1 Try.underlying45 rfl (show (Try.prog.info? 45).map (·.size) = some (mcs (mrows M a n c)).length from Try.infoMs)⟩) (by assumption) ?_
  try simp only [Act.put, List.setIfInBounds_toArray, List.set_cons_zero, List.set_cons_succ]
  refine wpAnyH_take (i := 1) (oi := { dst := Option.some 14, op := Go.Op.move (Go.Operand.tmp 0), type := 32, pos := "move.go:61", after := #[{ on := 5, ground := Go.Ground.gcOnly Go.Departure.lateStores }], guard := Option.none }) (v := ?_) rfl (by kernel_rfl) (by kernel_rfl) (by kernel_rfl) (fun _ _ _ h => h) (Or.inl ⟨by rfl, ?_⟩) (by assumption) ?_
  rotate_left
  · intro V hV; (try dsimp only at hV); go_simp; all_goals (with_reducible rfl)
  try simp only [Act.put, List.setIfInBounds_toArray, List.set_cons_zero, List.set_cons_succ]
  refine wpAnyH_take (i := 2) (oi := { dst := Option.some 15, op := Go.Op.nilCheck (Go.Operand.tmp 14), type := 0, pos := "move.go:61", after := #[{ on := 1, ground := Go.Ground.data }, { on := 5, ground := Go.Ground.gcOnly Go.Departure.lateStores }], guard := Option.none }) (v := ?_) rfl (by kernel_rfl) (by kernel_rfl) (by kernel_rfl) (fun _ _ _ h => h) (Or.inl ⟨by rfl, ?_⟩) (by assumption) ?_
  rotate_left
  · intro V hV; (try dsimp only at hV); go_simp; all_goals (with_reducible rfl)
  try simp only [Act.put, List.setIfInBounds_toArray, List.set_cons_zero, List.set_cons_succ]
  refine wpAnyH_take (i := 3) (oi := { dst := Option.some 16, op := Go.Op.fieldAddr 89 (Go.Operand.tmp 15) 3, type := 0, pos := "move.go:61", after := #[{ on := 2, ground := Go.Ground.data }, { on := 5, ground := Go.Ground.gcOnly Go.Departure.lateStores }], guard := Option.none }) (v := ?_) rfl (by kernel_rfl) (by kernel_rfl) (by kernel_rfl) (fun _ _ _ h => h) (Or.inl ⟨by rfl, ?_⟩) (by assumption) ?_
  rotate_left
  · intro V hV; (try dsimp only at hV); go_simp; all_goals (with_reducible rfl)
  try simp only [Act.put, List.setIfInBounds_toArray, List.set_cons_zero, List.set_cons_succ]
  refine wpAnyH_take (i := 4) (oi := { dst := Option.some 17, op := Go.Op.load 3 (Go.Operand.tmp 16), type := 3, pos := "move.go:61", after := #[{ on := 3, ground := Go.Ground.data }, { on := 5, ground := Go.Ground.gcOnly Go.Departure.lateStores }], guard := Option.none }) (v := ?_) rfl (by kernel_rfl) (by kernel_rfl) (by kernel_rfl) (fun _ _ _ h => h) (Or.inl ⟨by rfl, ?_⟩) (by assumption) ?_
  rotate_left
  · intro V hV; (try dsimp only at hV); obtain ⟨hV1, hV2⟩ := hV; go_simp; all_goals (with_reducible rfl)
  try simp only [Act.put, List.setIfInBounds_toArray, List.set_cons_zero, List.set_cons_succ]
  refine wpAnyH_ready (rs := [5]) (by kernel_rfl) (by simp) ?_
  refine AllReadyH.cons (o := { dst := Option.none, op := Go.Op.store 45 (Go.Operand.tmp 2) (Go.Operand.tmp 13), type := 0, pos := "move.go:61", after := #[{ on := 0, ground := Go.Ground.data }, { on := 0, ground := Go.Ground.phase }, { on := 1, ground := Go.Ground.textOnly Go.Departure.lateStores }, { on := 2, ground := Go.Ground.textOnly Go.Departure.lateStores }, { on := 3, ground := Go.Ground.textOnly Go.Departure.lateStores }, { on := 4, ground := Go.Ground.textOnly Go.Departure.lateStores }], guard := Option.none }) rfl (fun K hK => ?_) (AllReadyH.nil)
  refine wp_store_mid 45 (.tmp 2) (.tmp 13) rfl w.heap.size 0 (mcs (mrows M a n c)).toArray rfl rfl (HTR.out : World.there _ w.heap.size 0 (mcs (mrows M a n c)).toArray.size) (show (Try.prog.info? 45).map (·.size) = some (mcs (mrows M a n c)).toArray.size from Try.infoMs) (mcs_one _) ?_
  refine hK.out _ _ (⟨World.rangeAt_setCells_apart hHeld.1 _ _ _ (.inl hne.2), (World.cell?_setCells_out _ _ _ _ _ (fun h _ => absurd h hne.1)).trans hHeld.2⟩) (fun hHeld => ?_)
  clear hK K
  try simp only [Act.put]
  refine wpAnyH_ready (rs := [6]) (by kernel_rfl) (by simp) ?_
  refine AllReadyH.cons (o := { dst := Option.some 3, op := Go.Op.assign (Go.Operand.tmp 17), type := 3, pos := "move.go:61", after := #[{ on := 4, ground := Go.Ground.data }, { on := 5, ground := Go.Ground.chain }, { on := 0, ground := Go.Ground.phase }, { on := 1, ground := Go.Ground.phase }, { on := 2, ground := Go.Ground.phase }, { on := 3, ground := Go.Ground.phase }, { on := 4, ground := Go.Ground.phase }, { on := 5, ground := Go.Ground.phase }], guard := Option.none }) rfl (fun K hK => ?_) (AllReadyH.nil)
  go_simp
  refine hK.out _ _ (hHeld) (fun hHeld => ?_)
  clear hK K
  try simp only [Act.put, List.setIfInBounds_toArray, List.set_cons_zero, List.set_cons_succ]
  refine wpAnyH_done (by kernel_rfl) ?_ _
  have HF := Lib.hid (show Whole (W4.drew.setCells w.heap.size 0 (mcs (mrows M a n c)).toArray.toList) w.heap.size 45 (mcs (mrows M a n c)).toArray from whole_row HRD.out rfl)
  have HBF := Lib.hid (show Below w.heap.size w (W4.drew.setCells w.heap.size 0 (mcs (mrows M a n c)).toArray.toList) from (Chg.sets (P := fun k => k = w.heap.size) rfl _ _ (Chg.ofBelow _ HBD.out)).below (fun k hk => by rw [hk]; exact Nat.le_refl _) (Nat.le_refl _))
  clear hHeld hS0 HTR HRD HYD HXD HBD
  generalize World.setCells W4.drew w.heap.size 0 _ = WF at *
  go_wp2_with fail
  refine bodyPost_ret (v := .tuple #[.agg (mcs (mrows M a n c)).toArray, .int .i64 M.st]) (res_two Try.results23 _ _ w.heap.size 45 (mcs (mrows M a n c)).toArray _ _ rfl rfl HF.out Try.underlying45 rfl (show (Try.prog.info? 45).map (·.size) = some (mcs (mrows M a n c)).toArray.size from Try.infoMs)) rfl ⟨a, n, c, rfl, HBF.out⟩
end
end Go.Proofs.Ytbmmgmdjhhnkfaa
