/- The cache of int,int: entries, Put, Len. -/
import Derived.Test.YtofjpbpfjjohdaaK4IA
import Derived.Laws.Tables
import Derived.LaidEql
namespace Go.Proofs.Ytofjpbpfjjohdaa.KA
open Go.RowKit Go.Proofs.Ytofjpbpfjjohdaa
open Go.Maps (Keyed)

theorem Try.infoP : (Try.prog.info? 45).map (fun i => (i.zero, i.size, i.bytes)) = some (some (.pointer none), 1, 8) := by kernel_rfl
theorem info_of {P : Program} {t : TypeId} {z : Value} {s b : Nat} (h : (P.info? t).map (fun i => (i.zero, i.size, i.bytes)) = some (some z, s, b)) : ∃ i, P.info? t = some i ∧ i.zero = some z ∧ i.size = s ∧ i.bytes = b := by
  obtain ⟨i, hi, hx⟩ := Option.map_eq_some_iff.1 h
  injection hx with a b
  injection b with b c
  exact ⟨i, hi, a, b, c⟩
theorem make_row {P : Program} (w : World) (t e : TypeId) (i : TypeInfo) (z : Value) (by_ : Nat) (ht : P.underlying t = some (.slice e)) (hi : P.info? e = some i) (hz : i.zero = some z) (hsize : i.size = 1) (hz1 : z.cells = #[z]) (hby : i.bytes = by_)
    (m : Nat) (hm : by_ * m ≤ 281474976710656) (hm2 : m ≤ 281474976710656) :
    (Instr.makeSlice t (.int .i64 0) (.int .i64 (m : Int))).run P w = .ok (.slice (some ⟨w.heap.size, 0, none⟩) 0 m) (w.alloc (.cells (madeCells #[z] m) e)) := by
  have hb2 : (i.bytes : Int) * (m : Int) ≤ 281474976710656 := by
    rw [hby, ← Int.natCast_mul]; omega
  have hr := run_make (P := P) w t e i z ht hi hz .i64 .i64 0 m (by omega) (by omega) hb2 (by omega)
  simp only [Int.toNat_natCast, hsize, Nat.mul_one, hz1] at hr
  exact hr
def vlen : Value → Nat
  | .slice _ n _ => n
  | _ => 0

theorem ptr_sameIn (d a : Nat) (w : World) : (Op.equalIn (d + 1) 45 (.pointer (some ⟨a, 0, none⟩)) (.pointer (some ⟨a, 0, none⟩))).run Try.prog w = .ok true w := by
  have hs : (sizeOf 47).run Try.prog w = .ok 5 w := by kernel_rfl
  simp [Op.equalIn, run_underlying Try.underlying45, hs, run_sameAddr_same]
theorem ptr_same (a : Nat) (w : World) : (binOp .neq 45 (.pointer (some ⟨a, 0, none⟩)) (.pointer (some ⟨a, 0, none⟩))).run Try.prog w = .ok (.bool false) w := by
  have h1 := ptr_sameIn 9999 a w
  simp only [binOp]
  simp [Op.equal, show Op.maxDepth = 9999 + 1 from rfl, h1]
theorem ptr_otherIn (d : Nat) {a b : Nat} {w : World} {ta tb : TypeId} {ca cb : Array Value} (ha : Whole w a ta ca) (hb : Whole w b tb cb) (hne : a ≠ b) : (Op.equalIn (d + 1) 45 (.pointer (some ⟨a, 0, none⟩)) (.pointer (some ⟨b, 0, none⟩))).run Try.prog w = .ok false w := by
  have hs : (sizeOf 47).run Try.prog w = .ok 5 w := by kernel_rfl
  have h0 := run_sameAddr_other (P := Try.prog) w (a := ⟨a, 0, none⟩) (b := ⟨b, 0, none⟩) (by intro e; injection e with e; exact hne e) ha hb
  simp [Op.equalIn, run_underlying Try.underlying45, hs, h0]
theorem ptr_other {a b : Nat} {w : World} {ta tb : TypeId} {ca cb : Array Value} (ha : Whole w a ta ca) (hb : Whole w b tb cb) (hne : a ≠ b) : (binOp .neq 45 (.pointer (some ⟨a, 0, none⟩)) (.pointer (some ⟨b, 0, none⟩))).run Try.prog w = .ok (.bool true) w := by
  have h1 := ptr_otherIn 9999 ha hb hne
  simp only [binOp]
  simp [Op.equal, show Op.maxDepth = 9999 + 1 from rfl, h1]

set_option maxRecDepth 100000 in
set_option maxHeartbeats 4000000 in
theorem entries_any {g : Nat} {r : Rest} {es : List En} (w : World) (h : RingAt w g r (es.length : Int) es) (hn : es.length ≤ 4096) :
    Calls Try.prog 22 #[.pointer (some ⟨g, 0, none⟩)] w fun x w' => ∃ v, x = .returned v ∧ w'.ownsRow w.heap.size 45 1 v es.length (es.map fun t => at_ t.1) ∧ Below w.heap.size w w' := by
  obtain ⟨i0, hi, hz0, hz1, hz2⟩ := info_of Try.infoP
  obtain ⟨N, hN, hL⟩ := h.ex
  have hmk : ∀ w : World, (Instr.makeSlice 57 (.int .i64 0) (.int .i64 (es.length : Int))).run Try.prog w = .ok (.slice (some ⟨w.heap.size, 0, none⟩) 0 es.length) (w.alloc (.cells (madeCells #[.pointer none] es.length) 45)) := fun w =>
    make_row w 57 45 i0 (.pointer none) 8 Try.underlying57 hi hz0 hz1 rfl hz2 es.length (by omega) (by omega)
  have hown : (w.alloc (.cells (madeCells #[.pointer none] es.length) 45)).ownsRow w.heap.size 45 1 (.slice (some ⟨w.heap.size, 0, none⟩) 0 es.length) 0 [] := by
    refine ⟨rfl, .inr ⟨w.heap.size, es.length, madeCells #[.pointer none] es.length, rfl, Nat.le_refl _, heap_alloc_new _ _, Nat.zero_le _, by unfold maxLen; omega, ?_, rfl⟩⟩
    rw [size_madeCells]; simp
  obtain ⟨d4, _, _, _, _, _, _, _⟩ := hN.counts
  obtain ⟨_, g3, _, _, hgl⟩ := hN.cells (b := g) (by simp)
  rw [hL.head] at g3
  have hb1 := below_alloc w (.cells (madeCells #[.pointer none] es.length) 45)
  have g3' := (hb1.cell (p := ⟨g, 4, none⟩) hgl).trans g3
  have HO := Lib.hid hown
  have HB1 := Lib.hid hb1
  have HN := Lib.hid hN
  have HL := Lib.hid hL
  have hmk0 := hmk w
  unfold at_ at g3'
  clear hN hL h hown hb1 hmk g3
  generalize w.alloc (.cells (madeCells #[.pointer none] es.length) 45) = wm at *
  generalize hhd : headD (es.map (·.1)) g = hd at *
  have HHD := Lib.hid hhd
  clear hhd
  go_enter Try.func22, Try.ntmps22
  go_wp2_with fail
  clear hmk0 g3' d4
  go_loopw [3, 4] (fun t3 t4 wr => ∃ (e1 e2 : List En) (p : Nat), es = e1 ++ e2 ∧ t4 = .pointer (some ⟨p, 0, none⟩) ∧ p = headD (e2.map (·.1)) g ∧ wr.ownsRow w.heap.size 45 1 t3 e1.length (e1.map fun t => at_ t.1) ∧ Below w.heap.size w wr) (fun t3 _ _ => es.length - vlen t3)
  case atStart => exact ⟨[], es, hd, rfl, rfl, HHD.out.symm, HO.out, HB1.out⟩
  case round =>
    obtain ⟨e1, e2, p, hes, rfl, hp, hown, hb⟩ := hrel
    obtain ⟨ta, tc, rfl, _, _⟩ := owned_any hown
    cases e2 with
    | nil =>
      obtain rfl : g = p := hp.symm
      have hes' : e1 = es := by rw [hes]; simp
      subst hes'
      have HW := Lib.hid hown
      have HB := Lib.hid hb
      have hcmp := ptr_same g wr
      clear hown hb hes hp
      go_wp2_with fail
      go_ret
      exact ⟨_, rfl, HW.out, HB.out⟩
    | cons t e2 =>
      obtain ⟨q, k, v⟩ := t
      obtain rfl : p = q := hp
      have hmem : (p, k, v) ∈ es := by rw [hes]; simp
      have hgp : g ≠ p := HN.out.ne hmem
      obtain ⟨k0, v0, v1, hkn⟩ := HN.out.knot
      have hpe := HN.out.ent p k v hmem
      have hcmp := ptr_other (hpe.kept (hb.block _ hpe.lt)) (hkn.kept (hb.block _ hkn.lt)) (Ne.symm hgp)
      have hcell := HN.out.cells (b := p) (by rw [hes]; simp)
      have hl2 : Linked N p (e2.map (·.1)) g := by
        have h1 := HL.out
        rw [hes, List.map_append, List.map_cons] at h1
        exact h1.split.2
      have c3 := (hb.cell (p := ⟨p, 4, none⟩) hcell.2.2.2.2).trans hcell.2.1
      rw [hl2.head] at c3
      unfold at_ at c3
      obtain ⟨q2, hq2⟩ : ∃ q2, q2 = headD (e2.map (·.1)) g := ⟨_, rfl⟩
      rw [← hq2] at c3
      have hlt : e1.length < es.length := by rw [hes]; simp
      have hpl := Nat.lt_of_lt_of_le hcell.2.2.2.2 hb.size
      have HW := Lib.hid hown
      have HB := Lib.hid hb
      have HES := Lib.hid hes
      have HQ2 := Lib.hid hq2
      have hsz := hb.size
      have hpl0 := hcell.2.2.2.2
      clear hown hb hes hcell hl2 hq2 hmem hkn hpe
      have hne2 := Ne.symm hgp
      go_wp2_with (
          at_builtin
          (refine wpList_append_at_any _ rfl _ _ 57 rfl w.heap.size 45 i0 (.pointer none) 1 8 Try.underlying57 hi hz0 hz1 hz2 rfl (by decide) _ e1.length _ rfl (HW.out.alloc _) (some ⟨wr.heap.size, 0, none⟩) 1 1 [.pointer (some ⟨p, 0, none⟩)] rfl rfl (by intro h; cases h) (by rintro ad he; injection he with he; subst he; exact cell_one_new _ _ _) (by intro q hq; simp at hq; subst hq; rfl) (by unfold maxLen; omega) (by omega) (by simp; omega) ?_)
          intro v2 w2 hown2 hgrow2 hat2
          (have hB2 := (HB.out.alloc hsz (.cells #[.pointer (some ⟨p, 0, none⟩)] 45)).grown hgrow2 (by simp; omega) (fun q hq => ((HW.out.alloc (.cells #[.pointer (some ⟨p, 0, none⟩)] 45)).lt q hq).1))
          (have c4 : w2.cell? ⟨p, 4, none⟩ = some (.pointer (some ⟨q2, 0, none⟩)) := (hB2.cell (p := ⟨p, 4, none⟩) hpl0).trans ((HB.out.cell (p := ⟨p, 4, none⟩) hpl0).symm.trans c3))
          have HB2 := Lib.hid hB2
          have HO2 := Lib.hid hown2
          clear hB2 hown2 hgrow2 hat2 c3)
      have hown2 := HO2.out
      rw [show e1.map (fun t => at_ t.1) ++ [Value.pointer (some ⟨p, 0, none⟩)] = (e1 ++ [(p, k, v)]).map fun t => at_ t.1 by simp [at_]] at hown2
      obtain ⟨tb, td, rfl, _, _⟩ := owned_any hown2
      go_wp2_with fail
      go_roundw
      case rel => exact ⟨e1 ++ [(p, k, v)], e2, q2, by rw [HES.out]; simp, rfl, HQ2.out, by rw [show (e1 ++ [(p, k, v)]).length = e1.length + 1 by simp]; exact hown2, HB2.out⟩
      case measure => simp [vlen]; omega
set_option maxHeartbeats 1000000 in
theorem len_any {B g b size : Nat} {es : List En} {f m : Int} (w : World) (h : CAt w B g b size es f m) :
    Calls Try.prog 9 #[.pointer (some ⟨g, 0, none⟩)] w fun x w' => x = .returned (.int .i64 (es.length : Int)) ∧ w = w' := by
  obtain ⟨N, hN, _⟩ := h.ring.ex
  obtain ⟨d4, _, _, _, _, _, _, _⟩ := hN.counts
  clear h hN
  go_enter Try.func9, Try.ntmps9
  go_wp2
  go_ret
  exact ⟨rfl, rfl⟩
theorem CAt.below {w w' : World} {B g b size : Nat} {es : List En} {f m : Int} (h : CAt w B g b size es f m) (hb : Below w.heap.size w w') : CAt w' B g b size es f m := by
  obtain ⟨mm, hm, hf⟩ := h.map
  exact ⟨h.ring.below hb, ⟨mm, hm.below hb, hf⟩, h.keys, h.kr, h.len, h.lo, h.hi, h.geg, h.geb, h.gep⟩
end Go.Proofs.Ytofjpbpfjjohdaa.KA
