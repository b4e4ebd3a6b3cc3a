/- The cache of string,int: entries, Put, Len. -/
import Derived.Test.YtofjpbpfjjohdaaK4SI
import Derived.Laws.Tables
import Derived.LaidEql
namespace Go.Proofs.Ytofjpbpfjjohdaa.KS
open Go.RowKit Go.Proofs.Ytofjpbpfjjohdaa
open Go.Maps (Keyed)

theorem Try.infoP : (Try.prog.info? 60).map (fun i => (i.zero, i.size, i.bytes)) = some (some (.pointer none), 1, 8) := by kernel_rfl
theorem info_of {P : Program} {t : TypeId} {z : Value} {s b : Nat} (h : (P.info? t).map (fun i => (i.zero, i.size, i.bytes)) = some (some z, s, b)) : ∃ i, P.info? t = some i ∧ i.zero = some z ∧ i.size = s ∧ i.bytes = b := by
  obtain ⟨i, hi, hx⟩ := Option.map_eq_some_iff.1 h
  injection hx with a b
  injection b with b c
  exact ⟨i, hi, a, b, c⟩
theorem make_row {P : Program} (w : World) (t e : TypeId) (i : TypeInfo) (z : Value) (by_ : Nat) (ht : P.underlying t = some (.slice e)) (hi : P.info? e = some i) (hz : i.zero = some z) (hsize : i.size = 1) (hz1 : z.cells = #[z]) (hby : i.bytes = by_)
    (m : Nat) (hm : by_ * m ≤ 281474976710656) (hm2 : m ≤ 281474976710656) :
    (Instr.makeSlice t (.int .i64 0) (.int .i64 (m : Int))).run P w = .ok (.slice (some ⟨w.heap.size, 0, none⟩) 0 m) (w.alloc (.cells (madeCells #[z] m) e)) := by
  have hb2 : (i.bytes : Int) * (m : Int) ≤ 281474976710656 := by
    rw [hby, ← Int.natCast_mul]; omega
  have hr := run_make (P := P) w t e i z ht hi hz .i64 .i64 0 m (by omega) (by omega) hb2 (by omega)
  simp only [Int.toNat_natCast, hsize, Nat.mul_one, hz1] at hr
  exact hr
def vlen : Value → Nat
  | .slice _ n _ => n
  | _ => 0

theorem ptr_sameIn (d a : Nat) (w : World) : (Op.equalIn (d + 1) 60 (.pointer (some ⟨a, 0, none⟩)) (.pointer (some ⟨a, 0, none⟩))).run Try.prog w = .ok true w := by
  have hs : (sizeOf 62).run Try.prog w = .ok 4 w := by kernel_rfl
  simp [Op.equalIn, run_underlying Try.underlying60, hs, run_sameAddr_same]
theorem ptr_same (a : Nat) (w : World) : (binOp .neq 60 (.pointer (some ⟨a, 0, none⟩)) (.pointer (some ⟨a, 0, none⟩))).run Try.prog w = .ok (.bool false) w := by
  have h1 := ptr_sameIn 9999 a w
  simp only [binOp]
  simp [Op.equal, show Op.maxDepth = 9999 + 1 from rfl, h1]
theorem ptr_otherIn (d : Nat) {a b : Nat} {w : World} {ta tb : TypeId} {ca cb : Array Value} (ha : Whole w a ta ca) (hb : Whole w b tb cb) (hne : a ≠ b) : (Op.equalIn (d + 1) 60 (.pointer (some ⟨a, 0, none⟩)) (.pointer (some ⟨b, 0, none⟩))).run Try.prog w = .ok false w := by
  have hs : (sizeOf 62).run Try.prog w = .ok 4 w := by kernel_rfl
  have h0 := run_sameAddr_other (P := Try.prog) w (a := ⟨a, 0, none⟩) (b := ⟨b, 0, none⟩) (by intro e; injection e with e; exact hne e) ha hb
  simp [Op.equalIn, run_underlying Try.underlying60, hs, h0]
theorem ptr_other {a b : Nat} {w : World} {ta tb : TypeId} {ca cb : Array Value} (ha : Whole w a ta ca) (hb : Whole w b tb cb) (hne : a ≠ b) : (binOp .neq 60 (.pointer (some ⟨a, 0, none⟩)) (.pointer (some ⟨b, 0, none⟩))).run Try.prog w = .ok (.bool true) w := by
  have h1 := ptr_otherIn 9999 ha hb hne
  simp only [binOp]
  simp [Op.equal, show Op.maxDepth = 9999 + 1 from rfl, h1]

set_option maxHeartbeats 1000000 in
theorem len_any {B g b size : Nat} {es : List En} {f m : Int} (w : World) (h : CAt w B g b size es f m) :
    Calls Try.prog 14 #[.pointer (some ⟨g, 0, none⟩)] w fun x w' => x = .returned (.int .i64 (es.length : Int)) ∧ w = w' := by
  obtain ⟨N, hN, _⟩ := h.ring.ex
  obtain ⟨d4, _, _, _, _, _, _, _⟩ := hN.counts
  clear h hN
  go_enter Try.func14, Try.ntmps14
  go_wp2
  go_ret
  exact ⟨rfl, rfl⟩
theorem CAt.below {w w' : World} {B g b size : Nat} {es : List En} {f m : Int} (h : CAt w B g b size es f m) (hb : Below w.heap.size w w') : CAt w' B g b size es f m := by
  obtain ⟨mm, hm, hf⟩ := h.map
  exact ⟨h.ring.below hb, ⟨mm, hm.below hb, hf⟩, h.keys, h.kr, h.len, h.lo, h.hi, h.geg, h.geb, h.gep⟩
end Go.Proofs.Ytofjpbpfjjohdaa.KS
