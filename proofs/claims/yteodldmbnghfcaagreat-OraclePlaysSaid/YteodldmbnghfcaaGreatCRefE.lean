/- The document's bit, long and Texts. -/
import Derived.Test.YteodldmbnghfcaaGreatCInv
import Derived.Test.YteodldmbnghfcaaGreatCRefI
import Derived.Laws.Concat
import Derived.Deep.RegionHeld3
namespace Go.Proofs.YteodldmbnghfcaaGreat
open Go.RowKit

set_option maxRecDepth 100000 in
theorem refbit_any (d : Bool) (w : World) : Calls Tryz.prog 53 #[.bool d] w fun e w' => e = .returned (.string (strOfNums [bit d])) ∧ w = w' := by
  cases d
  · go_enter Tryz.func53, Tryz.ntmps53
    go_wp2
    go_ret
    exact ⟨rfl, rfl⟩
  · go_enter Tryz.func53, Tryz.ntmps53
    go_wp2
    go_ret
    exact ⟨rfl, rfl⟩
/-- Has a tuple too long a text? -/
def longB (a b c : ByteArray) : Bool := decide (128 < a.size) || (decide (128 < b.size) || decide (128 < c.size))
set_option maxRecDepth 100000 in
theorem reflong_any (a b c : ByteArray) (w : World) (ha : a.size ≤ 9223372036854775807) (hb : b.size ≤ 9223372036854775807) (hc : c.size ≤ 9223372036854775807) :
    Calls Tryz.prog 54 #[.agg #[.string a, .string b, .string c]] w fun e w' => e = .returned (.bool (longB a b c)) ∧ Below w.heap.size w w' := by
  have HB := Lib.hid (below_alloc w (.cells #[.string a, .string b, .string c] 114))
  by_cases h1 : 128 < a.size
  · have HL := Lib.hid (show longB a b c = true by simp [longB, h1])
    have d1 : decide ((128 : Int) < (a.size : Int)) = true := by simp; omega
    clear h1
    go_enter Tryz.func54, Tryz.ntmps54
    go_wp2
    go_ret
    exact ⟨by rw [HL.out]; rfl, HB.out⟩
  by_cases h2 : 128 < b.size
  · have HL := Lib.hid (show longB a b c = true by simp [longB, h2])
    have d1 : decide ((128 : Int) < (a.size : Int)) = false := by simp; omega
    have d2 : decide ((128 : Int) < (b.size : Int)) = true := by simp; omega
    clear h1 h2
    go_enter Tryz.func54, Tryz.ntmps54
    go_wp2
    go_ret
    exact ⟨by rw [HL.out]; rfl, HB.out⟩
  · have HL := Lib.hid (show longB a b c = decide (128 < c.size) by simp [longB, h1, h2])
    have d1 : decide ((128 : Int) < (a.size : Int)) = false := by simp; omega
    have d2 : decide ((128 : Int) < (b.size : Int)) = false := by simp; omega
    have HD := Lib.hid (show decide ((128 : Int) < (c.size : Int)) = decide (128 < c.size) by simp; omega)
    clear h1 h2
    go_enter Tryz.func54, Tryz.ntmps54
    go_wp2
    go_ret
    exact ⟨by rw [HL.out, ← HD.out]; rfl, HB.out⟩
/-- What is held of the world in Texts. -/
def KeptT (w V : World) : Prop := Below w.heap.size w V ∧ w.heap.size < V.heap.size
abbrev HeldT (w V : World) (a b c : ByteArray) : Prop := V.cell? ⟨w.heap.size, 0, none⟩ = some (.string a) ∧ V.cell? ⟨w.heap.size, 1, none⟩ = some (.string b) ∧ V.cell? ⟨w.heap.size, 2, none⟩ = some (.string c) ∧ KeptT w V
theorem heldT_keep {w V V' : World} {a b c : ByteArray} (h : HeldT w V a b c) (hb : Below V.heap.size V V') : HeldT w V' a b c :=
  have k := h.2.2.2
  ⟨(hb.cell (p := ⟨w.heap.size, 0, none⟩) k.2).trans h.1, (hb.cell (p := ⟨w.heap.size, 1, none⟩) k.2).trans h.2.1, (hb.cell (p := ⟨w.heap.size, 2, none⟩) k.2).trans h.2.2.1, k.1.trans (hb.mono k.1.size), Nat.lt_of_lt_of_le k.2 hb.size⟩
theorem bl_str (a : ByteArray) : strOfNums (bl a) = a := by
  have hs : (strOfNums (bl a)).size = a.size := by rw [strOfNums_size, bl_length]
  have := bl_nums (bl_byte a)
  have h2 : (strOfNums (bl a)).data.toList = a.data.toList := by
    have h3 : (bl (strOfNums (bl a))) = bl a := this
    unfold bl at h3
    exact (List.map_inj_right (f := fun x : UInt8 => (x.toNat : Int)) (fun x y hxy => by
      have h4 : (x.toNat : Int) = (y.toNat : Int) := hxy
      exact UInt8.toNat_inj.1 (by omega))).1 h3
  generalize strOfNums (bl a) = s at *
  cases s; cases a
  congr 1
  exact Array.toList_inj.1 h2
theorem tx_str (a : ByteArray) : strOfNums (tx a) = strOfNums (Vi.int a.size) ++ a := by
  rw [tx, ← str_append, bl_str]
theorem tup_str (a b c : ByteArray) : strOfNums (tup a b c) = strOfNums (Vi.int a.size) ++ a ++ strOfNums (Vi.int b.size) ++ b ++ strOfNums (Vi.int c.size) ++ c := by
  rw [tup, ← str_append, ← str_append, tx_str, tx_str, tx_str]
  simp only [ByteArray.append_assoc]
set_option maxRecDepth 100000 in
set_option maxHeartbeats 2000000 in
theorem reftexts_any (a b c : ByteArray) (w : World) (ha : a.size ≤ 140737488351232) (hb : b.size ≤ 140737488351232) (hc : c.size ≤ 140737488351232) :
    Calls Tryz.prog 55 #[.agg #[.string a, .string b, .string c]] w fun e w' => e = .returned (.string (strOfNums (tup a b c))) ∧ Below w.heap.size w w' := by
  obtain ⟨W0, hW0⟩ : ∃ W0, W0 = w.alloc (.cells #[.string a, .string b, .string c] 114) := ⟨_, rfl⟩
  have hw0 : Whole W0 w.heap.size 114 #[.string a, .string b, .string c] := by rw [hW0]; exact heap_alloc_new w _
  have hb0 : Below w.heap.size w W0 := by rw [hW0]; exact below_alloc w _
  have HS0 := Lib.hid (show HeldT w W0 a b c from ⟨hw0.cell 0, hw0.cell 1, hw0.cell 2, hb0, hw0.lt⟩)
  have HRI := Lib.hid (fun (n : Int) w h1 h2 => refint_any n w h1 h2)
  have HE := Lib.hid (tup_str a b c)
  have hi : ∀ s : ByteArray, s.size ≤ 140737488351232 → (strOfNums (Vi.int s.size)).size ≤ 10 := fun s hs => by rw [strOfNums_size]; exact Vi.int_length _ (by omega) (by omega)
  have h1 := hi a ha
  have h2 := hi b hb
  have h3 := hi c hc
  have HIA := Lib.hid (fun w => refint_any (a.size : Int) w (by omega) (by omega))
  have HIB := Lib.hid (fun w => refint_any (b.size : Int) w (by omega) (by omega))
  have HIC := Lib.hid (fun w => refint_any (c.size : Int) w (by omega) (by omega))
  clear hi hw0 hb0
  generalize strOfNums (Vi.int a.size) = ia at *
  generalize strOfNums (Vi.int b.size) = ib at *
  generalize strOfNums (Vi.int c.size) = ic at *
  have a1 := fun w : World => run_string_add_sum (P := Tryz.prog) w ia a (by omega)
  have a2 := fun w : World => run_string_add_sum (P := Tryz.prog) w (ia ++ a) ib (by simp; omega)
  have a3 := fun w : World => run_string_add_sum (P := Tryz.prog) w (ia ++ a ++ ib) b (by simp; omega)
  have a4 := fun w : World => run_string_add_sum (P := Tryz.prog) w (ia ++ a ++ ib ++ b) ic (by simp; omega)
  have a5 := fun w : World => run_string_add_sum (P := Tryz.prog) w (ia ++ a ++ ib ++ b ++ ic) c (by simp; omega)
  go_enter Tryz.func55, Tryz.ntmps55
  go_wp2_with fail
  rw [← hW0]
  clear hW0
  go_region_held3 (fun V => HeldT w V a b c) (first
      | exact heldT_keep HS0.out (below_drewN _ 1)
      | assumption
      | exact heldT_keep (by assumption) (by assumption)) (first
    | (go_at_call 52; (first
      | (with_reducible refine (HIA.out _).mono ?_)
      | (with_reducible refine (HIB.out _).mono ?_)
      | (with_reducible refine (HIC.out _).mono ?_)); rintro e w' ⟨rfl, hbn⟩))
  have HF := Lib.hid (show HeldT w w' a b c by assumption)
  go_wp2
  go_ret
  exact ⟨by rw [HE.out]; rfl, HF.out.2.2.2.1⟩
end Go.Proofs.YteodldmbnghfcaaGreat
