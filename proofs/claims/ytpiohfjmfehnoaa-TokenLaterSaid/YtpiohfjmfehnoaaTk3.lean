/- Layer 23: a token fits; it is written: the program's walks. -/
import Derived.Test.YtpiohfjmfehnoaaTk2
namespace Go.Proofs.Ytpiohfjmfehnoaa
open Go.RowKit

abbrev TokV (n r : Int) : Value := .agg #[.int .i64 n, .int .i64 r]
abbrev TokC (n r : Int) : Array Value := #[.int .i64 n, .int .i64 r]
def fitB (n r : Int) : Bool := decide (0 ≤ n) && decide (n < 8) && decide (0 ≤ r) && decide (r ≤ 1125899906842624)
theorem fitB_iff {n r : Int} : fitB n r = true ↔ 0 ≤ n ∧ n < 8 ∧ 0 ≤ r ∧ r ≤ 1125899906842624 := by simp [fitB, and_assoc]
theorem below_drew {w w' : World} {B : Nat} (h : ∃ n, w' = w.drewN n) : Below B w w' := by
  obtain ⟨n, rfl⟩ := h
  exact ⟨rfl, rfl, rfl, Nat.le_refl _, fun _ _ => rfl⟩
theorem below_box (w : World) (o : Obj) (n : Nat) : Below w.heap.size w ((w.alloc o).drewN n) := (below_alloc w o).trans ⟨rfl, rfl, rfl, Nat.le_refl _, fun _ _ => rfl⟩
theorem Whole.drew {w : World} {g : Nat} {t : TypeId} {cs : Array Value} (h : Whole w g t cs) (n : Nat) : Whole (w.drewN n) g t cs := h

set_option maxHeartbeats 1000000 in
theorem fits_any (n r : Int) (w : World) :
    Calls Try.prog 14 #[TokV n r] w fun e w' => e = .returned (.bool (fitB n r)) ∧ Below w.heap.size w w' := by
  have h0 : n < 0 ∨ (0 ≤ n ∧ 8 ≤ n) ∨ (0 ≤ n ∧ n < 8 ∧ r < 0) ∨ (0 ≤ n ∧ n < 8 ∧ 0 ≤ r ∧ 1125899906842624 < r) ∨ (0 ≤ n ∧ n < 8 ∧ 0 ≤ r ∧ r ≤ 1125899906842624) := by omega
  rcases h0 with h | ⟨h, h1⟩ | ⟨h, h1, h2⟩ | ⟨h, h1, h2, h3⟩ | ⟨h, h1, h2, h3⟩
  all_goals
    have hf : fitB n r = fitB n r := rfl
    conv at hf => rhs; unfold fitB
    have HF := Lib.hid hf
    clear hf
    have HB := Lib.hid (below_alloc w (.cells (TokC n r) 23))
    go_enter Try.func14, Try.ntmps14
    go_wp2
    go_ret
    refine ⟨?_, HB.out⟩
    rw [HF.out]
    simp
    try omega

/-- The text of a token, but for its last sign; and whole. -/
def pre (n r : Int) : List Nat := n.toNat :: dg r.toNat
def full (n r : Int) : List Nat := pre n r ++ [fin (pre n r)]
theorem pre_ok {n r : Int} (h : fitB n r = true) : ok31 (pre n r) ∧ (pre n r).length ≤ 12 := by
  have hf := fitB_iff.1 h
  constructor
  · intro p hp
    rcases List.mem_cons.1 hp with rfl | hp
    · omega
    · exact dg_ok _ p hp
  · have := dg_len r.toNat 11 (by omega)
    simp only [pre, List.length_cons]
    omega
theorem full_ok {n r : Int} (h : fitB n r = true) : ok31 (full n r) ∧ (full n r).length ≤ 13 := by
  obtain ⟨h1, h2⟩ := pre_ok h
  constructor
  · intro p hp
    rcases List.mem_append.1 hp with hp | hp
    · exact h1 p hp
    · have := fin_lt (ps := pre n r) (by omega)
      simp at hp
      omega
  · simp only [full, List.length_append, List.length_singleton]
    omega
def prT (n r : Int) : ByteArray := if fitB n r then T (full n r) else ByteArray.empty
def prE (n r : Int) : Int := if fitB n r then 0 else 1

set_option maxHeartbeats 2000000 in
set_option maxRecDepth 100000 in
theorem print_any (n r : Int) (w : World) :
    Calls Try.prog 9 #[TokV n r] w fun e w' => e = .returned (.tuple #[.string (prT n r), .int .i64 (prE n r)]) ∧ Below w.heap.size w w' := by
  have HB := Lib.hid (below_alloc w (.cells (TokC n r) 23))
  have hw0 : Whole (w.alloc (.cells (TokC n r) 23)) w.heap.size 23 (TokC n r) := heap_alloc_new w _
  have HW := Lib.hid hw0
  clear hw0
  cases hf : fitB n r with
  | false =>
    have h1 : prT n r = ByteArray.empty := by rw [prT, hf]; rfl
    have h2 : prE n r = 1 := by rw [prE, hf]; rfl
    rw [h1, h2]
    have HX := Lib.hid (fun w => fits_any n r w)
    rw [hf] at HX
    clear h1 h2 hf
    go_enter Try.func9, Try.ntmps9
    go_wp2_with fail
    refine (HX.out _).mono ?_
    rintro e w1 ⟨rfl, hb⟩
    have HB1 := Lib.hid (HB.out.trans (hb.mono HB.out.size))
    clear hb
    go_wp2
    go_ret2
    exact ⟨rfl, HB1.out⟩
  | true =>
    have h1 : prT n r = T (full n r) := by rw [prT, hf]; rfl
    have h2 : prE n r = 0 := by rw [prE, hf]; rfl
    rw [h1, h2]
    have HX := Lib.hid (fun w => fits_any n r w)
    rw [hf] at HX
    obtain ⟨ho, hl⟩ := pre_ok hf
    have hx := fitB_iff.1 hf
    have HP := Lib.hid (fun w => finish_any _ ho (by omega) w)
    have HN := Lib.hid (fun w => number_any r.toNat (by omega) w)
    have HS := Lib.hid (fun w => sign_any n.toNat (by omega) w)
    have e1 : ((r.toNat : Nat) : Int) = r := by omega
    have e2 : ((n.toNat : Nat) : Int) = n := by omega
    rw [e1] at HN
    rw [e2] at HS
    have hsz1 := T_size [n.toNat]
    have hsz2 := T_size (dg r.toNat)
    have hl2 : (dg r.toNat).length ≤ 11 := dg_len _ _ (by omega)
    rw [List.length_singleton] at hsz1
    have hap : T [n.toNat] ++ T (dg r.toNat) = T (pre n r) := by rw [T_append]; rfl
    have HAP := Lib.hid hap
    have hfu : T (full n r) = T (pre n r ++ [fin (pre n r)]) := rfl
    rw [hfu]
    clear h1 h2 hf ho hl hx e1 e2 hap hfu
    generalize T (pre n r ++ [fin (pre n r)]) = U at *
    generalize T (pre n r) = V at *
    generalize T [n.toNat] = V1 at *
    generalize dg r.toNat = dr at *
    generalize T dr = V2 at *
    go_enter Try.func9, Try.ntmps9
    go_wp2_with fail
    refine (HX.out _).mono ?_
    rintro e w1 ⟨rfl, hb⟩
    have HB1 := Lib.hid (HB.out.trans (hb.mono HB.out.size))
    have hl := HW.out.lt
    have hw1 : Whole w1 w.heap.size 23 (TokC n r) := HW.out.kept (hb.block _ hl)
    have c0 : w1.cell? ⟨w.heap.size, 0, none⟩ = some (.int .i64 n) := hw1.cell 0
    have c1 : w1.cell? ⟨w.heap.size, 1, none⟩ = some (.int .i64 r) := hw1.cell 1
    clear hb hl hw1
    go_wp2_with fail
    go_quiet ((first | (go_at_call 16; exact Calls.quiet_of_same (HS.out _)) | (go_at_call 17; exact Calls.quiet_of_same (HN.out _)) | (go_at_call 15; rw [HAP.out]; exact Calls.quiet_of_same (HP.out _))))
    go_wp2
    go_ret2
    exact ⟨rfl, HB1.out.trans ((below_drewN _ _).mono HB1.out.size)⟩
end Go.Proofs.Ytpiohfjmfehnoaa
