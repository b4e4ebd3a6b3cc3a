/- Layer 5: the bench: one fixed text is read. -/
import Derived.Test.YtfomhbaebgcleaaT8
namespace Go.Proofs.Ytfomhbaebgcleaa
open Go.RowKit

def textA : ByteArray := ⟨#[100, 111, 99, 58, 97, 35, 118, 105, 101, 119, 101, 114, 64, 103, 114, 111, 117, 112, 58, 98, 35, 109, 101, 109, 98, 101, 114]⟩
def textU : ByteArray := ⟨#[103, 114, 111, 117, 112, 58, 98, 35, 109, 101, 109, 98, 101, 114]⟩
theorem textA_e : prsE textA = 0 := by decide +kernel
theorem textA_a : prsA textA = ⟨#[100, 111, 99, 58, 97]⟩ := by decide +kernel
theorem textA_b : prsB textA = ⟨#[118, 105, 101, 119, 101, 114]⟩ := by decide +kernel
theorem textA_c : prsC textA = textU := by decide +kernel
theorem textU_e : usrE textU = 0 := by decide +kernel
theorem textU_a : usrA textU = ⟨#[103, 114, 111, 117, 112, 58, 98]⟩ := by decide +kernel
theorem textU_b : usrB textU = ⟨#[109, 101, 109, 98, 101, 114]⟩ := by decide +kernel
theorem textA_p : prn ⟨#[100, 111, 99, 58, 97]⟩ ⟨#[118, 105, 101, 119, 101, 114]⟩ textU = textA := by decide +kernel

set_option maxRecDepth 100000 in
set_option maxHeartbeats 1000000 in
theorem awake_any (w : World) :
    Calls Try.prog 7 #[] w fun e w' => e = .returned (.bool true) ∧ Below w.heap.size w w' := by
  have HP := Lib.hid (fun w => parse_any textA w (by decide))
  have HU := Lib.hid (fun w => user_any textU w (by decide))
  have HR := Lib.hid (fun w => print_any ⟨#[100, 111, 99, 58, 97]⟩ ⟨#[118, 105, 101, 119, 101, 114]⟩ textU w (by decide) (by decide) (by decide))
  rw [textA_e, textA_a, textA_b, textA_c] at HP
  rw [textU_e, textU_a, textU_b] at HU
  rw [textA_p] at HR
  unfold TupV at HP HR
  go_enter Try.func7, Try.ntmps7
  go_wp2_with fail
  refine (HP.out _).mono ?_
  rintro e w1 ⟨rfl, hb1⟩
  have HB1 := Lib.hid hb1
  clear hb1
  go_wp2_with fail
  refine (HU.out _).mono ?_
  rintro e w2 ⟨rfl, n, rfl⟩
  go_wp2_with fail
  refine (HR.out _).mono ?_
  rintro e w3 ⟨rfl, hb3⟩
  have HB3 := Lib.hid ((HB1.out.trans ((below_box w1 _ n).mono HB1.out.size)).trans (hb3.mono (by have := HB1.out.size; simp; omega)))
  clear hb3
  unfold textA
  go_wp2
  go_ret
  exact ⟨rfl, HB3.out⟩
end Go.Proofs.Ytfomhbaebgcleaa
