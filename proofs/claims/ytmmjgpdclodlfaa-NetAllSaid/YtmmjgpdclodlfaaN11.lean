/- The network: the law's first question. -/
import Derived.Test.YtmmjgpdclodlfaaN10
namespace Go.Proofs.Ytmmjgpdclodlfaa
open Go.RowKit

theorem PkIn.lit (w : World) (x : Int) (hx : 0 ≤ x ∧ x < 256) (fr : Nat × Nat) : PkIn (w.alloc (.cells #[.int .u8 x] 5 fr)) (some ⟨w.heap.size, 0, none⟩) 1 [x] :=
  ⟨IsB.lit w [x] fr (by simpa using hx), by simp, Nat.le_refl _, by simp [maxLen], by simp⟩
theorem NAt.chgUp {w W W' : World} {g : Nat} {nodes : Int} {v : Value} {ps : List Pk} (h : NAt W w.heap.size g nodes v ps) (hb : Below w.heap.size w W) (hc : Chg W W' (NB g v)) : Below w.heap.size w W' := hb.trans (h.up hb.size hc)
set_option maxRecDepth 100000 in
set_option maxHeartbeats 4000000 in
theorem awake_any (w : World) : Calls Try.prog 5 #[] w fun e w' => e = .returned (.bool true) ∧ Below w.heap.size w w' := by
  have kc := fun (w : World) (C : Array Value) (n c : Nat) => Lib.run_convert_bytes_const (P := Try.prog) w 30 5 C n c Try.underlying30 Try.underlying5
  have HNW := Lib.hid (new_good 2 w (by decide) (by decide))
  go_enter Try.func5, Try.ntmps5
  go_wp2_with fail
  refine HNW.out.mono ?_
  rintro e w1 ⟨rfl, hN1, hb1⟩
  obtain ⟨wa, hwa⟩ : ∃ wa, wa = w1.alloc (.cells #[.int .u8 97] 5 (1, 2)) := ⟨_, rfl⟩
  have hba : Below w1.heap.size w1 wa := by rw [hwa]; exact below_alloc _ _
  have hNa := hN1.below hba
  have hBa := hb1.trans (hba.mono hb1.size)
  have HS1 := Lib.hid (send_ok 0 1 wa hNa (c := 1) (a := some ⟨w1.heap.size, 0, none⟩) (xs := [97]) (by rw [hwa]; exact PkIn.lit w1 97 (by decide) _) (by decide) (by decide) (by decide) (by decide) (by decide) hBa.size)
  have HNA := Lib.hid hNa
  have HBA := Lib.hid hBa
  clear hN1 hb1 hba hNa hBa
  go_wp2_with fail
  rw [← hwa]
  clear hwa
  refine HS1.out.mono ?_
  rintro e w2 ⟨rfl, u1, v1, hN2, hc2, _⟩
  have hb2 := HNA.out.chgUp HBA.out hc2
  obtain ⟨wb, hwb⟩ : ∃ wb, wb = w2.alloc (.cells #[.int .u8 98] 5 (1, 2)) := ⟨_, rfl⟩
  have hbb : Below w2.heap.size w2 wb := by rw [hwb]; exact below_alloc _ _
  have hNb := hN2.below hbb
  have hBb := hb2.trans (hbb.mono hb2.size)
  have HS2 := Lib.hid (send_ok 1 0 wb hNb (c := 1) (a := some ⟨w2.heap.size, 0, none⟩) (xs := [98]) (by rw [hwb]; exact PkIn.lit w2 98 (by decide) _) (by decide) (by decide) (by decide) (by decide) (by simp) hBb.size)
  have HNB := Lib.hid hNb
  have HBB := Lib.hid hBb
  clear hN2 hc2 hb2 hbb hNb hBb HNA HBA HS1
  go_wp2_with fail
  rw [← hwb]
  clear hwb
  refine HS2.out.mono ?_
  rintro e w3 ⟨rfl, u2, v2, hN3, hc3, _⟩
  have hb3 := HNB.out.chgUp HBB.out hc3
  have HD := Lib.hid (deliver_ok (i := 1) w3 hN3 rfl (by simp) hb3.size)
  have HN3 := Lib.hid hN3
  have HB3 := Lib.hid hb3
  clear hN3 hc3 hb3 HNB HBB HS2
  go_wp2_with fail
  refine HD.out.mono ?_
  rintro e w4 ⟨rfl, v4, hN4, hp4, hc4, _⟩
  have hb4 := HN3.out.chgUp HB3.out hc4
  obtain ⟨pa, pk, hpv, hisb, _⟩ := hp4.isb
  simp only at hpv
  subst hpv
  obtain ⟨wc, hwc⟩ : ∃ wc, wc = w4.alloc (.cells #[.int .i64 1, .int .i64 0, .slice pa 1 pk] 32) := ⟨_, rfl⟩
  have hbc : Below w4.heap.size w4 wc := by rw [hwc]; exact below_alloc _ _
  have HL := Lib.hid (len_any wc (hN4.below hbc))
  have hstr := (hisb.below hbc).str pk
  have HBC := Lib.hid (hb4.trans (hbc.mono hb4.size))
  rw [hwc] at hstr
  have hsb : strOfNums [98] = ⟨#[98]⟩ := by rfl
  simp only [List.length_cons, List.length_nil, Nat.zero_add, hsb] at hstr
  clear hsb
  clear hN4 hp4 hc4 hb4 hisb hbc HN3 HB3 HD
  go_wp2_with fail
  rw [← hwc]
  refine HL.out.mono ?_
  rintro e w5 ⟨rfl, rfl⟩
  go_wp2
  go_ret
  rw [← hwc]
  exact ⟨rfl, HBC.out⟩
end Go.Proofs.Ytmmjgpdclodlfaa
