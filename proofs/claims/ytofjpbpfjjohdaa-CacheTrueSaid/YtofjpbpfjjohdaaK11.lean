/- The law's bench: of three keys the one that wasn't used for longest is gone. -/
import Derived.Test.YtofjpbpfjjohdaaK10SI
namespace Go.Proofs.Ytofjpbpfjjohdaa
open Go.RowKit

theorem KS.CAt.up {w W W' : World} {g b size : Nat} {es : List KS.En} {f m : Int} (h : KS.CAt W w.heap.size g b size es f m) (hb : Below w.heap.size w W) (hc : KS.Chg W W' (KS.CB g b es)) : Below w.heap.size w W' :=
  hb.trans (hc.below (fun k hk => by
    rcases hk with h1 | h1 | h1
    · rw [h1]; exact h.geg
    · rw [h1]; exact h.geb
    · exact h.gep k h1) hb.size)
theorem put_fresh {w : World} {size : Nat} {k : ByteArray} {v : Int} {es es' : List KS.En} (h : KS.PutTo w size k v es es') (hk : k ∉ es.map (·.2.1)) : ∃ e, es' = (e, k, v) :: (if es.length = size then es.dropLast else es) := by
  rcases h with ⟨e1, e, e2, v0, rfl, _⟩ | ⟨_, e, _, h⟩
  · exact absurd (by simp) hk
  · exact ⟨e, h⟩

set_option maxRecDepth 100000 in
set_option maxHeartbeats 8000000 in
theorem awake_any (w : World) : Calls Try.prog 4 #[] w fun e w' => e = .returned (.bool true) ∧ Below w.heap.size w w' := by
  have HN := Lib.hid (KS.new_good w.heap.size 2 w (by omega) (by omega) (Nat.le_refl _))
  go_enter Try.func4, Try.ntmps4
  go_wp2_with fail
  refine HN.out.mono ?_
  rintro x w1 ⟨g, b, rfl, hcat, _, _, hb⟩
  have HP1 := Lib.hid (KS.Put_any (⟨#[97]⟩ : ByteArray) 1 w1 hcat (by decide) hb.size)
  have HC1 := Lib.hid hcat
  have HB1 := Lib.hid hb
  clear hcat hb
  go_wp2_with fail
  refine HP1.out.mono ?_
  rintro x w2 ⟨rfl, es1, hcat, hput, hc⟩
  obtain ⟨ea, rfl⟩ := put_fresh hput (by simp)
  have hb := HC1.out.up HB1.out hc
  simp at hcat
  have HP2 := Lib.hid (KS.Put_any (⟨#[98]⟩ : ByteArray) 2 w2 hcat (by decide) hb.size)
  have HC2 := Lib.hid hcat
  have HB2 := Lib.hid hb
  clear hcat hb hput hc
  go_wp2_with fail
  refine HP2.out.mono ?_
  rintro x w3 ⟨rfl, es2, hcat, hput, hc⟩
  obtain ⟨eb, rfl⟩ := put_fresh hput (by simp)
  have hb := HC2.out.up HB2.out hc
  simp at hcat
  have HG1 := Lib.hid (KS.Get_there (e1 := [(eb, ⟨#[98]⟩, 2)]) (e2 := []) (k := ⟨#[97]⟩) (v := 1) (e := ea) w3 hcat (by omega))
  have HC3 := Lib.hid hcat
  have HB3 := Lib.hid hb
  clear hcat hb hput hc
  go_wp2_with fail
  refine HG1.out.mono ?_
  rintro x w4 ⟨rfl, hcat, hc⟩
  have hb := HC3.out.up HB3.out hc
  simp at hcat
  have HP3 := Lib.hid (KS.Put_any (⟨#[99]⟩ : ByteArray) 3 w4 hcat (by decide) hb.size)
  have HC4 := Lib.hid hcat
  have HB4 := Lib.hid hb
  clear hcat hb hc
  go_wp2_with fail
  refine HP3.out.mono ?_
  rintro x w5 ⟨rfl, es3, hcat, hput, hc⟩
  obtain ⟨ec, rfl⟩ := put_fresh hput (by simp)
  have hb := HC4.out.up HB4.out hc
  simp at hcat
  have HG2 := Lib.hid (KS.Get_there (e1 := [(ec, ⟨#[99]⟩, 3)]) (e2 := []) (k := ⟨#[97]⟩) (v := 1) (e := ea) w5 hcat (by omega))
  have HC5 := Lib.hid hcat
  have HB5 := Lib.hid hb
  clear hcat hb hput hc
  go_wp2_with fail
  refine HG2.out.mono ?_
  rintro x w6 ⟨rfl, hcat, hc⟩
  have hb := HC5.out.up HB5.out hc
  simp at hcat
  have HG3 := Lib.hid (KS.Get_none (⟨#[98]⟩ : ByteArray) w6 hcat (by decide) (by simp) (by omega))
  have HC6 := Lib.hid hcat
  have HB6 := Lib.hid hb
  clear hcat hb hc
  go_wp2_with fail
  refine HG3.out.mono ?_
  rintro x w7 ⟨rfl, hcat, hc⟩
  have hb := HC6.out.up HB6.out hc
  simp at hcat
  have HCT := Lib.hid (KS.Counts_any w7 hcat)
  have HLN := Lib.hid (fun n => KS.len_any (w7.drewN n) (hcat.below (below_drewN w7 n)))
  have HB7 := Lib.hid hb
  clear hcat hb hc
  go_wp2_with fail
  refine HCT.out.mono ?_
  rintro x w8 ⟨rfl, n, rfl⟩
  go_wp2_with fail
  refine (HLN.out n).mono ?_
  rintro x w8 ⟨rfl, rfl⟩
  go_wp2
  go_ret
  exact ⟨rfl, HB7.out.trans ((below_drewN w7 n).mono HB7.out.size)⟩
end Go.Proofs.Ytofjpbpfjjohdaa
