/- The law's opened, and awake. -/
import Derived.Test.YtjfllomnphppfaaZ4
namespace Go.Proofs.Ytjfllomnphppfaa
open Go.RowKit

section
variable {w w' : World} {B go gl mb g o r : Nat} {v row : Value} {L : List Iss} {ms : List MsgD}
theorem OrAt.lower {B' : Nat} (h : OrAt w B go gl mb row L o) (hb : B' ≤ B) : OrAt w B' go gl mb row L o := ⟨h.own, owns_lower h.row hb, h.map, h.rise, h.len, Nat.le_trans hb h.geo, Nat.le_trans hb h.gem⟩
theorem Turned.chg (h : Dk.Turned w w' g none) (P : Nat → Prop) (hg : P g) : Chg w w' P := ⟨h.os, h.tape, h.output, h.size, fun k hk hn => h.block k hk (fun e => hn (by rw [e]; exact hg)) (by simp)⟩
/-- What opened comes to. -/
def OpdR (w : World) (B g : Nat) (ms : List MsgD) (r : Nat) (e : Ending) (w' : World) : Prop :=
  ∃ go gl mb v' row, e = .returned (.pointer (some ⟨go, 0, none⟩)) ∧ OS w' B go gl mb g v' row ms r ∧ Chg w w' (fun k => k = g) ∧ w.heap.size ≤ mb
set_option maxRecDepth 100000 in
set_option maxHeartbeats 4000000 in
theorem opened_any (w : World) (d : Nat) (h : Dk.DAt w B g v (cat ms) d r) (hf : ∀ m ∈ ms, m.fine) (hB : B ≤ w.heap.size) :
    Calls Try.prog 8 #[.pointer (some ⟨g, 0, none⟩)] w (OpdR w B g ms r) := by
  have HL := Lib.hid (lopen_cat B g v ms d r w h hf)
  have HF := Lib.hid hf
  have HB := Lib.hid hB
  have HRM := Lib.hid (show ms.length * 20 ≤ 1048576 by have h1 := cat_len ms; have h2 := h.hr; have h3 := h.hm; omega)
  clear h hf hB
  go_enter Try.func8, Try.ntmps8
  go_wp2_with fail
  refine HL.out.mono ?_
  rintro e w1 ⟨gl, ra, rc, v', rfl, h1, h2, h3, hls, h5, _, hms, ht⟩
  have HO := Lib.hid (oopen_any w1 gl ra ms.length rc hms (by have := HRM.out; omega))
  have HLS := Lib.hid hls
  have HT := Lib.hid (Turned.chg ht (fun k => k = g) rfl)
  clear h1 h2 h3 hls h5 hms ht
  go_wp2_with fail
  refine HO.out.mono ?_
  rintro e w2 ⟨go, mb, row, rfl, hO, hb2⟩
  have HE := Lib.hid (show OpdR w B g ms r (.returned (.pointer (some ⟨go, 0, none⟩))) w2 from ⟨go, gl, mb, v', row, rfl, ⟨Lg.keep HLS.out hb2, hO.lower (by have := HB.out; have := HT.out.size; omega), HF.out⟩, HT.out.up (hb2.mono HT.out.size), Nat.le_trans HT.out.size hO.gem⟩)
  clear hO hb2
  go_wp2
  go_ret
  exact HE.out
theorem od_len {k f i q : Int} (h1 : InI k) (h2 : InI f) (h3 : InI i) (h4 : InI q) : (rcd (oD k f i q)).length ≤ 150 := by
  have e1 := Vi.int_length k h1.1 h1.2
  have e2 := Vi.int_length f h2.1 h2.2
  have e3 := Vi.int_length i h3.1 h3.2
  have e4 := Vi.int_length q h4.1 h4.2
  have h0 := Vi.int_length 0 (by omega) (by omega)
  rw [rcd_len]
  simp only [enc, oD, List.length_append, lst, List.map_nil, List.flatten_nil, List.length_nil, List.length_singleton]
  have : ((0 : Nat) : Int) = 0 := rfl
  rw [this]
  omega
theorem crash_all (w : World) (h : OS w B go gl mb g v row ms r) :
    Calls Try.prog 11 #[.pointer (some ⟨g, 0, none⟩), .int .i64 0] w fun e w' => e = .returned (.tuple #[]) ∧ ∃ v', Dk.DAt w' B g v' (cat ms) (cat ms).length r ∧ Chg w w' (fun k => k = g) := by
  have hl : Lg w B gl g v (cat ms) (cat ms).length r ms.length := h.log
  refine (Dk.crash_any 0 w hl.disk (by omega)).mono ?_
  rintro e w' ⟨rfl, v', h1, h2, _⟩
  have hle : Dk.left (cat ms).length (cat ms).length 0 = (cat ms).length := by unfold Dk.left; simp
  rw [hle, List.take_length] at h1
  exact ⟨rfl, v', h1, Turned.chg h2 _ rfl⟩
def om7 : MsgD := oD 1 1 7 1
def om8 : MsgD := oD 1 1 8 2
def om9 : MsgD := oD 2 0 7 0
theorem in_small {k : Int} (h : -1000 ≤ k ∧ k ≤ 1000) : InI k := ⟨by omega, by omega⟩
theorem len3 : (rcd om7).length ≤ 150 ∧ (rcd om8).length ≤ 150 ∧ (rcd om9).length ≤ 150 := ⟨od_len (in_small (by omega)) (in_small (by omega)) (in_small (by omega)) (in_small (by omega)), od_len (in_small (by omega)) (in_small (by omega)) (in_small (by omega)) (in_small (by omega)), od_len (in_small (by omega)) (in_small (by omega)) (in_small (by omega)) (in_small (by omega))⟩
theorem cat_one (m : MsgD) : (cat [m]).length = (rcd m).length := by simp [cat]
theorem cat_two (m m' : MsgD) : (cat [m, m']).length = (rcd m).length + (rcd m').length := by simp [cat]
def L7 : List Iss := [⟨1, 7, 1, false⟩]
def L8 : List Iss := [⟨1, 7, 1, false⟩, ⟨2, 8, 1, false⟩]
def L9 : List Iss := [⟨1, 7, 1, true⟩, ⟨2, 8, 1, false⟩]
theorem rep7 : rep [om7] = L7 := rfl
theorem rep8 : rep [om7, om8] = L8 := rfl
theorem rep9 : rep [om7, om8, om9] = L9 := rfl
theorem last0 : lastR (rep []) = 0 := rfl
theorem last7 : lastR (rep [om7]) = 1 := rfl
theorem last8 : lastR (rep [om7, om8]) = 2 := rfl
theorem closed8 : closedR (rep [om7, om8]) = 0 := rfl
theorem closed9 : closedR (rep [om7, om8, om9]) = 1 := rfl
theorem OS.sb_ge (h : OS w B go gl mb g v row ms r) (hc : Chg w w' (SB go gl mb g v row)) (hB : B ≤ w.heap.size) : Below B w w' := hc.below (fun _ hk => (h.ge hk).1) hB
set_option maxRecDepth 100000 in
set_option maxHeartbeats 8000000 in
theorem awake_any (w : World) :
    Calls Try.prog 5 #[] w fun e w' => e = .returned (.bool true) ∧ Below w.heap.size w w' := by
  have HL3 := Lib.hid len3
  have HF7 := Lib.hid (od_fine (k := 1) (f := 1) (i := 7) (r := 1) (in_small (by omega)) (in_small (by omega)) (in_small (by omega)) (in_small (by omega)))
  have HF8 := Lib.hid (od_fine (k := 1) (f := 1) (i := 8) (r := 2) (in_small (by omega)) (in_small (by omega)) (in_small (by omega)) (in_small (by omega)))
  have HN := Lib.hid (Dk.new_good w.heap.size 1000 w (by decide) (Nat.le_refl _))
  go_enter Try.func5, Try.ntmps5
  go_wp2_with fail
  refine HN.out.mono ?_
  rintro e w1 ⟨rfl, hd1, hb1⟩
  have hgs := hb1.size
  have HB1 := Lib.hid hb1
  have HO1 := Lib.hid (opened_any (ms := []) w1 0 hd1 (by simp) hb1.size)
  clear hd1 hb1 HN
  go_wp2_with fail
  refine HO1.out.mono ?_
  rintro e w2 ⟨go, gl, mb, v2, row2, rfl, hos, hch, _⟩
  have HB2 := Lib.hid (show Below w.heap.size w w2 from HB1.out.trans (hch.below (fun k hk => by rw [hk]; exact Nat.le_refl _) hgs))
  have HC2 := Lib.hid (issue_new w2 hos HB2.out.size 7 1 (in_small (by omega)) (in_small (by omega)) rfl (by rw [last0]; omega))
  have HO2 := Lib.hid hos
  clear hos hch HO1
  go_wp2_with fail
  refine HC2.out.mono ?_
  rintro e w3 ⟨c, rfl, hc⟩
  rcases hc with ⟨rfl, _, v3, row3, hos, hch⟩ | ⟨_, hlt, _, _⟩
  rotate_left
  · exfalso
    have h1 : (rcd (oD 1 1 7 (lastR (rep []) + 1))).length ≤ 150 := HL3.out.1
    have h2 : (cat []).length = 0 := rfl
    omega
  rw [if_pos rfl, last0]
  have hos7 : OS w3 w.heap.size go gl mb w.heap.size v3 row3 [om7] 1000 := hos
  have HB3 := Lib.hid (show Below w.heap.size w w3 from HB2.out.trans (HO2.out.sb_ge hch HB2.out.size))
  have HC3 := Lib.hid (issue_new w3 hos7 HB3.out.size 8 1 (in_small (by omega)) (in_small (by omega)) rfl (by rw [last7]; omega))
  have HO3 := Lib.hid hos7
  clear hos hos7 hch HC2
  go_wp2_with fail
  refine HC3.out.mono ?_
  rintro e w4 ⟨c, rfl, hc⟩
  rcases hc with ⟨rfl, _, v4, row4, hos, hch⟩ | ⟨_, hlt, _, _⟩
  rotate_left
  · exfalso
    have h1 : (rcd (oD 1 1 8 (lastR (rep [om7]) + 1))).length ≤ 150 := HL3.out.2.1
    have h2 := cat_one om7
    have h3 := HL3.out.1
    omega
  rw [if_pos rfl, last7]
  have hos8 : OS w4 w.heap.size go gl mb w.heap.size v4 row4 [om7, om8] 1000 := hos
  have HB4 := Lib.hid (show Below w.heap.size w w4 from HB3.out.trans (HO3.out.sb_ge hch HB3.out.size))
  have HCR := Lib.hid (crash_all w4 hos8)
  have HO4 := Lib.hid hos8
  clear hos hos8 hch HC3
  go_wp2_with fail
  refine HCR.out.mono ?_
  rintro e w5 ⟨rfl, v5, hd5, hc5⟩
  have HB5 := Lib.hid (show Below w.heap.size w w5 from HB4.out.trans (hc5.below (fun k hk => by rw [hk]; exact Nat.le_refl _) HB4.out.size))
  have HO5 := Lib.hid (opened_any (ms := [om7, om8]) w5 _ hd5 HO4.out.fine HB5.out.size)
  clear hd5 hc5 HCR
  go_wp2_with fail
  refine HO5.out.mono ?_
  rintro e w6 ⟨go6, gl6, mb6, v6, row6, rfl, hos, hch, _⟩
  have HB6 := Lib.hid (show Below w.heap.size w w6 from HB5.out.trans (hch.below (fun k hk => by rw [hk]; exact Nat.le_refl _) HB5.out.size))
  have HC6 := Lib.hid (issue_old w6 hos 8 2 (in_small (by omega)) 1 ⟨2, 8, 1, false⟩ rfl rfl)
  have HO6 := Lib.hid hos
  clear hos hch HO5
  go_wp2_with fail
  refine HC6.out.mono ?_
  rintro e w7 ⟨rfl, rfl⟩
  have HCL := Lib.hid (closed_any w6 HO6.out.ora)
  rw [closed8] at HCL
  go_wp2_with fail
  refine HCL.out.mono ?_
  rintro e w7 ⟨rfl, n7, rfl⟩
  have HO7 := Lib.hid (HO6.out.below (below_drewN w6 n7))
  have HB7 := Lib.hid (bell_up HB6.out (below_drewN w6 n7))
  have HR7 := Lib.hid (resolve_new (w6.drewN n7) HO7.out HB7.out.size 7 (in_small (by omega)) 0 ⟨1, 7, 1, false⟩ rfl rfl rfl)
  clear HCL HC6
  generalize w6.drewN n7 = w7 at *
  go_wp2_with fail
  refine HR7.out.mono ?_
  rintro e w8 ⟨c, rfl, hc⟩
  rcases hc with ⟨rfl, _, v8, row8, hos, hch⟩ | ⟨_, hlt, _, _⟩
  rotate_left
  · exfalso
    have h1 : (rcd (oD 2 0 7 0)).length ≤ 150 := HL3.out.2.2
    have h2 := cat_two om7 om8
    have h3 := HL3.out.1
    have h4 := HL3.out.2.1
    omega
  have HB8 := Lib.hid (show Below w.heap.size w w8 from HB7.out.trans (HO7.out.sb_ge hch HB7.out.size))
  have hos9 : OS w8 w.heap.size go6 gl6 mb6 w.heap.size v8 row8 [om7, om8, om9] 1000 := hos
  have HCM := Lib.hid (closed_any w8 hos9.ora)
  rw [closed9] at HCM
  clear hos hos9 hch HR7
  go_wp2_with fail
  refine HCM.out.mono ?_
  rintro e w9 ⟨rfl, n9, rfl⟩
  have HB9 := Lib.hid (bell_up HB8.out (below_drewN w8 n9))
  go_wp2
  go_ret
  exact ⟨rfl, HB9.out⟩
end
end Go.Proofs.Ytjfllomnphppfaa
