/- Changes done to tuples. -/
import Derived.Test.YteimgebfbnmdcaaHN
namespace Go.Proofs.Yteimgebfbnmdcaa
open Go.RowKit Go.Shelf
open Go.Maps (Keyed)

def playO (S : List Tp) (c : Ch) : List Tp := if c.del then S.filter (fun x => decide (x ≠ c.t)) else addS S c.t
def playS (S : List Tp) (l : List Ch) : List Tp := l.foldl playO S
theorem len_playS (S : List Tp) (l : List Ch) : (playS S l).length ≤ S.length + l.length := by
  unfold playS
  induction l generalizing S with
  | nil => simp
  | cons c l ih =>
    rw [List.foldl_cons, List.length_cons]
    have := ih (playO S c)
    have h2 : (playO S c).length ≤ S.length + 1 := by
      unfold playO
      split
      · have := List.length_filter_le (fun x => decide (x ≠ c.t)) S; omega
      · exact len_addS _ _
    omega
set_option maxRecDepth 100000 in
set_option maxHeartbeats 8000000 in
theorem play_any {w : World} {a0 a : Option Addr} {n0 c0 n c : Nat} {A : List Tp} {l : List Ch} (hA : Lies w 47 3 0 a0 n0 c0 (A.flatMap tc)) (hAn : A.length = n0) (hAf : ∀ t ∈ A, t.fits) (hn0 : n0 ≤ 1048576) (hl : Lies w 53 5 0 a n c (l.flatMap chc)) (hln : l.length = n) (hf : ∀ r ∈ l, r.t.fits) (hn : n ≤ 1099510000000) :
    Calls Try.prog 15 #[.slice a0 n0 c0, .slice a n c] w fun e w' => ∃ v, ∃ ts : List Tp, e = .returned v ∧ Ord (· ∈ playS (A.foldl addS []) l) ts ∧ w'.ownsRow w.heap.size 47 3 v ts.length (ts.flatMap tc) ∧ Below w.heap.size w w' := by
  have HSO := Lib.hid (setOf_any hA hAn hAf (by omega))
  have HLA := Lib.hid (show (A.foldl addS []).length ≤ 1048576 from by have := len_adds [] A; simp at this; omega)
  have HL := Lib.hid hl
  have HF := Lib.hid hf
  have HLN := Lib.hid hln
  clear hl hf hln hA hAn hAf
  generalize A.foldl addS [] = S0 at *
  go_enter Try.func15, Try.ntmps15
  go_wp2_with fail
  refine HSO.out.mono ?_
  rintro _ w0 ⟨b, rfl, hS0, hbn, hb0⟩
  have HS0 := Lib.hid hS0
  have HB0 := Lib.hid hb0
  clear hS0 hb0 HSO
  go_wp2_with fail
  go_loopw [12] (fun iv wr => ∃ i : Nat, i ≤ n ∧ iv = .int .i64 i ∧ SetAt wr b (playS S0 (l.take i)) ∧ Below w.heap.size w wr) (fun iv _ => n - (intOf iv).toNat)
  case atStart => exact ⟨0, by omega, rfl, HS0.out, HB0.out⟩
  case round =>
    clear HS0 HB0
    obtain ⟨i, hin, rfl, hS, hbl⟩ := hrel
    by_cases hil : i < n
    · obtain ⟨r, hti⟩ : ∃ r, l[i]? = some r := ⟨_, List.getElem?_eq_getElem (show i < l.length by rw [HLN.out]; exact hil)⟩
      obtain ⟨bb, off, rfl, hbb, hcc⟩ := lies_cells chc_len (by decide) HL.out hti
      have c0 := (hbl.cell (p := ⟨bb, off + i * 5, none⟩) hbb).trans (hcc 0 _ rfl)
      have c1 := (hbl.cell (p := ⟨bb, off + i * 5 + 1, none⟩) hbb).trans (hcc 1 _ rfl)
      have c2 := (hbl.cell (p := ⟨bb, off + i * 5 + 2, none⟩) hbb).trans (hcc 2 _ rfl)
      have c3 := (hbl.cell (p := ⟨bb, off + i * 5 + 3, none⟩) hbb).trans (hcc 3 _ rfl)
      have c4 := (hbl.cell (p := ⟨bb, off + i * 5 + 4, none⟩) hbb).trans (hcc 4 _ rfl)
      have hil2 : (i : Int) < (n : Int) := by omega
      have hlen := len_playS S0 (l.take i)
      rw [List.length_take] at hlen
      have hlen2 : (playS S0 (l.take i)).length ≤ 1099511627776 := by have := HLA.out; omega
      have hfit := HF.out r (List.mem_of_getElem? hti)
      have HFO := Lib.hid (show playS S0 (l.take (i + 1)) = playO (playS S0 (l.take i)) r from foldl_take playO S0 hti)
      have hS1 := hS.below (below_alloc wr (.cells (chc r).toArray 53))
      have HBL := Lib.hid (bell_alloc hbl (.cells (chc r).toArray 53))
      clear hcc hbb hbl hlen hti hS
      generalize playS S0 (l.take i) = Si at *
      cases hd : r.del with
      | true =>
        obtain ⟨w1, r1, r2, r3, r4⟩ := hS1.away hfit 0
        have HE := Lib.hid (show SetAt w1 b (playS S0 (l.take (i + 1))) ∧ Below w.heap.size w w1 from ⟨by rw [HFO.out]; unfold playO; rw [hd]; exact r2, HBL.out.trans ((Chg.ofGrown r3 (P := fun k => k = b) (fun k _ e => by injection e with e; exact e.symm)).at_ hbn HBL.out.size)⟩)
        unfold chc at r1 HBL
        rw [hd] at c1 r1
        clear r2 r3 r4 hS1 HBL HFO
        go_wp2
        go_roundw
        case rel => exact ⟨i + 1, by omega, by go_num, HE.out⟩
        case measure => simp [intOf]; omega
      | false =>
        have HP := Lib.hid (put_any hS1 hlen2 hfit)
        unfold chc at HP HBL
        rw [hd] at c1 HP HBL
        clear hS1
        go_wp2_with fail
        refine HP.out.mono ?_
        rintro _ w1 ⟨rfl, hS1, hc1⟩
        have HE := Lib.hid (show SetAt w1 b (playS S0 (l.take (i + 1))) ∧ Below w.heap.size w w1 from ⟨by rw [HFO.out]; unfold playO; rw [hd]; exact hS1, HBL.out.trans (hc1.at_ hbn HBL.out.size)⟩)
        clear hS1 hc1 HP HBL c0 c1 c2 c3 c4 HFO
        go_wp2
        go_roundw
        case rel => exact ⟨i + 1, by omega, by go_num, HE.out⟩
        case measure => simp [intOf]; omega
    · obtain rfl : i = n := by omega
      have hS2 : SetAt wr b (playS S0 l) := by rw [List.take_of_length_le (by rw [HLN.out]; exact Nat.le_refl _)] at hS; exact hS
      have HB2 := Lib.hid hbl
      have HS := Lib.hid (sorted_any hS2 (by have := len_playS S0 l; have := HLN.out; have := HLA.out; omega))
      clear hS hbl hS2
      go_wp2_with fail
      refine HS.out.mono ?_
      rintro _ w3 ⟨v, ts, rfl, q1, q2, q3⟩
      have HE := Lib.hid (show Ord (· ∈ playS S0 l) ts ∧ w3.ownsRow w.heap.size 47 3 v ts.length (ts.flatMap tc) ∧ Below w.heap.size w w3 from ⟨q1, ⟨q2.1, q2.2.imp_right fun ⟨g, cap, cur, h1, h2, h3⟩ => ⟨g, cap, cur, h1, Nat.le_trans HB2.out.size h2, h3⟩⟩, bell_up HB2.out q3⟩)
      clear q1 q2 q3
      go_wp2
      go_ret
      exact ⟨_, ts, rfl, HE.out⟩
end Go.Proofs.Yteimgebfbnmdcaa
