/- What is there at a revision. -/
import Derived.Test.YteimgebfbnmdcaaHM
namespace Go.Proofs.Yteimgebfbnmdcaa
open Go.RowKit Go.Shelf
open Go.Maps (Keyed)

/-- Is a row there at a revision? -/
def thB (r : Rw) (rev : Int) : Bool := decide (r.s ≤ rev) && (r.u == 0 || decide (rev < r.u))
def atS (l : List Rw) (rev : Int) : List Tp := ((l.filter fun r => thB r rev).map Rw.t).foldl addS []
theorem atS_yes {l : List Rw} {i : Nat} {r : Rw} {rev : Int} (h : l[i]? = some r) (ht : thB r rev = true) : atS (l.take (i + 1)) rev = addS (atS (l.take i) rev) r.t := by
  unfold atS
  rw [List.take_add_one, h, List.filter_append, List.map_append, List.foldl_append]
  simp [ht]
theorem atS_no {l : List Rw} {i : Nat} {r : Rw} {rev : Int} (h : l[i]? = some r) (ht : thB r rev = false) : atS (l.take (i + 1)) rev = atS (l.take i) rev := by
  unfold atS
  rw [List.take_add_one, h, List.filter_append, List.map_append, List.foldl_append]
  simp [ht]
theorem mem_atS {l : List Rw} {rev : Int} {t : Tp} : t ∈ atS l rev ↔ ∃ r ∈ l, thB r rev = true ∧ r.t = t := by
  unfold atS
  rw [mem_adds]
  simp [List.mem_filter, and_assoc]
theorem len_atS (l : List Rw) (rev : Int) : (atS l rev).length ≤ l.length := by
  unfold atS
  have := len_adds [] ((l.filter fun r => thB r rev).map Rw.t)
  have h2 := List.length_filter_le (fun r => thB r rev) l
  rw [List.length_map] at this
  simp at this
  omega
set_option maxRecDepth 100000 in
set_option maxHeartbeats 8000000 in
theorem at_any {w : World} {a : Option Addr} {n c : Nat} {l : List Rw} (hl : Lies w 49 5 0 a n c (l.flatMap rw1)) (hln : l.length = n) (hf : ∀ r ∈ l, r.t.fits) (hn : n ≤ 1099511627776) (rev : Int) :
    Calls Try.prog 13 #[.slice a n c, .int .i64 rev] w fun e w' => ∃ v, ∃ ts : List Tp, e = .returned v ∧ Ord (fun t => ∃ r ∈ l, thB r rev = true ∧ r.t = t) ts ∧ w'.ownsRow w.heap.size 47 3 v ts.length (ts.flatMap tc) ∧ Below w.heap.size w w' := by
  have hmm := @run_makeMap Try.prog
  have HM := Lib.hid (SetAt.made w)
  have HB0 := Lib.hid (below_alloc w (.map #[] 0))
  have HL := Lib.hid hl
  have HF := Lib.hid hf
  have HLN := Lib.hid hln
  obtain ⟨b, hb⟩ : ∃ b, b = w.heap.size := ⟨_, rfl⟩
  have HBE := Lib.hid hb
  clear hl hf hln
  go_enter Try.func13, Try.ntmps13
  go_wp2_with fail
  rw [← hb]
  clear hb
  go_loopw [11] (fun iv wr => ∃ i : Nat, i ≤ n ∧ iv = .int .i64 i ∧ SetAt wr b (atS (l.take i) rev) ∧ Below w.heap.size w wr) (fun iv _ => n - (intOf iv).toNat)
  case atStart => exact ⟨0, by omega, rfl, by rw [HBE.out]; exact HM.out, HB0.out⟩
  case round =>
    clear HM HB0
    obtain ⟨i, hin, rfl, hS, hbl⟩ := hrel
    by_cases hil : i < n
    · obtain ⟨r, hti⟩ : ∃ r, l[i]? = some r := ⟨_, List.getElem?_eq_getElem (show i < l.length by rw [HLN.out]; exact hil)⟩
      obtain ⟨bb, off, rfl, hbb, hcc⟩ := lies_cells rw1_len (by decide) HL.out hti
      have c0 := (hbl.cell (p := ⟨bb, off + i * 5, none⟩) hbb).trans (hcc 0 _ rfl)
      have c1 := (hbl.cell (p := ⟨bb, off + i * 5 + 1, none⟩) hbb).trans (hcc 1 _ rfl)
      have c2 := (hbl.cell (p := ⟨bb, off + i * 5 + 2, none⟩) hbb).trans (hcc 2 _ rfl)
      have c3 := (hbl.cell (p := ⟨bb, off + i * 5 + 3, none⟩) hbb).trans (hcc 3 _ rfl)
      have c4 := (hbl.cell (p := ⟨bb, off + i * 5 + 4, none⟩) hbb).trans (hcc 4 _ rfl)
      have hil2 : (i : Int) < (n : Int) := by omega
      have hlen := len_atS (l.take i) rev
      rw [List.length_take] at hlen
      have HBL := Lib.hid (bell_alloc hbl (.cells (rw1 r).toArray 49))
      clear hcc hbb hbl
      by_cases h1 : r.s ≤ rev
      · cases h2 : r.u == 0 with
        | true =>
          have hth : thB r rev = true := by unfold thB; rw [h2]; simp [h1]
          have h3 : (r.u == 0) = true := h2
          clear h2
          have HP := Lib.hid (put_any (hS.below (below_alloc wr (.cells (rw1 r).toArray 49))) (by omega) (HF.out r (List.mem_of_getElem? hti)))
          have HFO := Lib.hid (show atS (l.take (i + 1)) rev = addS (atS (l.take i) rev) r.t from atS_yes hti hth)
          unfold rw1 at HP HBL
          clear hS hlen hti hth
          go_wp2_with fail
          refine HP.out.mono ?_
          rintro _ w1 ⟨rfl, hS1, hc1⟩
          have HE := Lib.hid (show SetAt w1 b (atS (l.take (i + 1)) rev) ∧ Below w.heap.size w w1 from ⟨by rw [HFO.out]; exact hS1, HBL.out.trans (hc1.at_ (by rw [HBE.out]; exact Nat.le_refl _) HBL.out.size)⟩)
          clear hS1 hc1 HP HBL c0 c1 c2 c3 c4
          go_wp2
          go_roundw
          case rel => exact ⟨i + 1, by omega, by go_num, HE.out⟩
          case measure => simp [intOf]; omega
        | false =>
          by_cases h3 : rev < r.u
          · have hth : thB r rev = true := by unfold thB; rw [h2]; simp [h1, h3]
            have HP := Lib.hid (put_any (hS.below (below_alloc wr (.cells (rw1 r).toArray 49))) (by omega) (HF.out r (List.mem_of_getElem? hti)))
            have HFO := Lib.hid (show atS (l.take (i + 1)) rev = addS (atS (l.take i) rev) r.t from atS_yes hti hth)
            unfold rw1 at HP HBL
            clear hS hlen hti hth
            go_wp2_with fail
            refine HP.out.mono ?_
            rintro _ w1 ⟨rfl, hS1, hc1⟩
            have HE := Lib.hid (show SetAt w1 b (atS (l.take (i + 1)) rev) ∧ Below w.heap.size w w1 from ⟨by rw [HFO.out]; exact hS1, HBL.out.trans (hc1.at_ (by rw [HBE.out]; exact Nat.le_refl _) HBL.out.size)⟩)
            clear hS1 hc1 HP HBL c0 c1 c2 c3 c4
            go_wp2
            go_roundw
            case rel => exact ⟨i + 1, by omega, by go_num, HE.out⟩
            case measure => simp [intOf]; omega
          · have hth : thB r rev = false := by unfold thB; rw [h2]; simp [h3]
            have HE := Lib.hid (show SetAt (wr.alloc (.cells (rw1 r).toArray 49)) b (atS (l.take (i + 1)) rev) from by rw [atS_no hti hth]; exact hS.below (below_alloc wr _))
            unfold rw1 at HE HBL
            clear hS hlen hti hth
            go_wp2
            go_roundw
            case rel => exact ⟨i + 1, by omega, by go_num, HE.out, HBL.out⟩
            case measure => simp [intOf]; omega
      · have hth : thB r rev = false := by unfold thB; simp [h1]
        have HE := Lib.hid (show SetAt (wr.alloc (.cells (rw1 r).toArray 49)) b (atS (l.take (i + 1)) rev) from by rw [atS_no hti hth]; exact hS.below (below_alloc wr _))
        unfold rw1 at HE HBL
        clear hS hlen hti hth
        go_wp2
        go_roundw
        case rel => exact ⟨i + 1, by omega, by go_num, HE.out, HBL.out⟩
        case measure => simp [intOf]; omega
    · obtain rfl : i = n := by omega
      have hS2 : SetAt wr b (atS l rev) := by rw [List.take_of_length_le (by rw [HLN.out]; exact Nat.le_refl _)] at hS; exact hS
      have HB2 := Lib.hid hbl
      have HS2 := Lib.hid hS2
      have HS := Lib.hid (sorted_any hS2 (by have := len_atS l rev; have := HLN.out; omega))
      clear hS hbl hS2
      go_wp2_with fail
      refine HS.out.mono ?_
      rintro _ w3 ⟨v, ts, rfl, q1, q2, q3⟩
      have HE := Lib.hid (show Ord (fun t => ∃ r ∈ l, thB r rev = true ∧ r.t = t) ts ∧ w3.ownsRow w.heap.size 47 3 v ts.length (ts.flatMap tc) ∧ Below w.heap.size w w3 from ⟨q1.congr fun t => mem_atS, ⟨q2.1, q2.2.imp_right fun ⟨g, cap, cur, h1, h2, h3⟩ => ⟨g, cap, cur, h1, Nat.le_trans HB2.out.size h2, h3⟩⟩, bell_up HB2.out q3⟩)
      clear q1 q2 q3
      go_wp2
      go_ret
      exact ⟨_, ts, rfl, HE.out⟩
end Go.Proofs.Yteimgebfbnmdcaa
