/- A controller of moves: awake. MoveWalk: the moves that came in; what holds between two moves. A controller of moves: rows that are copied. -/
import Derived.Test.YtbmmgmdjhhnkfaaVd
import Derived.Deep.Strs
import Derived.Deep.Slices
import Derived.ChangeSlices
import Derived.ChangeArms
import Derived.SizedLaws
namespace Go.Proofs.Ytbmmgmdjhhnkfaa
open Go.RowKit

def a1 : MsgD := mM 11 0 1 1 3
def a2 : MsgD := mM 12 0 0 1 0
def a3 : MsgD := mM 11 0 1 2 4
instance (k : Int) : Decidable (InI k) := by unfold InI; infer_instance
def o3 : List Int := noOwn.set 3 1
theorem sm {x : Int} (h : 0 ≤ x ∧ x ≤ 100) : InI x := ⟨by omega, by omega⟩
theorem a_rcd {k f t i s : Int} (h : (0 ≤ k ∧ k ≤ 100) ∧ (0 ≤ f ∧ f ≤ 100) ∧ (0 ≤ t ∧ t ≤ 100) ∧ (0 ≤ i ∧ i ≤ 100) ∧ (0 ≤ s ∧ s ≤ 100)) : (rcd (mM k f t i s)).length ≤ 68 := mm_rcd (sm h.1) (sm h.2.1) (sm h.2.2.1) (sm h.2.2.2.1) (sm h.2.2.2.2)
section
variable {w w' : World} {B gm gl g r : Nat} {v : Value} {M : Mv} {ms : List MsgD}
/-- Start, where the record fits. -/
theorem start_fits (w : World) (h : MS w B gm gl g v M ms r) (s : Nat) (tw : Int) (hs : M.st = 0) (h16 : s < 16) (hmv : Mt.move M.e M.o s tw = (M.e + 1, M.o.set s tw, 0)) (hfr : InI (M.o.getD s 0)) (hto : InI tw) (hv : InI (M.ver + 1)) (hlen : (cat ms).length + 68 ≤ r) :
    Calls Try.prog 12 #[.pointer (some ⟨gm, 0, none⟩), .int .i64 s, .int .i64 tw] w fun e w' => e = .returned (.tuple #[.int .i64 (M.ver + 1), .int .i64 0]) ∧ ∃ v', MS w' B gm gl g v' (mtake M (mM 11 (M.o.getD s 0) tw (M.ver + 1) s)) (ms ++ [mM 11 (M.o.getD s 0) tw (M.ver + 1) s]) r ∧ Chg w w' (SB gm gl g v) := by
  refine (start_good w h s tw hs h16 hmv hfr hto hv).mono ?_
  rintro e w' ⟨k, rfl, ⟨rfl, _, v', h1, h2⟩ | ⟨_, hlt, _, _⟩⟩
  · exact ⟨by rw [if_pos rfl], v', h1, h2⟩
  · have := mm_rcd (k := 11) (f := M.o.getD s 0) (t := tw) (i := M.ver + 1) (s := s) (sm (by omega)) hfr hto hv ⟨by omega, by omega⟩
    omega
theorem installed_fits (w : World) (h : MS w B gm gl g v M ms r) (i : Int) (hs : M.st = 2 ∧ M.id = i) (hid : InI i) (hlen : (cat ms).length + 68 ≤ r) :
    Calls Try.prog 16 #[.pointer (some ⟨gm, 0, none⟩), .int .i64 i] w fun e w' => e = .returned (.int .i64 0) ∧ ∃ v', MS w' B gm gl g v' (mend M M.e2 M.o2) (ms ++ [mM 12 0 0 i 0]) r ∧ Chg w w' (SB gm gl g v) := by
  refine (installed_any w h i hs hid).mono ?_
  rintro e w' ⟨k, rfl, ⟨rfl, _, v', h1, h2⟩ | ⟨_, hlt, _, _⟩⟩
  · exact ⟨rfl, v', h1, h2⟩
  · have := mm_rcd (k := 12) (f := 0) (t := 0) (i := i) (s := 0) (sm (by omega)) ini0 ini0 hid ini0
    omega
theorem undo_fits (w : World) (h : MS w B gm gl g v M ms r) (hs : M.st ≠ 0) (hid : InI M.id) (hlen : (cat ms).length + 68 ≤ r) :
    Calls Try.prog 18 #[.pointer (some ⟨gm, 0, none⟩)] w fun e w' => e = .returned (.int .i64 0) ∧ ∃ v', MS w' B gm gl g v' (mend M M.e M.o) (ms ++ [mM 13 0 0 M.id 0]) r ∧ Chg w w' (SB gm gl g v) := by
  refine (undo_any w h hs hid).mono ?_
  rintro e w' ⟨k, rfl, ⟨rfl, _, v', h1, h2⟩ | ⟨_, hlt, _, _⟩⟩
  · exact ⟨rfl, v', h1, h2⟩
  · have := mm_rcd (k := 13) (f := 0) (t := 0) (i := M.id) (s := 0) (sm (by omega)) ini0 ini0 hid ini0
    omega
set_option maxRecDepth 100000 in
set_option maxHeartbeats 16000000 in
theorem awake_any (w : World) :
    Calls Try.prog 6 #[] w fun e w' => e = .returned (.bool true) ∧ Below w.heap.size w w' := by
  have HN := Lib.hid (Dk.new_good w.heap.size 2000 w (by decide) (Nat.le_refl _))
  have l1 : (rcd a1).length ≤ 68 := a_rcd ⟨by omega, by omega, by omega, by omega, by omega⟩
  have l2 : (rcd a2).length ≤ 68 := a_rcd ⟨by omega, by omega, by omega, by omega, by omega⟩
  have l3 : (rcd a3).length ≤ 68 := a_rcd ⟨by omega, by omega, by omega, by omega, by omega⟩
  have HL := Lib.hid (And.intro l1 (And.intro l2 l3))
  clear l1 l2 l3
  go_enter Try.func6, Try.ntmps6
  go_wp2_with fail
  refine HN.out.mono ?_
  rintro e w2 ⟨rfl, hd2, hb2⟩
  have HB2 := Lib.hid hb2
  have HO2 := opened_any (ms := []) w2 0 hd2 (by simp) hb2.size
  rw [zero_tab] at HO2
  have HO2 := Lib.hid HO2
  clear hd2 hb2 HN
  generalize hgz : w.heap.size = g at *
  have HGZ := Lib.hid hgz
  clear hgz
  go_wp2_with fail
  refine HO2.out.mono ?_
  rintro e w3 (⟨gm, gl, v3, ms3, rfl, hms, hch, _, ⟨_, rfl⟩ | ⟨h0, _⟩⟩ | ⟨h0, _⟩)
  rotate_left
  · exact absurd rfl h0
  · exact absurd rfl h0
  have HM3 := Lib.hid hms
  have HB3 := Lib.hid (HB2.out.trans (hch.below (fun k hk => by
    rcases hk with e | e
    · rw [e]; exact Nat.le_refl _
    · cases e) (by have h1 := HB2.out.size; have h2 := HGZ.out; omega)))
  clear hms hch HO2
  have HS1 := start_fits w3 HM3.out 3 1 rfl (by omega) (by decide) (by decide) (by decide) (by decide) (by decide)
  rw [show (rep 0 noOwn []).ver + 1 = 1 from rfl] at HS1
  have HS1 := Lib.hid HS1
  go_wp2_with fail
  refine HS1.out.mono ?_
  rintro e w4 ⟨rfl, v4, hm4, hc4⟩
  have HM4 := Lib.hid (show MS w4 g gm gl g v4 (rep 0 noOwn [a1]) [a1] 2000 from hm4)
  have HB4 := Lib.hid (HB3.out.trans (HM3.out.sb_below hc4))
  clear hm4 hc4 HS1
  have HI1 := Lib.hid (installed_no w4 HM4.out.mv 1 (by decide))
  go_wp2_with fail
  refine HI1.out.mono ?_
  rintro e w5 ⟨rfl, rfl⟩
  clear HI1
  have HF1 := Lib.hid (fenced_any w5 HM4.out.mv 1 none 0 0 (by decide) (clone_nil w5))
  go_wp2_with fail
  refine HF1.out.mono ?_
  rintro e w6 ⟨rfl, ⟨ra, rn, rc, hm6⟩, hc6⟩
  have hst6 := HM4.out.step hm6 hc6
  have HM6 := Lib.hid hst6.1
  have HB6 := Lib.hid (HB4.out.trans (HM4.out.sb_below hst6.2))
  clear hm6 hc6 hst6 HF1
  have HI2 := Lib.hid (installed_fits w6 HM6.out 1 ⟨rfl, rfl⟩ (by decide) (by rw [cat_one]; have := HL.out; omega))
  go_wp2_with fail
  refine HI2.out.mono ?_
  rintro e w7 ⟨rfl, v7, hm7, hc7⟩
  have HM7 := Lib.hid (show MS w7 g gm gl g v7 (rep 0 noOwn [a1, a2]) [a1, a2] 2000 from hm7)
  have HB7 := Lib.hid (HB6.out.trans (HM6.out.sb_below hc7))
  clear hm7 hc7 HI2
  have HS2 := start_fits w7 HM7.out 4 1 rfl (by omega) (by decide) (by decide) (by decide) (by decide) (by rw [show [a1, a2] = [a1] ++ [a2] from rfl, cat_snoc_len, cat_one]; have := HL.out; omega)
  rw [show (rep 0 noOwn [a1, a2]).ver + 1 = 2 from rfl] at HS2
  have HS2 := Lib.hid HS2
  go_wp2_with fail
  refine HS2.out.mono ?_
  rintro e w8 ⟨rfl, v8, hm8, hc8⟩
  have HM8 := Lib.hid (show MS w8 g gm gl g v8 (rep 0 noOwn [a1, a2, a3]) [a1, a2, a3] 2000 from hm8)
  have HB8 := Lib.hid (HB7.out.trans (HM7.out.sb_below hc8))
  clear hm8 hc8 HS2
  have HCR := Lib.hid (crash_all w8 HM8.out)
  go_wp2_with fail
  refine HCR.out.mono ?_
  rintro e w9 ⟨rfl, v9, hd9, hch9, hv9⟩
  have hb9 : Below g w w9 := HB8.out.trans (hch9.below (fun k hk => by rw [hk]; exact Nat.le_refl _) (by have h1 := HB8.out.size; have h2 := HGZ.out; omega))
  have HO9 := opened_any w9 _ hd9 HM8.out.fine (by have h1 := hb9.size; have h2 := HGZ.out; omega)
  rw [zero_tab] at HO9
  have HO9 := Lib.hid HO9
  have HB9 := Lib.hid hb9
  have HV9 := Lib.hid hv9
  clear hd9 hch9 hv9 hb9 HCR
  go_wp2_with fail
  refine HO9.out.mono ?_
  rintro e wa (⟨gm2, gl2, va, msa, rfl, hms, hch, _, ⟨h0, _⟩ | ⟨_, rfl⟩⟩ | ⟨_, hlt, _⟩)
  · exact absurd h0 (by decide)
  rotate_left
  · exfalso
    have h1 : (rcd (undoM [a1, a2, a3])).length ≤ 68 := a_rcd (i := 2) ⟨by omega, by omega, by omega, by omega, by omega⟩
    rw [show [a1, a2, a3] = ([a1] ++ [a2]) ++ [a3] from rfl, cat_snoc_len, cat_snoc_len, cat_one] at hlt
    rw [show [a1, a2, a3] = ([a1] ++ [a2]) ++ [a3] from rfl] at h1
    have := HL.out
    omega
  have HMA := Lib.hid (show MS wa g gm2 gl2 g va (rep 0 noOwn ([a1, a2, a3] ++ [undoM [a1, a2, a3]])) _ 2000 from hms)
  have HBA := Lib.hid (HB9.out.trans (hch.below (fun k hk => by
    rcases hk with e | e
    · rw [e]; exact Nat.le_refl _
    · exact (HM8.out.ge (k := k) (.inr (.inr (.inl (by rw [← HV9.out]; exact e))))).1) (by have h1 := HB9.out.size; have h2 := HGZ.out; omega)))
  clear hms hch HO9
  have HTA := table_any wa HMA.out.mv
  rw [show (rep 0 noOwn ([a1, a2, a3] ++ [undoM [a1, a2, a3]])).ver = 2 from rfl, show tcs (rep 0 noOwn ([a1, a2, a3] ++ [undoM [a1, a2, a3]])).e (rep 0 noOwn ([a1, a2, a3] ++ [undoM [a1, a2, a3]])).o = tcs 1 o3 from rfl] at HTA
  obtain ⟨T, hT⟩ : ∃ T, T = tcs 1 o3 := ⟨_, rfl⟩
  rw [← hT] at HTA
  have HTT := Lib.hid (show T.size = 17 ∧ T.all (·.oneCell') = true ∧ T[0]? = some (.int .i64 1) ∧ T[4]? = some (.int .i64 1) ∧ T[5]? = some (.int .i64 0) from by rw [hT]; exact ⟨rfl, tcs_one _ _, rfl, rfl, rfl⟩)
  clear hT
  have HTA := Lib.hid HTA
  go_wp2_with fail
  refine HTA.out.mono ?_
  rintro e wb ⟨rfl, hbb⟩
  have HMB := Lib.hid (HMA.out.below hbb)
  have HBB := Lib.hid (HBA.out.trans (hbb.mono (by have h1 := HBA.out.size; have h2 := HGZ.out; omega)))
  clear hbb HTA
  have hth := whole_all (heap_alloc_new wb (.cells (tcs 0 noOwn) 24) : Whole (wb.alloc (.cells (tcs 0 noOwn) 24)) wb.heap.size 24 (tcs 0 noOwn))
  have HTH := Lib.hid (show (wb.alloc (.cells (tcs 0 noOwn) 24)).there wb.heap.size 0 T.size from by rw [HTT.out.1]; exact hth)
  have HTI := Lib.hid (show (Try.prog.info? 24).map (·.size) = some T.size from by rw [HTT.out.1]; exact Try.infoT)
  have HWT := Lib.hid (show Whole ((wb.alloc (.cells (tcs 0 noOwn) 24)).setCells wb.heap.size 0 T.toList) wb.heap.size 24 T from whole_row (heap_alloc_new wb (.cells (tcs 0 noOwn) 24)) (by rw [Array.length_toList, HTT.out.1]; rfl))
  have HBC := Lib.hid (show Below wb.heap.size wb ((wb.alloc (.cells (tcs 0 noOwn) 24)).setCells wb.heap.size 0 T.toList) from Chg.below (B := wb.heap.size) (Chg.sets (P := fun k => k = wb.heap.size) rfl _ _ (Chg.ofBelow _ (below_alloc wb _))) (fun k hk => by rw [hk]; exact Nat.le_refl _) (Nat.le_refl _))
  rw [zero_tab] at HTH HWT HBC
  clear hth
  go_upto_region 14 with (refine wpList_store_mid rfl 24 (.tmp 8) (.tmp 84) rfl wb.heap.size 0 T rfl rfl HTH.out HTI.out HTT.out.2.1 ?_)
  generalize World.setCells _ wb.heap.size 0 _ = wc at *
  have HMC := Lib.hid (HMB.out.below HBC.out)
  have HBC2 := Lib.hid (HBB.out.trans (HBC.out.mono (by have h1 := HBB.out.size; have h2 := HGZ.out; omega)))
  have HMV := moving_any wc HMC.out.mv (fun W _ => clone_nil W)
  rw [show (rep 0 noOwn ([a1, a2, a3] ++ [undoM [a1, a2, a3]])).st = 0 from rfl] at HMV
  have HMV := Lib.hid HMV
  clear HTH HTI
  go_wp2_with fail
  refine HMV.out.mono ?_
  rintro e wd ⟨ma, mn, mc, rfl, hbd⟩
  have HWT2 := Lib.hid (HWT.out.kept (hbd.block _ HWT.out.lt))
  have HBD := Lib.hid (HBC2.out.trans (hbd.mono (by have h1 := HBC2.out.size; have h2 := HGZ.out; omega)))
  have HLT := Lib.hid (show wb.heap.size < wd.heap.size from Nat.lt_of_lt_of_le HWT.out.lt hbd.size)
  clear hbd HMV
  generalize hmz : mcs (mrows (rep 0 noOwn ([a1, a2, a3] ++ [undoM [a1, a2, a3]])) ma mn mc) = mz at *
  have HMZ := Lib.hid (show mz.length = 12 ∧ mz.toArray.all (·.oneCell') = true from by rw [← hmz]; exact ⟨rfl, mcs_one _⟩)
  clear hmz
  have HME := Lib.hid (show mz.toArray.size = 12 from by rw [List.size_toArray]; exact HMZ.out.1)
  have hth := whole_all (heap_alloc_new wd (.cells #[.int .i64 0, .int .i64 0, .int .i64 0, .int .i64 0, .int .i64 0, .int .i64 0, .int .i64 0, .bool false, .slice none 0 0, .slice none 0 0, .slice none 0 0, .slice none 0 0] 45) : Whole _ wd.heap.size 45 #[.int .i64 0, .int .i64 0, .int .i64 0, .int .i64 0, .int .i64 0, .int .i64 0, .int .i64 0, .bool false, .slice none 0 0, .slice none 0 0, .slice none 0 0, .slice none 0 0])
  have HTH := Lib.hid (show (wd.alloc (.cells #[.int .i64 0, .int .i64 0, .int .i64 0, .int .i64 0, .int .i64 0, .int .i64 0, .int .i64 0, .bool false, .slice none 0 0, .slice none 0 0, .slice none 0 0, .slice none 0 0] 45)).there wd.heap.size 0 mz.toArray.size from by rw [HME.out]; exact hth)
  have HTI := Lib.hid (show (Try.prog.info? 45).map (·.size) = some mz.toArray.size from by rw [HME.out]; exact Try.infoMs)
  have HBE := Lib.hid (show Below wd.heap.size wd ((wd.alloc (.cells #[.int .i64 0, .int .i64 0, .int .i64 0, .int .i64 0, .int .i64 0, .int .i64 0, .int .i64 0, .bool false, .slice none 0 0, .slice none 0 0, .slice none 0 0, .slice none 0 0] 45)).setCells wd.heap.size 0 mz.toArray.toList) from Chg.below (B := wd.heap.size) (Chg.sets (P := fun k => k = wd.heap.size) rfl _ _ (Chg.ofBelow _ (below_alloc wd _))) (fun k hk => by rw [hk]; exact Nat.le_refl _) (Nat.le_refl _))
  clear hth
  go_upto_region 15 with (refine wpList_store_mid rfl 45 (.tmp 10) (.tmp 89) rfl wd.heap.size 0 mz.toArray rfl rfl HTH.out HTI.out HMZ.out.2 ?_)
  generalize World.setCells _ wd.heap.size 0 _ = we at *
  have HWT3 := HWT2.out.kept (HBE.out.block _ HLT.out)
  have d0 : we.cell? ⟨wb.heap.size, 0, none⟩ = some (.int .i64 1) := by rw [HWT3.cell]; exact HTT.out.2.2.1
  have d4 : we.cell? ⟨wb.heap.size, 4, none⟩ = some (.int .i64 1) := by rw [HWT3.cell]; exact HTT.out.2.2.2.1
  have d5 : we.cell? ⟨wb.heap.size, 5, none⟩ = some (.int .i64 0) := by rw [HWT3.cell]; exact HTT.out.2.2.2.2
  have HBF := Lib.hid (HBD.out.trans (HBE.out.mono (by have h1 := HBD.out.size; have h2 := HGZ.out; omega)))
  clear HWT3
  go_wp2
  go_ret
  exact ⟨rfl, by rw [HGZ.out]; exact HBF.out⟩
end
end Go.Proofs.Ytbmmgmdjhhnkfaa

namespace Go.Proofs.Ytbmmgmdjhhnkfaa
open Go.RowKit Go.ChangeShapes Go.WideShapes

theorem wf_in64 {x : Int} (h : (Lit.int .i64 x).wf = true) : In64 x := wf_i64 h
theorem arr_ints {H : Type} {enc : TypeId × Value → H} {W : World} {base : Nat} {spare : Nat → Bool} {held : Bool} {fuel : Nat} {T : TypeId} {n : Nat} {cs : List Value} {x : DataW H × List MemPlace}
    (hu : Try.prog.underlying T = some (.array n 3)) (hn : Try.prog.cellsOf T = n) (hf : DataW.trod enc Try.prog W base spare held fuel T cs = some x) : ∃ o : List Int, o.length = n ∧ cs = o.map (Value.int .i64) ∧ ∀ y ∈ o, In64 y := by
  obtain ⟨xs, m, rfl, hd, hl, hxl, hx⟩ := DataW.trod_array hu hf
  have k1 : Try.prog.cellsOf 3 = 1 := by kernel_rfl
  rw [hn] at hl
  have key : ∀ i, i < n → ∃ k : Int, cs[i]? = some (.int .i64 k) ∧ In64 k := by
    intro i hi
    have h0 := hx i hi
    rw [k1, Nat.mul_one] at h0
    obtain ⟨y, hy⟩ : ∃ y, xs[i]? = some y := ⟨_, List.getElem?_eq_getElem (by omega)⟩
    rw [hy] at h0
    obtain ⟨k, e1, _, hw⟩ := DataW.trod_int Try.underlying3 h0
    refine ⟨k, ?_, wf_in64 hw⟩
    have := congrArg (fun l => l[0]?) e1
    simpa [List.getElem?_take, List.getElem?_drop] using this
  refine ⟨(List.range n).map fun i => if h : i < n then (key i h).choose else 0, by simp, ?_, ?_⟩
  · apply List.ext_getElem?
    intro i
    by_cases hi : i < n
    · rw [(key i hi).choose_spec.1]
      simp [hi]
    · rw [List.getElem?_eq_none (by omega), List.getElem?_eq_none (by simp; omega)]
  · intro y hy
    obtain ⟨i, hi, rfl⟩ := List.mem_map.1 hy
    have hi' : i < n := List.mem_range.1 hi
    simp only [dif_pos hi']
    exact (key i hi').choose_spec.2
/-- Moves that came in. -/
def MovesIn (w : World) (a : Option Addr) (n : Nat) : Prop := n = 0 ∨ ∃ b off, a = some ⟨b, off, none⟩ ∧ b < w.heap.size ∧ ∀ i, i < n → ∃ x y : Int, w.cell? ⟨b, off + i * 2, none⟩ = some (.int .i64 x) ∧ w.cell? ⟨b, off + i * 2 + 1, none⟩ = some (.int .i64 y)
theorem moves_opened {H : Type} {enc : TypeId × Value → H} {W : World} {fuel : Nat} {a : Option Addr} {len cap : Nat} {x : DataW H × List MemPlace}
    (h : DataW.trod enc Try.prog W 0 (fun _ => true) true fuel 77 (Value.slice a len cap).cells.toList = some x) (hw : ∀ k ∈ x.1.weights Try.prog 77, k ≤ 140737488351232) : MovesIn W a len ∧ len ≤ 140737488355328 := by
  have h' : DataW.trod enc Try.prog W 0 (fun _ => true) true fuel 77 [Value.slice a len cap] = some x := by simpa [Value.cells] using h
  rcases Go.Deep.open_slice Try.underlying77 h' with ⟨hcs, hx⟩ | ⟨ad, l, c, m, n, Dd, Pl, hcs, _, hl, hm, hmm, hx, hall⟩
  · simp at hcs
    obtain ⟨rfl, rfl, rfl⟩ := hcs
    exact ⟨.inl rfl, by omega⟩
  · simp at hcs
    obtain ⟨rfl, rfl, rfl⟩ := hcs
    have hcell : Try.prog.cellsOf 79 = 2 := by kernel_rfl
    rw [hcell] at hall
    simp only [if_true] at hmm
    have hlen : m * 16 ≤ 140737488351232 := by
      refine hw (m * 16) ?_
      rw [hx]
      simp only [DataW.weights, Try.underlying77, List.mem_cons]
      left
      rw [show Try.prog.bytesOf 79 = 16 by kernel_rfl]
      simp
      omega
    refine ⟨?_, by omega⟩
    rcases Nat.eq_zero_or_pos len with h0 | h0
    · exact .inl h0
    · obtain ⟨b, off, spot⟩ := ad
      have hs : spot = none := by
        obtain ⟨cs', hc, _⟩ := hall 0 (by omega)
        obtain ⟨_, hcl, hat⟩ := World.cells?_some hc
        have h1 := hat 0 (by omega)
        rw [List.getElem?_eq_getElem (by omega)] at h1
        simpa [Addr.add] using World.cell?_spot h1
      subst hs
      have hbl : b < W.heap.size := by
        obtain ⟨cs', hc, _⟩ := hall 0 (by omega)
        obtain ⟨_, hcl, hat⟩ := World.cells?_some hc
        have h1 := hat 0 (by omega)
        rw [List.getElem?_eq_getElem (by omega)] at h1
        have := World.block_lt_of_cell? W _ h1
        simpa [Addr.add] using this
      refine .inr ⟨b, off, rfl, hbl, fun i hi => ?_⟩
      obtain ⟨cs', hc, ht⟩ := hall i (by omega)
      obtain ⟨_, hcl, hat⟩ := World.cells?_some hc
      obtain ⟨o, ho, hcs, _⟩ := arr_ints Try.underlying79 hcell ht
      match o, ho with
      | [p, q], _ =>
        subst hcs
        have e0 := hat 0 (by simp)
        have e1 := hat 1 (by simp)
        simp only [add_plain, Nat.add_zero, List.map_cons, List.map_nil, List.getElem?_cons_zero, List.getElem?_cons_succ] at e0 e1
        exact ⟨p, q, e0, by rw [Nat.add_assoc]; exact e1⟩
def BoolsA (W : World) (a : Option Addr) (n : Nat) (l : List Bool) : Prop := l.length = n ∧ (n = 0 ∨ ∃ b off, a = some ⟨b, off, none⟩ ∧ b < W.heap.size ∧ ∀ i z, l[i]? = some z → W.cell? ⟨b, off + i, none⟩ = some (.bool z))
theorem boolsA_opened {H : Type} {enc : TypeId × Value → H} {W : World} {fuel : Nat} {a : Option Addr} {len cap : Nat} {x : DataW H × List MemPlace}
    (h : DataW.trod enc Try.prog W 0 (fun _ => true) true fuel 78 (Value.slice a len cap).cells.toList = some x) (hw : ∀ k ∈ x.1.weights Try.prog 78, k ≤ 140737488351232) :
    (∃ l, BoolsA W a len l) ∧ len ≤ 140737488351232 := by
  have h' : DataW.trod enc Try.prog W 0 (fun _ => true) true fuel 78 [Value.slice a len cap] = some x := by simpa [Value.cells] using h
  rcases Go.Deep.open_slice1 Try.underlying78 (by kernel_rfl) h' with ⟨hcs, _⟩ | ⟨ad, l, c, m, n, V, D, Pl, hcs, _, hl, hm, hmm, hx, hall⟩
  · simp at hcs
    obtain ⟨rfl, rfl, rfl⟩ := hcs
    exact ⟨⟨[], rfl, .inl rfl⟩, by omega⟩
  · simp at hcs
    obtain ⟨rfl, rfl, rfl⟩ := hcs
    simp only [if_true] at hmm
    have hlen : (len + (m - len)) * 1 ≤ 140737488351232 := by
      refine hw _ ?_
      rw [hx]
      simp only [DataW.weights, Try.underlying78, List.mem_cons]
      left
      rw [show Try.prog.bytesOf 4 = 1 by kernel_rfl]
      simp
    refine ⟨?_, by omega⟩
    have key : ∀ i, i < len → ∃ t : Bool, W.cell? (ad.add i) = some (.bool t) := by
      intro i hi
      obtain ⟨hc, ht⟩ := hall i (by omega)
      obtain ⟨t, q0, _⟩ := DataW.trod_bool Try.underlying4 ht
      simp at q0
      exact ⟨t, by rw [hc, q0]⟩
    refine ⟨(List.range len).map fun i => if h : i < len then (key i h).choose else false, by simp, ?_⟩
    rcases Nat.eq_zero_or_pos len with h0 | h0
    · exact .inl h0
    · obtain ⟨b, off, spot⟩ := ad
      obtain ⟨t0, hc0⟩ := key 0 h0
      have hs : spot = none := by simpa [Addr.add] using World.cell?_spot hc0
      subst hs
      have hb := World.block_lt_of_cell? W _ hc0
      rw [add_plain] at hb
      refine .inr ⟨b, off, rfl, hb, fun i t ht => ?_⟩
      have hi : i < len := by
        have := (List.getElem?_eq_some_iff.1 ht).1
        simpa using this
      rw [List.getElem?_map, List.getElem?_range hi] at ht
      simp only [Option.map_some, Option.some.injEq, dif_pos hi] at ht
      subst ht
      have h1 := (key i hi).choose_spec
      generalize (key i hi).choose = tt at h1 ⊢
      rwa [add_plain] at h1

/-- A table. -/
def TB (e : Int) (o : List Int) : Prop := 0 ≤ e ∧ e ≤ 1125899906842624 ∧ o.length = 16 ∧ ∀ y ∈ o, 0 ≤ y ∧ y ≤ 7
theorem TB.zero : TB 0 noOwn := ⟨by omega, by omega, rfl, fun y hy => by
  have : y = 0 := List.eq_of_mem_replicate hy
  omega⟩
theorem TB.at_ {e : Int} {o : List Int} (h : TB e o) (s : Nat) (hs : s < 16) : 0 ≤ o.getD s 0 ∧ o.getD s 0 ≤ 7 := by
  have h2 : s < o.length := by rw [h.2.2.1]; exact hs
  rw [List.getD_eq_getElem?_getD, List.getElem?_eq_getElem h2]
  exact h.2.2.2 _ (List.getElem_mem h2)
theorem TB.move {e : Int} {o : List Int} (h : TB e o) {s : Nat} {y : Int} (hy : 0 ≤ y ∧ y ≤ 7) (he : e ≤ 1125899906842623) : TB (e + 1) (o.set s y) := by
  refine ⟨by have := h.1; omega, by omega, by rw [List.length_set]; exact h.2.2.1, fun z hz => ?_⟩
  rcases List.mem_or_eq_of_mem_set hz with h1 | h1
  · exact h.2.2.2 z h1
  · rw [h1]; exact hy
theorem TB.in64 {e : Int} {o : List Int} (h : TB e o) : In64 e ∧ ∀ y ∈ o, In64 y := by
  obtain ⟨h1, h2, _, h4⟩ := h
  refine ⟨by unfold In64; omega, fun y hy => ?_⟩
  have := h4 y hy
  unfold In64
  omega
theorem move_ok {e : Int} {o : List Int} {x y : Int} (h : (Mt.move e o x y).2.2 = 0) : ∃ s : Nat, x = (s : Int) ∧ s < 16 ∧ 0 ≤ y ∧ y ≤ 7 ∧ 0 ≤ e ∧ e ≤ 1125899906842623 ∧ o.getD s 0 ≠ y ∧ Mt.move e o x y = (e + 1, o.set s y, 0) := by
  by_cases h1 : x < 0 ∨ 15 < x ∨ y < 0 ∨ 7 < y ∨ e < 0 ∨ 1125899906842623 < e
  · have hm : Mt.move e o x y = (0, Mt.zeros, 1) := by unfold Mt.move; rw [if_pos h1]
    rw [hm] at h
    cases h
  · obtain ⟨s, rfl⟩ : ∃ s : Nat, x = s := ⟨x.toNat, by omega⟩
    by_cases h6 : o.getD s 0 = y
    · have hm : Mt.move e o s y = (0, Mt.zeros, 5) := by unfold Mt.move; rw [if_neg h1, if_pos (by simpa using h6)]
      rw [hm] at h
      cases h
    · exact ⟨s, rfl, by omega, by omega, by omega, by omega, by omega, h6, by unfold Mt.move; rw [if_neg h1, if_neg (by simpa using h6)]; simp⟩
/-- A table's box, whole. -/
theorem tab_there {X : World} {b : Nat} {C : Array Value} (h : Whole X b 24 C) {e : Int} {o : List Int} (hC : C.size = 17) (ho : o.length = 16) : X.there b 0 (tcs e o).size := by
  rw [tcs_size _ _ ho, ← hC]
  exact whole_all h
theorem tab_put {X : World} {b : Nat} {C : Array Value} (h : Whole X b 24 C) {e : Int} {o : List Int} (hC : C.size = 17) (ho : o.length = 16) : Whole (X.setCells b 0 (tcs e o).toList) b 24 (tcs e o) := whole_row h (by rw [tcs_list, tL_len _ ho, hC])
theorem tab_info {e : Int} {o : List Int} (ho : o.length = 16) : (Try.prog.info? 24).map (·.size) = some (tcs e o).size := by rw [tcs_size _ _ ho]; exact Try.infoT
theorem tab_range {X : World} {b : Nat} {e : Int} {o : List Int} (h : Whole X b 24 (tcs e o)) : X.rangeAt b 0 (tL e o) := whole_all_range h
/-- Between two moves. -/
def MW (w wr : World) (g gm gl tb nn : Nat) : Prop := ∃ v M ms, MS wr w.heap.size gm gl g v M ms 1048576 ∧ M.st = 0 ∧ M.ver = (nn : Int) ∧ Whole wr tb 24 (tcs M.e M.o) ∧ TB M.e M.o ∧ (cat ms).length ≤ 136 * nn ∧ Below w.heap.size w wr ∧ w.heap.size ≤ tb
theorem MS.far {w w' : World} {B gm gl g r tb : Nat} {v : Value} {M : Mv} {ms : List MsgD} (h : MS w B gm gl g v M ms r) (hc : Chg w w' (fun k => k = tb)) (hn : ¬ SB gm gl g v tb) : MS w' B gm gl g v M ms r := by
  have hl : Lg w B gl g v (cat ms) (cat ms).length r ms.length := h.log
  have hd : Whole w g 72 _ := hl.disk.blk
  have hk : ∀ k, SB gm gl g v k → w'.heap[k]? = w.heap[k]? := fun k hk => hc.block k (h.ge hk).2 (fun e => hn (by rw [← e]; exact hk))
  exact ⟨⟨hl.lg.kept (hk _ (.inl rfl)), hl.ge, ⟨hd.kept (hk _ (.inr (.inl rfl))), hl.disk.ge, owns_keep hl.disk.own fun j hj => hk _ (.inr (.inr (.inl hj))), hl.disk.byte, hl.disk.hd, hl.disk.hr, hl.disk.hm⟩⟩, h.mv.kept (hk _ (.inr (.inr (.inr rfl)))), h.fine⟩
theorem MS.tab {w w' : World} {B gm gl g r b : Nat} {v : Value} {M : Mv} {ms : List MsgD} (h : MS w B gm gl g v M ms r) {C : Array Value} {T : TypeId} (hb : Whole w b T C) (hT : T ≠ 89 ∧ T ≠ 106 ∧ T ≠ 72 ∧ T ≠ 5) (hc : Chg w w' (SB gm gl g v)) : Whole w' b T C := hb.kept (hc.block _ hb.lt (h.other hb hT.1 hT.2.1 hT.2.2.1 hT.2.2.2))
end Go.Proofs.Ytbmmgmdjhhnkfaa

namespace Go.Proofs.Ytbmmgmdjhhnkfaa
open Go.RowKit

theorem Try.infoRw : (Try.prog.info? 99).map (fun i => (i.zero, i.size, i.bytes)) = some (some (.agg #[.string ⟨#[]⟩, .string ⟨#[]⟩, .string ⟨#[]⟩, .int .i64 0, .int .i64 0]), 5, 64) := by kernel_rfl
/-- Rows that can be read. -/
def Src (w : World) (a : Option Addr) (n c : Nat) : Prop := ∃ cs : List Value, cs.length = n * 5 ∧ (a = none → n = 0 ∧ c = 0) ∧ (∀ ad, a = some ad → ∀ (j : Nat) u, cs[j]? = some u → w.cell? (ad.add j) = some u) ∧ (∀ u ∈ cs, u.oneCell' = true) ∧ n ≤ 2199023255552
/-- Rows of one's own. -/
def RwAt (w : World) (B : Nat) (a : Option Addr) (n c : Nat) : Prop := ∃ cs : List Value, w.ownsRow B 99 5 (.slice a n c) n cs ∧ (∀ u ∈ cs, u.oneCell' = true) ∧ n ≤ 2199023255552
section
variable {w w' : World} {B gm gl g r : Nat} {v : Value} {M : Mv} {ms : List MsgD} {a : Option Addr} {n c : Nat}
theorem RwAt.none (w : World) (B : Nat) : RwAt w B .none 0 0 := ⟨[], ⟨rfl, .inl ⟨rfl, rfl⟩⟩, by simp, by omega⟩
theorem RwAt.src (h : RwAt w B a n c) : Src w a n c := by
  obtain ⟨cs, h1, h2, h3⟩ := h
  obtain ⟨a', c', hv, hL⟩ := Lies.owned h1
  injection hv with e1 e2 e3
  subst e1 e3
  exact ⟨cs, h1.1, hL.nil, hL.news, h2, h3⟩
theorem RwAt.kept (h : RwAt w B a n c) (hb : ∀ k T cs, Whole w k T cs → T = 99 → w'.heap[k]? = w.heap[k]?) : RwAt w' B a n c := by
  obtain ⟨cs, h1, h2, h3⟩ := h
  refine ⟨cs, ⟨h1.1, ?_⟩, h2, h3⟩
  rcases h1.2 with h4 | ⟨q, cap, cur, h5, h6, h7, h8⟩
  · exact .inl h4
  · exact .inr ⟨q, cap, cur, h5, h6, (hb q _ cur h7 rfl).trans h7, h8⟩
theorem RwAt.below (h : RwAt w B a n c) (hb : Below w.heap.size w w') : RwAt w' B a n c := h.kept fun k _ _ hW _ => hb.block k hW.lt
theorem RwAt.lower (h : RwAt w B a n c) {B' : Nat} (hB : B' ≤ B) : RwAt w B' a n c := by
  obtain ⟨cs, h1, h2, h3⟩ := h
  refine ⟨cs, ⟨h1.1, ?_⟩, h2, h3⟩
  rcases h1.2 with h4 | ⟨q, cap, cur, h5, h6, h7, h8⟩
  · exact .inl h4
  · exact .inr ⟨q, cap, cur, h5, by omega, h7, h8⟩
theorem MS.rows (h : MS w B gm gl g v M ms r) {B' : Nat} (hr : RwAt w B' a n c) (hc : Chg w w' (SB gm gl g v)) : RwAt w' B' a n c :=
  hr.kept fun k _ _ hW hT => hc.block k hW.lt (h.other hW (by rw [hT]; decide) (by rw [hT]; decide) (by rw [hT]; decide) (by rw [hT]; decide))
/-- What a copy of rows comes to. -/
def CloneS (w : World) (e : Ending) (w' : World) : Prop := ∃ a n c, e = .returned (.slice a n c) ∧ RwAt w' w.heap.size a n c ∧ Below w.heap.size w w'
theorem CloneS.plain {e : Ending} (h : CloneS w e w') : CloneR w e w' := by
  obtain ⟨a, n, c, h1, _, h2⟩ := h
  exact ⟨a, n, c, h1, h2⟩
set_option maxRecDepth 100000 in
set_option maxHeartbeats 2000000 in
theorem clone_rows (w : World) (h : Src w a n c) : Calls Try.prog 35 #[.slice a n c] w (CloneS w) := by
  obtain ⟨cs, h1, h2, h3, h4, h5⟩ := h
  cases a with
  | none =>
    obtain ⟨rfl, rfl⟩ := h2 rfl
    have he : ∀ w : World, (binOp .eql 43 (.slice none 0 0) (.slice none 0 0)).run Try.prog w = .ok (.bool true) w := fun _ => rfl
    clear h1 h2 h3 h4 h5
    go_enter Try.func35, Try.ntmps35
    go_wp2
    go_ret
    exact ⟨none, 0, 0, rfl, RwAt.none _ _, Below.refl _ _⟩
  | some ad =>
    have he : ∀ w : World, (binOp .eql 43 (.slice (some ad) n c) (.slice none 0 0)).run Try.prog w = .ok (.bool false) w := fun _ => rfl
    obtain ⟨i0, hi0, hz0, hz1, hz2⟩ := info_of Try.infoRw
    have HC := Lib.hid (And.intro h1 (And.intro h3 (And.intro h4 h5)))
    have HB := Lib.hid (below_alloc w (.cells #[] 99))
    have HOW := Lib.hid (show (w.alloc (.cells #[] 99)).ownsRow w.heap.size 99 5 (.slice (some ⟨w.heap.size, 0, none⟩) 0 0) 0 [] from ⟨rfl, .inr ⟨w.heap.size, 0, #[], rfl, Nat.le_refl _, heap_alloc_new _ _, by omega, by simp [maxLen], rfl, rfl⟩⟩)
    have HCE := Lib.hid (show ∀ ad', some ad = some ad' → ∀ (j : Nat) u, cs[j]? = some u → (w.alloc (.cells #[] 99)).cell? (ad'.add j) = some u from fun ad' hq j u hu => by
      have h6 := h3 ad' hq j u hu
      exact (below_alloc w _).cell (World.block_lt_of_cell? w _ h6) |>.trans h6)
    clear h1 h2 h3 h4 h5
    go_enter Try.func35, Try.ntmps35
    go_wp2_with (at_builtin; refine wpList_append_at_any _ rfl _ _ 43 rfl w.heap.size 99 i0 (.agg #[.string ⟨#[]⟩, .string ⟨#[]⟩, .string ⟨#[]⟩, .int .i64 0, .int .i64 0]) 5 64 Try.underlying43 hi0 hz0 hz1 hz2 rfl (by decide) _ 0 _ rfl HOW.out (some ad) n c cs rfl HC.out.1 (by intro h; cases h) HCE.out HC.out.2.2.1 (by have := HC.out.2.2.2; unfold maxLen; omega) (by have := HC.out.2.2.2; omega) (by simp) ?_; intro v2 w2 hown2 hgrow2 hat2; have HO2 := Lib.hid hown2; have HG2 := Lib.hid (show (w.alloc (.cells #[] 99)).grownBy w2 (some w.heap.size) from hgrow2); clear hown2 hgrow2 hat2)
    obtain ⟨a2, c2, rfl, _⟩ := Lies.owned HO2.out
    have HE := Lib.hid (show CloneS w (.returned (.slice a2 (0 + n) c2)) w2 from ⟨a2, 0 + n, c2, rfl, ⟨_, HO2.out, by simpa using HC.out.2.2.1, by have := HC.out.2.2.2; omega⟩, HB.out.grown HG2.out HB.out.size (fun k hk => by injection hk with hk; omega)⟩)
    clear HO2 HG2
    go_wp2
    go_ret
    exact HE.out
set_option maxRecDepth 100000 in
set_option maxHeartbeats 4000000 in
theorem fenced_rows (w : World) (h : MS w B gm gl g v M ms r) (i : Int) (hs : M.st = 1 ∧ M.id = i) (hr : Src w a n c) :
    Calls Try.prog 14 #[.pointer (some ⟨gm, 0, none⟩), .int .i64 i, .slice a n c] w fun e w' => e = .returned (.int .i64 0) ∧ (∃ ra rn rc, MS w' B gm gl g v { M with ra := ra, rn := rn, rc := rc, st := 2 } ms r ∧ RwAt w' w.heap.size ra rn rc) ∧ Chg w w' (SB gm gl g v) := by
  have HA := Lib.hid (at_any w h.mv 1 i)
  rw [decide_eq_true hs] at HA
  have HM := Lib.hid h
  have HCL := Lib.hid (clone_rows w hr)
  clear h hr
  go_enter Try.func14, Try.ntmps14
  go_wp2_with fail
  refine HA.out.mono ?_
  rintro e w1 ⟨rfl, rfl⟩
  go_wp2_with fail
  refine HCL.out.mono ?_
  rintro e w2 ⟨a2, n2, c2, rfl, hrw, hb⟩
  have HS2 := Lib.hid (HM.out.below hb)
  have HM3 := Lib.hid (HS2.out.mv.setRows a2 n2 c2)
  have HC3 := Lib.hid (show Chg w2 ((w2.setCell ⟨gm, 31, none⟩ (.slice a2 n2 c2)).setCell ⟨gm, 19, none⟩ (.int .i64 2)) (fun k => k = gm) from ((Chg.refl w2 (fun k => k = gm)).set rfl 31 _).set rfl 19 _)
  have HR3 := Lib.hid (HS2.out.rows hrw (HC3.out.mono fun _ _ hk => .inr (.inr (.inr hk))))
  have HB := Lib.hid hb
  have c31 := HS2.out.mv.mcells.2.2.2.2.2.2.2.2.2.2.2
  have z31 := HS2.out.mv.two.2.2 31
  have c19 := HM3.out.two.2.1
  have z19 := HM3.out.two.2.2 19
  clear hb HA HCL hrw
  go_wp2
  go_ret
  have h5 := HS2.out.step (HM3.out.setSt 2) HC3.out
  exact ⟨rfl, ⟨a2, n2, c2, h5.1, HR3.out⟩, (Chg.ofBelow _ HB.out).trans h5.2⟩
end
end Go.Proofs.Ytbmmgmdjhhnkfaa
