/- The reader: the list of rows. -/
import Derived.Test.YteodldmbnghfcaaGreatC17
namespace Go.Proofs.YteodldmbnghfcaaGreat
open Go.RowKit

theorem Tryz.infoR : (Tryz.prog.info? 121).map (fun i => (i.zero, i.size, i.bytes)) = some (some (.agg #[.string ⟨#[]⟩, .string ⟨#[]⟩, .string ⟨#[]⟩, .int .i64 0, .int .i64 0]), 5, 64) := by kernel_rfl
/-- A row as cells. -/
def rowC (p : Tx × Int × Int) : List Value := [.string (strOfNums p.1.1), .string (strOfNums p.1.2.1), .string (strOfNums p.1.2.2), .int .i64 p.2.1, .int .i64 p.2.2]

set_option maxRecDepth 100000 in
set_option maxHeartbeats 4000000 in
theorem glist_row (B g gv : Nat) (v : Value) (xs : List Int) (w : World) (h : RAt w B g v xs) (hv : Whole w gv 151 #[.pointer (some ⟨g, 0, none⟩)]) :
    Calls Tryz.prog 88 #[.pointer (some ⟨g, 0, none⟩), .func (.func 89) #[] #[.pointer (some ⟨gv, 0, none⟩)]] w (LDone w B g 121 5 (fun l => l.flatMap rowC) (rlst rrow xs)) := by
  obtain ⟨i0, hi, hz0, hz1, hz2⟩ := info_parts Tryz.infoR
  have hgl := h.blk.lt
  have HGV := Lib.hid (h.typed hv (by decide))
  have HV := Lib.hid hv
  have HGL := Lib.hid hgl
  have HN := Lib.hid (rcount_any B g v xs 1024 w h)
  clear h hv hgl
  go_enter Tryz.func88, Tryz.ntmps88
  go_wp2_with fail
  refine HN.out.mono ?_
  rintro e w1 (⟨n, ys, u, hr, rfl, hA, hF⟩ | ⟨c, hr, rfl, hF⟩)
  · have hrange := rcount_range hr
    obtain ⟨n, rfl⟩ : ∃ k : Nat, n = (k : Int) := ⟨n.toNat, by omega⟩
    have HLO := Lib.hid (rlst_ok (p := rrow) hr)
    have HA1 := Lib.hid hA
    have HF1 := Lib.hid hF
    clear hA hF hr
    go_wp2_with fail
    go_loopw [5, 8] (fun t iv wr => ∃ (i : Nat) (acc : List (Tx × Int × Int)) (ys' : List Int) (u' : Value), i ≤ n ∧ iv = .int .i64 i ∧ acc.length = i ∧ prep acc (rrep rrow (n - i) ys') = rrep rrow n ys ∧ wr.ownsRow w.heap.size 121 5 t acc.length (acc.flatMap rowC) ∧ RAt wr B g u' ys' ∧ RF g w wr) (fun _ iv _ => n - (intOf iv).toNat)
    case atStart => exact ⟨0, [], ys, u, by omega, rfl, rfl, prep_nil _, ⟨rfl, .inl ⟨rfl, rfl⟩⟩, HA1.out, HF1.out⟩
    case round =>
      obtain ⟨i, acc, ys', u', hin, rfl, rfl, hpr, hown, hA, hF⟩ := hrel
      obtain ⟨ta, tc, rfl, _, _⟩ := owned_some hown
      by_cases hil : acc.length < n
      · obtain ⟨k, hk⟩ : ∃ k, n - acc.length = k + 1 := ⟨n - acc.length - 1, by omega⟩
        have hk' : n - (acc.length + 1) = k := by omega
        rw [hk] at hpr
        have hgw := hA.blk.lt
        have cv := (hF.whole HV.out HGV.out).cell 0
        have cv0 : wr.cell? ⟨gv, 0, none⟩ = some (.pointer (some ⟨g, 0, none⟩)) := by rw [cv]; rfl
        have HGI := Lib.hid (grow_any B g gv u' ys' wr hA (hF.whole HV.out HGV.out))
        have HOW := Lib.hid hown
        have HA := Lib.hid hA
        have HF := Lib.hid hF
        have HPR := Lib.hid hpr
        clear hA hF hown cv hpr
        go_wp2_with fail
        refine HGI.out.mono ?_
        rintro e w2 (⟨⟨⟨b1, b2, b3⟩, s0, s1⟩, zs, u2, hr, rfl, hA2, hF2⟩ | ⟨c, hr, rfl, hF2⟩)
        · have hown2 := owns_rfs HOW.out hF2 HGL.out
          have hsz2 := (HF.out.trans hF2).size
          have HP2 := Lib.hid (HPR.out.symm.trans (prep_step hr))
          have HOW2 := Lib.hid hown2
          have HA2 := Lib.hid hA2
          have HF2 := Lib.hid (HF.out.trans hF2)
          clear hr hA2 hF2 hown2
          unfold rowV
          go_wp2_with (at_builtin; refine wpList_append_at_any _ rfl _ _ 41 rfl w.heap.size 121 i0 (.agg #[.string ⟨#[]⟩, .string ⟨#[]⟩, .string ⟨#[]⟩, .int .i64 0, .int .i64 0]) 5 64 Tryz.underlying41 hi hz0 hz1 hz2 rfl (by decide) _ acc.length _ rfl (HOW2.out.alloc _) (some ⟨w2.heap.size, 0, none⟩) 1 1 [.string (strOfNums b1), .string (strOfNums b2), .string (strOfNums b3), .int .i64 s0, .int .i64 s1] rfl rfl (by intro h; cases h) (by rintro ad he; injection he with he; subst he; exact cells_new _ [.string (strOfNums b1), .string (strOfNums b2), .string (strOfNums b3), .int .i64 s0, .int .i64 s1] _) (by intro q hq; simp at hq; rcases hq with rfl | rfl | rfl | rfl | rfl <;> rfl) (by unfold maxLen; omega) (by omega) (by simp; omega) ?_; intro v2 w3 hown3 hgrow3 hat3)
          have HA3 := Lib.hid (rat_growns (HOW2.out.alloc _) (HA2.out.alloc _) hgrow3 HGL.out)
          have HF3 := Lib.hid (rf_growns (HOW2.out.alloc _) rfl (HF2.out.trans (RF.alloc _ _)) hgrow3)
          have hmap : acc.flatMap rowC ++ [.string (strOfNums b1), .string (strOfNums b2), .string (strOfNums b3), .int .i64 s0, .int .i64 s1] = (acc ++ [((b1, b2, b3), s0, s1)]).flatMap rowC := by simp [rowC]
          have hlz : acc.length + 1 = (acc ++ [((b1, b2, b3), s0, s1)]).length := by simp
          rw [hmap, hlz] at hown3
          have HO3 := Lib.hid hown3
          clear hown3 hgrow3 hat3 hmap hlz
          go_roundw
          case rel => exact ⟨acc.length + 1, acc ++ [((b1, b2, b3), s0, s1)], zs, u2, by omega, by go_num, by simp, by rw [hk']; exact HP2.out.symm, HO3.out, HA3.out, HF3.out⟩
          case measure => simp [intOf]; omega
        · have HQ := Lib.hid (show LDone w B g 121 5 (fun l => l.flatMap rowC) (rlst rrow xs) (Bad c) w2 from .inr ⟨c, by rw [HLO.out, ← HPR.out, prep_bad hr], rfl, HF.out.trans hF2⟩)
          clear hr hF2
          go_wp2
          exact ⟨rfl, HQ.out⟩
      · have hin' : n - acc.length = 0 := by omega
        rw [hin', prep_end] at hpr
        have HQ := Lib.hid (show LDone w B g 121 5 (fun l => l.flatMap rowC) (rlst rrow xs) (.returned (.slice ta acc.length tc)) wr from .inl ⟨acc, ys', u', _, by rw [HLO.out, ← hpr], rfl, hown, hA, hF⟩)
        clear hown hA hF hpr
        go_wp2
        go_ret
        exact HQ.out
  · have HQ := Lib.hid (show LDone w B g 121 5 (fun l => l.flatMap rowC) (rlst rrow xs) (Bad c) w1 from .inr ⟨c, rlst_bad hr, rfl, hF⟩)
    clear hr hF
    go_wp2
    exact ⟨rfl, HQ.out⟩
end Go.Proofs.YteodldmbnghfcaaGreat
