/- The reader: lists of mutations and of conditions. -/
import Derived.Test.YteodldmbnghfcaaGreatC14
namespace Go.Proofs.YteodldmbnghfcaaGreat
open Go.RowKit

theorem Tryz.infoM : (Tryz.prog.info? 116).map (fun i => (i.zero, i.size, i.bytes)) = some (some (.agg #[.bool false, .string ⟨#[]⟩, .string ⟨#[]⟩, .string ⟨#[]⟩]), 4, 56) := by kernel_rfl
theorem Tryz.infoC : (Tryz.prog.info? 119).map (fun i => (i.zero, i.size, i.bytes)) = some (some (.agg #[.bool false, .string ⟨#[]⟩, .string ⟨#[]⟩, .string ⟨#[]⟩]), 4, 56) := by kernel_rfl
theorem owned_some {w : World} {base n s : Nat} {v : Value} {e : TypeId} {l : List Value} (h : w.ownsRow base e s v n l) : ∃ a c, v = .slice a n c ∧ n ≤ c ∧ c ≤ maxLen := by
  rcases h.2 with ⟨rfl, h0⟩ | ⟨g, cap, cur, rfl, _, _, h3, h4, _⟩
  · subst h0
    exact ⟨none, 0, rfl, by omega, by simp [maxLen]⟩
  · exact ⟨_, _, rfl, h3, h4⟩
theorem owns_rfs {w w' : World} {base n g s : Nat} {e : TypeId} {v : Value} {l : List Value} (h : w.ownsRow base e s v n l) (hF : RF g w w') (hg : g < base) : w'.ownsRow base e s v n l := by
  have hb : ∀ k, v.ownBlock = some k → w'.heap[k]? = w.heap[k]? := fun k hk => hF.other k (h.lt k hk).2 (by have := (h.lt k hk).1; omega)
  refine ⟨h.1, ?_⟩
  rcases h.2 with h2 | ⟨q, cap, cur, rfl, h3, h4, r⟩
  · exact .inl h2
  · exact .inr ⟨q, cap, cur, rfl, h3, (hb q rfl).trans h4, r⟩
theorem rf_growns {w a b : World} {base n g s : Nat} {e : TypeId} {v : Value} {l : List Value} (h : a.ownsRow base e s v n l) (hb : base = w.heap.size) (hF : RF g w a) (hg : a.grownBy b v.ownBlock) : RF g w b :=
  ⟨hg.os.trans hF.os, hg.tape.trans hF.tape, hg.output.trans hF.output, Nat.le_trans hF.size hg.size, fun k hk hn => (hg.block k (Nat.lt_of_lt_of_le hk hF.size) (fun e => by have := (h.lt k e.symm).1; omega)).trans (hF.other k hk hn)⟩
theorem rat_growns {a b : World} {base n B g s : Nat} {e : TypeId} {v u : Value} {l : List Value} {xs : List Int} (h : a.ownsRow base e s v n l) (hA : RAt a B g u xs) (hg : a.grownBy b v.ownBlock) (hlt : g < base) : RAt b B g u xs :=
  ⟨hA.blk.kept (hg.block g hA.blk.lt (fun e => by have := (h.lt g e.symm).1; omega)), hA.ge, hA.lies.keep fun k hk => hg.block k (by have := hA.ge; have := hA.blk.lt; omega) (fun e => by have := (h.lt k e.symm).1; have := hA.ge; omega)⟩
theorem cells_new (w : World) (l : List Value) (t : TypeId) : ∀ j u, l[j]? = some u → (w.alloc (.cells l.toArray t)).cell? ((⟨w.heap.size, 0, none⟩ : Addr).add j) = some u := by
  intro j u hj
  rw [add_plain, Nat.zero_add, new_cell]
  simpa using hj
/-- A truth and a tuple as cells. -/
def flagC (p : Bool × Tx) : List Value := [.bool p.1, .string (strOfNums p.2.1), .string (strOfNums p.2.2.1), .string (strOfNums p.2.2.2)]

set_option maxRecDepth 100000 in
set_option maxHeartbeats 4000000 in
theorem glist_mut (B g gv : Nat) (v : Value) (xs : List Int) (w : World) (h : RAt w B g v xs) (hv : Whole w gv 151 #[.pointer (some ⟨g, 0, none⟩)]) :
    Calls Tryz.prog 83 #[.pointer (some ⟨g, 0, none⟩), .func (.func 84) #[] #[.pointer (some ⟨gv, 0, none⟩)]] w (LDone w B g 116 4 (fun l => l.flatMap flagC) (rlst rflag xs)) := by
  obtain ⟨i0, hi, hz0, hz1, hz2⟩ := info_parts Tryz.infoM
  have hgl := h.blk.lt
  have HGV := Lib.hid (h.typed hv (by decide))
  have HV := Lib.hid hv
  have HGL := Lib.hid hgl
  have HN := Lib.hid (rcount_any B g v xs 1024 w h)
  clear h hv hgl
  go_enter Tryz.func83, Tryz.ntmps83
  go_wp2_with fail
  refine HN.out.mono ?_
  rintro e w1 (⟨n, ys, u, hr, rfl, hA, hF⟩ | ⟨c, hr, rfl, hF⟩)
  · have hrange := rcount_range hr
    obtain ⟨n, rfl⟩ : ∃ k : Nat, n = (k : Int) := ⟨n.toNat, by omega⟩
    have HLO := Lib.hid (rlst_ok (p := rflag) hr)
    have HA1 := Lib.hid hA
    have HF1 := Lib.hid hF
    clear hA hF hr
    go_wp2_with fail
    go_loopw [5, 8] (fun t iv wr => ∃ (i : Nat) (acc : List (Bool × Tx)) (ys' : List Int) (u' : Value), i ≤ n ∧ iv = .int .i64 i ∧ acc.length = i ∧ prep acc (rrep rflag (n - i) ys') = rrep rflag n ys ∧ wr.ownsRow w.heap.size 116 4 t acc.length (acc.flatMap flagC) ∧ RAt wr B g u' ys' ∧ RF g w wr) (fun _ iv _ => n - (intOf iv).toNat)
    case atStart => exact ⟨0, [], ys, u, by omega, rfl, rfl, prep_nil _, ⟨rfl, .inl ⟨rfl, rfl⟩⟩, HA1.out, HF1.out⟩
    case round =>
      obtain ⟨i, acc, ys', u', hin, rfl, rfl, hpr, hown, hA, hF⟩ := hrel
      obtain ⟨ta, tc, rfl, _, _⟩ := owned_some hown
      by_cases hil : acc.length < n
      · obtain ⟨k, hk⟩ : ∃ k, n - acc.length = k + 1 := ⟨n - acc.length - 1, by omega⟩
        have hk' : n - (acc.length + 1) = k := by omega
        rw [hk] at hpr
        have hgw := hA.blk.lt
        have cv := (hF.whole HV.out HGV.out).cell 0
        have cv0 : wr.cell? ⟨gv, 0, none⟩ = some (.pointer (some ⟨g, 0, none⟩)) := by rw [cv]; rfl
        have HGI := Lib.hid (gmut_any B g gv u' ys' wr hA (hF.whole HV.out HGV.out))
        have HOW := Lib.hid hown
        have HA := Lib.hid hA
        have HF := Lib.hid hF
        have HPR := Lib.hid hpr
        clear hA hF hown cv hpr
        go_wp2_with fail
        refine HGI.out.mono ?_
        rintro e w2 (⟨⟨d, b1, b2, b3⟩, zs, u2, hr, rfl, hA2, hF2⟩ | ⟨c, hr, rfl, hF2⟩)
        · have hown2 := owns_rfs HOW.out hF2 HGL.out
          have hsz2 := (HF.out.trans hF2).size
          have HP2 := Lib.hid (HPR.out.symm.trans (prep_step hr))
          have HOW2 := Lib.hid hown2
          have HA2 := Lib.hid hA2
          have HF2 := Lib.hid (HF.out.trans hF2)
          clear hr hA2 hF2 hown2
          unfold flagV
          go_wp2_with (at_builtin; refine wpList_append_at_any _ rfl _ _ 39 rfl w.heap.size 116 i0 (.agg #[.bool false, .string ⟨#[]⟩, .string ⟨#[]⟩, .string ⟨#[]⟩]) 4 56 Tryz.underlying39 hi hz0 hz1 hz2 rfl (by decide) _ acc.length _ rfl (HOW2.out.alloc _) (some ⟨w2.heap.size, 0, none⟩) 1 1 [.bool d, .string (strOfNums b1), .string (strOfNums b2), .string (strOfNums b3)] rfl rfl (by intro h; cases h) (by rintro ad he; injection he with he; subst he; exact cells_new _ [.bool d, .string (strOfNums b1), .string (strOfNums b2), .string (strOfNums b3)] _) (by intro q hq; simp at hq; rcases hq with rfl | rfl | rfl | rfl <;> rfl) (by unfold maxLen; omega) (by omega) (by simp; omega) ?_; intro v2 w3 hown3 hgrow3 hat3)
          have HA3 := Lib.hid (rat_growns (HOW2.out.alloc _) (HA2.out.alloc _) hgrow3 HGL.out)
          have HF3 := Lib.hid (rf_growns (HOW2.out.alloc _) rfl (HF2.out.trans (RF.alloc _ _)) hgrow3)
          have hmap : acc.flatMap flagC ++ [.bool d, .string (strOfNums b1), .string (strOfNums b2), .string (strOfNums b3)] = (acc ++ [(d, b1, b2, b3)]).flatMap flagC := by simp [flagC]
          have hlz : acc.length + 1 = (acc ++ [(d, b1, b2, b3)]).length := by simp
          rw [hmap, hlz] at hown3
          have HO3 := Lib.hid hown3
          clear hown3 hgrow3 hat3 hmap hlz
          go_roundw
          case rel => exact ⟨acc.length + 1, acc ++ [(d, b1, b2, b3)], zs, u2, by omega, by go_num, by simp, by rw [hk']; exact HP2.out.symm, HO3.out, HA3.out, HF3.out⟩
          case measure => simp [intOf]; omega
        · have HQ := Lib.hid (show LDone w B g 116 4 (fun l => l.flatMap flagC) (rlst rflag xs) (Bad c) w2 from .inr ⟨c, by rw [HLO.out, ← HPR.out, prep_bad hr], rfl, HF.out.trans hF2⟩)
          clear hr hF2
          go_wp2
          exact ⟨rfl, HQ.out⟩
      · have hin' : n - acc.length = 0 := by omega
        rw [hin', prep_end] at hpr
        have HQ := Lib.hid (show LDone w B g 116 4 (fun l => l.flatMap flagC) (rlst rflag xs) (.returned (.slice ta acc.length tc)) wr from .inl ⟨acc, ys', u', _, by rw [HLO.out, ← hpr], rfl, hown, hA, hF⟩)
        clear hown hA hF hpr
        go_wp2
        go_ret
        exact HQ.out
  · have HQ := Lib.hid (show LDone w B g 116 4 (fun l => l.flatMap flagC) (rlst rflag xs) (Bad c) w1 from .inr ⟨c, rlst_bad hr, rfl, hF⟩)
    clear hr hF
    go_wp2
    exact ⟨rfl, HQ.out⟩

set_option maxRecDepth 100000 in
set_option maxHeartbeats 4000000 in
theorem glist_con (B g gv : Nat) (v : Value) (xs : List Int) (w : World) (h : RAt w B g v xs) (hv : Whole w gv 151 #[.pointer (some ⟨g, 0, none⟩)]) :
    Calls Tryz.prog 86 #[.pointer (some ⟨g, 0, none⟩), .func (.func 87) #[] #[.pointer (some ⟨gv, 0, none⟩)]] w (LDone w B g 119 4 (fun l => l.flatMap flagC) (rlst rflag xs)) := by
  obtain ⟨i0, hi, hz0, hz1, hz2⟩ := info_parts Tryz.infoC
  have hgl := h.blk.lt
  have HGV := Lib.hid (h.typed hv (by decide))
  have HV := Lib.hid hv
  have HGL := Lib.hid hgl
  have HN := Lib.hid (rcount_any B g v xs 1024 w h)
  clear h hv hgl
  go_enter Tryz.func86, Tryz.ntmps86
  go_wp2_with fail
  refine HN.out.mono ?_
  rintro e w1 (⟨n, ys, u, hr, rfl, hA, hF⟩ | ⟨c, hr, rfl, hF⟩)
  · have hrange := rcount_range hr
    obtain ⟨n, rfl⟩ : ∃ k : Nat, n = (k : Int) := ⟨n.toNat, by omega⟩
    have HLO := Lib.hid (rlst_ok (p := rflag) hr)
    have HA1 := Lib.hid hA
    have HF1 := Lib.hid hF
    clear hA hF hr
    go_wp2_with fail
    go_loopw [5, 8] (fun t iv wr => ∃ (i : Nat) (acc : List (Bool × Tx)) (ys' : List Int) (u' : Value), i ≤ n ∧ iv = .int .i64 i ∧ acc.length = i ∧ prep acc (rrep rflag (n - i) ys') = rrep rflag n ys ∧ wr.ownsRow w.heap.size 119 4 t acc.length (acc.flatMap flagC) ∧ RAt wr B g u' ys' ∧ RF g w wr) (fun _ iv _ => n - (intOf iv).toNat)
    case atStart => exact ⟨0, [], ys, u, by omega, rfl, rfl, prep_nil _, ⟨rfl, .inl ⟨rfl, rfl⟩⟩, HA1.out, HF1.out⟩
    case round =>
      obtain ⟨i, acc, ys', u', hin, rfl, rfl, hpr, hown, hA, hF⟩ := hrel
      obtain ⟨ta, tc, rfl, _, _⟩ := owned_some hown
      by_cases hil : acc.length < n
      · obtain ⟨k, hk⟩ : ∃ k, n - acc.length = k + 1 := ⟨n - acc.length - 1, by omega⟩
        have hk' : n - (acc.length + 1) = k := by omega
        rw [hk] at hpr
        have hgw := hA.blk.lt
        have cv := (hF.whole HV.out HGV.out).cell 0
        have cv0 : wr.cell? ⟨gv, 0, none⟩ = some (.pointer (some ⟨g, 0, none⟩)) := by rw [cv]; rfl
        have HGI := Lib.hid (gcon_any B g gv u' ys' wr hA (hF.whole HV.out HGV.out))
        have HOW := Lib.hid hown
        have HA := Lib.hid hA
        have HF := Lib.hid hF
        have HPR := Lib.hid hpr
        clear hA hF hown cv hpr
        go_wp2_with fail
        refine HGI.out.mono ?_
        rintro e w2 (⟨⟨d, b1, b2, b3⟩, zs, u2, hr, rfl, hA2, hF2⟩ | ⟨c, hr, rfl, hF2⟩)
        · have hown2 := owns_rfs HOW.out hF2 HGL.out
          have hsz2 := (HF.out.trans hF2).size
          have HP2 := Lib.hid (HPR.out.symm.trans (prep_step hr))
          have HOW2 := Lib.hid hown2
          have HA2 := Lib.hid hA2
          have HF2 := Lib.hid (HF.out.trans hF2)
          clear hr hA2 hF2 hown2
          unfold flagV
          go_wp2_with (at_builtin; refine wpList_append_at_any _ rfl _ _ 40 rfl w.heap.size 119 i0 (.agg #[.bool false, .string ⟨#[]⟩, .string ⟨#[]⟩, .string ⟨#[]⟩]) 4 56 Tryz.underlying40 hi hz0 hz1 hz2 rfl (by decide) _ acc.length _ rfl (HOW2.out.alloc _) (some ⟨w2.heap.size, 0, none⟩) 1 1 [.bool d, .string (strOfNums b1), .string (strOfNums b2), .string (strOfNums b3)] rfl rfl (by intro h; cases h) (by rintro ad he; injection he with he; subst he; exact cells_new _ [.bool d, .string (strOfNums b1), .string (strOfNums b2), .string (strOfNums b3)] _) (by intro q hq; simp at hq; rcases hq with rfl | rfl | rfl | rfl <;> rfl) (by unfold maxLen; omega) (by omega) (by simp; omega) ?_; intro v2 w3 hown3 hgrow3 hat3)
          have HA3 := Lib.hid (rat_growns (HOW2.out.alloc _) (HA2.out.alloc _) hgrow3 HGL.out)
          have HF3 := Lib.hid (rf_growns (HOW2.out.alloc _) rfl (HF2.out.trans (RF.alloc _ _)) hgrow3)
          have hmap : acc.flatMap flagC ++ [.bool d, .string (strOfNums b1), .string (strOfNums b2), .string (strOfNums b3)] = (acc ++ [(d, b1, b2, b3)]).flatMap flagC := by simp [flagC]
          have hlz : acc.length + 1 = (acc ++ [(d, b1, b2, b3)]).length := by simp
          rw [hmap, hlz] at hown3
          have HO3 := Lib.hid hown3
          clear hown3 hgrow3 hat3 hmap hlz
          go_roundw
          case rel => exact ⟨acc.length + 1, acc ++ [(d, b1, b2, b3)], zs, u2, by omega, by go_num, by simp, by rw [hk']; exact HP2.out.symm, HO3.out, HA3.out, HF3.out⟩
          case measure => simp [intOf]; omega
        · have HQ := Lib.hid (show LDone w B g 119 4 (fun l => l.flatMap flagC) (rlst rflag xs) (Bad c) w2 from .inr ⟨c, by rw [HLO.out, ← HPR.out, prep_bad hr], rfl, HF.out.trans hF2⟩)
          clear hr hF2
          go_wp2
          exact ⟨rfl, HQ.out⟩
      · have hin' : n - acc.length = 0 := by omega
        rw [hin', prep_end] at hpr
        have HQ := Lib.hid (show LDone w B g 119 4 (fun l => l.flatMap flagC) (rlst rflag xs) (.returned (.slice ta acc.length tc)) wr from .inl ⟨acc, ys', u', _, by rw [HLO.out, ← hpr], rfl, hown, hA, hF⟩)
        clear hown hA hF hpr
        go_wp2
        go_ret
        exact HQ.out
  · have HQ := Lib.hid (show LDone w B g 119 4 (fun l => l.flatMap flagC) (rlst rflag xs) (Bad c) w1 from .inr ⟨c, rlst_bad hr, rfl, hF⟩)
    clear hr hF
    go_wp2
    exact ⟨rfl, HQ.out⟩
end Go.Proofs.YteodldmbnghfcaaGreat
