/- The cache of string,int: Cut. -/
import Derived.Test.YtfhflijlgejknaaK8SI
namespace Go.Proofs.Ytfhflijlgejknaa.KS
open Go.RowKit Go.Proofs.Ytfhflijlgejknaa
open Go.Maps (Keyed)

theorem CAt.chg {w w' : World} {B g b size : Nat} {es : List En} {f m : Int} {Q : Nat → Prop} (h : CAt w B g b size es f m) (hc : Chg w w' Q) (hQ : ∀ k, CB g b es k → ¬ Q k) : CAt w' B g b size es f m := by
  obtain ⟨mm, hm, hf⟩ := h.map
  obtain ⟨N, ⟨⟨k0, v0, hk⟩, he⟩, hl⟩ := h.ring.ex
  exact ⟨⟨⟨N, ⟨⟨k0, v0, hk.kept (hc.block _ hk.lt (hQ g (.inl rfl)))⟩, fun p k v hp => (he p k v hp).kept (hc.block _ (he p k v hp).lt (hQ p (.inr (.inr (List.mem_map.2 ⟨_, hp, rfl⟩)))))⟩, hl⟩, h.ring.nd⟩, ⟨mm, hm.kept (hc.block b hm.lt (hQ b (.inr (.inl rfl)))), hf⟩, h.keys, h.kr, h.len, h.lo, h.hi, h.geg, h.geb, h.gep⟩
theorem CAt.old {w : World} {B g b size : Nat} {es : List En} {f m : Int} (h : CAt w B g b size es f m) : ∀ k, CB g b es k → k < w.heap.size := by
  obtain ⟨mm, hm, hf⟩ := h.map
  obtain ⟨N, hN, hl⟩ := h.ring.ex
  rintro k (rfl | rfl | hk)
  · exact (hN.cells (b := k) (by simp)).2.2.2.2
  · exact hm.lt
  · exact (hN.cells (b := k) (List.mem_cons_of_mem _ hk)).2.2.2.2
theorem owns_chg {w w' : World} {base n : Nat} {e : TypeId} {v : Value} {l : List Value} {Q : Nat → Prop} (h : w.ownsRow base e 1 v n l) (hc : Chg w w' Q) (hQ : ∀ k, Q k → k < base) : w'.ownsRow base e 1 v n l :=
  owns_kept h (fun k hk => hc.block k (h.lt k hk).2 (fun hq => by have := (h.lt k hk).1; have := hQ k hq; omega))
theorem filter_out {es e1 e2 : List En} {t : En} {P : En → Bool} (h : es.filter P = e1 ++ t :: e2) (hn : es.Nodup) : es.filter (fun x => P x && decide (x ≠ t)) = e1 ++ e2 := by
  have h1 : es.filter (fun x => P x && decide (x ≠ t)) = (es.filter P).filter (fun x => decide (x ≠ t)) := by
    rw [List.filter_filter]
    apply List.filter_congr
    intro x _
    rw [Bool.and_comm]
  have h2 : (e1 ++ t :: e2).Nodup := by rw [← h]; exact hn.sublist (List.filter_sublist)
  have h3 := List.nodup_append.1 h2
  rw [h1, h, List.filter_append, List.filter_cons]
  have ht : decide (t ≠ t) = false := by simp
  rw [ht]
  have f1 : e1.filter (fun x => decide (x ≠ t)) = e1 := List.filter_eq_self.2 (fun x hx => by simp; rintro rfl; exact h3.2.2 x hx x (by simp) rfl)
  have f2 : e2.filter (fun x => decide (x ≠ t)) = e2 := List.filter_eq_self.2 (fun x hx => by simp; rintro rfl; exact (List.nodup_cons.1 h3.2.1).1 hx)
  rw [f1, f2]
  rfl
theorem nodup_of_map : ∀ {es : List En}, (es.map (·.2.1)).Nodup → es.Nodup
  | [], _ => List.nodup_nil
  | t :: es, h => by
    rw [List.map_cons] at h
    have h1 := List.nodup_cons.1 h
    exact List.nodup_cons.2 ⟨fun hm => h1.1 (List.mem_map.2 ⟨t, hm, rfl⟩), nodup_of_map h1.2⟩
open Classical in
noncomputable def leftOf (es C : List En) : List En := es.filter (fun t => !decide (t ∈ C))
theorem leftOf_step {es C e1 e2 : List En} {t : En} (hn : es.Nodup) (h : leftOf es C = e1 ++ t :: e2) : leftOf es (C ++ [t]) = e1 ++ e2 := by
  unfold leftOf at h ⊢
  rw [← filter_out h hn]
  apply List.filter_congr
  intro x _
  by_cases h1 : x ∈ C <;> by_cases h2 : x = t <;> simp [h1, h2]
theorem leftOf_all {es : List En} {pr : ByteArray → Bool} : leftOf es (es.filter (fun t => pr t.2.1)) = es.filter (fun t => !pr t.2.1) := by
  unfold leftOf
  apply List.filter_congr
  intro x hx
  simp [hx]
theorem findV_of {e1 e2 : List En} {e : Nat} {k : ByteArray} {v : Int} (h : ((e1 ++ (e, k, v) :: e2).map (·.2.1)).Nodup) : findV (e1 ++ (e, k, v) :: e2) k = .pointer (some ⟨e, 0, none⟩) := by
  unfold findV
  rw [find_some_of h]
  rfl
/-- The question: what it answers, and what it does besides. -/
structure Question (w : World) (g b : Nat) (es : List En) (G : Value) (pr : ByteArray → Bool) (I : World → List En → Prop) (Q : Nat → Prop) : Prop where
  ask : ∀ W done p k v, I W done → done ++ [(p, k, v)] <+: es → Calls Try.prog 53 #[G, Value.string k] W fun x W' => x = .returned (.bool (pr k)) ∧ I W' (done ++ [(p, k, v)]) ∧ Chg W W' Q
  keep : ∀ W W' done, I W done → Chg W W' (fun k => w.heap.size ≤ k ∨ CB g b es k) → I W' done
  apart : ∀ k, Q k → ¬ CB g b es k ∧ k < w.heap.size
def CutPost (w : World) (B g b size : Nat) (es : List En) (f m : Int) (pr : ByteArray → Bool) (I : World → List En → Prop) (Q : Nat → Prop) (x : Ending) (w' : World) : Prop :=
  x = .returned (.int .i64 ((es.filter (fun t => pr t.2.1)).length : Int)) ∧ CAt w' B g b size (es.filter (fun t => !pr t.2.1)) f m ∧ I w' es ∧ Chg w w' (fun k => Q k ∨ CB g b es k)

set_option maxRecDepth 100000 in
set_option maxHeartbeats 4000000 in
theorem Cut_any {B g b size : Nat} {es : List En} {f m : Int} {G : Value} {pr : ByteArray → Bool} {I : World → List En → Prop} {Q : Nat → Prop} (w : World) (h : CAt w B g b size es f m) (hQ : Question w g b es G pr I Q) (h0 : I w []) :
    Calls Try.prog 15 #[.pointer (some ⟨g, 0, none⟩), G] w fun x w' => CutPost w B g b size es f m pr I Q x w' := by
  obtain ⟨i0, hi, hz0, hz1, hz2⟩ := info_of Try.infoP
  have hlen := h.len
  have hhi := h.hi
  have HE := Lib.hid (entries_any w h.ring (by omega))
  have H := Lib.hid h
  have HQ := Lib.hid hQ
  have H0 := Lib.hid h0
  have HOLD := Lib.hid h.old
  obtain ⟨N, hN, _⟩ := h.ring.ex
  clear h hQ h0 hN
  go_enter Try.func15, Try.ntmps15
  go_wp2_with fail
  refine HE.out.mono ?_
  rintro x w1 ⟨ve, rfl, hoe, hb⟩
  obtain ⟨ae, ce, rfl, _, _⟩ := owned_any hoe
  have HOE := Lib.hid hoe
  have HB := Lib.hid hb
  have hw1 := hb.size
  clear hoe hb
  go_wp2_with fail
  go_loopw [5, 16] (fun t5 iv wr => ∃ i : Nat, i ≤ es.length ∧ iv = .int .i64 i ∧ wr.ownsRow w1.heap.size 101 1 t5 ((es.take i).filter (fun t => pr t.2.1)).length (((es.take i).filter (fun t => pr t.2.1)).map fun t => at_ t.1) ∧ wr.ownsRow w.heap.size 101 1 (.slice ae es.length ce) es.length (es.map fun t => at_ t.1) ∧ CAt wr B g b size es f m ∧ I wr (es.take i) ∧ Chg w wr Q ∧ w1.heap.size ≤ wr.heap.size) (fun _ iv _ => es.length - (intOf iv).toNat)
  case atStart => exact ⟨0, by omega, rfl, World.ownsRow_nil _ _ _ _, HOE.out, H.out.below HB.out, HQ.out.keep _ _ _ H0.out (Chg.ofBelow _ HB.out), Chg.ofBelow _ HB.out, Nat.le_refl _⟩
  case round =>
    obtain ⟨i, hin, rfl, hoc, hoe, hcat, hI, hC, hsz⟩ := hrel
    obtain ⟨ta, tc, rfl, _, _⟩ := owned_any hoc
    by_cases hil : i < es.length
    · obtain ⟨⟨p, k, v⟩, ht⟩ : ∃ t, es[i]? = some t := ⟨_, List.getElem?_eq_getElem hil⟩
      obtain ⟨be, rfl, hbl, hbb, ce0⟩ := owned_at (i := i) (u := at_ p) hoe (by simp [ht])
      have hmem := List.mem_of_getElem? ht
      obtain ⟨N, hN, _⟩ := hcat.ring.ex
      have hpe := hN.ent p k v hmem
      have c0 : wr.cell? ⟨p, 0, none⟩ = some (Value.string k) := by rw [hpe.cell]; rfl
      have htk : es.take (i + 1) = es.take i ++ [(p, k, v)] := by
        obtain ⟨hi', he⟩ := List.getElem?_eq_some_iff.1 ht
        rw [← he]
        exact (List.take_append_getElem hi').symm
      have HASK := Lib.hid (HQ.out.ask wr (es.take i) p k v hI (by rw [← htk]; exact List.take_prefix _ _))
      have HTK := Lib.hid htk
      have HOC := Lib.hid hoc
      have HOE2 := Lib.hid hoe
      have HCAT := Lib.hid hcat
      have HC := Lib.hid hC
      unfold at_ at ce0
      clear hoc hoe hcat hI hC hN hpe hmem ht htk
      go_wp2_with fail
      refine HASK.out.mono ?_
      rintro x w2 ⟨rfl, hI, hc⟩
      have hsz2 := hc.size
      have hoc := owns_chg HOC.out hc (fun k hk => Nat.lt_of_lt_of_le (HQ.out.apart k hk).2 hw1)
      have hoe := owns_chg HOE2.out hc (fun k hk => (HQ.out.apart k hk).2)
      have HCAT2 := Lib.hid (HCAT.out.chg hc (fun k hk hq => (HQ.out.apart k hq).1 hk))
      have HC2 := Lib.hid (HC.out.trans hc)
      have HI := Lib.hid hI
      have HOC2 := Lib.hid hoc
      have HOE3 := Lib.hid hoe
      clear hoc hoe hI hc c0 ce0
      cases hpr : pr k with
      | true =>
        obtain ⟨C, hC⟩ : ∃ C, C = (es.take i).filter (fun t => pr t.2.1) := ⟨_, rfl⟩
        have hC1 : (es.take (i + 1)).filter (fun t => pr t.2.1) = C ++ [(p, k, v)] := by
          rw [HTK.out, List.filter_append, ← hC]
          simp [hpr]
        have hCl : C.length ≤ 4096 := by
          have h1 := List.length_filter_le (fun t : En => pr t.2.1) (es.take i)
          have h2 : (es.take i).length ≤ es.length := by simp; omega
          rw [hC]
          omega
        have hoc := HOC2.out
        rw [← hC] at hoc
        have HOC4 := Lib.hid hoc
        have HC1 := Lib.hid hC1
        have hsz3 : w1.heap.size ≤ w2.heap.size := by omega
        rw [← hC]
        clear hoc hC hC1 hpr
        go_wp2_with (
          at_builtin
          (refine wpList_append_at_any _ rfl _ _ 114 rfl w1.heap.size 101 i0 (.pointer none) 1 8 Try.underlying114 hi hz0 hz1 hz2 rfl (by decide) _ C.length _ rfl (HOC4.out.alloc _) (some ⟨w2.heap.size, 0, none⟩) 1 1 [.pointer (some ⟨p, 0, none⟩)] rfl rfl (by intro h; cases h) (by rintro ad he; injection he with he; subst he; exact cell_one_new _ _ _) (by intro q hq; simp at hq; subst hq; rfl) (by unfold maxLen; omega) (by omega) (by simp; omega) ?_)
          intro v2 w3 hown3 hgrow3 hat3)
        have hC3 : Chg w2 w3 (fun k => w1.heap.size ≤ k) := by
          have h1 := World.grownBy_alloc w2 (.cells #[.pointer (some ⟨p, 0, none⟩)] 101) none
          exact ⟨hgrow3.os, hgrow3.tape, hgrow3.output, by have := hgrow3.size; simp at this; omega, fun q hq hn => (hgrow3.block q (by simp; omega) (by intro e; have := ((HOC4.out.alloc (.cells #[.pointer (some ⟨p, 0, none⟩)] 101)).lt q e.symm).1; omega)).trans (h1.block q hq (by simp))⟩
        have hz3 := hC3.size
        have hoe4 : w3.ownsRow w.heap.size 101 1 (.slice (some ⟨be, 0, none⟩) es.length ce) es.length (es.map fun t => at_ t.1) := by
          have hb1 : be < w1.heap.size := by
            have := (HOE.out.lt be rfl).2
            exact this
          refine owns_kept HOE3.out (fun q hq => ?_)
          injection hq with hq
          subst hq
          exact hC3.block _ (HOE3.out.lt _ rfl).2 (by simp; exact hb1)
        have hoc5 : w3.ownsRow w1.heap.size 101 1 v2 ((es.take (i + 1)).filter (fun t => pr t.2.1)).length (((es.take (i + 1)).filter (fun t => pr t.2.1)).map fun t => at_ t.1) := by
          rw [HC1.out]
          rw [List.length_append, List.map_append]
          exact hown3
        have HR1 := Lib.hid hoc5
        have HR2 := Lib.hid hoe4
        have HR3 := Lib.hid (HCAT2.out.chg hC3 (fun k hk hq => by have := HOLD.out k hk; omega))
        have HR4 := Lib.hid (show I w3 (es.take (i + 1)) by rw [HTK.out]; exact HQ.out.keep _ _ _ HI.out (hC3.mono (fun k _ hk => .inl (by omega))))
        have HR5 := Lib.hid (show Chg w w3 Q from ⟨hC3.os.trans HC2.out.os, hC3.tape.trans HC2.out.tape, hC3.output.trans HC2.out.output, Nat.le_trans HC2.out.size hC3.size, fun q hq hn => (hC3.block q (Nat.lt_of_lt_of_le hq HC2.out.size) (by omega)).trans (HC2.out.block q hq hn)⟩)
        clear hown3 hgrow3 hat3 hC3 hoe4 hoc5
        go_roundw
        case rel => exact ⟨i + 1, by omega, by go_num, HR1.out, HR2.out, HR3.out, HR4.out, HR5.out, by omega⟩
        case measure => simp [intOf]; omega
      | false =>
        have hC1 : (es.take (i + 1)).filter (fun t => pr t.2.1) = (es.take i).filter (fun t => pr t.2.1) := by
          rw [HTK.out, List.filter_append]
          simp [hpr]
        have HC1 := Lib.hid hC1
        have HTI := Lib.hid (show I w2 (es.take (i + 1)) by rw [HTK.out]; exact HI.out)
        clear hC1 hpr
        go_wp2
        go_roundw
        case rel => exact ⟨i + 1, by omega, by go_num, by rw [HC1.out]; exact HOC2.out, HOE3.out, HCAT2.out, HTI.out, HC2.out, by omega⟩
        case measure => simp [intOf]; omega
    · obtain rfl : i = es.length := by omega
      rw [List.take_length] at hoc hI
      obtain ⟨C, hCd⟩ : ∃ C, C = es.filter (fun t => pr t.2.1) := ⟨_, rfl⟩
      rw [List.take_length, ← hCd]
      rw [← hCd] at hoc
      have hCl : C.length ≤ 4096 := by
        have h1 := List.length_filter_le (fun t : En => pr t.2.1) es
        rw [hCd]
        omega
      have HOC := Lib.hid hoc
      have HCAT := Lib.hid (show CAt wr B g b size (leftOf es (C.take 0)) f m by rw [show leftOf es (C.take 0) = es by unfold leftOf; exact List.filter_eq_self.2 (fun _ _ => by simp)]; exact hcat)
      have HI := Lib.hid hI
      have HC := Lib.hid (hC.mono (Q := fun k => Q k ∨ CB g b es k) (fun k _ hk => .inl hk))
      have HCD := Lib.hid hCd
      have HND := Lib.hid (nodup_of_map H.out.keys)
      have hwz := hC.size
      clear hoc hoe hcat hI hC hCd
      go_wp2_with fail
      go_loopw [33] (fun jv wx => ∃ j : Nat, j ≤ C.length ∧ jv = .int .i64 j ∧ CAt wx B g b size (leftOf es (C.take j)) f m ∧ wx.ownsRow w1.heap.size 101 1 (.slice ta C.length tc) C.length (C.map fun t => at_ t.1) ∧ I wx es ∧ Chg w wx (fun k => Q k ∨ CB g b es k)) (fun jv _ => C.length - (intOf jv).toNat)
      case atStart => exact ⟨0, by omega, rfl, HCAT.out, HOC.out, HI.out, HC.out⟩
      case round =>
        obtain ⟨j, hjn, rfl, hcat, hoc, hI, hC⟩ := hrel
        by_cases hjl : j < C.length
        · obtain ⟨⟨e, k, v⟩, ht⟩ : ∃ t, C[j]? = some t := ⟨_, List.getElem?_eq_getElem hjl⟩
          obtain ⟨bc, rfl, hbl, hbb, ce0⟩ := owned_at (i := j) (u := at_ e) hoc (by simp [ht])
          have htk : C.take (j + 1) = C.take j ++ [(e, k, v)] := by
            obtain ⟨hi', he⟩ := List.getElem?_eq_some_iff.1 ht
            rw [← he]
            exact (List.take_append_getElem hi').symm
          have hCnd : C.Nodup := by rw [HCD.out]; exact HND.out.sublist List.filter_sublist
          have hnot : (e, k, v) ∉ C.take j := by
            intro hm
            have h1 : (C.take (j + 1)).Nodup := hCnd.sublist (List.take_sublist _ _)
            rw [htk] at h1
            exact (List.nodup_append.1 h1).2.2 _ hm _ (by simp) rfl
          have hmem : (e, k, v) ∈ leftOf es (C.take j) := by
            have h1 := List.mem_of_getElem? ht
            rw [HCD.out] at h1
            unfold leftOf
            refine List.mem_filter.2 ⟨(List.mem_filter.1 h1).1, ?_⟩
            simpa using hnot
          obtain ⟨e1, e2, hrem⟩ := List.append_of_mem hmem
          have hstep := leftOf_step HND.out hrem
          rw [← htk] at hstep
          rw [hrem] at hcat
          have hk := hcat.kr e k v (by simp)
          have HFI := Lib.hid (find_any k wr hcat hk)
          rw [findV_of hcat.keys] at HFI
          have HFG := Lib.hid (forget_any wr hcat)
          obtain ⟨N, hN, _⟩ := hcat.ring.ex
          have hpe := hN.ent e k v (by simp)
          have c0 : wr.cell? ⟨e, 0, none⟩ = some (Value.string k) := by rw [hpe.cell]; rfl
          have HSUB := Lib.hid (show ∀ q, CB g b (e1 ++ (e, k, v) :: e2) q → CB g b es q by
            rintro q (h1 | h1 | h1)
            · exact .inl h1
            · exact .inr (.inl h1)
            · rw [← hrem] at h1
              obtain ⟨t, ht1, rfl⟩ := List.mem_map.1 h1
              exact .inr (.inr (List.mem_map.2 ⟨t, (List.mem_filter.1 ht1).1, rfl⟩)))
          have HST := Lib.hid hstep
          have HOC2 := Lib.hid hoc
          have HI2 := Lib.hid hI
          have HC2 := Lib.hid hC
          unfold at_ at ce0
          clear htk hCnd hnot hmem hrem hstep hcat hoc hI hC hN hpe ht
          go_wp2_with fail
          refine HFI.out.mono ?_
          rintro x w3 ⟨rfl, rfl⟩
          go_wp2_with fail
          refine HFG.out.mono ?_
          rintro x w3 ⟨rfl, hcat, hc⟩
          have hcm := hc.mono (Q := CB g b es) (fun q _ hq => HSUB.out q hq)
          have HR1 := Lib.hid hcat
          have HR2 := Lib.hid (owns_chg HOC2.out hcm (fun q hq => Nat.lt_of_lt_of_le (HOLD.out q hq) hw1))
          have HR3 := Lib.hid (HQ.out.keep _ _ _ HI2.out (hcm.mono (fun q _ hq => .inr hq)))
          have HR4 := Lib.hid (HC2.out.trans (hcm.mono (fun q _ hq => .inr hq)))
          clear hcat hc hcm c0 ce0
          go_wp2
          go_roundw
          case rel => exact ⟨j + 1, by omega, by go_num, by rw [HST.out]; exact HR1.out, HR2.out, HR3.out, HR4.out⟩
          case measure => simp [intOf]; omega
        · obtain rfl : j = C.length := by omega
          rw [List.take_length] at hcat
          have HP := Lib.hid (show CutPost w B g b size es f m pr I Q (.returned (.int .i64 (C.length : Int))) wr from ⟨by rw [HCD.out], by rw [HCD.out, leftOf_all] at hcat; exact hcat, hI, hC⟩)
          clear hcat hoc hI hC
          go_wp2
          go_ret
          exact HP.out
end Go.Proofs.Ytfhflijlgejknaa.KS
