/- Apply. -/
import Derived.Test.YtmjdngomjjhhiaaGreatE26
namespace Go.Proofs.YtmjdngomjjhhiaaGreat
open Go.RowKit
open Go.Maps (Keyed)

theorem chkGo_zero {lat : Tp → Int} {rev : Int} : ∀ {l : List Mu} {seen : List Tp}, chkGo lat rev seen l = 0 → (∀ m ∈ l, m.t.e = 0 ∧ m.t ∉ seen ∧ lat m.t < rev) ∧ (l.map Mu.t).Nodup := by
  intro l
  induction l with
  | nil => intro seen _; exact ⟨by simp, by simp⟩
  | cons m l ih =>
    intro seen h
    unfold chkGo at h
    by_cases h1 : m.t.e ≠ 0
    · rw [if_pos h1] at h; exact absurd h h1
    · rw [if_neg h1] at h
      by_cases h2 : m.t ∈ seen
      · rw [if_pos h2] at h; cases h
      · rw [if_neg h2] at h
        by_cases h3 : rev ≤ lat m.t
        · rw [if_pos h3] at h; cases h
        · rw [if_neg h3] at h
          obtain ⟨i1, i2⟩ := ih h
          refine ⟨fun x hx => ?_, ?_⟩
          · rcases List.mem_cons.1 hx with h4 | h4
            · rw [h4]; exact ⟨Decidable.not_not.1 h1, h2, by omega⟩
            · obtain ⟨j1, j2, j3⟩ := i1 x h4
              exact ⟨j1, fun e => j2 (List.mem_append_left _ e), j3⟩
          · rw [List.map_cons, List.nodup_cons]
            refine ⟨fun e => ?_, i2⟩
            obtain ⟨x, hx, e2⟩ := List.mem_map.1 e
            exact (i1 x hx).2.1 (by rw [e2]; simp)
theorem chkE_zero {M : SM} {wm rev : Int} {l : List Mu} (h : chkE M wm rev l = 0) : 1 ≤ rev ∧ rev ≤ maxRev ∧ MuOk M rev l ∧ ∀ m ∈ l, wm < rev := by
  unfold chkE at h
  by_cases h1 : rev < 1 ∨ maxRev < rev
  · rw [if_pos h1] at h; cases h
  · rw [if_neg h1] at h
    obtain ⟨i1, i2⟩ := chkGo_zero h
    refine ⟨by omega, by omega, ⟨i2, fun m hm => ?_⟩, fun m hm => ?_⟩
    · have := (i1 m hm).2.2; unfold SM.lat at this; omega
    · have := (i1 m hm).2.2; unfold SM.lat at this; omega
theorem SM.apply_snoc (M : SM) (rev : Int) (l : List Mu) (m : Mu) : M.apply rev (l ++ [m]) = (M.apply rev l).one rev m.d m.t := by
  unfold SM.apply
  rw [List.foldl_append]; rfl
theorem MuOk.take {M : SM} {rev : Int} {l : List Mu} (h : MuOk M rev l) (i : Nat) : MuOk M rev (l.take i) :=
  ⟨by rw [List.map_take]; exact (List.take_sublist _ _).nodup h.nd, fun m hm => h.la m (List.mem_of_mem_take hm)⟩
/-- What is asked of the next one. -/
theorem MuOk.next {M : SM} {rev : Int} {l : List Mu} (h : MuOk M rev l) {i : Nat} {m : Mu} (hm : l[i]? = some m) : latestB ((M.apply rev (l.take i)).sp m.t) < rev := by
  have hn : m.t ∉ (l.take i).map Mu.t := fun e => by
    have hi := (List.getElem?_eq_some_iff.1 hm).1
    obtain ⟨j, hj, hjm⟩ := List.getElem_of_mem e
    rw [List.length_map, List.length_take] at hj
    have h1 : (l.map Mu.t)[j]'(by simp; omega) = (l.map Mu.t)[i]'(by simpa using hi) := by
      simp at hjm ⊢
      rw [hjm, (List.getElem?_eq_some_iff.1 hm).2]
    have := (List.getElem_inj h.nd).1 h1
    omega
  rw [(SM.apply_sp (rev := rev) (M := M) (h.take i).nd).2 _ hn]
  exact h.la m (List.mem_of_getElem? hm)
section
variable {w : World} {wm : Int} {M : SM} {H : Gh} {cb : Nat} {t : Tp}
theorem StAt.open_in (h : StAt w wm M H cb) (ho : openB (M.sp t) = true) : t ∈ M.K := by
  by_cases ht : t ∈ M.K
  · exact ht
  · rw [h.ok.no t ht] at ho; cases ho
/-- The last span of a tuple ends. -/
theorem send_any (h : StAt w wm M H cb) (ho : openB (M.sp t) = true) (rev : Int) (hr : latestB (M.sp t) < rev) (hm : rev ≤ maxRev) :
    Calls Tryz.prog 34 #[ptr (H.ge t), .int .i64 rev] w fun e w' => e = .returned (.tuple #[]) ∧ ∃ H', StAt w' wm (M.put t (endB (M.sp t) rev)) H' cb ∧ StC w w' H H' := by
  have ht := h.open_in ho
  have hok := h.ok.ok t ht
  have hE := h.raw.ents t ht
  obtain ⟨a, c, hv, hA⟩ := hE.at_
  have hpos : 0 < (M.sp t).length := List.length_pos_iff.2 hok.ne
  obtain ⟨b, rfl, hbg⟩ := hA.row_at hpos
  refine (eend_any hA hok.ne hbg rev).mono ?_
  rintro _ w' ⟨rfl, h1, h2, h3⟩
  refine ⟨rfl, ?_⟩
  have hlen := endB_length ho rev
  have hob : (H.rv t).ownBlock = some b := by rw [hv]; rfl
  obtain ⟨g1, g2⟩ := h.raw.spanned (w' := w') (t := t) ht (l := endB (M.sp t) rev) (v := H.rv t) (cb' := cb)
    (by rw [hv]; exact h1.blk) (by rw [hv, hlen]; exact h1.row) ((Chg.ofGrown h2 (fun k _ e => .inr (by rw [hob]; exact e)))) (fun q hq => .inl hq) (by rw [hlen]; exact h.raw.bigS t) (Nat.le_refl _)
  refine ⟨_, ⟨h.ok.put t (hok.close hr hm), ?_⟩, g2⟩
  have e1 : (M.put t (endB (M.sp t) rev)).K = M.K := if_pos ht
  have e2 : (M.put t (endB (M.sp t) rev)).sp = updK M.sp t (endB (M.sp t) rev) := rfl
  rw [e1, e2]
  exact g1
/-- A tuple has one span more. -/
theorem sput_any (h : StAt w wm M H cb) (hcb : cb ≤ 1099511627000) (hf : t.fits) (x : Sp) (ha : SMOk (M.put t (M.sp t ++ [x]))) :
    Calls Tryz.prog 35 #[ptr H.g, tpV t, .agg #[.int .i64 x.s, .int .i64 x.u]] w fun e w' => e = .returned (.tuple #[]) ∧ ∃ H', StAt w' wm (M.put t (M.sp t ++ [x])) H' (cb + 5) ∧ StC w w' H H' := by
  refine (sadd_any h.raw hcb hf x).mono ?_
  rintro _ w' ⟨rfl, H', g1, g2⟩
  exact ⟨rfl, H', ⟨ha, g1⟩, g2⟩
set_option maxRecDepth 100000 in
set_option maxHeartbeats 16000000 in
theorem apply_any (h : StAt w wm M H cb) {a : Option Addr} {n c : Nat} {l : List Mu} (hl : MutsAt w a n l) (hap : 0 < n → ∀ ad, a = some ad → ¬ H.own ad.block) (hcb : cb + 5 * n ≤ 1099511627000) (rev : Int) :
    Calls Tryz.prog 11 #[ptr H.g, .int .i64 rev, .slice a n c] w fun e w' => e = .returned (.int .i64 (chkE M wm rev l)) ∧ ∃ H', StAt w' wm (if chkE M wm rev l = 0 then M.apply rev l else M) H' (cb + 5 * n) ∧ StC w w' H H' := by
  have HCK := Lib.hid (scheck_any h hl (c := c) (by omega) rev)
  have HL := Lib.hid hl
  have HH := Lib.hid h
  generalize hce : chkE M wm rev l = ce at *
  by_cases h0 : ce = 0
  · subst h0
    obtain ⟨k1, k2, k3, k4⟩ := chkE_zero hce
    have HMU := Lib.hid k3
    have HR1 := Lib.hid k1
    have HR2 := Lib.hid k2
    clear h hl hce k1 k2 k3 k4
    simp only [if_true]
    go_enter Tryz.func11, Tryz.ntmps11
    go_wp2_with fail
    refine HCK.out.mono ?_
    rintro _ w0 ⟨rfl, hb0⟩
    have HS0 := Lib.hid (HH.out.below hb0)
    have HC0 := Lib.hid (StC.ofBelow H hb0)
    clear hb0
    go_wp2_with fail
    go_loopw [22] (fun iv wr => ∃ (i : Nat) (Hr : Gh), i ≤ n ∧ iv = .int .i64 i ∧ StAt wr wm (M.apply rev (l.take i)) Hr (cb + 5 * i) ∧ StC w wr H Hr) (fun iv _ => n - (intOf iv).toNat)
    case atStart => exact ⟨0, H, by omega, rfl, HS0.out, HC0.out⟩
    case round =>
      obtain ⟨i, Hr, hin, rfl, hst, hsc⟩ := hrel
      by_cases hil : i < n
      · have hlr := HL.out.keep hsc.chg.size (fun ad ha hb => hsc.chg.block _ hb (hap (by omega) ad ha))
        obtain ⟨b, off, rfl, hbB, hcc⟩ := hlr.at_.resolve_left (by omega)
        obtain ⟨m, hmi⟩ : ∃ m, l[i]? = some m := ⟨_, List.getElem?_eq_getElem (show i < l.length by rw [HL.out.len]; exact hil)⟩
        obtain ⟨y0, y1, y2, y3⟩ := hcc i m hmi
        have hfm := HL.out.fits m (List.mem_of_getElem? hmi)
        have htk : l.take (i + 1) = l.take i ++ [m] := by
          rw [List.take_add_one, hmi]; rfl
        have hnx := HMU.out.next hmi
        obtain ⟨Mi, hMi⟩ : ∃ Mi, Mi = M.apply rev (l.take i) := ⟨_, rfl⟩
        rw [← hMi] at hst hnx
        have HMI := Lib.hid hMi
        have HNX := Lib.hid hnx
        have HTK := Lib.hid htk
        have HSC := Lib.hid hsc
        have HST := Lib.hid hst
        have hgg : Hr.g = H.g := hsc.g
        obtain ⟨w1, hw1⟩ : ∃ w1, w1 = wr.alloc (.cells #[.bool m.d, .string m.t.o, .string m.t.r, .string m.t.u] 55) := ⟨_, rfl⟩
        have hW1 : Whole w1 wr.heap.size 55 #[.bool m.d, .string m.t.o, .string m.t.r, .string m.t.u] := by rw [hw1]; exact heap_alloc_new _ _
        have hs1 : Below wr.heap.size wr w1 := by rw [hw1]; exact below_alloc _ _
        have hst1 := hst.below hs1
        have d1 : w1.drew.cell? ⟨wr.heap.size, 1, none⟩ = some (.string m.t.o) := by show w1.cell? _ = _; rw [hW1.cell]; rfl
        have d2 : w1.drew.cell? ⟨wr.heap.size, 2, none⟩ = some (.string m.t.r) := by show w1.cell? _ = _; rw [hW1.cell]; rfl
        have d3 : w1.drew.cell? ⟨wr.heap.size, 3, none⟩ = some (.string m.t.u) := by show w1.cell? _ = _; rw [hW1.cell]; rfl
        obtain ⟨_, s1, _⟩ := hst1.raw.top.cells
        have s1 : w1.drew.cell? ⟨H.g, 1, none⟩ = some (.map (some Hr.be)) := by rw [← hgg]; exact s1
        have hlk := hst1.raw.lookT hfm w1.drew rfl
        have HST1 := Lib.hid hst1
        have HW1 := Lib.hid hW1
        have HC1 := Lib.hid (hsc.trans (StC.ofBelow Hr hs1))
        have HGG := Lib.hid hgg
        clear hcc hst hsc hst1 hW1 hs1 hgg hlr hnx hMi htk
        by_cases ht : m.t ∈ Mi.K
        · rw [if_pos ht, decide_eq_true ht] at hlk
          obtain ⟨ea, ec, _, hA⟩ := (HST1.out.raw.ents m.t ht).at_
          have HOP := Lib.hid (eopen_any (hA.below (below_drew1 w1)) (HST1.out.ok.ok m.t ht).ne)
          clear hA
          go_upto_region 7 with fail
          rw [← hw1]
          clear hw1 y0 y1 y2 y3
          go_region
          clear d1 d2 d3 s1 hlk
          go_wp2_with fail
          refine HOP.out.mono ?_
          rintro _ W2 ⟨rfl, hb2⟩
          have hb12 : Below w1.heap.size w1 W2 := bell_up (below_drew1 w1) hb2
          have HS2 := Lib.hid (HST1.out.below hb12)
          have HC2 := Lib.hid (HC1.out.trans (StC.ofBelow Hr hb12))
          have hW2 := HW1.out.kept (hb12.block _ HW1.out.lt)
          have f0 : W2.cell? ⟨wr.heap.size, 0, none⟩ = some (.bool m.d) := by rw [hW2.cell]; rfl
          have f1 : W2.cell? ⟨wr.heap.size, 1, none⟩ = some (.string m.t.o) := by rw [hW2.cell]; rfl
          have f2 : W2.cell? ⟨wr.heap.size, 2, none⟩ = some (.string m.t.r) := by rw [hW2.cell]; rfl
          have f3 : W2.cell? ⟨wr.heap.size, 3, none⟩ = some (.string m.t.u) := by rw [hW2.cell]; rfl
          clear hb2 hb12 hW2 HOP HST1
          generalize hmd : m.d = md at *
          generalize hop : openB (Mi.sp m.t) = op at *
          cases md with
          | true =>
            cases op with
            | true =>
              go_wp2_with fail
              have HEN := Lib.hid (send_any HS2.out hop rev HNX.out HR2.out)
              refine HEN.out.mono ?_
              rintro _ W3 ⟨rfl, H3, g1, g2⟩
              have HF := Lib.hid (show ∃ H', StAt W3 wm (M.apply rev (l.take (i + 1))) H' (cb + 5 * (i + 1)) ∧ StC w W3 H H' from ⟨H3, by rw [HTK.out, SM.apply_snoc, ← HMI.out]; unfold SM.one; rw [hmd, hop]; exact g1.mono (by omega), HC2.out.trans g2⟩)
              clear hop hmd f1 f2 f3 g1 g2
              go_wp2
              go_roundw
              case rel =>
                obtain ⟨H9, h9, h9c⟩ := HF.out
                exact ⟨i + 1, H9, by omega, by go_num, h9, h9c⟩
              case measure => simp [intOf]; omega
            | false =>
              have HF := Lib.hid (show ∃ H', StAt W2 wm (M.apply rev (l.take (i + 1))) H' (cb + 5 * (i + 1)) ∧ StC w W2 H H' from ⟨Hr, by rw [HTK.out, SM.apply_snoc, ← HMI.out]; unfold SM.one; rw [hmd, hop]; exact HS2.out.mono (by omega), HC2.out⟩)
              clear hop hmd f1 f2 f3
              go_wp2
              go_roundw
              case rel =>
                obtain ⟨H9, h9, h9c⟩ := HF.out
                exact ⟨i + 1, H9, by omega, by go_num, h9, h9c⟩
              case measure => simp [intOf]; omega
          | false =>
            cases op with
            | true =>
              have HF := Lib.hid (show ∃ H', StAt W2 wm (M.apply rev (l.take (i + 1))) H' (cb + 5 * (i + 1)) ∧ StC w W2 H H' from ⟨Hr, by rw [HTK.out, SM.apply_snoc, ← HMI.out]; unfold SM.one; rw [hmd, hop]; exact HS2.out.mono (by omega), HC2.out⟩)
              clear hop hmd f1 f2 f3
              go_wp2
              go_roundw
              case rel =>
                obtain ⟨H9, h9, h9c⟩ := HF.out
                exact ⟨i + 1, H9, by omega, by go_num, h9, h9c⟩
              case measure => simp [intOf]; omega
            | false =>
              go_wp2_with fail
              have HAD := Lib.hid (sput_any HS2.out (by omega) hfm ⟨rev, 0⟩ (by
                have := HS2.out.ok.one false m.t HR1.out HR2.out HNX.out
                unfold SM.one at this
                rw [hop] at this
                exact this))
              rw [HGG.out] at HAD
              refine HAD.out.mono ?_
              rintro _ W3 ⟨rfl, H3, g1, g2⟩
              have HF := Lib.hid (show ∃ H', StAt W3 wm (M.apply rev (l.take (i + 1))) H' (cb + 5 * (i + 1)) ∧ StC w W3 H H' from ⟨H3, by rw [HTK.out, SM.apply_snoc, ← HMI.out]; unfold SM.one; rw [hmd, hop]; exact g1.mono (by omega), HC2.out.trans g2⟩)
              clear hop hmd f1 f2 f3 g1 g2
              go_wp2
              go_roundw
              case rel =>
                obtain ⟨H9, h9, h9c⟩ := HF.out
                exact ⟨i + 1, H9, by omega, by go_num, h9, h9c⟩
              case measure => simp [intOf]; omega
        · rw [if_neg ht, decide_eq_false ht] at hlk
          have hop : openB (Mi.sp m.t) = false := by rw [HST1.out.ok.no m.t ht]; rfl
          obtain ⟨W2, hW⟩ : ∃ W2, W2 = w1.drew := ⟨_, rfl⟩
          have HS2 := Lib.hid (show StAt W2 wm Mi Hr (cb + 5 * i) by rw [hW]; exact HST1.out.below (below_drew1 w1))
          have HC2 := Lib.hid (show StC w W2 H Hr by rw [hW]; exact HC1.out.trans (StC.ofBelow Hr (below_drew1 w1)))
          have hW2 : Whole W2 wr.heap.size 55 #[.bool m.d, .string m.t.o, .string m.t.r, .string m.t.u] := by rw [hW]; exact HW1.out
          have f0 : W2.cell? ⟨wr.heap.size, 0, none⟩ = some (.bool m.d) := by rw [hW2.cell]; rfl
          have f1 : W2.cell? ⟨wr.heap.size, 1, none⟩ = some (.string m.t.o) := by rw [hW2.cell]; rfl
          have f2 : W2.cell? ⟨wr.heap.size, 2, none⟩ = some (.string m.t.r) := by rw [hW2.cell]; rfl
          have f3 : W2.cell? ⟨wr.heap.size, 3, none⟩ = some (.string m.t.u) := by rw [hW2.cell]; rfl
          clear hW2
          go_upto_region 7 with fail
          rw [← hw1]
          clear hw1 y0 y1 y2 y3
          go_region
          rw [← hW]
          clear d1 d2 d3 s1 hlk hW HST1
          generalize hmd : m.d = md at *
          obtain ⟨op, hop2⟩ : ∃ op, op = false := ⟨_, rfl⟩
          rw [← hop2] at hop
          subst hop2
          cases md with
          | true =>
            have HF := Lib.hid (show ∃ H', StAt W2 wm (M.apply rev (l.take (i + 1))) H' (cb + 5 * (i + 1)) ∧ StC w W2 H H' from ⟨Hr, by rw [HTK.out, SM.apply_snoc, ← HMI.out]; unfold SM.one; rw [hmd, hop]; exact HS2.out.mono (by omega), HC2.out⟩)
            clear hop hmd f1 f2 f3
            go_wp2
            go_roundw
            case rel =>
              obtain ⟨H9, h9, h9c⟩ := HF.out
              exact ⟨i + 1, H9, by omega, by go_num, h9, h9c⟩
            case measure => simp [intOf]; omega
          | false =>
            go_wp2_with fail
            have HAD := Lib.hid (sput_any HS2.out (by omega) hfm ⟨rev, 0⟩ (by
              have := HS2.out.ok.one false m.t HR1.out HR2.out HNX.out
              unfold SM.one at this
              rw [hop] at this
              exact this))
            rw [HGG.out] at HAD
            refine HAD.out.mono ?_
            rintro _ W3 ⟨rfl, H3, g1, g2⟩
            have HF := Lib.hid (show ∃ H', StAt W3 wm (M.apply rev (l.take (i + 1))) H' (cb + 5 * (i + 1)) ∧ StC w W3 H H' from ⟨H3, by rw [HTK.out, SM.apply_snoc, ← HMI.out]; unfold SM.one; rw [hmd, hop]; exact g1.mono (by omega), HC2.out.trans g2⟩)
            clear hop hmd f1 f2 f3 g1 g2
            go_wp2
            go_roundw
            case rel =>
              obtain ⟨H9, h9, h9c⟩ := HF.out
              exact ⟨i + 1, H9, by omega, by go_num, h9, h9c⟩
            case measure => simp [intOf]; omega
      · obtain rfl : i = n := by omega
        have HF := Lib.hid (show ∃ H', StAt wr wm (M.apply rev l) H' (cb + 5 * i) ∧ StC w wr H H' from ⟨Hr, by rw [List.take_of_length_le (by rw [HL.out.len]; exact Nat.le_refl _)] at hst; exact hst, hsc⟩)
        clear hst hsc
        go_wp2
        go_ret
        exact ⟨rfl, HF.out⟩
  · rw [if_neg h0]
    clear h hl hce
    go_enter Tryz.func11, Tryz.ntmps11
    go_wp2_with fail
    refine HCK.out.mono ?_
    rintro _ w0 ⟨rfl, hb0⟩
    have HF := Lib.hid (show ∃ H', StAt w0 wm M H' (cb + 5 * n) ∧ StC w w0 H H' from ⟨H, (HH.out.below hb0).mono (by omega), StC.ofBelow H hb0⟩)
    clear hb0
    go_wp2
    go_ret
    exact ⟨rfl, HF.out⟩
end
end Go.Proofs.YtmjdngomjjhhiaaGreat
