/- Could some mutations be applied at a revision? -/
import Derived.Test.YtmjdngomjjhhiaaGreatE25
namespace Go.Proofs.YtmjdngomjjhhiaaGreat
open Go.RowKit
open Go.Maps (Keyed)

/-- Mutations as they lie. -/
structure MutsAt (w : World) (a : Option Addr) (n : Nat) (l : List Mu) : Prop where
  len : l.length = n
  fits : ∀ m ∈ l, m.t.fits
  at_ : n = 0 ∨ ∃ b off, a = some ⟨b, off, none⟩ ∧ b < w.heap.size ∧ ∀ (i : Nat) (m : Mu), l[i]? = some m →
    w.cell? ⟨b, off + i * 4, none⟩ = some (.bool m.d) ∧ w.cell? ⟨b, off + i * 4 + 1, none⟩ = some (.string m.t.o) ∧ w.cell? ⟨b, off + i * 4 + 2, none⟩ = some (.string m.t.r) ∧ w.cell? ⟨b, off + i * 4 + 3, none⟩ = some (.string m.t.u)
theorem MutsAt.keep {w w' : World} {a : Option Addr} {n : Nat} {l : List Mu} (h : MutsAt w a n l) (hs : w.heap.size ≤ w'.heap.size) (hk : ∀ ad, a = some ad → ad.block < w.heap.size → w'.heap[ad.block]? = w.heap[ad.block]?) : MutsAt w' a n l := by
  refine ⟨h.len, h.fits, h.at_.imp_right ?_⟩
  rintro ⟨b, off, rfl, hb, hc⟩
  have hbb := hk _ rfl hb
  have hcc : ∀ i, w'.cell? ⟨b, i, none⟩ = w.cell? ⟨b, i, none⟩ := fun i => by
    simp only at hbb
    simp only [World.cell?, hbb]
  refine ⟨b, off, rfl, Nat.lt_of_lt_of_le hb hs, fun i m hm => ?_⟩
  rw [hcc, hcc, hcc, hcc]
  exact hc i m hm
theorem MutsAt.below {w w' : World} {a : Option Addr} {n : Nat} {l : List Mu} (h : MutsAt w a n l) (hb : Below w.heap.size w w') : MutsAt w' a n l := h.keep hb.size (fun _ _ h => hb.block _ h)
def Tp.e (t : Tp) : Int := tupE t.o t.r t.u
/-- What a check finds, behind the tuples seen. -/
def chkGo (lat : Tp → Int) (rev : Int) : List Tp → List Mu → Int
  | _, [] => 0
  | seen, m :: l => if m.t.e ≠ 0 then m.t.e else if m.t ∈ seen then 5 else if rev ≤ lat m.t then 70 else chkGo lat rev (seen ++ [m.t]) l
def SM.lat (M : SM) (wm : Int) (t : Tp) : Int := max wm (latestB (M.sp t))
def chkE (M : SM) (wm rev : Int) (l : List Mu) : Int := if rev < 1 ∨ maxRev < rev then 1 else chkGo (M.lat wm) rev [] l
theorem zeroM (w : World) : (zeroValue 103).run Tryz.prog w = .ok (.agg #[]) w := by kernel_rfl
/-- The map of the tuples seen. -/
structure SeenAt (w : World) (b : Nat) (mm : Lit → Option Value) (seen : List Tp) : Prop where
  map : MapAt w Tryz.prog 32 b mm seen.length
  has : ∀ t ∈ seen, mm (kT t) = some (.agg #[])
  only : ∀ kl v, mm kl = some v → ∃ t ∈ seen, kl = kT t
  fits : ∀ t ∈ seen, t.fits
theorem SeenAt.look {w : World} {b : Nat} {mm : Lit → Option Value} {seen : List Tp} (h : SeenAt w b mm seen) {t : Tp} (hf : t.fits) :
    (Instr.lookup 101 (.map (some b)) (tpV t) true).run Tryz.prog w = .ok (.tuple #[.agg #[], .bool (decide (t ∈ seen))]) w := by
  have := h.map.look keyT Tryz.underlying101 (zeroM _) true (keyT_of hf)
  rw [if_pos rfl] at this
  rw [this]
  by_cases ht : t ∈ seen
  · rw [h.has t ht, decide_eq_true ht]; rfl
  · have hn : mm (kT t) = none := by
      cases hm : mm (kT t) with
      | none => rfl
      | some v =>
        obtain ⟨y, hy, e⟩ := h.only _ _ hm
        exact absurd (kT_inj hf (h.fits y hy) e ▸ hy) ht
    rw [hn, decide_eq_false ht]; rfl
section
variable {w : World} {wm : Int} {M : SM} {H : Gh} {cb : Nat} {t : Tp}
set_option maxRecDepth 100000 in
set_option maxHeartbeats 8000000 in
theorem scheck_any (h : StAt w wm M H cb) {a : Option Addr} {n c : Nat} {l : List Mu} (hl : MutsAt w a n l) (hn : n ≤ 1099511627776) (rev : Int) :
    Calls Tryz.prog 22 #[ptr H.g, .int .i64 rev, .slice a n c] w fun e w' => e = .returned (.int .i64 (chkE M wm rev l)) ∧ Below w.heap.size w w' := by
  by_cases hr : rev < 1 ∨ maxRev < rev
  · have he : chkE M wm rev l = 1 := if_pos hr
    rw [he]
    unfold maxRev at hr
    have HB := Lib.hid (show Below w.heap.size w w from Below.refl _ _)
    clear h hl he
    by_cases h1 : rev < 1
    · go_enter Tryz.func22, Tryz.ntmps22
      go_wp2
      go_ret
      exact ⟨rfl, HB.out⟩
    · have h2 : 1125899906842624 < rev := by omega
      clear hr
      go_enter Tryz.func22, Tryz.ntmps22
      go_wp2
      go_ret
      exact ⟨rfl, HB.out⟩
  · have he : chkE M wm rev l = chkGo (M.lat wm) rev [] l := if_neg hr
    rw [he]
    unfold maxRev at hr
    have h1 : ¬ rev < 1 := by omega
    have h2 : ¬ 1125899906842624 < rev := by omega
    generalize hte : chkGo (M.lat wm) rev [] l = te
    have HTE := Lib.hid hte
    obtain ⟨w0, hw0⟩ : ∃ w0, w0 = w.alloc (.map #[] 0) := ⟨_, rfl⟩
    have hmk : (Instr.makeMap 101 none).run Tryz.prog w = .ok (.map (some w.heap.size)) w0 := by rw [run_makeMap, hw0]
    have HM0 := Lib.hid (show SeenAt w0 w.heap.size (fun _ => none) [] from ⟨by rw [hw0]; exact MapAt.made _ _ _, by simp, (fun _ _ e => by cases e), by simp⟩)
    have HB0 := Lib.hid (show Below w.heap.size w w0 by rw [hw0]; exact below_alloc _ _)
    have HL := Lib.hid hl
    have HH := Lib.hid h
    clear h hl he hr hw0 hte
    go_enter Tryz.func22, Tryz.ntmps22
    go_wp2_with fail
    go_loopw [22] (fun iv wr => ∃ (i : Nat), i ≤ n ∧ iv = .int .i64 i ∧ chkGo (M.lat wm) rev ((l.take i).map Mu.t) (l.drop i) = te ∧ Below w.heap.size w wr ∧ ∃ mm, SeenAt wr w.heap.size mm ((l.take i).map Mu.t)) (fun iv _ => n - (intOf iv).toNat)
    case atStart => exact ⟨0, by omega, rfl, HTE.out, HB0.out, _, HM0.out⟩
    case round =>
      obtain ⟨i, hin, rfl, hgo, hbl, mm, hsm⟩ := hrel
      by_cases hil : i < n
      · obtain ⟨b, off, rfl, hbB, hcc⟩ := HL.out.at_.resolve_left (by omega)
        obtain ⟨m, hmi⟩ : ∃ m, l[i]? = some m := ⟨_, List.getElem?_eq_getElem (show i < l.length by rw [HL.out.len]; exact hil)⟩
        obtain ⟨z0, z1, z2, z3⟩ := hcc i m hmi
        have hfm := HL.out.fits m (List.mem_of_getElem? hmi)
        have y0 := (hbl.cell (p := ⟨b, off + i * 4, none⟩) hbB).trans z0
        have y1 := (hbl.cell (p := ⟨b, off + i * 4 + 1, none⟩) hbB).trans z1
        have y2 := (hbl.cell (p := ⟨b, off + i * 4 + 2, none⟩) hbB).trans z2
        have y3 := (hbl.cell (p := ⟨b, off + i * 4 + 3, none⟩) hbB).trans z3
        have htk : (l.take (i + 1)).map Mu.t = (l.take i).map Mu.t ++ [m.t] := by
          rw [List.take_add_one, hmi, List.map_append]; rfl
        rw [drop_get hmi, chkGo] at hgo
        obtain ⟨w1, hw1⟩ : ∃ w1, w1 = wr.alloc (.cells #[.bool m.d, .string m.t.o, .string m.t.r, .string m.t.u] 55) := ⟨_, rfl⟩
        have hW1 : Whole w1 wr.heap.size 55 #[.bool m.d, .string m.t.o, .string m.t.r, .string m.t.u] := by rw [hw1]; exact heap_alloc_new _ _
        have hb1 : Below w.heap.size w w1 := by rw [hw1]; exact bell_alloc hbl _
        have hs1 : Below wr.heap.size wr w1 := by rw [hw1]; exact below_alloc _ _
        have d1 : w1.cell? ⟨wr.heap.size, 1, none⟩ = some (.string m.t.o) := by rw [hW1.cell]; rfl
        have d2 : w1.cell? ⟨wr.heap.size, 2, none⟩ = some (.string m.t.r) := by rw [hW1.cell]; rfl
        have d3 : w1.cell? ⟨wr.heap.size, 3, none⟩ = some (.string m.t.u) := by rw [hW1.cell]; rfl
        have HGO := Lib.hid hgo
        have HTK := Lib.hid htk
        have HB1 := Lib.hid hb1
        have HW1 := Lib.hid hW1
        have HSM := Lib.hid (show SeenAt w1 w.heap.size mm ((l.take i).map Mu.t) from ⟨hsm.map.below hs1, hsm.has, hsm.only, hsm.fits⟩)
        have HCK := Lib.hid (check_any (some ⟨w1.heap.size, 0, none⟩) 1 1 [(m.t.o, m.t.r, m.t.u)] (w1.alloc (.cells #[.string m.t.o, .string m.t.r, .string m.t.u] 32))
          ⟨rfl, fun t ht => by rw [List.mem_singleton] at ht; rw [ht]; exact hfm, .inr ⟨w1.heap.size, 0, rfl, by simp, fun j t ht => by
            cases j with
            | succ j => simp at ht
            | zero =>
              simp at ht
              subst ht
              refine ⟨?_, ?_, ?_⟩ <;> rw [new_cell] <;> rfl⟩⟩ (by omega))
        have hte1 : tupsE [(m.t.o, m.t.r, m.t.u)] = m.t.e := by
          show (if Tq.e (m.t.o, m.t.r, m.t.u) = 0 then 0 else Tq.e (m.t.o, m.t.r, m.t.u)) = _
          have : Tq.e (m.t.o, m.t.r, m.t.u) = m.t.e := rfl
          rw [this]
          split <;> simp_all
        rw [hte1] at HCK
        have hfits := hfm
        clear hcc z0 z1 z2 z3 hbl hsm hgo htk hb1 hW1 hte1 hfm hs1
        go_upto_region 7 with fail
        rw [← hw1]
        clear hw1 y0 y1 y2 y3
        go_wp2_with fail
        refine HCK.out.mono ?_
        rintro _ w2 ⟨rfl, hb2⟩
        have hb12 : Below w1.heap.size w1 w2 := bell_up (below_alloc _ _) hb2
        have hW2 := HW1.out.kept (hb12.block _ HW1.out.lt)
        have HW2 := Lib.hid hW2
        have HB2 := Lib.hid (bell_up HB1.out hb12)
        have hsm2 : SeenAt w2 w.heap.size mm ((l.take i).map Mu.t) := ⟨HSM.out.map.below hb12, HSM.out.has, HSM.out.only, HSM.out.fits⟩
        have HS2 := Lib.hid hsm2
        have hlk := hsm2.look hfits
        have e1 : w2.cell? ⟨wr.heap.size, 1, none⟩ = some (.string m.t.o) := by rw [hW2.cell]; rfl
        have e2 : w2.cell? ⟨wr.heap.size, 2, none⟩ = some (.string m.t.r) := by rw [hW2.cell]; rfl
        have e3 : w2.cell? ⟨wr.heap.size, 3, none⟩ = some (.string m.t.u) := by rw [hW2.cell]; rfl
        clear hb2 hb12 hW2 hsm2 d1 d2 d3 HCK
        generalize hme : m.t.e = me at *
        by_cases hq : me = 0
        · subst hq
          by_cases hs : m.t ∈ (l.take i).map Mu.t
          · have hte5 : te = 5 := by
              have := HGO.out
              rw [if_neg (by simp), if_pos hs] at this
              exact this.symm
            subst hte5
            rw [decide_eq_true hs] at hlk
            go_wp2
            go_ret
            exact ⟨rfl, bell_alloc HB2.out _⟩
          · rw [decide_eq_false hs] at hlk
            have hnone : mm (kT m.t) = none := by
              cases hm : mm (kT m.t) with
              | none => rfl
              | some v =>
                obtain ⟨y, hy, e⟩ := HS2.out.only _ _ hm
                exact absurd (kT_inj hfits (HS2.out.fits y hy) e ▸ hy) hs
            have hgo2 : (if rev ≤ M.lat wm m.t then 70 else chkGo (M.lat wm) rev ((l.take i).map Mu.t ++ [m.t]) (l.drop (i + 1))) = te := by
              have := HGO.out
              rw [if_neg (by simp), if_neg hs] at this
              exact this
            have HG2 := Lib.hid hgo2
            obtain ⟨w3, hw3⟩ : ∃ w3, w3 = w2.alloc (.cells #[] 103) := ⟨_, rfl⟩
            have hb3 : Below w2.heap.size w2 w3 := by rw [hw3]; exact below_alloc _ _
            have hW3 := HW2.out.kept (hb3.block _ HW2.out.lt)
            have HM3 := Lib.hid (HS2.out.map.below hb3)
            have HW3 := Lib.hid hW3
            have HB3 := Lib.hid (bell_up HB2.out hb3)
            have f1 : w3.cell? ⟨wr.heap.size, 1, none⟩ = some (.string m.t.o) := by rw [hW3.cell]; rfl
            have f2 : w3.cell? ⟨wr.heap.size, 2, none⟩ = some (.string m.t.r) := by rw [hW3.cell]; rfl
            have f3 : w3.cell? ⟨wr.heap.size, 3, none⟩ = some (.string m.t.u) := by rw [hW3.cell]; rfl
            have hln : ((l.take i).map Mu.t).length < maxLen := by rw [List.length_map, List.length_take]; unfold maxLen; omega
            clear hgo2 hb3 hW3
            go_upto_region 13 with fail
            rw [← hw3]
            clear hw3 hlk e1 e2 e3
            go_wp2_with (at_mapUpdate; refine wpList_store_map _ rfl _ _ _ 101 rfl 32 103 keyT Tryz.underlying101 _ (zeroM _) w.heap.size _ mm rfl HM3.out hln (tpV m.t) (.agg #[]) (kT m.t) rfl rfl (keyT_of hfits) ?_; intro w4 hm4 hgr4 hs4
                         have hW4 := HW3.out.kept (hgr4.block _ HW3.out.lt (fun e => by injection e with e; exact HM3.out.ne HW3.out e))
                         have g1 : w4.cell? ⟨wr.heap.size, 1, none⟩ = some (.string m.t.o) := by rw [hW4.cell]; rfl
                         have g2 : w4.cell? ⟨wr.heap.size, 2, none⟩ = some (.string m.t.r) := by rw [hW4.cell]; rfl
                         have g3 : w4.cell? ⟨wr.heap.size, 3, none⟩ = some (.string m.t.u) := by rw [hW4.cell]; rfl
                         have HM4 := Lib.hid hm4
                         have HB4 := Lib.hid (HB3.out.grown hgr4 (by have := HM3.out.lt; omega) (fun k e => by injection e with e; omega))
                         clear hm4 hgr4 hs4 hW4 f1 f2 f3)
            refine (latest_any (HH.out.below HB4.out) hfits).mono ?_
            rintro _ w5 ⟨rfl, hb5⟩
            have HB5 := Lib.hid (bell_up HB4.out hb5)
            have HM5 := Lib.hid (HM4.out.below hb5)
            clear hb5 g1 g2 g3
            rw [show max wm (latestB (M.sp m.t)) = M.lat wm m.t from rfl]
            generalize M.lat wm m.t = la at *
            by_cases hrl : rev ≤ la
            · have h70 : te = 70 := by
                have := HG2.out
                rw [if_pos hrl] at this
                exact this.symm
              subst h70
              go_wp2
              go_ret
              exact ⟨rfl, HB5.out⟩
            · have HG3 := Lib.hid (show chkGo (M.lat wm) rev ((l.take (i + 1)).map Mu.t) (l.drop (i + 1)) = te by
                have := HG2.out
                rw [if_neg hrl, ← HTK.out] at this
                exact this)
              go_wp2
              go_roundw
              case rel =>
                refine ⟨i + 1, by omega, by go_num, HG3.out, HB5.out, mset mm (kT m.t) (some (.agg #[])), ⟨?_, ?_, ?_, ?_⟩⟩
                · have := HM5.out
                  rw [hnone] at this
                  rw [HTK.out, List.length_append]
                  exact this
                · rw [HTK.out]
                  intro t ht
                  rcases List.mem_append.1 ht with h3 | h3
                  · have hne : kT t ≠ kT m.t := fun e => hs (kT_inj (HS2.out.fits t h3) hfits e ▸ h3)
                    rw [mset_other hne]
                    exact HS2.out.has t h3
                  · rw [List.mem_singleton] at h3
                    rw [h3]
                    exact mset_same (kT_lit _)
                · rw [HTK.out]
                  intro kl v hv
                  by_cases hk : kl = kT m.t
                  · exact ⟨m.t, by simp, hk⟩
                  · rw [mset_other hk] at hv
                    obtain ⟨y, hy, e⟩ := HS2.out.only kl v hv
                    exact ⟨y, List.mem_append_left _ hy, e⟩
                · rw [HTK.out]
                  intro t ht
                  rcases List.mem_append.1 ht with h3 | h3
                  · exact HS2.out.fits t h3
                  · rw [List.mem_singleton] at h3
                    rw [h3]; exact hfits
              case measure => simp [intOf]; omega
        · have hteq : te = me := by
            have := HGO.out
            rw [if_pos hq] at this
            exact this.symm
          subst hteq
          go_wp2
          go_ret
          exact ⟨rfl, HB2.out⟩
      · have hin' : i = n := by omega
        have h0 : te = 0 := by rw [← hgo, hin', List.drop_of_length_le (by rw [HL.out.len]; exact Nat.le_refl _)]; rfl
        subst h0
        have HBL := Lib.hid hbl
        clear hgo hbl hsm
        go_wp2
        go_ret
        exact ⟨rfl, HBL.out⟩
end
end Go.Proofs.YtmjdngomjjhhiaaGreat
