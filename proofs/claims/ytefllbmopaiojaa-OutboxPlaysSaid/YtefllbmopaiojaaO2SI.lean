/- The outbox of string,int: one thing changed, Tick. -/
import Derived.Test.YtefllbmopaiojaaO1SI
namespace Go.Proofs.Ytefllbmopaiojaa.OI
open Go.RowKit Go.Proofs.Ytefllbmopaiojaa
open Go.Maps (Keyed)

theorem find_kp (es : List En) (k : ByteArray) : (es.find? (fun x => decide (x.k = k))).map (fun x => at_ x.p) = ((es.map fun x => (x.k, x.p)).find? (fun y => decide (y.1 = k))).map (fun y => at_ y.2) := by
  rw [List.find?_map, Option.map_map]
  rfl
/-- One thing has another value, or waits otherwise. -/
theorem OAt.turn {w w' : World} {B g b period size : Nat} {row : Value} {e1 e2 : List En} {x : En} (h : OAt w B g b period size row (e1 ++ x :: e2)) (v : Int) (t : Nat) (ht : t < period)
    (hx : Whole w' x.p 71 #[.string x.k, Value.int .i64 v, .int .i64 (t : Int)]) (hb : ∀ k, Blk g b row (e1 ++ x :: e2) k → k ≠ x.p → w'.heap[k]? = w.heap[k]?) : OAt w' B g b period size row (e1 ++ ⟨x.p, x.k, v, t⟩ :: e2) := by
  have hxm : x ∈ e1 ++ x :: e2 := by simp
  have hwx := h.ent x hxm
  have hkp : (e1 ++ (⟨x.p, x.k, v, t⟩ : En) :: e2).map (fun x => (x.k, x.p)) = (e1 ++ x :: e2).map (fun x => (x.k, x.p)) := by simp
  have hp : (e1 ++ (⟨x.p, x.k, v, t⟩ : En) :: e2).map (·.p) = (e1 ++ x :: e2).map (·.p) := by simp
  have hk : (e1 ++ (⟨x.p, x.k, v, t⟩ : En) :: e2).map (·.k) = (e1 ++ x :: e2).map (·.k) := by simp
  have hl : (e1 ++ (⟨x.p, x.k, v, t⟩ : En) :: e2).length = (e1 ++ x :: e2).length := by simp
  have hat : (e1 ++ (⟨x.p, x.k, v, t⟩ : En) :: e2).map (fun x => at_ x.p) = (e1 ++ x :: e2).map (fun x => at_ x.p) := by simp
  have hall : ∀ y ∈ e1 ++ (⟨x.p, x.k, v, t⟩ : En) :: e2, y = ⟨x.p, x.k, v, t⟩ ∨ (y ∈ e1 ++ x :: e2 ∧ y.p ≠ x.p) := by
    intro y hy
    have hnd := h.nd
    rw [List.map_append, List.map_cons] at hnd
    rcases List.mem_append.1 hy with h1 | h1
    · refine .inr ⟨List.mem_append_left _ h1, fun e => ?_⟩
      exact (List.nodup_append.1 hnd).2.2 y.p (List.mem_map.2 ⟨y, h1, rfl⟩) x.p (by simp) e
    · rcases List.mem_cons.1 h1 with h1 | h1
      · exact .inl h1
      · refine .inr ⟨List.mem_append_right _ (List.mem_cons_of_mem _ h1), fun e => ?_⟩
        exact (List.nodup_cons.1 (List.nodup_append.1 hnd).2.1).1 (List.mem_map.2 ⟨y, h1, e⟩)
  obtain ⟨mm, hm, hf⟩ := h.map
  refine ⟨h.own.kept (hb g (.inl rfl) (whole_ne h.own hwx (by decide))), ?_, fun y hy => ?_, ⟨mm, ?_, fun k' hk' => ?_⟩, by rw [hk]; exact h.keys, by rw [hp]; exact h.nd, fun y hy => ?_, fun y hy => ?_, by rw [hl]; exact h.len, h.per, h.siz, h.geg, h.geb, fun y hy => ?_⟩
  · rw [hl, hat]
    refine owns_kept h.row (fun k hk => hb k (.inr (.inr (.inl hk))) ?_)
    rintro rfl
    obtain ⟨_, cur, hW⟩ := owned_block h.row hk
    exact whole_ne hW hwx (by decide) rfl
  · rcases hall y hy with rfl | ⟨h1, h2⟩
    · exact hx
    · exact (h.ent y h1).kept (hb y.p (.inr (.inr (.inr (List.mem_map.2 ⟨y, h1, rfl⟩)))) h2)
  · rw [hl]
    exact hm.kept (hb b (.inr (.inl rfl)) (hm.ne hwx).symm)
  · rw [hf k' hk', find_kp, find_kp, hkp]
  · rcases hall y hy with rfl | ⟨h1, h2⟩
    · exact h.kr x hxm
    · exact h.kr y h1
  · rcases hall y hy with rfl | ⟨h1, h2⟩
    · exact ht
    · exact h.tr y h1
  · rcases hall y hy with rfl | ⟨h1, h2⟩
    · exact h.gep x hxm
    · exact h.gep y h1
theorem Blk.congr {g b : Nat} {row : Value} {es es' : List En} (h : es'.map (·.p) = es.map (·.p)) : Blk g b row es' = Blk g b row es := by
  funext k
  unfold Blk
  rw [h]
/-- A tick goes by. -/
def tk (period : Nat) (x : En) : En := ⟨x.p, x.k, x.v, if x.t = 0 then period - 1 else x.t - 1⟩
def due (es : List En) : List Int := (es.filter (fun x => decide (x.t = 0))).map (·.v)
theorem due_snoc (l : List En) (x : En) : due (l ++ [x]) = due l ++ (if x.t = 0 then [x.v] else []) := by
  unfold due
  rw [List.filter_append, List.map_append]
  by_cases h : x.t = 0 <;> simp [h]
theorem due_len (l : List En) : (due l).length ≤ l.length := by
  unfold due
  rw [List.length_map]
  exact List.length_filter_le _ _
theorem map_tk_p (period : Nat) (es : List En) : (es.map (tk period)).map (·.p) = es.map (·.p) := by simp [tk]
theorem half_p (period : Nat) (es : List En) (i : Nat) : ((es.take i).map (tk period) ++ es.drop i).map (·.p) = es.map (·.p) := by
  rw [List.map_append, map_tk_p, ← List.map_append, List.take_append_drop]
def vrow (l : List Int) : List Value := l.map fun v => Value.int .i64 v
def TickPost (w : World) (B g b period size : Nat) (row : Value) (es : List En) (x : Ending) (w' : World) : Prop :=
  ∃ v, x = .returned v ∧ w'.ownsRow w.heap.size 3 1 v (due es).length (vrow (due es)) ∧ OAt w' B g b period size row (es.map (tk period)) ∧ Chg w w' (Blk g b row es)
set_option maxRecDepth 100000 in
set_option maxHeartbeats 4000000 in
theorem tick_any {B g b period size : Nat} {row : Value} {es : List En} (w : World) (h : OAt w B g b period size row es) :
    Calls Try.prog 15 #[.pointer (some ⟨g, 0, none⟩)] w fun x w' => TickPost w B g b period size row es x w' := by
  obtain ⟨i0, hi, hz0, hz1, hz2⟩ := info_of Try.infoInt
  have hlen := h.len
  have hhi := h.siz.2
  have hp1 := h.per.1
  have hp2 := h.per.2
  obtain ⟨_, _, d2, _, _⟩ := h.four
  obtain ⟨ra, rc, rfl, _, _⟩ := owned_any h.row
  have HL := Lib.hid (fun k hk => h.lt (k := k) hk)
  have H := Lib.hid h
  clear h
  go_enter Try.func15, Try.ntmps15
  go_wp2_with fail
  clear d2
  go_loopw [3, 11] (fun t3 iv wr => ∃ i : Nat, i ≤ es.length ∧ iv = .int .i64 i ∧ wr.ownsRow w.heap.size 3 1 t3 (due (es.take i)).length (vrow (due (es.take i))) ∧ OAt wr B g b period size (.slice ra es.length rc) ((es.take i).map (tk period) ++ es.drop i) ∧ Chg w wr (Blk g b (.slice ra es.length rc) es)) (fun _ iv _ => es.length - (intOf iv).toNat)
  case atStart => exact ⟨0, by omega, rfl, ⟨rfl, .inl ⟨rfl, rfl⟩⟩, by simpa using H.out, Chg.refl _ _⟩
  case round =>
    obtain ⟨i, hin, rfl, hown, hO, hC⟩ := hrel
    obtain ⟨ta, tc, rfl, _, _⟩ := owned_any hown
    by_cases hil : i < es.length
    · obtain ⟨⟨p0, k0, v0, t0⟩, ht⟩ : ∃ t, es[i]? = some t := ⟨_, List.getElem?_eq_getElem hil⟩
      have hdrop : es.drop i = ⟨p0, k0, v0, t0⟩ :: es.drop (i + 1) := by
        obtain ⟨hi', he⟩ := List.getElem?_eq_some_iff.1 ht
        rw [← he]
        exact List.drop_eq_getElem_cons hi'
      have htr := H.out.tr _ (List.mem_of_getElem? ht)
      simp only at htr
      have hrow : wr.ownsRow B 68 1 (.slice ra es.length rc) es.length (es.map fun x => at_ x.p) := by
        have h1 := hO.row
        rw [show ((es.take i).map (tk period) ++ es.drop i).map (fun x => at_ x.p) = es.map fun x => at_ x.p by
          have := congrArg (List.map at_) (half_p period es i)
          rw [List.map_map, List.map_map] at this
          exact this] at h1
        rw [show ((es.take i).map (tk period) ++ es.drop i).length = es.length by simp; omega] at h1
        exact h1
      obtain ⟨be, rfl, hbl, hbb, ce0⟩ := owned_at (i := i) (u := at_ p0) hrow (by simp [ht])
      unfold at_ at ce0
      have hmem : (⟨p0, k0, v0, t0⟩ : En) ∈ (es.take i).map (tk period) ++ es.drop i := by rw [hdrop]; simp
      obtain ⟨_, c1, c2, z1, z2⟩ := hO.thing hmem
      obtain ⟨d0, _, _, _, _⟩ := hO.four
      simp only at c1 c2 z1 z2
      have hpl : p0 < w.heap.size := HL.out p0 (.inr (.inr (.inr (List.mem_map.2 ⟨_, List.mem_of_getElem? ht, rfl⟩))))
      have hgl : g < w.heap.size := HL.out g (.inl rfl)
      have hgp : g ≠ p0 := whole_ne hO.own (hO.ent _ hmem) (by decide)
      have hsn := take_snoc ht
      have hdl := due_len (es.take i)
      have hdl2 : (es.take i).length ≤ i := List.length_take_le _ _
      rw [hdrop] at hO
      have HO := Lib.hid hO
      have HC := Lib.hid hC
      have HSN := Lib.hid hsn
      have HOW := Lib.hid hown
      have hsz := hC.size
      have HTT := Lib.hid ht
      clear ht hown hO hC hrow hmem hdrop hsn
      by_cases h0 : t0 = 0
      · subst h0
        have hdn : (due (es.take i)).length ≤ 4096 := by omega
        have HDUE := Lib.hid (show due (es.take (i + 1)) = due (es.take i) ++ [v0] by rw [HSN.out, due_snoc]; simp)
        generalize hdd : due (es.take i) = dd at *
        clear hdl hdd
        go_wp2_with (
          at_builtin
          (refine wpList_append_at_any _ rfl _ _ 40 rfl w.heap.size 3 i0 (Value.int .i64 0) 1 8 Try.underlying40 hi hz0 hz1 hz2 rfl (by decide) _ dd.length _ rfl (HOW.out.alloc _) (some ⟨wr.heap.size, 0, none⟩) 1 1 [Value.int .i64 v0] rfl rfl (by intro h; cases h) (by rintro ad he; injection he with he; subst he; exact cell_one_new _ _ _) (by intro q hq; simp at hq; subst hq; rfl) (by unfold maxLen; omega) (by omega) (by simp; omega) ?_)
          intro v2 w2 hown2 hgrow2 hat2
          (have hB2 : Below w.heap.size wr w2 := ((Below.refl _ _).alloc hsz (.cells #[Value.int .i64 v0] 3)).grown hgrow2 (by simp; omega) (fun q hq => ((HOW.out.alloc (.cells #[Value.int .i64 v0] 3)).lt q hq).1))
          (have e0 := (hB2.cell (p := ⟨g, 0, none⟩) hgl).trans d0)
          (have e2 := (hB2.cell (p := ⟨p0, 2, none⟩) hpl).trans c2)
          (have y2 := (hB2.frozen (p := ⟨p0, 2, none⟩) hpl).trans z2)
          have HB2 := Lib.hid hB2
          have HO2 := Lib.hid hown2
          clear hB2 hown2 hgrow2 hat2 d0 c2 z2 c1 z1)
        go_roundw
        case rel =>
          have hne : v2.ownBlock ≠ some p0 := by
            intro hk
            have := (owned_block HO2.out hk).1
            omega
          have hwp := (HO.out.ent ⟨p0, k0, v0, 0⟩ (by simp)).kept (HB2.out.block p0 hpl)
          refine ⟨i + 1, by omega, by go_num, ?_, ?_, ?_⟩
          · rw [HDUE.out, List.length_append]
            have := owns_far (owns_far HO2.out p0 2 hne (.int .i64 (period : Int))) p0 2 hne (.int .i64 ((period : Int) - 1))
            simpa [vrow] using this
          · have hT := HO.out.turn (w' := (w2.setCell ⟨p0, 2, none⟩ (.int .i64 (period : Int))).setCell ⟨p0, 2, none⟩ (.int .i64 ((period : Int) - 1))) v0 (period - 1) (by omega) (by
              have := (hwp.store 2 (.int .i64 (period : Int))).store 2 (.int .i64 ((period : Int) - 1))
              rw [show ((period - 1 : Nat) : Int) = (period : Int) - 1 by omega]
              simpa using this) (fun k hk hkp => by
              have hk2 : Blk g b (.slice (some ⟨be, 0, none⟩) es.length rc) es k := by
                rw [← Blk.congr (half_p period es i)]
                rw [show es.drop i = ⟨p0, k0, v0, 0⟩ :: es.drop (i + 1) by
                  obtain ⟨hi', he⟩ := List.getElem?_eq_some_iff.1 HTT.out
                  rw [← he]
                  exact List.drop_eq_getElem_cons hi']
                exact hk
              exact ((Below.heap_setCell _ ⟨p0, 2, none⟩ _ k hkp).trans (Below.heap_setCell _ ⟨p0, 2, none⟩ _ k hkp)).trans (HB2.out.block k (HL.out k hk2)))
            rw [HSN.out]
            simpa [tk] using hT
          · exact ((HC.out.up HB2.out).set (.inr (.inr (.inr (List.mem_map.2 ⟨_, List.mem_of_getElem? HTT.out, rfl⟩)))) 2 _).set (.inr (.inr (.inr (List.mem_map.2 ⟨_, List.mem_of_getElem? HTT.out, rfl⟩)))) 2 _
        case measure => simp [intOf]; omega
      · have h0' : ¬ (t0 : Int) = 0 := by omega
        have HDUE := Lib.hid (show due (es.take (i + 1)) = due (es.take i) by rw [HSN.out, due_snoc]; simp [h0])
        have H0 := Lib.hid h0
        clear hdl h0
        go_wp2_with fail
        go_roundw
        case rel =>
          have hne : (Value.slice ta (due (es.take i)).length tc).ownBlock ≠ some p0 := by
            intro hk
            have := (owned_block HOW.out hk).1
            omega
          have hwp := HO.out.ent ⟨p0, k0, v0, t0⟩ (by simp)
          refine ⟨i + 1, by omega, by go_num, ?_, ?_, ?_⟩
          · rw [HDUE.out]
            exact owns_far HOW.out p0 2 hne _
          · have hT := HO.out.turn (w' := wr.setCell ⟨p0, 2, none⟩ (.int .i64 ((t0 : Int) - 1))) v0 (t0 - 1) (by omega) (by
              have := hwp.store 2 (.int .i64 ((t0 : Int) - 1))
              rw [show ((t0 - 1 : Nat) : Int) = (t0 : Int) - 1 by omega]
              simpa using this) (fun k hk hkp => Below.heap_setCell _ ⟨p0, 2, none⟩ _ k hkp)
            rw [HSN.out]
            simpa [tk, H0.out] using hT
          · exact HC.out.set (.inr (.inr (.inr (List.mem_map.2 ⟨_, List.mem_of_getElem? HTT.out, rfl⟩)))) 2 _
        case measure => simp [intOf]; omega
    · obtain rfl : i = es.length := by omega
      rw [List.take_length, List.drop_length, List.append_nil] at hO
      have HOW := Lib.hid hown
      have HO := Lib.hid hO
      have HC := Lib.hid hC
      clear hown hO hC
      go_wp2
      go_ret
      refine ⟨.slice ta (due (es.take es.length)).length tc, rfl, ?_, HO.out, HC.out⟩
      have e : es.take es.length = es := List.take_length
      have := HOW.out
      rw [e] at this ⊢
      exact this
end Go.Proofs.Ytefllbmopaiojaa.OI
