/- The outbox of string,int: Ack. -/
import Derived.Test.YtefllbmopaiojaaO5SI
namespace Go.Proofs.Ytefllbmopaiojaa.OI
open Go.RowKit Go.Proofs.Ytefllbmopaiojaa
open Go.Maps (Keyed)

theorem filter_split {e1 e2 : List En} {y : En} (h : ((e1 ++ y :: e2).map (·.k)).Nodup) : (e1 ++ y :: e2).filter (fun x => !decide (x.k = y.k)) = e1 ++ e2 := by
  rw [List.map_append, List.map_cons] at h
  have h1 := List.nodup_append.1 h
  rw [List.filter_append, List.filter_cons]
  rw [List.filter_eq_self.2 (fun x hx => by
    simp
    intro e
    exact h1.2.2 x.k (List.mem_map.2 ⟨x, hx, rfl⟩) y.k (by simp) e), List.filter_eq_self.2 (fun x hx => by
    simp
    intro e
    exact (List.nodup_cons.1 h1.2.1).1 (List.mem_map.2 ⟨x, hx, e⟩))]
  simp
theorem filter_same {es : List En} {k : ByteArray} (h : k ∉ es.map (·.k)) : es.filter (fun x => !decide (x.k = k)) = es := by
  rw [List.filter_eq_self]
  intro x hx
  simp
  rintro rfl
  exact h (List.mem_map.2 ⟨x, hx, rfl⟩)
/-- Is a key there? -/
def hasK (es : List En) (k : ByteArray) : Bool := es.any (fun x => decide (x.k = k))
theorem hasK_mem {es : List En} {k : ByteArray} : hasK es k = true ↔ k ∈ es.map (·.k) := by
  unfold hasK
  rw [List.any_eq_true, List.mem_map]
  exact exists_congr fun x => and_congr_right fun _ => decide_eq_true_iff
theorem hasK_none {es : List En} {k : ByteArray} (h : k ∉ es.map (·.k)) : hasK es k = false := by
  rw [← Bool.not_eq_true, hasK_mem]
  exact h
def AckPost (w : World) (B g b period size : Nat) (k : ByteArray) (row : Value) (es : List En) (x : Ending) (w' : World) : Prop :=
  x = .returned (.bool (hasK es k)) ∧ ∃ row', OAt w' B g b period size row' (es.filter (fun x => !decide (x.k = k))) ∧ Chg w w' (Blk g b row es)
set_option maxHeartbeats 1000000 in
theorem ack_none {B g b period size : Nat} {row : Value} {es : List En} (k : ByteArray) (w : World) (h : OAt w B g b period size row es) (hk : k.size ≤ 9223372036854775807) (hn : k ∉ es.map (·.k)) :
    Calls Try.prog 13 #[.pointer (some ⟨g, 0, none⟩), .string k] w fun x w' => AckPost w B g b period size k row es x w' := by
  have HFI := Lib.hid (find_any k w h hk)
  rw [findV_none hn] at HFI
  have HQ := Lib.hid (show AckPost w B g b period size k row es (.returned (.bool false)) w from ⟨by rw [hasK_none hn], row, by rw [filter_same hn]; exact h, Chg.refl _ _⟩)
  clear h hn
  go_enter Try.func13, Try.ntmps13
  go_wp2_with fail
  refine HFI.out.mono ?_
  rintro x w1 ⟨rfl, rfl⟩
  go_wp2
  go_ret
  exact HQ.out
section
variable {w w1 w2 : World} {B g b period size : Nat} {row row' : Value} {e1 e2 : List En} {y : En} {mm : Lit → Option Value}
/-- A thing is taken out. -/
theorem OAt.pull (h : OAt w B g b period size row (e1 ++ y :: e2)) (hf : ∀ k : ByteArray, k.size ≤ 9223372036854775807 → mm (.string k.data.toList) = ((e1 ++ y :: e2).find? (fun x => decide (x.k = k))).map (fun x => at_ x.p))
    (hm0 : MapAt w Try.prog 9 b mm (e1 ++ y :: e2).length)
    (hm1 : MapAt w1 Try.prog 9 b (mset mm (.string y.k.data.toList) none) (if (mm (.string y.k.data.toList)).isSome then (e1 ++ y :: e2).length - 1 else (e1 ++ y :: e2).length)) (hg : w.grownBy w1 (some b))
    (hrow : w2.ownsRow B 68 1 row' (e1 ++ e2).length ((e1 ++ e2).map fun x => at_ x.p)) (hc : Chg w1 w2 (fun k => row.ownBlock = some k)) :
    OAt (w2.setCell ⟨g, 2, none⟩ row') B g b period size row' (e1 ++ e2) ∧ Chg w (w2.setCell ⟨g, 2, none⟩ row') (Blk g b row (e1 ++ y :: e2)) ∧ w2.cell? ⟨g, 2, none⟩ = some row ∧ w2.frozen? ⟨g, 2, none⟩ = false := by
  have hsub : ∀ x, x ∈ e1 ++ e2 → x ∈ e1 ++ y :: e2 := fun x hx => by
    rcases List.mem_append.1 hx with h1 | h1
    · exact List.mem_append_left _ h1
    · exact List.mem_append_right _ (List.mem_cons_of_mem _ h1)
  have k2 : ∀ q, q < w.heap.size → q ≠ b → row.ownBlock ≠ some q → w2.heap[q]? = w.heap[q]? := fun q hq hqb hqr =>
    (hc.block q (Nat.lt_of_lt_of_le hq hg.size) hqr).trans (hg.block q hq (by intro e; injection e with e; exact hqb e))
  have hgb : g ≠ b := hm0.ne h.own
  have h2g : Whole w2 g 67 #[.int .i64 (period : Int), .int .i64 (size : Int), row, .map (some b)] := h.own.kept (k2 g h.own.lt hgb h.rowg)
  have h2e : ∀ x ∈ e1 ++ e2, Whole w2 x.p 71 #[.string x.k, Value.int .i64 x.v, .int .i64 (x.t : Int)] := fun x hx =>
    (h.ent x (hsub x hx)).kept (k2 x.p (h.ent x (hsub x hx)).lt (hm0.ne (h.ent x (hsub x hx))) (h.rowp (hsub x hx)))
  have k3 : ∀ q, q ≠ g → (w2.setCell ⟨g, 2, none⟩ row').heap[q]? = w2.heap[q]? := fun q hq => Below.heap_setCell _ ⟨g, 2, none⟩ _ q hq
  have hsome : mm (.string y.k.data.toList) = some (at_ y.p) := by rw [hf y.k (h.kr y (by simp)), find_some_of h.keys]; rfl
  rw [hsome] at hm1
  have hlen : (e1 ++ y :: e2).length - 1 = (e1 ++ e2).length := by simp
  have hkeys := h.keys
  have hnd := h.nd
  rw [List.map_append, List.map_cons] at hkeys hnd
  refine ⟨⟨by simpa using h2g.store 2 row', owns_far hrow g 2 (whole_apart h2g (by decide) hrow) row', fun x hx => (h2e x hx).kept (k3 x.p (whole_ne (h2e x hx) h2g (by decide))), ⟨mset mm (.string y.k.data.toList) none, ?_, fun k' hk' => ?_⟩, ?_, ?_, fun x hx => h.kr x (hsub x hx), fun x hx => h.tr x (hsub x hx), ?_, h.per, h.siz, h.geg, h.geb, fun x hx => h.gep x (hsub x hx)⟩, ?_, by rw [h2g.cell]; rfl, h2g.free 2⟩
  · rw [← hlen]
    simp only [Option.isSome_some, if_true] at hm1
    exact hm1.kept ((k3 b hgb.symm).trans (hc.block b hm1.lt h.rowb))
  · by_cases hkk : k' = y.k
    · subst hkk
      rw [mset_same (Try.keyS.key (key_str _ hk')), find_none_of]
      · rfl
      · rw [List.map_append]
        intro hmem
        rcases List.mem_append.1 hmem with h2 | h2
        · exact (List.nodup_append.1 hkeys).2.2 _ h2 _ (by simp) rfl
        · exact (List.nodup_cons.1 (List.nodup_append.1 hkeys).2.1).1 h2
    · rw [mset_other (fun e => hkk (str_lit_inj e)), hf k' hk', find_other hkk]
  · rw [List.map_append]
    exact hkeys.sublist (List.Sublist.append_left (List.sublist_cons_self _ _) _)
  · rw [List.map_append]
    exact hnd.sublist (List.Sublist.append_left (List.sublist_cons_self _ _) _)
  · have := h.len
    simp at this ⊢
    omega
  · refine ((Chg.toGrown (Chg.refl w _) hg (.inr (.inl rfl))).trans (b := w1) ?_).set (.inl rfl) 2 row'
    exact hc.mono fun q _ hq => .inr (.inr (.inl hq))
end
set_option maxRecDepth 100000 in
set_option maxHeartbeats 4000000 in
theorem ack_there {B g b period size : Nat} {row : Value} {e1 e2 : List En} {y : En} (w : World) (h : OAt w B g b period size row (e1 ++ y :: e2)) :
    Calls Try.prog 13 #[.pointer (some ⟨g, 0, none⟩), .string y.k] w fun x w' => AckPost w B g b period size y.k row (e1 ++ y :: e2) x w' := by
  have hym : y ∈ e1 ++ y :: e2 := by simp
  have hk := h.kr y hym
  have HFI := Lib.hid (find_any y.k w h hk)
  rw [findV_some h.keys] at HFI
  obtain ⟨mm, hm, hf⟩ := h.map
  obtain ⟨_, _, d2, d3, _⟩ := h.four
  have hlen : (e1 ++ y :: e2).length = e1.length + e2.length + 1 := by simp; omega
  obtain ⟨w1, hrun, hm1, hg1, hs1⟩ := hm.drop Try.keyS Try.underlying64 (Try.zeroE _) (key_str y.k hk) 0
  obtain ⟨ra, rc, rfl, _, _⟩ := owned_any h.row
  have hrow1 : w1.ownsRow B 68 1 (.slice ra (e1.length + e2.length + 1) rc) (e1.length + e2.length + 1) (((e1 ++ y :: e2).map (·.p)).map at_) := by
    have h1 := owns_kept h.row (fun q hq => hg1.block q (h.row.lt q hq).2 (by intro e; injection e with e; subst e; exact h.rowb hq))
    rw [hlen] at h1
    rw [List.map_map]
    exact h1
  rw [hlen] at d2
  have hn4 : e1.length + e2.length + 1 ≤ 4096 := by have := h.len; have := h.siz; omega
  have HIX := Lib.hid (index_any (i := e1.length) (p := y.p) w1 hrow1 (by simp) h.nd hn4 (fun q hq => by
    obtain ⟨x, hx, rfl⟩ := List.mem_map.1 hq
    exact ⟨_, (h.ent x hx).kept (hg1.block _ (h.ent x hx).lt (by intro e; injection e with e; exact hm.ne (h.ent x hx) e))⟩))
  have HDL := Lib.hid (delete_any w1 hrow1 hn4)
  have hgb : g ≠ b := hm.ne h.own
  have hk1 := h.own.kept (hg1.block _ h.own.lt (by intro e; injection e with e; exact hgb e))
  have c2 : w1.cell? ⟨g, 2, none⟩ = some (.slice ra (e1.length + e2.length + 1) rc) := by rw [hk1.cell, ← hlen]; rfl
  have hadd : IntKind.i64.wrap ((e1.length : Int) + 1) = (e1.length : Int) + 1 := IntWalk.i64_in _ (by omega)
  have her : (((e1 ++ y :: e2).map (·.p)).eraseIdx e1.length).map at_ = (e1 ++ e2).map fun x => at_ x.p := by
    rw [eraseIdx_map, List.map_map, ← eraseIdx_map, List.eraseIdx_append_of_length_le (Nat.le_refl _), Nat.sub_self]
    rfl
  rw [her] at HDL
  have HPL := Lib.hid (fun (w2 : World) (row' : Value) hr hc => OAt.pull (w2 := w2) (row' := row') h hf hm hm1 hg1 hr hc)
  have HFS := Lib.hid (filter_split h.keys)
  have HMM := Lib.hid (show hasK (e1 ++ y :: e2) y.k = true from hasK_mem.2 (by simp))
  clear hm hf hm1 hg1 hs1 hrow1 hk1 h hym her
  generalize y.p = p at *
  go_enter Try.func13, Try.ntmps13
  go_wp2_with fail
  refine HFI.out.mono ?_
  rintro x w0 ⟨rfl, rfl⟩
  go_wp2_with fail
  refine HIX.out.mono ?_
  rintro x w0 ⟨rfl, rfl⟩
  go_wp2_with fail
  refine HDL.out.mono ?_
  rintro x w2 ⟨rfl, hr, hc⟩
  rw [← hlen] at hc
  have hl2 : (e1 ++ e2).length = e1.length + e2.length := by simp
  rw [← hl2] at hr
  obtain ⟨hO, hC, q2, z2⟩ := HPL.out w2 _ hr hc
  have HQ := Lib.hid (show AckPost w B g b period size y.k _ (e1 ++ y :: e2) (.returned (.bool true)) _ from ⟨by rw [HMM.out], _, by rw [HFS.out]; exact hO, hC⟩)
  clear hr hc hO hC c2 d2 d3 hrun
  rw [hl2] at HQ
  go_wp2
  go_ret
  exact HQ.out
theorem ack_any {B g b period size : Nat} {row : Value} {es : List En} (k : ByteArray) (w : World) (h : OAt w B g b period size row es) (hk : k.size ≤ 9223372036854775807) :
    Calls Try.prog 13 #[.pointer (some ⟨g, 0, none⟩), .string k] w fun x w' => AckPost w B g b period size k row es x w' := by
  by_cases hn : k ∈ es.map (·.k)
  · obtain ⟨e1, y, e2, rfl, rfl⟩ := split_of hn
    exact ack_there w h
  · exact ack_none k w h hk hn
end Go.Proofs.Ytefllbmopaiojaa.OI
