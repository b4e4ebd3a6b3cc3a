/- The outbox of string,int: Put of a thing that isn't there. -/
import Derived.Test.YtefllbmopaiojaaO3SI
import Derived.Maps.AppendAt
import Derived.Deep.DeepCutAuto
import Derived.Deep.CutBlock
namespace Go.Proofs.Ytefllbmopaiojaa.OI
open Go.RowKit Go.Proofs.Ytefllbmopaiojaa
open Go.Maps (Keyed)

theorem Try.infoP : (Try.prog.info? 68).map (fun i => (i.zero, i.size, i.bytes)) = some (some (.pointer none), 1, 8) := by kernel_rfl
section
variable {w W w5 : World} {B g b period size : Nat} {row : Value} {es : List En}
theorem old_of (hb : Below w.heap.size w W) (hg : W.grownBy w5 row.ownBlock) {k : Nat} (hk : k < w.heap.size) (hr : row.ownBlock ≠ some k) : w5.heap[k]? = w.heap[k]? :=
  (hg.block k (Nat.lt_of_lt_of_le hk hb.size) (fun e => hr e.symm)).trans (hb.block k hk)
theorem OAt.rowg (h : OAt w B g b period size row es) : row.ownBlock ≠ some g := whole_apart h.own (by decide) h.row
theorem OAt.rowb (h : OAt w B g b period size row es) : row.ownBlock ≠ some b := by
  intro e
  obtain ⟨_, cur, hW⟩ := owned_block h.row e
  obtain ⟨mm, hm, _⟩ := h.map
  exact hm.ne hW rfl
theorem OAt.rowp (h : OAt w B g b period size row es) {x : En} (hx : x ∈ es) : row.ownBlock ≠ some x.p := whole_apart (h.ent x hx) (by decide) h.row
/-- A thing comes behind the others. -/
theorem OAt.push {w7 : World} {k : ByteArray} {v : Int} {p : Nat} {v2 : Value} {mm : Lit → Option Value} (h : OAt w B g b period size row es) (hks : k.size ≤ 9223372036854775807) (hn : k ∉ es.map (·.k)) (hl : es.length < size) (hB : B ≤ w.heap.size) (hp : w.heap.size ≤ p)
    (hW : Whole W p 71 #[.string k, Value.int .i64 v, .int .i64 0]) (hb : Below w.heap.size w W) (hrow : w5.ownsRow B 68 1 v2 (es.length + 1) (es.map (fun x => at_ x.p) ++ [at_ p])) (hg : W.grownBy w5 row.ownBlock)
    (hf : ∀ k : ByteArray, k.size ≤ 9223372036854775807 → mm (.string k.data.toList) = (es.find? (fun x => decide (x.k = k))).map (fun x => at_ x.p))
    (hm6 : MapAt (w5.setCell ⟨g, 2, none⟩ v2) Try.prog 9 b mm es.length)
    (hm7 : MapAt w7 Try.prog 9 b (mset mm (.string k.data.toList) (some (at_ p))) (if (mm (.string k.data.toList)).isSome then es.length else es.length + 1)) (hg7 : (w5.setCell ⟨g, 2, none⟩ v2).grownBy w7 (some b)) :
    OAt w7 B g b period size v2 (es ++ [⟨p, k, v, 0⟩]) ∧ Chg w w7 (Blk g b row es) := by
  have h5g : Whole w5 g 67 #[.int .i64 (period : Int), .int .i64 (size : Int), row, .map (some b)] := h.own.kept (old_of hb hg h.own.lt h.rowg)
  have h5p : Whole w5 p 71 #[.string k, Value.int .i64 v, .int .i64 0] := hW.kept (hg.block p hW.lt (by
    intro e
    obtain ⟨_, cur, hc⟩ := owned_block h.row e.symm
    have := hc.lt
    omega))
  have h5e : ∀ x ∈ es, Whole w5 x.p 71 #[.string x.k, Value.int .i64 x.v, .int .i64 (x.t : Int)] := fun x hx => (h.ent x hx).kept (old_of hb hg (h.ent x hx).lt (h.rowp hx))
  have h6g := h5g.store 2 v2
  have k6 : ∀ q, q ≠ g → (w5.setCell ⟨g, 2, none⟩ v2).heap[q]? = w5.heap[q]? := fun q hq => Below.heap_setCell _ ⟨g, 2, none⟩ _ q hq
  have h6p := h5p.kept (k6 p (whole_ne h5p h5g (by decide)))
  have h6e : ∀ x ∈ es, Whole (w5.setCell ⟨g, 2, none⟩ v2) x.p 71 #[.string x.k, Value.int .i64 x.v, .int .i64 (x.t : Int)] := fun x hx => (h5e x hx).kept (k6 x.p (whole_ne (h5e x hx) h5g (by decide)))
  have h6r := owns_far hrow g 2 (whole_apart h5g (by decide) hrow) v2
  have k7 : ∀ {q : Nat} {T : TypeId} {cs : Array Value}, Whole (w5.setCell ⟨g, 2, none⟩ v2) q T cs → Whole w7 q T cs := fun hq => hq.kept (hg7.block _ hq.lt (by intro e; injection e with e; exact hm6.ne hq e))
  have hnone : mm (.string k.data.toList) = none := by rw [hf k hks, find_none_of hn]; rfl
  rw [hnone] at hm7
  refine ⟨⟨by simpa using k7 h6g, ?_, fun x hx => ?_, ⟨_, by simpa using hm7, fun k' hk' => ?_⟩, ?_, ?_, fun x hx => ?_, fun x hx => ?_, by simp; omega, h.per, h.siz, h.geg, h.geb, fun x hx => ?_⟩, ?_⟩
  · rw [List.length_append, List.map_append]
    refine owns_kept h6r (fun q hq => hg7.block q (h6r.lt q hq).2 ?_)
    intro e
    injection e with e
    obtain ⟨_, cur, hc⟩ := owned_block h6r hq
    exact hm6.ne hc e
  · rcases List.mem_append.1 hx with h1 | h1
    · exact k7 (h6e x h1)
    · rw [List.mem_singleton] at h1
      subst h1
      exact k7 h6p
  · by_cases hkk : k' = k
    · subst hkk
      rw [mset_same (Try.keyS.key (key_str k' hk')), List.find?_append, find_none_of hn]
      simp
    · rw [mset_other (fun e => hkk (str_lit_inj e)), hf k' hk', List.find?_append]
      have : List.find? (fun x => decide (x.k = k')) [(⟨p, k, v, 0⟩ : En)] = none := by simp; exact Ne.symm hkk
      rw [this, Option.or_none]
  · rw [List.map_append]
    refine List.nodup_append.2 ⟨h.keys, by simp, ?_⟩
    intro a ha b' hb' e
    rw [List.map_singleton, List.mem_singleton] at hb'
    have e2 : k = a := (e.trans hb').symm
    exact hn (by rw [e2]; exact ha)
  · rw [List.map_append]
    refine List.nodup_append.2 ⟨h.nd, by simp, ?_⟩
    intro a ha b' hb' e
    rw [List.map_singleton, List.mem_singleton] at hb'
    obtain ⟨x, hx, rfl⟩ := List.mem_map.1 ha
    have := (h.ent x hx).lt
    simp only at hb'
    omega
  · rcases List.mem_append.1 hx with h1 | h1
    · exact h.kr x h1
    · rw [List.mem_singleton] at h1
      subst h1
      exact hks
  · rcases List.mem_append.1 hx with h1 | h1
    · exact h.tr x h1
    · rw [List.mem_singleton] at h1
      subst h1
      exact h.per.1
  · rcases List.mem_append.1 hx with h1 | h1
    · exact h.gep x h1
    · rw [List.mem_singleton] at h1
      subst h1
      exact Nat.le_trans hB hp
  · exact (((Chg.ofBelow _ hb).grow hg (fun q hq => .inl (.inr (.inr (.inl hq))))).set (.inl rfl) 2 v2).toGrown hg7 (.inr (.inl rfl))
end
set_option maxRecDepth 100000 in
set_option maxHeartbeats 4000000 in
theorem put_new {B g b period size : Nat} {row : Value} {es : List En} (k : ByteArray) (v : Int) (w : World) (h : OAt w B g b period size row es) (hk : k.size ≤ 9223372036854775807) (hn : k ∉ es.map (·.k)) (hf : es.length < size) (hB : B ≤ w.heap.size) :
    Calls Try.prog 11 #[.pointer (some ⟨g, 0, none⟩), .string k, Value.int .i64 v] w fun x w' => PutPost w B g b period size k v row es x w' := by
  have HFI := Lib.hid (find_any k w h hk)
  rw [findV_none hn] at HFI
  obtain ⟨i0, hi, hz0, hz1, hz2⟩ := info_of Try.infoP
  obtain ⟨_, d1, d2, d3, _⟩ := h.four
  obtain ⟨ra, rc, rfl, _, _⟩ := owned_any h.row
  have hff : ¬ (es.length : Int) = (size : Int) := by omega
  have hes : es.length < 4096 := by have := h.siz; omega
  obtain ⟨mm, hm, hmf⟩ := h.map
  obtain ⟨wa, hwa⟩ : ∃ wa, wa = (w.alloc (.cells #[.string k, Value.int .i64 v, .int .i64 0] 71)).drew := ⟨_, rfl⟩
  have hba : Below w.heap.size w wa := by
    rw [hwa]
    exact (below_alloc w _).trans ((below_drewN (w.alloc _) 1).mono (by simp))
  have hpa : Whole wa w.heap.size 71 #[.string k, Value.int .i64 v, .int .i64 0] := by
    rw [hwa]
    exact Whole.kept (heap_alloc_new w (.cells #[.string k, Value.int .i64 v, .int .i64 0] 71)) ((below_drewN (w.alloc _) 1).block _ (by simp))
  have HROW := Lib.hid (fun (X : World) (hX : Below wa.heap.size wa X) => owns_kept h.row (fun q hq => (hX.block q (Nat.lt_of_lt_of_le (h.row.lt q hq).2 hba.size)).trans (hba.block q (h.row.lt q hq).2)))
  have HBS := Lib.hid (show B ≤ wa.heap.size from Nat.le_trans hB hba.size)
  have hgl := h.own.lt
  have e2 := (hba.cell (p := ⟨g, 2, none⟩) hgl).trans d2
  have hgl2 := Nat.lt_of_lt_of_le hgl hba.size
  have HO := Lib.hid h
  have HBA := Lib.hid hba
  have HPA := Lib.hid hpa
  have HN := Lib.hid hn
  have HM := Lib.hid hm
  have HMF := Lib.hid hmf
  have HBB := Lib.hid hB
  clear h hn hm hmf hba hpa hB
  go_enter Try.func11, Try.ntmps11
  go_wp2_with fail
  refine HFI.out.mono ?_
  rintro x w1 ⟨rfl, rfl⟩
  go_wp2_with fail
  go_region
  all_goals
    go_upto_region 8 with fail
    rw [← hwa]
    clear hwa d1 d2 d3
    go_wp2_with (
      at_builtin
      (refine wpList_append_at_any _ rfl _ _ 65 rfl B 68 i0 (.pointer none) 1 8 Try.underlying65 hi hz0 hz1 hz2 rfl (by decide) _ es.length _ rfl (HROW.out _ (below_alloc _ _)) (some ⟨wa.heap.size, 0, none⟩) 1 1 [.pointer (some ⟨w.heap.size, 0, none⟩)] rfl rfl (by intro h; cases h) (by rintro ad he; injection he with he; subst he; exact cell_one_new _ _ _) (by intro q hq; simp at hq; subst hq; rfl) (by unfold maxLen; omega) (by omega) (by have := HBS.out; simp; omega) ?_)
      intro v2 w5 hown2 hgrow2 hat2
      (obtain ⟨a2, c2, rfl, _, _⟩ := owned_any hown2)
      (have hbW := HBA.out.trans ((below_alloc wa (.cells #[.pointer (some ⟨w.heap.size, 0, none⟩)] 68)).mono HBA.out.size))
      (have hk5 := HO.out.own.kept (old_of hbW hgrow2 hgl HO.out.rowg))
      (have z2 : w5.frozen? ⟨g, 2, none⟩ = false := hk5.free 2)
      (have q2 : (w5.cell? ⟨g, 2, none⟩) = some (.slice ra es.length rc) := by rw [hk5.cell]; rfl)
      (have q3 : w5.cell? ⟨g, 3, none⟩ = some (.map (some b)) := by rw [hk5.cell]; rfl)
      have HBW := Lib.hid hbW
      have HK5 := Lib.hid hk5
      have HO2 := Lib.hid hown2
      have HG2 := Lib.hid hgrow2
      clear hbW hk5 hown2 hgrow2 hat2 e2)
    refine (findable_any k _).mono ?_
    rintro x w6 ⟨rfl, rfl⟩
    have hm6 : MapAt (w5.setCell ⟨g, 2, none⟩ (.slice a2 (es.length + 1) c2)) Try.prog 9 b mm es.length := by
      refine HM.out.kept ((Below.heap_setCell _ ⟨g, 2, none⟩ _ b ?_).trans (old_of HBW.out HG2.out HM.out.lt HO.out.rowb))
      exact (HM.out.ne HO.out.own).symm
    have HM6 := Lib.hid hm6
    clear hm6
    go_wp2_with (at_mapUpdate; refine wpList_store_map _ rfl _ _ _ 64 rfl 9 68 Try.keyS Try.underlying64 _ (Try.zeroE _) b es.length mm rfl HM6.out (by unfold maxLen; omega) _ _ (.string k.data.toList) rfl rfl (key_str k hk) ?_; intro w7 hm7 hg7 hs7)
    have hP := HO.out.push hk HN.out hf HBB.out (Nat.le_refl _) (HPA.out.kept ((below_alloc wa (.cells #[.pointer (some ⟨w.heap.size, 0, none⟩)] 68)).block _ HPA.out.lt)) HBW.out HO2.out HG2.out HMF.out HM6.out hm7 hg7
    have HQ := Lib.hid (show PutPost w B g b period size k v (.slice ra es.length rc) es (.returned (.int .i64 0)) w7 from ⟨0, _, _, rfl, hP.1, .inr (.inr ⟨HN.out, hf, rfl, w.heap.size, Nat.le_refl _, rfl⟩), hP.2⟩)
    clear hP hm7 hg7 hs7
    go_wp2
    go_ret
    exact HQ.out
end Go.Proofs.Ytefllbmopaiojaa.OI
