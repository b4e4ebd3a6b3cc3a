/- The cache of int,int: Put of a key that isn't there. -/
import Derived.Test.YtofjpbpfjjohdaaK6IA
namespace Go.Proofs.Ytofjpbpfjjohdaa.KA
open Go.RowKit Go.Proofs.Ytofjpbpfjjohdaa
open Go.Maps (Keyed)

theorem below_chg {w w1 w2 : World} {P Q : Nat → Prop} (h : Below w.heap.size w w1) (hc : Chg w1 w2 P) (hpq : ∀ k, k < w.heap.size → P k → Q k) : Chg w w2 Q :=
  ⟨hc.os.trans h.os, hc.tape.trans h.tape, hc.output.trans h.output, Nat.le_trans h.size hc.size, fun k hk hn => (hc.block k (Nat.lt_of_lt_of_le hk h.size) (fun hp => hn (hpq k hk hp))).trans (h.block k hk)⟩
theorem CAt.fresh {w : World} {B g b size : Nat} {es : List En} {f m : Int} (h : CAt w B g b size es f m) : w.heap.size ∉ es.map (·.1) := by
  obtain ⟨N, hN, _⟩ := h.ring.ex
  intro hp
  obtain ⟨⟨p, k, v⟩, hm, he⟩ := List.mem_map.1 hp
  have := (hN.ent p k v hm).lt
  simp at he
  omega
theorem CAt.nob {w : World} {B g b size : Nat} {es : List En} {f m : Int} (h : CAt w B g b size es f m) {P : Program} {kt : TypeId} {M : Nat} {mm : Lit → Option Value} (hm : MapAt w P kt b mm M) : ¬ (b = g ∨ b ∈ es.map (·.1)) := by
  obtain ⟨N, hN, _⟩ := h.ring.ex
  obtain ⟨kk, vv, vv1, hkn⟩ := hN.knot
  rintro (h1 | h1)
  · exact hm.ne hkn h1.symm
  · obtain ⟨⟨p, k, v⟩, hp, rfl⟩ := List.mem_map.1 h1
    exact hm.ne (hN.ent p k v hp) rfl
theorem CAt.insert {w w3 w5 : World} {B g b size e : Nat} {k : Int} {v : Int × Int} {es : List En} {f m : Int} {mm : Lit → Option Value} (h : CAt w B g b size es f m) (hk : -9223372036854775808 ≤ k ∧ k ≤ 9223372036854775807) (hni : k ∉ es.map (·.2.1) ∧ es.length < size ∧ B ≤ e) (hr : RingAt w3 g ⟨size, b, f, m⟩ ((es.length : Int) + 1) ((e, k, v) :: es))
    (hm3 : MapAt w3 Try.prog 3 b mm es.length) (hf : ∀ k : Int, (-9223372036854775808 ≤ k ∧ k ≤ 9223372036854775807) → mm (.int .i64 k) = (es.find? (fun t => decide (t.2.1 = k))).map (fun t => at_ t.1))
    (hm5 : MapAt w5 Try.prog 3 b (mset mm (.int .i64 k) (some (.pointer (some ⟨e, 0, none⟩)))) (if (mm (.int .i64 k)).isSome then es.length else es.length + 1)) (hg : w3.grownBy w5 (some b)) : CAt w5 B g b size ((e, k, v) :: es) f m := by
  have hnone : mm (.int .i64 k) = none := by rw [hf k hk, find_none_of hni.1]; rfl
  rw [hnone] at hm5
  refine ⟨by simpa using hr.mapped hm3 hg, ⟨_, by simpa using hm5, fun k' hk' => ?_⟩, List.nodup_cons.2 ⟨hni.1, h.keys⟩, fun p k' v' hp => ?_, hni.2.1, h.lo, h.hi, h.geg, h.geb, fun p hp => ?_⟩
  · by_cases hkk : k' = k
    · subst hkk
      rw [mset_same (Try.keyed.key (key_of k' hk'))]
      simp [at_]
    · rw [mset_other (fun e => hkk (lit_inj e)), hf k' hk', List.find?_cons]
      have : decide ((e, k, v).2.1 = k') = false := by simp; exact Ne.symm hkk
      rw [this]
  · rcases List.mem_cons.1 hp with h1 | h1
    · injection h1 with h1 h2
      injection h2 with h2 h3
      subst h2
      exact hk
    · exact h.kr p k' v' h1
  · rw [List.map_cons] at hp
    rcases List.mem_cons.1 hp with h1 | h1
    · rw [h1]; exact hni.2.2
    · exact h.gep p h1
theorem lastD_snoc (x : Nat) : ∀ (l : List Nat) (t : Nat), lastD x (l ++ [t]) = t
  | [], _ => rfl
  | p :: l, t => lastD_snoc p l t

theorem CAt.not_cb {w : World} {B g b size q : Nat} {es : List En} {f m : Int} {T : TypeId} {cs : Array Value} (h : CAt w B g b size es f m) (hq : Whole w q T cs) (h1 : T ≠ 51) (h2 : T ≠ 47) : ¬ CB g b es q := by
  obtain ⟨N, hN, _⟩ := h.ring.ex
  obtain ⟨kk, vv, vv1, hkn⟩ := hN.knot
  obtain ⟨mm, hm, _⟩ := h.map
  rintro (h3 | h3 | h3)
  · exact whole_ne hq hkn h1 h3
  · exact hm.ne hq h3
  · obtain ⟨⟨p, k, v⟩, hp, rfl⟩ := List.mem_map.1 h3
    exact whole_ne hq (hN.ent p k v hp) h2 rfl
set_option maxRecDepth 100000 in
set_option maxHeartbeats 4000000 in
theorem Put_new {B g b size : Nat} {es : List En} {f m : Int} (k : Int) (v : Int × Int) (w : World) (h : CAt w B g b size es f m) (hk : -9223372036854775808 ≤ k ∧ k ≤ 9223372036854775807) (hin : k ∉ es.map (·.2.1)) (hB : B ≤ w.heap.size) :
    Calls Try.prog 7 #[.pointer (some ⟨g, 0, none⟩), Value.int .i64 k, .agg #[Value.int .i64 v.1, Value.int .i64 v.2]] w fun x w' => PutPost w B g b size k v es f m x w' := by
  obtain ⟨wb, hwb, hvb, hbb⟩ : ∃ wb, wb = w.alloc (.cells #[Value.int .i64 v.1, Value.int .i64 v.2] 28) ∧ Whole wb w.heap.size 28 #[Value.int .i64 v.1, Value.int .i64 v.2] ∧ Below w.heap.size w wb := ⟨_, rfl, heap_alloc_new _ _, below_alloc _ _⟩
  have HBB := Lib.hid hbb
  replace h := h.below hbb
  replace hB := Nat.le_trans hB hbb.size
  have HNC := Lib.hid (h.not_cb hvb (by decide) (by decide))
  have HVB := Lib.hid hvb
  clear hbb hvb
  have HFI := Lib.hid (find_any k wb h hk)
  have hfv : findV es k = .pointer none := by
    unfold findV
    rw [find_none_of hin]
    rfl
  rw [hfv] at HFI
  obtain ⟨N, hN, _⟩ := h.ring.ex
  obtain ⟨d4, d5, _, _, _, _, _, _⟩ := hN.counts
  have HNI := Lib.hid hin
  have hlen := h.len
  have hhi := h.hi
  by_cases hfull : es.length = size
  · obtain ⟨es0, ⟨e9, k9, v9⟩, rfl⟩ : ∃ es0 t, es = es0 ++ [t] := by
      rcases List.eq_nil_or_concat es with h1 | ⟨l, t, h1⟩
      · have := h.lo; rw [h1] at hfull; simp at hfull; omega
      · exact ⟨l, t, by rw [h1]; simp⟩
    have HOL := Lib.hid (oldest_any wb.drew (h.below (below_drewN wb 1)).ring)
    have hla : lastD g ((es0 ++ [(e9, k9, v9)]).map (·.1)) = e9 := by rw [List.map_append]; exact lastD_snoc _ _ _
    rw [hla] at HOL
    have HFG := Lib.hid (forget_any (e1 := es0) (e2 := []) wb.drew (h.below (below_drewN wb 1)))
    have HFU := Lib.hid hfull
    have hnn : ((es0 ++ [(e9, k9, v9)]).length : Int) = (size : Int) := by omega
    simp only at d5
    rw [hnn] at d4
    unfold at_ at HOL
    clear h hN hfv hin hla hfull hnn
    go_enter Try.func7, Try.ntmps7
    go_upto_region 1 with fail
    rw [← hwb]
    clear hwb
    go_wp2_with fail
    refine HFI.out.mono ?_
    rintro x w1 ⟨rfl, rfl⟩
    go_wp2_with fail
    go_region
    all_goals
      go_wp2_with fail
      refine HOL.out.mono ?_
      rintro x w1 ⟨rfl, rfl⟩
      go_wp2_with fail
      refine HFG.out.mono ?_
      rintro x w0_ ⟨rfl, hcat, hch⟩
      have hbx := HVB.out.kept (hch.block _ HVB.out.lt (by have := HNC.out; simpa using this))
      have x0 := hbx.cell 0
      have x1 := hbx.cell 1
      clear hbx
      obtain ⟨es1, hes1⟩ : ∃ es1, es1 = es0 ++ [] := ⟨_, rfl⟩
      rw [← hes1] at hcat
      rw [List.append_nil] at hes1
      have HC1 := Lib.hid hcat
      have HCH := Lib.hid (show Chg wb w0_ (CB g b (es0 ++ [(e9, k9, v9)])) from ⟨hch.os, hch.tape, hch.output, hch.size, hch.block⟩)
      have HK1 := Lib.hid (show k ∉ es1.map (·.2.1) ∧ es1.length < size ∧ B ≤ w0_.heap.size from ⟨fun hm => HNI.out (by rw [hes1] at hm; rw [List.map_append]; exact List.mem_append_left _ hm), by have := HFU.out; rw [hes1]; simp at this; omega, Nat.le_trans hB hch.size⟩)
      have HSUB := Lib.hid (show ∀ p, p ∈ es1.map (·.1) → p ∈ (es0 ++ [(e9, k9, v9)]).map (·.1) from fun p hp => by rw [hes1] at hp; rw [List.map_append]; exact List.mem_append_left _ hp)
      have HE1 := Lib.hid (show (if (es0 ++ [(e9, k9, v9)]).length = size then (es0 ++ [(e9, k9, v9)]).dropLast else (es0 ++ [(e9, k9, v9)])) = es1 by rw [if_pos HFU.out, hes1]; simp)
      obtain ⟨es, hes⟩ : ∃ es, es = es0 ++ [(e9, k9, v9)] := ⟨_, rfl⟩
      rw [← hes] at HCH HSUB HE1 HNI
      have HES := Lib.hid hes
      clear hcat hch hes1 hes
      have HADD := Lib.hid (add_any (w0_.alloc (.cells #[Value.int .i64 k, Value.int .i64 v.1, Value.int .i64 v.2, .pointer none, .pointer none] 47)) (HC1.out.ring.below (below_alloc _ _)) (heap_alloc_new w0_ (.cells #[Value.int .i64 k, Value.int .i64 v.1, Value.int .i64 v.2, .pointer none, .pointer none] 47)) (HC1.out.fresh) (by have := HC1.out.len; have := HC1.out.hi; omega))
      go_wp2_with fail
      refine HADD.out.mono ?_
      rintro x w3 ⟨rfl, hr, hc⟩
      have HR := Lib.hid hr
      have HC := Lib.hid hc
      obtain ⟨mm, hm, hf⟩ := HC1.out.map
      have hm3 : MapAt w3 Try.prog 3 b mm es1.length := by
        refine (hm.below (below_alloc w0_ (.cells #[Value.int .i64 k, Value.int .i64 v.1, Value.int .i64 v.2, .pointer none, .pointer none] 47))).kept (hc.block b (by have := hm.lt; simp; omega) ?_)
        intro hb
        rcases List.mem_cons.1 hb with h1 | h1
        · exact HC1.out.nob hm (.inl h1)
        · rcases List.mem_cons.1 h1 with h2 | h2
          · have := hm.lt; omega
          · exact HC1.out.nob hm (.inr h2)
      have HM3 := Lib.hid hm3
      have HMF := Lib.hid hf
      obtain ⟨N3, hN3, _⟩ := hr.ex
      obtain ⟨_, _, d6, _, _, _, _, _⟩ := hN3.counts
      have HFB := Lib.hid (findable_any k w3)
      clear hr hc hm hf hm3 hN3
      go_wp2_with fail
      refine HFB.out.mono ?_
      rintro x w4 ⟨rfl, rfl⟩
      go_wp2_with (at_mapUpdate; refine wpList_store_map _ rfl _ _ _ 44 rfl 3 45 Try.keyed Try.underlying44 _ (Try.zeroE _) b es1.length mm rfl HM3.out (by have := HC1.out.len; have := HC1.out.hi; unfold maxLen; omega) _ _ (.int .i64 k) rfl rfl (key_of k hk) ?_; intro w5 hm5 hg5 hs5)
      have hcat := HC1.out.insert (v := v) hk HK1.out HR.out HM3.out HMF.out hm5 hg5
      have hC : Chg wb w5 (CB g b es) := (HCH.out.trans ((below_chg (below_alloc w0_ (.cells #[Value.int .i64 k, Value.int .i64 v.1, Value.int .i64 v.2, .pointer none, .pointer none] 47)) HC.out (fun p hp hq => by
        rcases List.mem_cons.1 hq with h1 | h1
        · exact .inl h1
        · rcases List.mem_cons.1 h1 with h2 | h2
          · omega
          · exact .inr (.inr (HSUB.out p h2))) : Chg w0_ w3 (CB g b es)))).toGrown hg5 (.inr (.inl rfl))
      have HQ := Lib.hid (show PutPost wb B g b size k v es f m (.returned (.tuple #[])) w5 from ⟨rfl, _, hcat, .inr ⟨HNI.out, w0_.heap.size, HCH.out.size, by rw [HE1.out]⟩, hC⟩)
      clear hcat hC hm5 hg5 hs5
      go_wp2
      go_end0
      exact (HES.out ▸ HQ.out : PutPost wb B g b size k v _ f m _ _).lift HBB.out
  · have hnn : ¬ (es.length : Int) = (size : Int) := by omega
    have HC1 := Lib.hid (show CAt wb.drew B g b size es f m from h.below (below_drewN wb 1))
    obtain ⟨w0_, hw0⟩ : ∃ w0_, w0_ = wb.drew := ⟨_, rfl⟩
    rw [← hw0] at HC1
    have HCH := Lib.hid (show Chg wb w0_ (CB g b es) by rw [hw0]; exact (Chg.refl wb _).drew)
    have HK1 := Lib.hid (show k ∉ es.map (·.2.1) ∧ es.length < size ∧ B ≤ w0_.heap.size from ⟨hin, by omega, by rw [hw0]; exact hB⟩)
    have HSUB := Lib.hid (show ∀ p, p ∈ es.map (·.1) → p ∈ es.map (·.1) from fun p hp => hp)
    have HE1 := Lib.hid (show (if es.length = size then es.dropLast else es) = es by rw [if_neg hfull])
    have HW0 := Lib.hid hw0
    have x0 : w0_.cell? ⟨w.heap.size, 0, none⟩ = some (Value.int .i64 v.1) := by rw [hw0]; exact HVB.out.cell 0
    have x1 : w0_.cell? ⟨w.heap.size, 1, none⟩ = some (Value.int .i64 v.2) := by rw [hw0]; exact HVB.out.cell 1
    clear h hN hfv hin hfull hw0
    go_enter Try.func7, Try.ntmps7
    go_upto_region 1 with fail
    rw [← hwb]
    clear hwb
    go_wp2_with fail
    refine HFI.out.mono ?_
    rintro x w1 ⟨rfl, rfl⟩
    go_wp2_with fail
    go_region
    all_goals
      rw [← HW0.out]
      clear d4 d5
      have HADD := Lib.hid (add_any (w0_.alloc (.cells #[Value.int .i64 k, Value.int .i64 v.1, Value.int .i64 v.2, .pointer none, .pointer none] 47)) (HC1.out.ring.below (below_alloc _ _)) (heap_alloc_new w0_ (.cells #[Value.int .i64 k, Value.int .i64 v.1, Value.int .i64 v.2, .pointer none, .pointer none] 47)) (HC1.out.fresh) (by have := HC1.out.len; have := HC1.out.hi; omega))
      go_wp2_with fail
      refine HADD.out.mono ?_
      rintro x w3 ⟨rfl, hr, hc⟩
      have HR := Lib.hid hr
      have HC := Lib.hid hc
      obtain ⟨mm, hm, hf⟩ := HC1.out.map
      have hm3 : MapAt w3 Try.prog 3 b mm es.length := by
        refine (hm.below (below_alloc w0_ (.cells #[Value.int .i64 k, Value.int .i64 v.1, Value.int .i64 v.2, .pointer none, .pointer none] 47))).kept (hc.block b (by have := hm.lt; simp; omega) ?_)
        intro hb
        rcases List.mem_cons.1 hb with h1 | h1
        · exact HC1.out.nob hm (.inl h1)
        · rcases List.mem_cons.1 h1 with h2 | h2
          · have := hm.lt; omega
          · exact HC1.out.nob hm (.inr h2)
      have HM3 := Lib.hid hm3
      have HMF := Lib.hid hf
      obtain ⟨N3, hN3, _⟩ := hr.ex
      obtain ⟨_, _, d6, _, _, _, _, _⟩ := hN3.counts
      have HFB := Lib.hid (findable_any k w3)
      clear hr hc hm hf hm3 hN3
      go_wp2_with fail
      refine HFB.out.mono ?_
      rintro x w4 ⟨rfl, rfl⟩
      go_wp2_with (at_mapUpdate; refine wpList_store_map _ rfl _ _ _ 44 rfl 3 45 Try.keyed Try.underlying44 _ (Try.zeroE _) b es.length mm rfl HM3.out (by have := HC1.out.len; have := HC1.out.hi; unfold maxLen; omega) _ _ (.int .i64 k) rfl rfl (key_of k hk) ?_; intro w5 hm5 hg5 hs5)
      have hcat := HC1.out.insert (v := v) hk HK1.out HR.out HM3.out HMF.out hm5 hg5
      have hC : Chg wb w5 (CB g b es) := (HCH.out.trans ((below_chg (below_alloc w0_ (.cells #[Value.int .i64 k, Value.int .i64 v.1, Value.int .i64 v.2, .pointer none, .pointer none] 47)) HC.out (fun p hp hq => by
        rcases List.mem_cons.1 hq with h1 | h1
        · exact .inl h1
        · rcases List.mem_cons.1 h1 with h2 | h2
          · omega
          · exact .inr (.inr (HSUB.out p h2))) : Chg w0_ w3 (CB g b es)))).toGrown hg5 (.inr (.inl rfl))
      have HQ := Lib.hid (show PutPost wb B g b size k v es f m (.returned (.tuple #[])) w5 from ⟨rfl, _, hcat, .inr ⟨HNI.out, w0_.heap.size, HCH.out.size, by rw [HE1.out]⟩, hC⟩)
      clear hcat hC hm5 hg5 hs5
      go_wp2
      go_end0
      exact HQ.out.lift HBB.out
theorem Put_any {B g b size : Nat} {es : List En} {f m : Int} (k : Int) (v : Int × Int) (w : World) (h : CAt w B g b size es f m) (hk : -9223372036854775808 ≤ k ∧ k ≤ 9223372036854775807) (hB : B ≤ w.heap.size) :
    Calls Try.prog 7 #[.pointer (some ⟨g, 0, none⟩), Value.int .i64 k, .agg #[Value.int .i64 v.1, Value.int .i64 v.2]] w fun x w' => PutPost w B g b size k v es f m x w' := by
  by_cases hin : k ∈ es.map (·.2.1)
  · exact Put_there k v w h hk hin
  · exact Put_new k v w h hk hin hB
end Go.Proofs.Ytofjpbpfjjohdaa.KA
