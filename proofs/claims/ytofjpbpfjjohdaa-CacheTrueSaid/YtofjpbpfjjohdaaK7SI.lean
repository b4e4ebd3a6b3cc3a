/- The cache of string,int: Put of a key that isn't there. -/
import Derived.Test.YtofjpbpfjjohdaaK6SI
namespace Go.Proofs.Ytofjpbpfjjohdaa.KS
open Go.RowKit Go.Proofs.Ytofjpbpfjjohdaa
open Go.Maps (Keyed)

theorem below_chg {w w1 w2 : World} {P Q : Nat → Prop} (h : Below w.heap.size w w1) (hc : Chg w1 w2 P) (hpq : ∀ k, k < w.heap.size → P k → Q k) : Chg w w2 Q :=
  ⟨hc.os.trans h.os, hc.tape.trans h.tape, hc.output.trans h.output, Nat.le_trans h.size hc.size, fun k hk hn => (hc.block k (Nat.lt_of_lt_of_le hk h.size) (fun hp => hn (hpq k hk hp))).trans (h.block k hk)⟩
theorem CAt.fresh {w : World} {B g b size : Nat} {es : List En} {f m : Int} (h : CAt w B g b size es f m) : w.heap.size ∉ es.map (·.1) := by
  obtain ⟨N, hN, _⟩ := h.ring.ex
  intro hp
  obtain ⟨⟨p, k, v⟩, hm, he⟩ := List.mem_map.1 hp
  have := (hN.ent p k v hm).lt
  simp at he
  omega
theorem CAt.nob {w : World} {B g b size : Nat} {es : List En} {f m : Int} (h : CAt w B g b size es f m) {P : Program} {kt : TypeId} {M : Nat} {mm : Lit → Option Value} (hm : MapAt w P kt b mm M) : ¬ (b = g ∨ b ∈ es.map (·.1)) := by
  obtain ⟨N, hN, _⟩ := h.ring.ex
  obtain ⟨kk, vv, hkn⟩ := hN.knot
  rintro (h1 | h1)
  · exact hm.ne hkn h1.symm
  · obtain ⟨⟨p, k, v⟩, hp, rfl⟩ := List.mem_map.1 h1
    exact hm.ne (hN.ent p k v hp) rfl
theorem CAt.insert {w w3 w5 : World} {B g b size e : Nat} {k : ByteArray} {v : Int} {es : List En} {f m : Int} {mm : Lit → Option Value} (h : CAt w B g b size es f m) (hk : k.size ≤ 9223372036854775807) (hni : k ∉ es.map (·.2.1) ∧ es.length < size ∧ B ≤ e) (hr : RingAt w3 g ⟨size, b, f, m⟩ ((es.length : Int) + 1) ((e, k, v) :: es))
    (hm3 : MapAt w3 Try.prog 9 b mm es.length) (hf : ∀ k : ByteArray, (k.size ≤ 9223372036854775807) → mm (.string k.data.toList) = (es.find? (fun t => decide (t.2.1 = k))).map (fun t => at_ t.1))
    (hm5 : MapAt w5 Try.prog 9 b (mset mm (.string k.data.toList) (some (.pointer (some ⟨e, 0, none⟩)))) (if (mm (.string k.data.toList)).isSome then es.length else es.length + 1)) (hg : w3.grownBy w5 (some b)) : CAt w5 B g b size ((e, k, v) :: es) f m := by
  have hnone : mm (.string k.data.toList) = none := by rw [hf k hk, find_none_of hni.1]; rfl
  rw [hnone] at hm5
  refine ⟨by simpa using hr.mapped hm3 hg, ⟨_, by simpa using hm5, fun k' hk' => ?_⟩, List.nodup_cons.2 ⟨hni.1, h.keys⟩, fun p k' v' hp => ?_, hni.2.1, h.lo, h.hi, h.geg, h.geb, fun p hp => ?_⟩
  · by_cases hkk : k' = k
    · subst hkk
      rw [mset_same (Try.keyed.key (key_of k' hk'))]
      simp [at_]
    · rw [mset_other (fun e => hkk (lit_inj e)), hf k' hk', List.find?_cons]
      have : decide ((e, k, v).2.1 = k') = false := by simp; exact Ne.symm hkk
      rw [this]
  · rcases List.mem_cons.1 hp with h1 | h1
    · injection h1 with h1 h2
      injection h2 with h2 h3
      subst h2
      exact hk
    · exact h.kr p k' v' h1
  · rw [List.map_cons] at hp
    rcases List.mem_cons.1 hp with h1 | h1
    · rw [h1]; exact hni.2.2
    · exact h.gep p h1
theorem lastD_snoc (x : Nat) : ∀ (l : List Nat) (t : Nat), lastD x (l ++ [t]) = t
  | [], _ => rfl
  | p :: l, t => lastD_snoc p l t

set_option maxRecDepth 100000 in
set_option maxHeartbeats 4000000 in
theorem Put_new {B g b size : Nat} {es : List En} {f m : Int} (k : ByteArray) (v : Int) (w : World) (h : CAt w B g b size es f m) (hk : k.size ≤ 9223372036854775807) (hin : k ∉ es.map (·.2.1)) (hB : B ≤ w.heap.size) :
    Calls Try.prog 11 #[.pointer (some ⟨g, 0, none⟩), Value.string k, Value.int .i64 v] w fun x w' => PutPost w B g b size k v es f m x w' := by
  have HFI := Lib.hid (find_any k w h hk)
  have hfv : findV es k = .pointer none := by
    unfold findV
    rw [find_none_of hin]
    rfl
  rw [hfv] at HFI
  obtain ⟨N, hN, _⟩ := h.ring.ex
  obtain ⟨d4, d5, _, _, _, _, _, _⟩ := hN.counts
  have HNI := Lib.hid hin
  have hlen := h.len
  have hhi := h.hi
  by_cases hfull : es.length = size
  · obtain ⟨es0, ⟨e9, k9, v9⟩, rfl⟩ : ∃ es0 t, es = es0 ++ [t] := by
      rcases List.eq_nil_or_concat es with h1 | ⟨l, t, h1⟩
      · have := h.lo; rw [h1] at hfull; simp at hfull; omega
      · exact ⟨l, t, by rw [h1]; simp⟩
    have HOL := Lib.hid (oldest_any w.drew (h.below (below_drewN w 1)).ring)
    have hla : lastD g ((es0 ++ [(e9, k9, v9)]).map (·.1)) = e9 := by rw [List.map_append]; exact lastD_snoc _ _ _
    rw [hla] at HOL
    have HFG := Lib.hid (forget_any (e1 := es0) (e2 := []) w.drew (h.below (below_drewN w 1)))
    have HFU := Lib.hid hfull
    have hnn : ((es0 ++ [(e9, k9, v9)]).length : Int) = (size : Int) := by omega
    simp only at d5
    rw [hnn] at d4
    unfold at_ at HOL
    clear h hN hfv hin hla hfull hnn
    go_enter Try.func11, Try.ntmps11
    go_wp2_with fail
    refine HFI.out.mono ?_
    rintro x w1 ⟨rfl, rfl⟩
    go_wp2_with fail
    go_region
    all_goals
      go_wp2_with fail
      refine HOL.out.mono ?_
      rintro x w1 ⟨rfl, rfl⟩
      go_wp2_with fail
      refine HFG.out.mono ?_
      rintro x w0_ ⟨rfl, hcat, hch⟩
      obtain ⟨es1, hes1⟩ : ∃ es1, es1 = es0 ++ [] := ⟨_, rfl⟩
      rw [← hes1] at hcat
      rw [List.append_nil] at hes1
      have HC1 := Lib.hid hcat
      have HCH := Lib.hid (show Chg w w0_ (CB g b (es0 ++ [(e9, k9, v9)])) from ⟨hch.os, hch.tape, hch.output, hch.size, hch.block⟩)
      have HK1 := Lib.hid (show k ∉ es1.map (·.2.1) ∧ es1.length < size ∧ B ≤ w0_.heap.size from ⟨fun hm => HNI.out (by rw [hes1] at hm; rw [List.map_append]; exact List.mem_append_left _ hm), by have := HFU.out; rw [hes1]; simp at this; omega, Nat.le_trans hB hch.size⟩)
      have HSUB := Lib.hid (show ∀ p, p ∈ es1.map (·.1) → p ∈ (es0 ++ [(e9, k9, v9)]).map (·.1) from fun p hp => by rw [hes1] at hp; rw [List.map_append]; exact List.mem_append_left _ hp)
      have HE1 := Lib.hid (show (if (es0 ++ [(e9, k9, v9)]).length = size then (es0 ++ [(e9, k9, v9)]).dropLast else (es0 ++ [(e9, k9, v9)])) = es1 by rw [if_pos HFU.out, hes1]; simp)
      obtain ⟨es, hes⟩ : ∃ es, es = es0 ++ [(e9, k9, v9)] := ⟨_, rfl⟩
      rw [← hes] at HCH HSUB HE1 HNI
      have HES := Lib.hid hes
      clear hcat hch hes1 hes
      have HADD := Lib.hid (add_any (w0_.alloc (.cells #[Value.string k, Value.int .i64 v, .pointer none, .pointer none] 62)) (HC1.out.ring.below (below_alloc _ _)) (heap_alloc_new w0_ (.cells #[Value.string k, Value.int .i64 v, .pointer none, .pointer none] 62)) (HC1.out.fresh) (by have := HC1.out.len; have := HC1.out.hi; omega))
      go_wp2_with fail
      refine HADD.out.mono ?_
      rintro x w3 ⟨rfl, hr, hc⟩
      have HR := Lib.hid hr
      have HC := Lib.hid hc
      obtain ⟨mm, hm, hf⟩ := HC1.out.map
      have hm3 : MapAt w3 Try.prog 9 b mm es1.length := by
        refine (hm.below (below_alloc w0_ (.cells #[Value.string k, Value.int .i64 v, .pointer none, .pointer none] 62))).kept (hc.block b (by have := hm.lt; simp; omega) ?_)
        intro hb
        rcases List.mem_cons.1 hb with h1 | h1
        · exact HC1.out.nob hm (.inl h1)
        · rcases List.mem_cons.1 h1 with h2 | h2
          · have := hm.lt; omega
          · exact HC1.out.nob hm (.inr h2)
      have HM3 := Lib.hid hm3
      have HMF := Lib.hid hf
      obtain ⟨N3, hN3, _⟩ := hr.ex
      obtain ⟨_, _, d6, _, _, _, _, _⟩ := hN3.counts
      have HFB := Lib.hid (findable_any k w3)
      clear hr hc hm hf hm3 hN3
      go_wp2_with fail
      refine HFB.out.mono ?_
      rintro x w4 ⟨rfl, rfl⟩
      go_wp2_with (at_mapUpdate; refine wpList_store_map _ rfl _ _ _ 59 rfl 9 60 Try.keyed Try.underlying59 _ (Try.zeroE _) b es1.length mm rfl HM3.out (by have := HC1.out.len; have := HC1.out.hi; unfold maxLen; omega) _ _ (.string k.data.toList) rfl rfl (key_of k hk) ?_; intro w5 hm5 hg5 hs5)
      have hcat := HC1.out.insert (v := v) hk HK1.out HR.out HM3.out HMF.out hm5 hg5
      have hC : Chg w w5 (CB g b es) := (HCH.out.trans ((below_chg (below_alloc w0_ (.cells #[Value.string k, Value.int .i64 v, .pointer none, .pointer none] 62)) HC.out (fun p hp hq => by
        rcases List.mem_cons.1 hq with h1 | h1
        · exact .inl h1
        · rcases List.mem_cons.1 h1 with h2 | h2
          · omega
          · exact .inr (.inr (HSUB.out p h2))) : Chg w0_ w3 (CB g b es)))).toGrown hg5 (.inr (.inl rfl))
      have HQ := Lib.hid (show PutPost w B g b size k v es f m (.returned (.tuple #[])) w5 from ⟨rfl, _, hcat, .inr ⟨HNI.out, w0_.heap.size, HCH.out.size, by rw [HE1.out]⟩, hC⟩)
      clear hcat hC hm5 hg5 hs5
      go_wp2
      go_end0
      exact HES.out ▸ HQ.out
  · have hnn : ¬ (es.length : Int) = (size : Int) := by omega
    have HC1 := Lib.hid (show CAt w.drew B g b size es f m from h.below (below_drewN w 1))
    obtain ⟨w0_, hw0⟩ : ∃ w0_, w0_ = w.drew := ⟨_, rfl⟩
    rw [← hw0] at HC1
    have HCH := Lib.hid (show Chg w w0_ (CB g b es) by rw [hw0]; exact (Chg.refl w _).drew)
    have HK1 := Lib.hid (show k ∉ es.map (·.2.1) ∧ es.length < size ∧ B ≤ w0_.heap.size from ⟨hin, by omega, by rw [hw0]; exact hB⟩)
    have HSUB := Lib.hid (show ∀ p, p ∈ es.map (·.1) → p ∈ es.map (·.1) from fun p hp => hp)
    have HE1 := Lib.hid (show (if es.length = size then es.dropLast else es) = es by rw [if_neg hfull])
    have HW0 := Lib.hid hw0
    clear h hN hfv hin hfull hw0
    go_enter Try.func11, Try.ntmps11
    go_wp2_with fail
    refine HFI.out.mono ?_
    rintro x w1 ⟨rfl, rfl⟩
    go_wp2_with fail
    go_region
    all_goals
      rw [← HW0.out]
      clear d4 d5
      have HADD := Lib.hid (add_any (w0_.alloc (.cells #[Value.string k, Value.int .i64 v, .pointer none, .pointer none] 62)) (HC1.out.ring.below (below_alloc _ _)) (heap_alloc_new w0_ (.cells #[Value.string k, Value.int .i64 v, .pointer none, .pointer none] 62)) (HC1.out.fresh) (by have := HC1.out.len; have := HC1.out.hi; omega))
      go_wp2_with fail
      refine HADD.out.mono ?_
      rintro x w3 ⟨rfl, hr, hc⟩
      have HR := Lib.hid hr
      have HC := Lib.hid hc
      obtain ⟨mm, hm, hf⟩ := HC1.out.map
      have hm3 : MapAt w3 Try.prog 9 b mm es.length := by
        refine (hm.below (below_alloc w0_ (.cells #[Value.string k, Value.int .i64 v, .pointer none, .pointer none] 62))).kept (hc.block b (by have := hm.lt; simp; omega) ?_)
        intro hb
        rcases List.mem_cons.1 hb with h1 | h1
        · exact HC1.out.nob hm (.inl h1)
        · rcases List.mem_cons.1 h1 with h2 | h2
          · have := hm.lt; omega
          · exact HC1.out.nob hm (.inr h2)
      have HM3 := Lib.hid hm3
      have HMF := Lib.hid hf
      obtain ⟨N3, hN3, _⟩ := hr.ex
      obtain ⟨_, _, d6, _, _, _, _, _⟩ := hN3.counts
      have HFB := Lib.hid (findable_any k w3)
      clear hr hc hm hf hm3 hN3
      go_wp2_with fail
      refine HFB.out.mono ?_
      rintro x w4 ⟨rfl, rfl⟩
      go_wp2_with (at_mapUpdate; refine wpList_store_map _ rfl _ _ _ 59 rfl 9 60 Try.keyed Try.underlying59 _ (Try.zeroE _) b es.length mm rfl HM3.out (by have := HC1.out.len; have := HC1.out.hi; unfold maxLen; omega) _ _ (.string k.data.toList) rfl rfl (key_of k hk) ?_; intro w5 hm5 hg5 hs5)
      have hcat := HC1.out.insert (v := v) hk HK1.out HR.out HM3.out HMF.out hm5 hg5
      have hC : Chg w w5 (CB g b es) := (HCH.out.trans ((below_chg (below_alloc w0_ (.cells #[Value.string k, Value.int .i64 v, .pointer none, .pointer none] 62)) HC.out (fun p hp hq => by
        rcases List.mem_cons.1 hq with h1 | h1
        · exact .inl h1
        · rcases List.mem_cons.1 h1 with h2 | h2
          · omega
          · exact .inr (.inr (HSUB.out p h2))) : Chg w0_ w3 (CB g b es)))).toGrown hg5 (.inr (.inl rfl))
      have HQ := Lib.hid (show PutPost w B g b size k v es f m (.returned (.tuple #[])) w5 from ⟨rfl, _, hcat, .inr ⟨HNI.out, w0_.heap.size, HCH.out.size, by rw [HE1.out]⟩, hC⟩)
      clear hcat hC hm5 hg5 hs5
      go_wp2
      go_end0
      exact HQ.out
theorem Put_any {B g b size : Nat} {es : List En} {f m : Int} (k : ByteArray) (v : Int) (w : World) (h : CAt w B g b size es f m) (hk : k.size ≤ 9223372036854775807) (hB : B ≤ w.heap.size) :
    Calls Try.prog 11 #[.pointer (some ⟨g, 0, none⟩), Value.string k, Value.int .i64 v] w fun x w' => PutPost w B g b size k v es f m x w' := by
  by_cases hin : k ∈ es.map (·.2.1)
  · exact Put_there k v w h hk hin
  · exact Put_new k v w h hk hin hB
end Go.Proofs.Ytofjpbpfjjohdaa.KS
