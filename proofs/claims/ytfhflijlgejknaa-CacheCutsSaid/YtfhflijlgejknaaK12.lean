/- CacheCuts: the law's question. -/
import Derived.Test.YtfhflijlgejknaaK9II
import Derived.Test.YtfhflijlgejknaaK11
namespace Go.Proofs.Ytfhflijlgejknaa
open Go.RowKit
open Go.Maps (Keyed)

def cnt (l : List KI.En) (k : Int) : Nat := l.countP (fun t => decide (t.2.1 = k))
theorem cnt_snoc (l : List KI.En) (p : Nat) (k v k' : Int) : cnt (l ++ [(p, k, v)]) k' = if k = k' then cnt l k' + 1 else cnt l k' := by
  unfold cnt
  rw [List.countP_append, List.countP_cons, List.countP_nil]
  by_cases h : k = k' <;> simp [h]
theorem cnt_le (l : List KI.En) (k : Int) : cnt l k ≤ l.length := List.countP_le_length
theorem Try.zeroI (w : World) : (zeroValue 3).run Try.prog w = .ok (.int .i64 0) w := by kernel_rfl
def prC (cut : Int) (k : Int) : Bool := k.tmod cut == 0
/-- What has been asked, as it lies: the map, its box, the number's box. -/
structure Asked (W : World) (bm ba bc : Nat) (cut : Int) (done : List KI.En) : Prop where
  map : ∃ m N, MapAt W Try.prog 3 bm m N ∧ N ≤ done.length ∧ ∀ k : Int, -9223372036854775808 ≤ k ∧ k ≤ 9223372036854775807 → m (.int .i64 k) = if cnt done k = 0 then none else some (.int .i64 (cnt done k : Int))
  box : Whole W ba 58 #[.map (some bm)]
  num : Whole W bc 3 #[.int .i64 cut]

set_option maxHeartbeats 1000000 in
theorem ask_idle (w : World) : CallsD Try.prog 99 #[] .returning w fun e u' w' => e = .returned (.tuple #[]) ∧ u' = .returning ∧ w' = w := by
  refine callsD_of_wpS Try.func99 rfl fun c₀ cs hu => ?_
  apply wpS_region
  simp [wpOpsS, go_sem, recoverD, hu, Try.ntmps99]
  cases c₀
  simp_all [bodyPostS, results, Try.results99]
set_option maxRecDepth 100000 in
set_option maxHeartbeats 4000000 in
theorem question_any {bm ba bc p : Nat} {cut k v : Int} {done : List KI.En} (W : World) (h : Asked W bm ba bc cut done) (hk : -9223372036854775808 ≤ k ∧ k ≤ 9223372036854775807) (hc1 : 1 ≤ cut) (hc2 : cut ≤ 9) (hl : done.length ≤ 4096) :
    Calls Try.prog 30 #[.int .i64 k, .pointer (some ⟨ba, 0, none⟩), .pointer (some ⟨bc, 0, none⟩)] W fun x W' => x = .returned (.bool (prC cut k)) ∧ Asked W' bm ba bc cut (done ++ [(p, k, v)]) ∧ KI.Chg W W' (fun q => q = bm) := by
  obtain ⟨m, N, hm, hN, hf⟩ := h.map
  have c0 : W.cell? ⟨ba, 0, none⟩ = some (.map (some bm)) := by rw [h.box.cell]; rfl
  have hkey : keyOf Try.prog 3 (.int .i64 k) = some (.int .i64 k) := KI.key_of k hk
  have hlk := hm.look KI.Try.keyed Try.underlying58 (Try.zeroI W) false hkey
  have hcl := cnt_le done k
  have hg : (m (.int .i64 k)).getD (.int .i64 0) = .int .i64 (cnt done k : Int) := by
    rw [hf k hk]
    by_cases h0 : cnt done k = 0
    · simp [h0]
    · simp [h0]
  simp only [Bool.false_eq_true, if_false, hg] at hlk
  have hadd : IntKind.i64.wrap ((cnt done k : Int) + 1) = (cnt done k : Int) + 1 := IntWalk.i64_in _ (by omega)
  have H := Lib.hid h
  have HM := Lib.hid hm
  have HF := Lib.hid hf
  have HKEY := Lib.hid hkey
  have hc0 : cut ≠ 0 := by omega
  obtain ⟨q, hq⟩ : ∃ q, q = k.tmod cut := ⟨_, rfl⟩
  obtain ⟨cc, hcc⟩ : ∃ cc, cc = cnt done k := ⟨_, rfl⟩
  rw [← hcc] at hlk hadd hcl
  have HCC := Lib.hid hcc
  clear h hm hf hg hkey hcc
  go_enter Try.func30, Try.ntmps30
  go_wp2_with (at_mapUpdate; refine wpList_store_map _ rfl _ _ _ 58 rfl 3 3 KI.Try.keyed Try.underlying58 _ (Try.zeroI _) bm N m rfl HM.out (by unfold maxLen; omega) _ _ (.int .i64 k) rfl rfl HKEY.out ?_; intro w2 hm2 hg2 hs2; have hb2 := H.out.num.kept (hg2.block bc H.out.num.lt (fun e => HM.out.ne H.out.num (by injection e))); have c2 : w2.cell? ⟨bc, 0, none⟩ = some (.int .i64 cut) := (by rw [hb2.cell]; rfl); have HB2 := Lib.hid hb2; clear hb2)
  have HM2 := Lib.hid hm2
  have HG2 := Lib.hid hg2
  clear hm2 hg2
  go_ret
  refine ⟨rfl, ⟨⟨_, _, HM2.out, ?_, ?_⟩, H.out.box.kept (HG2.out.block ba H.out.box.lt (fun e => HM.out.ne H.out.box (by injection e))), HB2.out⟩, ⟨HG2.out.os, HG2.out.tape, HG2.out.output, HG2.out.size, fun q hq hn => HG2.out.block q hq (fun e => hn (by injection e))⟩⟩
  · have e : (done ++ [(p, k, v)]).length = done.length + 1 := by simp
    split <;> omega
  · intro k' hk'
    have hs := cnt_snoc done p k v k'
    rw [hs]
    by_cases he : k = k'
    · subst he
      rw [if_pos rfl, if_neg (by omega), mset_same (KI.Try.keyed.key HKEY.out), ← HCC.out]
      rfl
    · rw [if_neg he, mset_other (fun e => he (KI.lit_inj e).symm)]
      exact HF.out k' hk'

set_option maxRecDepth 100000 in
set_option maxHeartbeats 4000000 in
theorem ask_any {bm ba bc p : Nat} {cut k v : Int} {done : List KI.En} (W : World) (h : Asked W bm ba bc cut done) (hk : -9223372036854775808 ≤ k ∧ k ≤ 9223372036854775807) (hc1 : 1 ≤ cut) (hc2 : cut ≤ 9) (hl : done.length ≤ 4096) :
    Calls Try.prog 70 #[.func (.func 30) #[] #[.pointer (some ⟨ba, 0, none⟩), .pointer (some ⟨bc, 0, none⟩)], .int .i64 k] W fun x W' => x = .returned (.bool (prC cut k)) ∧ Asked W' bm ba bc cut (done ++ [(p, k, v)]) ∧ KI.Chg W W' (fun q => q = bm) := by
  have HQ := Lib.hid (question_any (p := p) (v := v) W h hk hc1 hc2 hl)
  clear h
  go_enter_defers Try.func70, Try.ntmps70
  go_wp2_with fail
  refine HQ.out.mono ?_
  rintro x w2 ⟨rfl, hA, hC⟩
  have HA := Lib.hid hA
  have HC := Lib.hid hC
  clear hA hC HQ
  go_wp2
  refine leaves_cons (f := 99) (args := #[]) (by simp) (by simp [go_sem]) ?_
  refine (ask_idle _).mono ?_
  rintro e u' w'' ⟨rfl, rfl, rfl⟩
  simp [Leaves, settle, results, Try.results70, go_sem]
  exact ⟨HA.out, HC.out⟩

theorem Asked.keep {W W' : World} {bm ba bc : Nat} {cut : Int} {done : List KI.En} {Q : Nat → Prop} (h : Asked W bm ba bc cut done) (hc : KI.Chg W W' Q) (n1 : ¬ Q bm) (n2 : ¬ Q ba) (n3 : ¬ Q bc) : Asked W' bm ba bc cut done := by
  obtain ⟨m, N, hm, hN, hf⟩ := h.map
  exact ⟨⟨m, N, hm.kept (hc.block bm hm.lt n1), hN, hf⟩, h.box.kept (hc.block ba h.box.lt n2), h.num.kept (hc.block bc h.num.lt n3)⟩
theorem question_of {w : World} {B g b size bm ba bc : Nat} {es : List KI.En} {f m cut : Int} (h : KI.CAt w B g b size es f m) (hbm : bm < w.heap.size) (ha : ba < w.heap.size) (hbc : bc < w.heap.size) (n1 : ¬ KI.CB g b es bm) (n2 : ¬ KI.CB g b es ba) (n3 : ¬ KI.CB g b es bc) (hc1 : 1 ≤ cut) (hc2 : cut ≤ 9) :
    KI.Question w g b es (.func (.func 30) #[] #[.pointer (some ⟨ba, 0, none⟩), .pointer (some ⟨bc, 0, none⟩)]) (prC cut) (fun W done => Asked W bm ba bc cut done ∧ done <+: es) (fun k => k = bm) := by
  have hlen := h.len
  have hhi := h.hi
  refine ⟨fun W done p k v hI hp => ?_, fun W W' done hI hc => ⟨hI.1.keep hc ?_ ?_ ?_, hI.2⟩, fun k hk => ?_⟩
  · have hl := hI.2.length_le
    have hk := h.kr p k v (hp.subset (by simp))
    refine (ask_any (p := p) (v := v) W hI.1 hk hc1 hc2 (by omega)).mono ?_
    rintro x W' ⟨rfl, hA, hC⟩
    exact ⟨rfl, ⟨hA, hp⟩, hC⟩
  · rintro (h1 | h1)
    · omega
    · exact n1 h1
  · rintro (h1 | h1)
    · omega
    · exact n2 h1
  · rintro (h1 | h1)
    · omega
    · exact n3 h1
  · subst hk
    exact ⟨n1, hbm⟩
end Go.Proofs.Ytfhflijlgejknaa
