/- The document's cache: Cut; the law's question. -/
import Derived.Test.YtfhflijlgejknaaKR3
import Derived.Test.YtfhflijlgejknaaK9SI
namespace Go.Proofs.Ytfhflijlgejknaa
open Go.RowKit

/-- Does a key begin with a text? -/
def pre (k h : ByteArray) : Bool := decide (h.size ≤ k.size) && ((k.extract 0 h.size).toList == h.toList)
theorem pre_short {k h : ByteArray} (hs : k.size < h.size) : pre k h = false := by unfold pre; rw [decide_eq_false (by omega)]; rfl
theorem pre_long {k h : ByteArray} (hs : ¬ k.size < h.size) : pre k h = ((k.extract 0 h.size).toList == h.toList) := by unfold pre; rw [decide_eq_true (by omega)]; rfl

set_option maxRecDepth 100000 in
set_option maxHeartbeats 1000000 in
theorem lite_any (k h : ByteArray) (w : World) :
    Calls Try.prog 54 #[.string k, .string h] w fun e w' => e = .returned (.bool (pre k h)) ∧ w = w' := by
  by_cases hs : k.size < h.size
  · have HP := Lib.hid (pre_short hs)
    have hs2 : ¬ (h.size : Int) ≤ (k.size : Int) := by omega
    go_enter Try.func54, Try.ntmps54
    go_wp2
    go_ret
    exact ⟨by rw [HP.out]; rfl, rfl⟩
  · have HP := Lib.hid (pre_long hs)
    have hs2 : (h.size : Int) ≤ (k.size : Int) := by omega
    obtain ⟨b, hb⟩ : ∃ b, b = ((k.extract 0 h.size).toList == h.toList) := ⟨_, rfl⟩
    rw [← hb] at HP
    have hb' := hb.symm
    clear hb
    go_enter Try.func54, Try.ntmps54
    go_wp2
    go_ret
    exact ⟨by rw [HP.out]; rfl, rfl⟩
theorem hasPrefix_any (k h : ByteArray) (w : World) :
    Calls Try.prog 17 #[.string k, .string h] w fun e w' => e = .returned (.bool (pre k h)) ∧ w = w' := by
  have HL := Lib.hid (lite_any k h w)
  go_enter Try.func17, Try.ntmps17
  go_wp2_with fail
  refine HL.out.mono ?_
  rintro e w' ⟨rfl, rfl⟩
  go_wp2
  go_ret
  exact ⟨rfl, rfl⟩
set_option maxRecDepth 100000 in
/-- The law's question: the operation lies in block q. -/
theorem asks_any (k h : ByteArray) (q : Nat)  (w : World) (hc : w.cell? ⟨q, 2, none⟩ = some (.string h)) :
    Calls Try.prog 16 #[.string k, .pointer (some ⟨q, 0, none⟩)] w fun e w' => e = .returned (.bool (pre k h)) ∧ w = w' := by
  have HL := Lib.hid (hasPrefix_any k h w)
  go_enter Try.func16, Try.ntmps16
  go_wp2_with fail
  refine HL.out.mono ?_
  rintro e w' ⟨rfl, rfl⟩
  go_wp2
  go_ret
  exact ⟨rfl, rfl⟩

theorem pair_new (W : World) (x : ByteArray) (y : Int) : ∀ ad, some (⟨W.heap.size, 0, none⟩ : Addr) = some ad → ∀ (j : Nat) u, (flat [(x, y)])[j]? = some u → (W.alloc (.cells #[.string x, .int .i64 y] 40)).cell? (ad.add j) = some u := by
  obtain ⟨a, c, he, hp⟩ := Pairs.owned (l := [(x, y)]) (one_row W W.heap.size x y (Nat.le_refl _))
  injection he with h1 h2 h3
  rw [h1]
  exact hp.news
/-- What the document's Cut keeps. -/
def keepL (k : ByteArray) (l : List Pr) : List Pr := l.filter (fun t => !pre t.1 k)
def RCutPost (w : World) (n : Nat) (s h m : Int) (l' : List Pr) (e : Ending) (w' : World) : Prop :=
  ∃ a' n' c', e = .returned (.tuple #[.agg #[.slice a' n' c', .int .i64 s, .int .i64 h, .int .i64 m], .int .i64 ((n : Int) - (n' : Int))]) ∧ Pairs w' w.heap.size a' n' c' l' ∧ Below w.heap.size w w'
set_option maxRecDepth 100000 in
set_option maxHeartbeats 4000000 in
theorem rcut_any {B n c : Nat} {a : Option Addr} {l : List Pr} (s h m : Int) (k : ByteArray) (w : World) (hp : Pairs w B a n c l) (hn : n ≤ 4096) (hk : k.size ≤ 9223372036854775807) (hl : ∀ x v, (x, v) ∈ l → x.size ≤ 9223372036854775807) :
    Calls Try.prog 14 #[.agg #[.slice a n c, .int .i64 s, .int .i64 h, .int .i64 m], .string k] w fun e w' => RCutPost w n s h m (keepL k l) e w' := by
  obtain ⟨i0, hi0, hz0, hz1, hz2⟩ := KS.info_of Try.infoQ
  obtain ⟨w0, hw0⟩ : ∃ w0, w0 = (w.alloc (.cells #[.slice a n c, .int .i64 s, .int .i64 h, .int .i64 m] 31)).alloc (.cells #[.slice none 0 0, .int .i64 0, .int .i64 0, .int .i64 0] 31) := ⟨_, rfl⟩
  obtain ⟨h1, h2, hb0⟩ := two_boxes hw0 (Below.refl _ _)
  have HP := Lib.hid (hp.below hb0)
  have HX := Lib.hid h1
  have HR := Lib.hid h2
  have HB := Lib.hid hb0
  have HLK := Lib.hid hl
  have hlen := hp.len
  have hlt : w.heap.size + 1 < w0.heap.size := h2.lt
  clear hp hl h1 h2 hb0
  go_enter Try.func14, Try.ntmps14
  go_wp2
  rw [← hw0]
  clear hw0
  go_loopw [6, 7] (fun tv iv wr => ∃ i : Nat, i ≤ n ∧ iv = .int .i64 i ∧ wr.ownsRow w0.heap.size 40 2 tv (keepL k (l.take i)).length (flat (keepL k (l.take i))) ∧ Below w0.heap.size w0 wr) (fun _ iv _ => n - (intOf iv).toNat)
  case atStart => exact ⟨0, by omega, rfl, ⟨rfl, .inl ⟨rfl, rfl⟩⟩, Below.refl _ _⟩
  case round =>
    obtain ⟨i, hin, rfl, hoc, hb⟩ := hrel
    have hbx := HX.out.kept (hb.block _ HX.out.lt)
    have c0 : wr.cell? ⟨w.heap.size, 0, none⟩ = some (.slice a n c) := by rw [hbx.cell]; rfl
    have HOC := Lib.hid hoc
    have HBE := Lib.hid hb
    have hwr := hb.size
    by_cases hil : i < n
    · obtain ⟨⟨x, y⟩, hx⟩ : ∃ p, l[i]? = some p := ⟨_, List.getElem?_eq_getElem (by rw [hlen]; exact hil)⟩
      obtain ⟨b, off, rfl, hbl, z0, z1⟩ := HP.out.cells hx
      have d0 := (hb.cell (p := ⟨b, off + i * 2, none⟩) hbl).trans z0
      have d1 := (hb.cell (p := ⟨b, off + i * 2 + 1, none⟩) hbl).trans z1
      simp only at d0 d1
      have hxs := HLK.out x y (List.mem_of_getElem? hx)
      have htk : l.take (i + 1) = l.take i ++ [(x, y)] := by
        obtain ⟨hi', he⟩ := List.getElem?_eq_some_iff.1 hx
        rw [← he]
        exact (List.take_append_getElem hi').symm
      have HTK := Lib.hid htk
      clear z0 z1 hbx hb hoc hx htk
      by_cases hs : x.size < k.size
      · have HPRE := Lib.hid (pre_short hs)
        have hs2 : (x.size : Int) < (k.size : Int) := by omega
        obtain ⟨C, hC⟩ : ∃ C, C = keepL k (l.take i) := ⟨_, rfl⟩
        have hC1 : keepL k (l.take (i + 1)) = C ++ [(x, y)] := by
          rw [HTK.out, hC]
          unfold keepL
          rw [List.filter_append]
          simp [HPRE.out]
        have hCl : C.length ≤ 4096 := by
          have h1 := List.length_filter_le (fun t : Pr => !pre t.1 k) (l.take i)
          have h2 : (l.take i).length ≤ l.length := by simp; omega
          rw [hC]
          unfold keepL
          omega
        have hoc := HOC.out
        rw [← hC] at hoc
        have HOC4 := Lib.hid hoc
        have HC1 := Lib.hid hC1
        clear hoc hC hC1
        go_wp2_with (
          at_builtin
          (refine wpList_append_at_any _ rfl (.tmp 36) (.tmp 42) 29 rfl w0.heap.size 40 i0 (.agg #[.string ⟨#[]⟩, .int .i64 0]) 2 24 Try.underlying29 hi0 hz0 hz1 hz2 rfl (by decide) _ C.length _ rfl (HOC4.out.alloc _) (some ⟨wr.heap.size, 0, none⟩) 1 1 (flat [(x, y)]) rfl rfl (by intro h; cases h) (pair_new wr x y) (flat_one _) (by unfold maxLen; omega) (by omega) (by simp; omega) ?_)
          intro v2 w3 hown3 hgrow3 hat3)
        have hb3 : Below w0.heap.size wr w3 := ((below_alloc wr _).mono hwr).grown hgrow3 (by simp; omega) (fun q hq => ((HOC4.out.alloc (.cells #[.string x, .int .i64 y] 40)).lt q hq).1)
        have HR1 := Lib.hid (HBE.out.trans hb3)
        have HR2 := Lib.hid (show w3.ownsRow w0.heap.size 40 2 v2 (keepL k (l.take (i + 1))).length (flat (keepL k (l.take (i + 1)))) by
          rw [HC1.out, List.length_append, flat_append]
          exact hown3)
        clear hown3 hgrow3 hat3 hb3
        go_roundw
        case rel => exact ⟨i + 1, by omega, by go_num, HR2.out, HR1.out⟩
        case measure => simp [intOf]; omega
      · have HPRE := Lib.hid (pre_long hs)
        have hs2 : ¬ (x.size : Int) < (k.size : Int) := by omega
        rcases hc : ((x.extract 0 k.size).toList == k.toList) with _ | _
        all_goals rw [hc] at HPRE
        · obtain ⟨C, hC⟩ : ∃ C, C = keepL k (l.take i) := ⟨_, rfl⟩
          have hC1 : keepL k (l.take (i + 1)) = C ++ [(x, y)] := by
            rw [HTK.out, hC]
            unfold keepL
            rw [List.filter_append]
            simp [HPRE.out]
          have hCl : C.length ≤ 4096 := by
            have h1 := List.length_filter_le (fun t : Pr => !pre t.1 k) (l.take i)
            have h2 : (l.take i).length ≤ l.length := by simp; omega
            rw [hC]
            unfold keepL
            omega
          have hoc := HOC.out
          rw [← hC] at hoc
          have HOC4 := Lib.hid hoc
          have HC1 := Lib.hid hC1
          clear hoc hC hC1
          go_wp2_with (
            at_builtin
            (refine wpList_append_at_any _ rfl (.tmp 36) (.tmp 42) 29 rfl w0.heap.size 40 i0 (.agg #[.string ⟨#[]⟩, .int .i64 0]) 2 24 Try.underlying29 hi0 hz0 hz1 hz2 rfl (by decide) _ C.length _ rfl (HOC4.out.alloc _) (some ⟨wr.heap.size, 0, none⟩) 1 1 (flat [(x, y)]) rfl rfl (by intro h; cases h) (pair_new wr x y) (flat_one _) (by unfold maxLen; omega) (by omega) (by simp; omega) ?_)
            intro v2 w3 hown3 hgrow3 hat3)
          have hb3 : Below w0.heap.size wr w3 := ((below_alloc wr _).mono hwr).grown hgrow3 (by simp; omega) (fun q hq => ((HOC4.out.alloc (.cells #[.string x, .int .i64 y] 40)).lt q hq).1)
          have HR1 := Lib.hid (HBE.out.trans hb3)
          have HR2 := Lib.hid (show w3.ownsRow w0.heap.size 40 2 v2 (keepL k (l.take (i + 1))).length (flat (keepL k (l.take (i + 1)))) by
            rw [HC1.out, List.length_append, flat_append]
            exact hown3)
          clear hown3 hgrow3 hat3 hb3
          go_roundw
          case rel => exact ⟨i + 1, by omega, by go_num, HR2.out, HR1.out⟩
          case measure => simp [intOf]; omega
        · have hC1 : keepL k (l.take (i + 1)) = keepL k (l.take i) := by
            rw [HTK.out]
            unfold keepL
            rw [List.filter_append]
            simp [HPRE.out]
          have HC1 := Lib.hid hC1
          clear hC1
          go_wp2
          go_roundw
          case rel => exact ⟨i + 1, by omega, by go_num, by rw [HC1.out]; exact HOC.out, HBE.out⟩
          case measure => simp [intOf]; omega
    · obtain rfl : i = n := by omega
      rw [List.take_of_length_le (by rw [hlen]; exact Nat.le_refl _)] at HOC
      obtain ⟨C, hC⟩ : ∃ C, C = keepL k l := ⟨_, rfl⟩
      have hCl : C.length ≤ i := by
        rw [hC, ← hlen]
        unfold keepL
        exact List.length_filter_le _ _
      rw [← hC] at HOC
      have HCC := Lib.hid hC
      obtain ⟨ta, tc, rfl, hpo⟩ := Pairs.owned HOC.out
      have hrx := HR.out.kept (hb.block _ HR.out.lt)
      obtain ⟨x0, x1, x2, x3, f0, f1, f2, f3⟩ := four_of hbx
      obtain ⟨y0, y1, y2, y3, g0, g1, g2, g3⟩ := four_of hrx
      have HPO := Lib.hid hpo
      have hlr0 := hbx.lt
      have hlr1 := hrx.lt
      generalize C.length = N at *
      clear hpo hbx hrx hb hoc hC
      go_wp2
      refine bodyPost_ret (v := .tuple #[.agg #[.slice ta N tc, .int .i64 s, .int .i64 h, .int .i64 m], .int .i64 ((i : Int) - (N : Int))]) (by simp [results, Try.results14, go_sem, y0, y1, y2, y3]) rfl ?_
      refine ⟨ta, N, tc, rfl, ?_, ?_⟩
      · refine Pairs.mono (B := w0.heap.size) ?_ (by omega)
        repeat (first | (with_reducible refine Pairs.setQ ?_ (by omega)) | (with_reducible refine Pairs.drewQ ?_))
        rw [← HCC.out]
        exact HPO.out
      · repeat (first | (with_reducible refine Below.setCell ?_ (by simp <;> omega) _) | (with_reducible refine below_drewQ ?_))
        exact HB.out.trans (HBE.out.mono HB.out.size)
end Go.Proofs.Ytfhflijlgejknaa
