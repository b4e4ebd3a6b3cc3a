/- The network: Send that takes the packet. -/
import Derived.Test.YtmmjgpdclodlfaaN2
namespace Go.Proofs.Ytmmjgpdclodlfaa
open Go.RowKit

section
variable {B g c : Nat} {nodes : Int} {v : Value} {ps : List Pk} {a : Option Addr} {xs : List Int}
/-- What a Send that takes its packet leaves. -/
def SendOk (w : World) (B g : Nat) (nodes : Int) (v : Value) (ps : List Pk) (fr dst : Int) (xs : List Int) (e : Ending) (w' : World) : Prop :=
  e = .returned (.int .i64 0) ∧ ∃ u v', NAt w' B g nodes v' (ps ++ [⟨fr, dst, u, xs⟩]) ∧ Chg w w' (NB g v) ∧ (∀ q, v'.ownBlock = some q → v.ownBlock = some q ∨ w.heap.size ≤ q) ∧ (∀ q, u.ownBlock = some q → w.heap.size ≤ q)
/-- One packet behind the others: the row was appended to, the network's cell written. -/
theorem NAt.sent {w w1 w2 : World} {fr dst : Int} {u v' : Value} (h : NAt w B g nodes v ps) (hB : B ≤ w.heap.size) (hb : Below w.heap.size w w1)
    (hu : PkAt w1 w.heap.size ⟨fr, dst, u, xs⟩) (hgr : w1.grownBy w2 v.ownBlock) (hrow : FRow w2 B v' (ps.length + 1) (pcs ps ++ [.int .i64 fr, .int .i64 dst, u])) (hv : ∀ q, v'.ownBlock = some q → v.ownBlock = some q ∨ w1.heap.size ≤ q) :
    NAt (w2.setCell ⟨g, 1, none⟩ v') B g nodes v' (ps ++ [⟨fr, dst, u, xs⟩]) ∧ Chg w (w2.setCell ⟨g, 1, none⟩ v') (NB g v) := by
  have h1 := h.below hb
  have hglt := h1.net.lt
  have hvg : v.ownBlock ≠ some g := by
    intro hq
    obtain ⟨_, cur, hW⟩ := h1.row.block hq
    exact whole_ne h1.net hW (by decide) rfl
  have hvg' : v'.ownBlock ≠ some g := by
    intro hq
    rcases hv _ hq with h2 | h2
    · exact hvg h2
    · omega
  have hg2 : Whole w2 g 58 #[.int .i64 nodes, v] := h1.net.kept (hgr.block _ hglt (fun e => hvg e.symm))
  have hc2 : Chg w w2 (NB g v) := (Chg.ofBelow (NB g v) hb).trans (Chg.ofGrown hgr (fun k hk => .inr hk))
  have hc3 := hc2.set (b := g) (.inl rfl) 1 v'
  refine ⟨⟨hg2.store 1 v', h.geg, ?_, ?_, ?_⟩, hc3⟩
  · rw [List.length_append, pcs_append, pcs_one1]
    exact hrow.keep (fun q hq => Below.heap_setCell _ _ _ _ (by rintro rfl; exact hvg' hq))
  · intro p hp
    rw [List.mem_append, List.mem_singleton] at hp
    rcases hp with hp | rfl
    · exact h.pksChg hc3 p hp
    · refine ⟨(owns_kept hu.own (fun q hq => ?_)).mono hB, hu.byte, hu.small⟩
      obtain ⟨hge, cur, hW⟩ := hu.block hq
      have hne : v.ownBlock ≠ some q := by
        intro hq2
        obtain ⟨_, cur2, hW2⟩ := h1.row.block hq2
        exact whole_ne hW hW2 (by decide) rfl
      rw [Below.heap_setCell _ _ _ _ (by rintro rfl; exact whole_ne h1.net hW (by decide) rfl)]
      exact hgr.block _ hW.lt (fun e => hne e.symm)
  · rw [List.filterMap_append, List.nodup_append]
    refine ⟨h.apart, ?_, ?_⟩
    · simp only [List.filterMap_cons, List.filterMap_nil]
      split <;> simp
    · intro x hx y hy
      rintro rfl
      obtain ⟨p, hp, hpx⟩ := List.mem_filterMap.1 hx
      obtain ⟨_, cur, hW⟩ := (h.pks p hp).block hpx
      have hlt := hW.lt
      simp only [List.mem_filterMap, List.mem_singleton, exists_eq_left] at hy
      have := (hu.block hy).1
      omega
set_option maxRecDepth 100000 in
set_option maxHeartbeats 4000000 in
theorem send_ok (fr dst : Int) (w : World) (h : NAt w B g nodes v ps) (hp : PkIn w a c xs) (h1 : 0 ≤ fr) (h2 : fr < nodes) (h3 : 0 ≤ dst) (h4 : dst < nodes) (hn : ps.length < 4096) (hB : B ≤ w.heap.size) :
    Calls Try.prog 8 #[.pointer (some ⟨g, 0, none⟩), .agg #[.int .i64 fr, .int .i64 dst, .slice a xs.length c]] w fun e w' => SendOk w B g nodes v ps fr dst xs e w' := by
  obtain ⟨i0, hi0, hz0, hz1, hz2⟩ := info_of Try.infoP
  obtain ⟨w0, hw0⟩ : ∃ w0, w0 = w.alloc (.cells #[.int .i64 fr, .int .i64 dst, .slice a xs.length c] 32) := ⟨_, rfl⟩
  have hb0 : Below w.heap.size w w0 := by rw [hw0]; exact below_alloc _ _
  have hx0 : Whole w0 w.heap.size 32 #[.int .i64 fr, .int .i64 dst, .slice a xs.length c] := by rw [hw0]; exact heap_alloc_new _ _
  have H0 := Lib.hid (h.below hb0)
  have HB := Lib.hid hb0
  have HX := Lib.hid hx0
  have HP := Lib.hid (hp.below hb0)
  obtain ⟨⟨a0, a1, a2⟩, b0, b1, b2⟩ := three_of hx0
  obtain ⟨c0, c1, f0, f1⟩ := H0.out.cells
  obtain ⟨va, vc, hva, _⟩ := H0.out.row.lies
  have HW := Lib.hid h
  subst hva
  have HH := Lib.hid (fun x : Int => has_any x w0 H0.out)
  have HF := Lib.hid (show (decide (0 ≤ fr) && decide (fr < nodes)) = true by rw [Bool.and_eq_true, decide_eq_true_eq, decide_eq_true_eq]; omega)
  have HD := Lib.hid (show (decide (0 ≤ dst) && decide (dst < nodes)) = true by rw [Bool.and_eq_true, decide_eq_true_eq, decide_eq_true_eq]; omega)
  have hsz0 : w.heap.size < w0.heap.size := hx0.lt
  have hg0 : g < w0.heap.size := H0.out.net.lt
  clear h hb0 hx0 h1 h2 h3 h4 hp
  go_enter Try.func8, Try.ntmps8
  go_wp2_with fail
  rw [← hw0]
  clear hw0
  refine (HH.out fr).mono ?_
  rintro e w' ⟨rfl, hq⟩
  obtain rfl : w0 = w' := hq.symm
  rw [HF.out]
  go_wp2_with fail
  refine (HH.out dst).mono ?_
  rintro e w' ⟨rfl, hq⟩
  obtain rfl : w0 = w' := hq.symm
  rw [HD.out]
  go_wp2_with fail
  have hne0 : w.heap.size ≠ w0.heap.size := by omega
  have hne1 : g ≠ w0.heap.size := by omega
  go_region_law (first
    | (go_simp; go_at_call 21; refine Calls.mono (clone_at fr dst HP.out (by repeat (first | (with_reducible exact Below.refl _ _) | (with_reducible exact below_drewN _ 1) | (with_reducible exact ⟨rfl, rfl, rfl, Nat.le_refl _, fun _ _ => rfl⟩)))) ?_; rintro e w3 ⟨⟨ua, uc, rfl, hu⟩, hb3, hb4⟩
       have hn3 := H0.out.below hb3
       obtain ⟨d0, d1, g0, g1⟩ := hn3.cells
       have hg3 : g < w3.heap.size := hn3.net.lt
       have hz3 := hb3.size
       have hgne : g ≠ w3.heap.size := by omega
       have HB3 := Lib.hid hb3
       have HU := Lib.hid hu
       clear hn3 hu hb3 hb4)
    | (refine step_append_row _ rfl (.tmp 27) (.tmp 30) 45 rfl B i0 (.agg #[.int .i64 0, .int .i64 0, .slice none 0 0]) Try.underlying45 hi0 hz0 hz1 hz2 rfl (.slice va ps.length vc) ps.length (pcs ps) rfl ((H0.out.row.below HB3.out).below (below_alloc _ _)) ⟨w3.heap.size, 0, none⟩ 1 1 [.int .i64 fr, .int .i64 dst, .slice ua xs.length uc] rfl rfl (one_packet w3 _ _ _ _ rfl) (HU.out.one) (by unfold maxLen; omega) (by omega) (by simp; omega) ?_
       intro v5 w5 hown5 hgrow5 hv5
       have HSN := Lib.hid (HW.out.sent hB (HB.out.trans ((HB3.out.mono (by omega)).trans ((below_alloc w3 _).mono (by omega)))) ⟨owns_kept (HU.out.own.mono (by omega)) (fun q hq => (below_alloc w3 _).block q (HU.out.own.lt q hq).2), HU.out.byte, HU.out.small⟩ hgrow5 hown5 hv5)
       have HV5 := Lib.hid hv5
       obtain ⟨a5, c5, rfl, _⟩ := hown5.lies
       have hnw := ((HW.out.below HB.out).below HB3.out).below (below_alloc w3 (.cells #[.int .i64 fr, .int .i64 dst, .slice ua xs.length uc] 32))
       have hn5 : Whole w5 g 58 #[.int .i64 nodes, .slice va ps.length vc] := hnw.net.kept (hgrow5.block _ hnw.net.lt (fun e => by
         obtain ⟨_, cur, hW5⟩ := hnw.row.block e.symm
         exact whole_ne hnw.net hW5 (by decide) rfl))
       have k1 : w5.cell? ⟨g, 1, none⟩ = some (.slice va ps.length vc) := (by rw [hn5.cell]; rfl)
       have l1 := hn5.free 1
       clear hown5 hgrow5 hv5 hnw hn5))
  all_goals
    go_wp2
    go_ret
    exact ⟨rfl, _, _, HSN.out.1, HSN.out.2, fun q hq => (HV5.out q hq).imp_right (fun h => by simp at h; omega), fun q hq => by have := (HU.out.own.lt q hq).1; omega⟩
end
end Go.Proofs.Ytmmjgpdclodlfaa
