/- The network: Lose. -/
import Derived.Test.YtmmjgpdclodlfaaN8
namespace Go.Proofs.Ytmmjgpdclodlfaa
open Go.RowKit

section
variable {B g : Nat} {nodes : Int} {v : Value} {ps : List Pk}
theorem NAt.slices {w : World} (h : NAt w B g nodes v ps) : ∀ p ∈ ps, ∃ a n c, p.v = .slice a n c := fun p hp => by
  obtain ⟨a, c, hv, _⟩ := (h.pks p hp).isb
  exact ⟨a, _, c, hv⟩
theorem others_len (ps : List Pk) (x : Int) : (others ps x).length ≤ ps.length := List.length_filter_le _ _
/-- The row is another, in the same block. -/
theorem NAt.reset {w w1 : World} {v' : Value} {ps' : List Pk} (h : NAt w B g nodes v ps) (hc : Chg w w1 (fun k => v.ownBlock = some k)) (hrow : FRow w1 B v' ps'.length (pcs ps')) (hv : ∀ q, v'.ownBlock = some q → v.ownBlock = some q ∨ w.heap.size ≤ q) (hs : ps'.Sublist ps) :
    NAt (w1.setCell ⟨g, 1, none⟩ v') B g nodes v' ps' ∧ Chg w (w1.setCell ⟨g, 1, none⟩ v') (NB g v) := by
  have hvg : v.ownBlock ≠ some g := by
    intro hq
    obtain ⟨_, cur, hW⟩ := h.row.block hq
    exact whole_ne h.net hW (by decide) rfl
  have hvg' : v'.ownBlock ≠ some g := by
    intro hq
    rcases hv _ hq with h1 | h1
    · exact hvg h1
    · exact absurd h.net.lt (Nat.not_lt.2 h1)
  have hg1 : Whole w1 g 58 #[.int .i64 nodes, v] := h.net.kept (hc.block _ h.net.lt hvg)
  have hc2 : Chg w w1 (NB g v) := hc.mono (fun k _ hk => .inr hk)
  have hc3 := hc2.set (b := g) (.inl rfl) 1 v'
  exact ⟨⟨hg1.store 1 v', h.geg, hrow.keep (fun q hq => Below.heap_setCell _ _ _ _ (by rintro rfl; exact hvg' hq)), fun p hp => h.pksChg hc3 p (hs.subset hp), h.apart.sublist (hs.filterMap _)⟩, hc3⟩
set_option maxRecDepth 100000 in
set_option maxHeartbeats 4000000 in
theorem lose_any (x : Int) (w : World) (h : NAt w B g nodes v ps) (hn : ps.length ≤ 4096) :
    Calls Try.prog 17 #[.pointer (some ⟨g, 0, none⟩), .int .i64 x] w fun e w' => e = .returned (.int .i64 ((ps.length - (others ps x).length : Nat) : Int)) ∧ ∃ v', NAt w' B g nodes v' (others ps x) ∧ Chg w w' (NB g v) ∧ v'.ownBlock = v.ownBlock := by
  obtain ⟨w0, hw0⟩ : ∃ w0, w0 = w.alloc (.cells #[.int .i64 x] 3) := ⟨_, rfl⟩
  have hb0 : Below w.heap.size w w0 := by rw [hw0]; exact below_alloc _ _
  have hx0 : Whole w0 w.heap.size 3 #[.int .i64 x] := by rw [hw0]; exact heap_alloc_new _ _
  have h0 := h.below hb0
  obtain ⟨c0, c1, f0, f1⟩ := h0.cells
  obtain ⟨va, vc, hva, _⟩ := h0.row.lies
  have HD := Lib.hid (del_any (x := x) w0 h0.row rfl hn h0.slices hx0)
  have HN := Lib.hid h0
  have HC0 := Lib.hid (Chg.ofBelow (NB g v) hb0)
  have hol := others_len ps x
  have hg0 := h0.net.lt
  subst hva
  unfold toF at HD
  have q1 := c1
  rw [hw0] at q1
  clear h hb0 hx0 h0
  go_enter Try.func17, Try.ntmps17
  go_wp2_with fail
  rw [← hw0]
  clear hw0 q1
  refine HD.out.mono ?_
  rintro e w1 ⟨v', rfl, hrow, hv, hc⟩
  obtain ⟨hN, hC⟩ := HN.out.reset hc hrow (fun q hq => .inl (hv ▸ hq)) (List.filter_sublist)
  have HN1 := Lib.hid hN
  have HC1 := Lib.hid (HC0.out.trans hC)
  have HV := Lib.hid hv
  obtain ⟨a1, c1', rfl, _⟩ := hrow.lies
  have hg1 : Whole w1 g 58 #[.int .i64 nodes, .slice va ps.length vc] := HN.out.net.kept (hc.block _ HN.out.net.lt (by
    intro hq
    obtain ⟨_, cur, hW⟩ := HN.out.row.block hq
    exact whole_ne HN.out.net hW (by decide) rfl))
  have k1 : w1.cell? ⟨g, 1, none⟩ = some (.slice va ps.length vc) := by rw [hg1.cell]; rfl
  have l1 := hg1.free 1
  clear hN hC hrow hv hc hg1 c0 c1 f0 f1 HD HN
  generalize hm : (others ps x).length = m at *
  have HMM := Lib.hid hm
  clear hm
  go_wp2
  go_ret
  refine ⟨?_, _, HN1.out, HC1.out, HV.out⟩
  rw [HMM.out, Int.ofNat_sub hol]
  rfl
end
end Go.Proofs.Ytmmjgpdclodlfaa
