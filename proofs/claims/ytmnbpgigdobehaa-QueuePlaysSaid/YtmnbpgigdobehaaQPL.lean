/- QueuePlays: both queues turned at once. -/
import Derived.Test.YtmnbpgigdobehaaQP0
namespace Go.Proofs.Ytmnbpgigdobehaa
open Go.RowKit Go.Conc

theorem Strs.below2 {w w' : World} {B n g c cap g2 c2 cap2 : Nat} {lost lost2 : Int} {ps ps2 : List Nat} {xs xs2 : List ByteArray} {a : Option Addr} {l : List ByteArray} (h : Strs w B a n l) (q1 : QS.QAt w B g c cap lost ps xs) (q2 : QS.QAt w B g2 c2 cap2 lost2 ps2 xs2) (hb : QS.Below2 w w' g c g2 c2) : Strs w' B a n l :=
  h.keep hb.size fun b hl hloc => hb.block b hl (hloc.ne q1.blk (by decide) q1.geg) (hloc.neChan q1.ch q1.gec) (hloc.ne q2.blk (by decide) q2.geg) (hloc.neChan q2.ch q2.gec)
theorem QS.Below2.at {w w' : World} {g c g2 c2 b : Nat} (ht : QS.Below2 w w' g c g2 c2) (hl : b < w.heap.size) (h1 : b ≠ g) (h2 : b ≠ c) (h3 : b ≠ g2) (h4 : b ≠ c2) (i : Nat) : w'.cell? ⟨b, i, none⟩ = w.cell? ⟨b, i, none⟩ := by
  have := ht.block b hl h1 h2 h3 h4
  simp only [World.cell?, this]
theorem late_one {w : World} {t : TypeId} {g : Nat} {a b c : Value} (h : Whole w g t #[a, b, c]) (o : Obj) : (w.alloc o).cell? ⟨g, 0, none⟩ = some a ∧ (w.alloc o).cell? ⟨g, 1, none⟩ = some b ∧ (w.alloc o).cell? ⟨g, 2, none⟩ = some c ∧ (w.alloc o).frozen? ⟨g, 0, none⟩ = false ∧ (w.alloc o).frozen? ⟨g, 1, none⟩ = false ∧ (w.alloc o).frozen? ⟨g, 2, none⟩ = false :=
  three_of (h.kept ((below_alloc w o).block _ h.lt))
theorem late_new (w : World) (t : TypeId) (a b c : Value) (o : Obj) : ((w.alloc (.cells #[a, b, c] t)).alloc o).cell? ⟨w.heap.size, 0, none⟩ = some a ∧ ((w.alloc (.cells #[a, b, c] t)).alloc o).cell? ⟨w.heap.size, 1, none⟩ = some b ∧ ((w.alloc (.cells #[a, b, c] t)).alloc o).cell? ⟨w.heap.size, 2, none⟩ = some c ∧ ((w.alloc (.cells #[a, b, c] t)).alloc o).frozen? ⟨w.heap.size, 0, none⟩ = false ∧ ((w.alloc (.cells #[a, b, c] t)).alloc o).frozen? ⟨w.heap.size, 1, none⟩ = false ∧ ((w.alloc (.cells #[a, b, c] t)).alloc o).frozen? ⟨w.heap.size, 2, none⟩ = false :=
  late_one (heap_alloc_new w _) o
theorem late_new2 (w : World) (t : TypeId) (a b c : Value) (o : Obj) : ((w.alloc o).alloc (.cells #[a, b, c] t)).cell? ⟨w.heap.size + 1, 0, none⟩ = some a ∧ ((w.alloc o).alloc (.cells #[a, b, c] t)).cell? ⟨w.heap.size + 1, 1, none⟩ = some b ∧ ((w.alloc o).alloc (.cells #[a, b, c] t)).cell? ⟨w.heap.size + 1, 2, none⟩ = some c ∧ ((w.alloc o).alloc (.cells #[a, b, c] t)).frozen? ⟨w.heap.size + 1, 0, none⟩ = false ∧ ((w.alloc o).alloc (.cells #[a, b, c] t)).frozen? ⟨w.heap.size + 1, 1, none⟩ = false ∧ ((w.alloc o).alloc (.cells #[a, b, c] t)).frozen? ⟨w.heap.size + 1, 2, none⟩ = false := by
  have hz : (w.alloc o).heap.size = w.heap.size + 1 := by simp
  have h : Whole ((w.alloc o).alloc (.cells #[a, b, c] t)) (w.heap.size + 1) t #[a, b, c] := by rw [← hz]; exact heap_alloc_new _ _
  exact three_of h
/-- Three cells written. -/
abbrev set3 (w : World) (g : Nat) (a b c : Value) : World := ((w.setCell ⟨g, 0, none⟩ a).setCell ⟨g, 1, none⟩ b).setCell ⟨g, 2, none⟩ c
theorem set3_whole {w : World} {g : Nat} {t : TypeId} {x y z : Value} (h : Whole w g t #[x, y, z]) (a b c : Value) : Whole (set3 w g a b c) g t #[a, b, c] := by
  have := ((h.store 0 a).store 1 b).store 2 c
  simpa using this
theorem set3_other {w : World} {g g' : Nat} {t : TypeId} {cs : Array Value} (h : Whole w g' t cs) (ne : g' ≠ g) (a b c : Value) : Whole (set3 w g a b c) g' t cs :=
  ((h.kept (Below.heap_setCell _ ⟨g, 0, none⟩ _ _ ne)).kept (Below.heap_setCell _ ⟨g, 1, none⟩ _ _ ne)).kept (Below.heap_setCell _ ⟨g, 2, none⟩ _ _ ne)
theorem set3_below {B : Nat} {v w : World} {g : Nat} (h : Below B v w) (hg : B ≤ g) (a b c : Value) : Below B v (set3 w g a b c) :=
  ((h.setCell (p := ⟨g, 0, none⟩) hg _).setCell (p := ⟨g, 1, none⟩) hg _).setCell (p := ⟨g, 2, none⟩) hg _
theorem set3_strs {w : World} {B n g : Nat} {x y z : Value} {ad : Option Addr} {l : List ByteArray} (h : Whole w g 29 #[x, y, z]) (hs : Strs w B ad n l) (hg : B ≤ g) (a b c : Value) : Strs (set3 w g a b c) B ad n l :=
  ((hs.setCell h (by decide) hg 0 a).setCell (h.store 0 a) (by decide) hg 1 b).setCell ((h.store 0 a).store 1 b) (by decide) hg 2 c
theorem two_new (w : World) (t : TypeId) (A C : Array Value) : Whole ((w.alloc (.cells A t)).alloc (.cells C t)) w.heap.size t A ∧ Whole ((w.alloc (.cells A t)).alloc (.cells C t)) (w.heap.size + 1) t C ∧ Below w.heap.size w ((w.alloc (.cells A t)).alloc (.cells C t)) := by
  have hz : (w.alloc (.cells A t)).heap.size = w.heap.size + 1 := by simp
  have h0 : Whole (w.alloc (.cells A t)) w.heap.size t A := heap_alloc_new w _
  have h1 : Whole ((w.alloc (.cells A t)).alloc (.cells C t)) (w.heap.size + 1) t C := by rw [← hz]; exact heap_alloc_new _ _
  have hb := below_alloc (w.alloc (.cells A t)) (.cells C t)
  exact ⟨h0.kept (hb.block _ h0.lt), h1, (below_alloc w _).trans (hb.mono (by simp))⟩
section
variable {w W W' : World} {gq gw i r : Nat} {S D : Nat → Side}
/-- The queues of both sides have been turned. -/
theorem JPD.poured (h : JPD w W gq gw S D) (hi : i < 2) (hr : r < 2) (hri : r ≠ i) (hb : QS.Below2 W W' (S i).g (S i).c (S r).g (S r).c) {s1 s2 : Side} (hg1 : s1.g = (S i).g) (hc1 : s1.c = (S i).c) (hg2 : s2.g = (S r).g) (hc2 : s2.c = (S r).c) (q1 : QueAt w W' s1) (q2 : QueAt w W' s2) : JPD w W' gq gw (side (side S i s1) r s2) D := by
  have hsi : QS.QAt W w.heap.size (S i).g (S i).c (S i).cap (S i).L (S i).ps (S i).xs := h.q i hi
  have hsr : QS.QAt W w.heap.size (S r).g (S r).c (S r).cap (S r).L (S r).ps (S r).xs := h.q r hr
  have hkeep : ∀ t cs g, Whole W g t cs → t ≠ 66 → Whole W' g t cs := fun t cs g hw hn => hw.kept (hb.block g hw.lt (whole_ne hw hsi.blk hn) (hsi.ch.no hw) (whole_ne hw hsr.blk hn) (hsr.ch.no hw))
  have hall : ∀ k, k < 2 → k = i ∨ k = r := fun k hk => by omega
  have e1 : side (side S i s1) r s2 i = s1 := by rw [side_other _ _ (Ne.symm hri), side_same]
  have e2 : side (side S i s1) r s2 r = s2 := side_same _ _ _
  have hgg : ∀ k, k < 2 → (side (side S i s1) r s2 k).g = (S k).g := fun k hk => by
    rcases hall k hk with rfl | rfl
    · rw [e1, hg1]
    · rw [e2, hg2]
  have hccc : ∀ k, k < 2 → (side (side S i s1) r s2 k).c = (S k).c := fun k hk => by
    rcases hall k hk with rfl | rfl
    · rw [e1, hc1]
    · rw [e2, hc2]
  refine ⟨fun k hk => ?_, fun k hk => ?_, ?_, hkeep _ _ _ h.tw (by decide), by rw [hgg 0 (by omega), hgg 1 (by omega)]; exact h.ng, by rw [hccc 0 (by omega), hccc 1 (by omega)]; exact h.ncc, h.b.trans (hb.below hsi.geg hsi.gec hsr.geg hsr.gec h.b.size), h.geq, h.gew⟩
  · rcases hall k hk with rfl | rfl
    · rw [e1]; exact q1
    · rw [e2]; exact q2
  · have hd := h.d k hk
    exact ⟨hd.st.below2 hsi hsr hb, hd.nil, hd.nc, hd.lr, hd.top, hd.cp⟩
  · rw [hgg 0 (by omega), hgg 1 (by omega)]; exact hkeep _ _ _ h.tq (by decide)
theorem JPD.four (h : JPD w W gq gw S D) {p0 p1 : Nat} (e0 : (S 0).g = p0) (e1 : (S 1).g = p1) : W.cell? ⟨gq, 0, none⟩ = some (.pointer (some ⟨p0, 0, none⟩)) ∧ W.cell? ⟨gw, 0, none⟩ = some (.slice (D 0).a (D 0).xs.length (D 0).k) ∧ W.cell? ⟨gq, 1, none⟩ = some (.pointer (some ⟨p1, 0, none⟩)) ∧ W.cell? ⟨gw, 3, none⟩ = some (.slice (D 1).a (D 1).xs.length (D 1).k) := by
  subst e0 e1
  exact ⟨by rw [h.tq.cell]; rfl, by rw [h.tw.cell]; rfl, by rw [h.tq.cell]; rfl, by rw [h.tw.cell]; rfl⟩
theorem two_sides_ne (h : JPD w W gq gw S D) (hi : i < 2) (hr : r < 2) (hri : r ≠ i) : (S i).g ≠ (S r).g ∧ (S i).c ≠ (S r).c := by
  rcases two_cases hi with rfl | rfl <;> rcases two_cases hr with rfl | rfl
  · exact absurd rfl hri
  · exact ⟨h.ng, h.ncc⟩
  · exact ⟨h.ng.symm, h.ncc.symm⟩
  · exact absurd rfl hri
end
/-- A script that came in. -/
def OpsIn (w : World) (a : Option Addr) (n : Nat) : Prop :=
  n = 0 ∨ ∃ b off, a = some ⟨b, off, none⟩ ∧ b < w.heap.size ∧ ∀ i, i < n → ∃ (kd : Int) (sec : Bool) (la : Option Addr) (ln lc : Nat) (ls : List ByteArray),
    w.cell? ⟨b, off + i * 3, none⟩ = some (.int .i64 kd) ∧ w.cell? ⟨b, off + i * 3 + 1, none⟩ = some (.bool sec) ∧ w.cell? ⟨b, off + i * 3 + 2, none⟩ = some (.slice la ln lc) ∧
    Strs w w.heap.size la ln ls ∧ ln ≤ 140737488351232
end Go.Proofs.Ytmnbpgigdobehaa
