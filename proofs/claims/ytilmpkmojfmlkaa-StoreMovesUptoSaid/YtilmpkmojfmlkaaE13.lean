/- The last span ends. -/
import Derived.Test.YtilmpkmojfmlkaaE12
namespace Go.Proofs.Ytilmpkmojfmlkaa
open Go.RowKit

theorem spc_end {l : List Sp} {x : Sp} (hx : l.getLast? = some x) (rev : Int) : spc (endB l rev) = (spc l).set ((l.length - 1) * 2 + 1) (.int .i64 rev) := by
  have he : endB l rev = l.dropLast ++ [⟨x.s, rev⟩] := by unfold endB; rw [hx]
  have hs := last_split hx
  have hn : (spc l.dropLast).length = (l.length - 1) * 2 := by rw [spc_length, List.length_dropLast]
  rw [he, spc_append]
  conv => rhs; rw [hs, spc_append]
  rw [List.set_append_right _ _ (by rw [hn]; simp), hn]
  have : (l.dropLast ++ [x]).length - 1 = l.length - 1 := by simp
  rw [this]
  simp [spc]
theorem EntAt.row_at {w : World} {B g : Nat} {t : Tp} {l : List Sp} {p0 p1 p2 : Nat} {a : Option Addr} {n c : Nat} (h : EntAt w B g t l p0 p1 p2 a n c) (hn : 0 < n) : ∃ b, a = some ⟨b, 0, none⟩ ∧ b ≠ g := by
  rcases h.row.2 with ⟨_, h0⟩ | ⟨b, cap, cur, hv, _, hh, _⟩
  · omega
  · injection hv with e1 _ _
    refine ⟨b, e1, fun e => ?_⟩
    have hb := h.blk
    unfold Whole at hb
    rw [← e, hh] at hb
    injection hb with hb
    injection hb with _ ht _
    exact absurd ht (by decide)
set_option maxHeartbeats 1000000 in
theorem eend_any {w : World} {B g : Nat} {t : Tp} {l : List Sp} {p0 p1 p2 : Nat} {b n c : Nat} (h : EntAt w B g t l p0 p1 p2 (some ⟨b, 0, none⟩) n c) (hne : l ≠ []) (hbg : b ≠ g) (rev : Int) :
    Calls Try.prog 31 #[.pointer (some ⟨g, 0, none⟩), .int .i64 rev] w fun e w' => e = .returned (.tuple #[]) ∧ EntAt w' B g t (endB l rev) p0 p1 p2 (some ⟨b, 0, none⟩) n c ∧ w.grownBy w' (some b) ∧ w'.heap.size = w.heap.size := by
  obtain ⟨x, hx⟩ : ∃ x, l.getLast? = some x := by
    cases hl : l.getLast? with
    | none => exact absurd (List.getLast?_eq_none_iff.1 hl) hne
    | some x => exact ⟨x, rfl⟩
  have hlen := h.sp.len
  have hn : 1 ≤ n := by
    cases l with
    | nil => cases hx
    | cons y l => simp at hlen; omega
  have hl : l[n - 1]? = some x := by rw [← hlen, ← List.getLast?_eq_getElem?]; exact hx
  have hbig := h.sp.big
  have hroom := h.sp.room
  unfold maxLen at hbig
  have hw : IntKind.i64.wrap ((n : Int) - 1) = ((n - 1 : Nat) : Int) := by rw [IntWalk.i64_in _ (by omega)]; omega
  obtain ⟨hst, hgr⟩ := h.row.stored ((n - 1) * 2 + 1) (.int .i64 rev)
  have hfr : w.drew.frozen? ⟨b, (n - 1) * 2 + 1, none⟩ = false := h.row.frozenAt _
  obtain ⟨b2, off, he, hb, g1, g2⟩ := h.sp.cells hl
  injection he with he
  injection he with e1 e2 _
  subst e1
  subst e2
  rw [Nat.zero_add] at g1 g2
  have g12 : w.drew.cell? ⟨b, (n - 1) * 2, none⟩ = some (.int .i64 x.s) := g1
  have g22 : w.drew.cell? ⟨b, (n - 1) * 2 + 1, none⟩ = some (.int .i64 x.u) := g2
  have hc : w.drew.cell? ⟨g, 3, none⟩ = some (.slice (some ⟨b, 0, none⟩) n c) := by
    show w.cell? _ = _
    rw [h.blk.cell]; rfl
  have HP := Lib.hid (show EntAt (w.setCell ⟨b, (n - 1) * 2 + 1, none⟩ (.int .i64 rev)) B g t (endB l rev) p0 p1 p2 (some ⟨b, 0, none⟩) n c from
    ⟨h.blk.kept (Below.heap_setCell _ _ _ _ (fun e => hbg e.symm)), by rw [spc_end hx, hlen]; exact hst⟩)
  have HG := Lib.hid hgr
  have HH := Lib.hid (show EntAt w B g t l p0 p1 p2 (some ⟨b, 0, none⟩) n c from h)
  clear h hst hgr hx hne hlen hl hb g1 g2 hbig hroom
  go_enter Try.func31, Try.ntmps31
  go_region
  exact ⟨rfl, .tuple #[], (by simp [results, Try.results31, go_sem]), rfl, ⟨HP.out.blk.kept rfl, owns_keptN HP.out.row (fun _ _ => rfl)⟩, ⟨HG.out.os, HG.out.tape, HG.out.output, HG.out.size, HG.out.block⟩, by simp [World.setCell, World.drew]⟩
end Go.Proofs.Ytilmpkmojfmlkaa
