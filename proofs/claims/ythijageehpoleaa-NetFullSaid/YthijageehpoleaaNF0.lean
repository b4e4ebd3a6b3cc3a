/- NetFull: a network of empty packets. -/
import Derived.Test.YthijageehpoleaaN11
namespace Go.Proofs.Ythijageehpoleaa
open Go.RowKit

def AllZ (ps : List Pk) : Prop := ∀ p ∈ ps, p.fr = 0 ∧ p.dst = 0 ∧ p.xs = []
/-- So many empty packets are on their way. -/
def FS (w W : World) (g n : Nat) : Prop := (∃ v ps, NAt W g g 1 v ps ∧ ps.length = n ∧ AllZ ps) ∧ Below w.heap.size w W ∧ w.heap.size ≤ g ∧ g ≤ W.heap.size
section
variable {w W W' : World} {g n : Nat}
theorem FS.next {v v' : Value} {ps ps' : List Pk} (h : FS w W g n) (hN : NAt W g g 1 v ps) (hN' : NAt W' g g 1 v' ps') (hc : Chg W W' (NB g v)) (hz : AllZ ps') {m : Nat} (hm : ps'.length = m) : FS w W' g m := by
  obtain ⟨_, hb, hg, hgw⟩ := h
  refine ⟨⟨v', ps', hN', hm, hz⟩, hb.trans (hc.below (fun k hk => ?_) hb.size), hg, Nat.le_trans hgw hc.size⟩
  have := hN.nb k hk
  omega
theorem FS.below (h : FS w W g n) (hb : Below W.heap.size W W') : FS w W' g n := by
  obtain ⟨⟨v, ps, hN, hl, hz⟩, hb0, hg, hgw⟩ := h
  exact ⟨⟨v, ps, hN.below hb, hl, hz⟩, hb0.trans (hb.mono hb0.size), hg, Nat.le_trans hgw hb.size⟩
theorem zero_in (W : World) : PkIn W none 0 [] := ⟨IsB.empty _ _, fun _ => ⟨rfl, rfl⟩, Nat.le_refl _, by simp [maxLen], by simp⟩
theorem AllZ.snoc {ps : List Pk} (h : AllZ ps) (u : Value) {fr dst : Int} {xs : List Int} (h1 : fr = 0) (h2 : dst = 0) (h3 : xs = []) : AllZ (ps ++ [⟨fr, dst, u, xs⟩]) := by
  intro p hp
  rw [List.mem_append, List.mem_singleton] at hp
  rcases hp with hp | rfl
  · exact h p hp
  · exact ⟨h1, h2, h3⟩
theorem FS.send_ok (h : FS w W g n) (hn : n < 4096) : Calls Try.prog 10 #[.pointer (some ⟨g, 0, none⟩), .agg #[.int .i64 0, .int .i64 0, .slice none 0 0]] W fun e w' => e = .returned (.int .i64 0) ∧ FS w w' g (n + 1) := by
  obtain ⟨⟨v, ps, hN, hl, hz⟩, hb0, hg, hgw⟩ := h
  refine (Go.Proofs.Ythijageehpoleaa.send_ok 0 0 W hN (zero_in W) (by decide) (by decide) (by decide) (by decide) (by omega) hgw).mono ?_
  rintro e w' ⟨rfl, u, v', hN', hc, _⟩
  exact ⟨rfl, FS.next ⟨⟨v, ps, hN, hl, hz⟩, hb0, hg, hgw⟩ hN hN' hc (hz.snoc u rfl rfl rfl) (by rw [List.length_append, hl]; rfl)⟩
theorem FS.send_full (h : FS w W g n) (hn : 4096 ≤ n) : Calls Try.prog 10 #[.pointer (some ⟨g, 0, none⟩), .agg #[.int .i64 0, .int .i64 0, .slice none 0 0]] W fun e w' => e = .returned (.int .i64 3) ∧ FS w w' g n := by
  obtain ⟨⟨v, ps, hN, hl, hz⟩, hb0, hg, hgw⟩ := h
  refine (Go.Proofs.Ythijageehpoleaa.send_full (xs := []) 0 0 W hN (by decide) (by decide) (by decide) (by decide) (by omega)).mono ?_
  rintro e w' ⟨rfl, hb⟩
  exact ⟨rfl, FS.below ⟨⟨v, ps, hN, hl, hz⟩, hb0, hg, hgw⟩ hb⟩
theorem FS.copy_ok (h : FS w W g n) (hn : n < 4096) (h0 : 0 < n) : Calls Try.prog 15 #[.pointer (some ⟨g, 0, none⟩), .int .i64 0] W fun e w' => e = .returned (.int .i64 0) ∧ FS w w' g (n + 1) := by
  obtain ⟨⟨v, ps, hN, hl, hz⟩, hb0, hg, hgw⟩ := h
  obtain ⟨p, hp⟩ : ∃ p, ps[0]? = some p := ⟨_, List.getElem?_eq_getElem (by omega)⟩
  obtain ⟨z1, z2, z3⟩ := hz p (List.mem_of_getElem? hp)
  refine (Go.Proofs.Ythijageehpoleaa.copy_ok (i := 0) W hN hp (by omega) (by omega) (by omega) (by omega) (by omega) hgw).mono ?_
  rintro e w' ⟨rfl, u, v', hN', hc, _⟩
  exact ⟨rfl, FS.next ⟨⟨v, ps, hN, hl, hz⟩, hb0, hg, hgw⟩ hN hN' hc (hz.snoc u z1 z2 z3) (by rw [List.length_append, hl]; rfl)⟩
theorem FS.copy_full (h : FS w W g n) (hn : n = 4096) : Calls Try.prog 15 #[.pointer (some ⟨g, 0, none⟩), .int .i64 0] W fun e w' => e = .returned (.int .i64 3) ∧ FS w w' g n := by
  obtain ⟨⟨v, ps, hN, hl, hz⟩, hb0, hg, hgw⟩ := h
  obtain ⟨p, hp⟩ : ∃ p, ps[0]? = some p := ⟨_, List.getElem?_eq_getElem (by omega)⟩
  obtain ⟨z1, z2, z3⟩ := hz p (List.mem_of_getElem? hp)
  refine (Go.Proofs.Ythijageehpoleaa.copy_full (i := 0) W hN hp (by omega) (by omega) (by omega) (by omega) (by omega)).mono ?_
  rintro e w' ⟨rfl, hb⟩
  exact ⟨rfl, FS.below ⟨⟨v, ps, hN, hl, hz⟩, hb0, hg, hgw⟩ hb⟩
theorem FS.copy_none (h : FS w W g 0) : Calls Try.prog 15 #[.pointer (some ⟨g, 0, none⟩), .int .i64 0] W fun e w' => e = .returned (.int .i64 4) ∧ FS w w' g 0 := by
  have h' := h
  obtain ⟨⟨v, ps, hN, hl, hz⟩, hb0, hg, hgw⟩ := h
  refine (Go.Proofs.Ythijageehpoleaa.copy_none 0 W hN (by omega)).mono ?_
  rintro e w' ⟨rfl, rfl⟩
  exact ⟨rfl, h'⟩
theorem FS.len (h : FS w W g n) : Calls Try.prog 20 #[.pointer (some ⟨g, 0, none⟩)] W fun e w' => e = .returned (.int .i64 (n : Int)) ∧ FS w w' g n := by
  have h' := h
  obtain ⟨⟨v, ps, hN, hl, hz⟩, hb0, hg, hgw⟩ := h
  refine (len_any W hN).mono ?_
  rintro e w' ⟨rfl, rfl⟩
  exact ⟨by rw [hl], h'⟩
theorem FS.lose (h : FS w W g n) (hn : n ≤ 4096) : Calls Try.prog 19 #[.pointer (some ⟨g, 0, none⟩), .int .i64 0] W fun e w' => e = .returned (.int .i64 (n : Int)) ∧ FS w w' g 0 := by
  have h' := h
  obtain ⟨⟨v, ps, hN, hl, hz⟩, hb0, hg, hgw⟩ := h
  have ho : others ps 0 = [] := by
    unfold others
    rw [List.filter_eq_nil_iff]
    intro p hp
    simp [(hz p hp).2.1]
  refine (lose_any 0 W hN (by omega)).mono ?_
  rintro e w' ⟨rfl, v', hN', hc, _⟩
  rw [ho] at hN' ⊢
  exact ⟨by rw [hl]; rfl, FS.next h' hN hN' hc (by intro p hp; cases hp) rfl⟩
end
end Go.Proofs.Ythijageehpoleaa
