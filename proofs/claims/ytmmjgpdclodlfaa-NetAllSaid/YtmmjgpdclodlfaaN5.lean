/- The network: the first packet to a node. -/
import Derived.Test.YtmmjgpdclodlfaaN4
namespace Go.Proofs.Ytmmjgpdclodlfaa
open Go.RowKit

/-- The function that asks of a packet whether it is to that node. -/
def toF (tb : Nat) : Value := .func (.func 24) #[] #[.pointer (some ⟨tb, 0, none⟩)]
theorem one_of {w : World} {g : Nat} {t : TypeId} {x : Value} (h : Whole w g t #[x]) : w.cell? ⟨g, 0, none⟩ = some x := by rw [h.cell]; rfl
set_option maxRecDepth 100000 in
set_option maxHeartbeats 1000000 in
theorem isto_any {tb : Nat} {fr dst x : Int} {u : Value} (w : World) (h : Whole w tb 3 #[.int .i64 x]) :
    Calls Try.prog 24 #[.agg #[.int .i64 fr, .int .i64 dst, u], .pointer (some ⟨tb, 0, none⟩)] w fun e w' => e = .returned (.bool (dst == x)) ∧ Below w.heap.size w w' := by
  obtain ⟨w0, hw0⟩ : ∃ w0, w0 = w.alloc (.cells #[.int .i64 fr, .int .i64 dst, u] 32) := ⟨_, rfl⟩
  have hb0 : Below w.heap.size w w0 := by rw [hw0]; exact below_alloc _ _
  have hx0 : Whole w0 w.heap.size 32 #[.int .i64 fr, .int .i64 dst, u] := by rw [hw0]; exact heap_alloc_new _ _
  obtain ⟨⟨a0, a1, a2⟩, _⟩ := three_of hx0
  have c0 := one_of (h.kept (hb0.block _ h.lt))
  have HB := Lib.hid hb0
  have HW := Lib.hid hw0
  rw [hw0] at a0 a1 a2 c0
  clear h hb0 hx0 hw0
  go_enter Try.func24, Try.ntmps24
  go_wp2
  go_ret
  rw [← HW.out]
  exact ⟨rfl, HB.out⟩
theorem not_more {ps : List Pk} {i : Nat} {p : Pk} {x : Int} (h : ∀ q ∈ ps.take i, q.dst ≠ x) (hp : ps[i]? = some p) (hx : p.dst ≠ x) : ∀ q ∈ ps.take (i + 1), q.dst ≠ x := by
  rw [List.take_add_one, hp]
  intro q hq
  rw [List.mem_append] at hq
  rcases hq with hq | hq
  · exact h q hq
  · simp at hq
    subst hq
    exact hx
/-- Where the first packet to that node stands. -/
def FirstAt (ps : List Pk) (x k : Int) : Prop := (∃ (i : Nat) (p : Pk), k = (i : Int) ∧ ps[i]? = some p ∧ p.dst = x ∧ ∀ q ∈ ps.take i, q.dst ≠ x) ∨ (k = -1 ∧ ∀ q ∈ ps, q.dst ≠ x)
theorem take_snoc {ps : List Pk} {i : Nat} {p : Pk} (h : ps[i]? = some p) : ps.take (i + 1) = ps.take i ++ [p] := by
  rw [List.take_add_one, h]; rfl
set_option maxRecDepth 100000 in
set_option maxHeartbeats 4000000 in
theorem index_any {B n c tb : Nat} {a : Option Addr} {x : Int} {ps : List Pk} (w : World) (h : Lies w 32 3 B a n c (pcs ps)) (hl : ps.length = n) (hn : n ≤ 4096) (hsl : ∀ p ∈ ps, ∃ a n c, p.v = .slice a n c) (htb : Whole w tb 3 #[.int .i64 x]) :
    Calls Try.prog 25 #[.slice a n c, toF tb] w fun e w' => (∃ k : Int, e = .returned (.int .i64 k) ∧ FirstAt ps x k) ∧ Below w.heap.size w w' := by
  have HP := Lib.hid h
  have HT := Lib.hid htb
  have HS := Lib.hid hsl
  clear h htb hsl
  unfold toF
  go_enter Try.func25, Try.ntmps25
  go_wp2
  go_loopw [8] (fun iv wr => ∃ i : Nat, i ≤ n ∧ iv = .int .i64 i ∧ (∀ q ∈ ps.take i, q.dst ≠ x) ∧ Below w.heap.size w wr) (fun iv _ => n - (intOf iv).toNat)
  case atStart => exact ⟨0, by omega, rfl, by simp, Below.refl _ _⟩
  case round =>
    obtain ⟨i, hin, rfl, hnot, hb⟩ := hrel
    by_cases hil : i < n
    · obtain ⟨p, hp⟩ : ∃ p, ps[i]? = some p := ⟨_, List.getElem?_eq_getElem (by rw [hl]; exact hil)⟩
      obtain ⟨b, off, rfl, hbl, _⟩ := HP.out.addr (by omega)
      obtain ⟨e0, e1, e2⟩ := pcs_at hp
      have d0 := (hb.cell (p := ⟨b, off + i * 3, none⟩) hbl).trans (HP.out.cell e0)
      have d1 := (hb.cell (p := ⟨b, off + i * 3 + 1, none⟩) hbl).trans (HP.out.cell e1)
      have d2 := (hb.cell (p := ⟨b, off + i * 3 + 2, none⟩) hbl).trans (HP.out.cell e2)
      obtain ⟨pa, pn, pc, hv⟩ := HS.out p (List.mem_of_getElem? hp)
      rw [hv] at d2
      have HC := Lib.hid (isto_any (fr := p.fr) (dst := p.dst) (u := .slice pa pn pc) wr (HT.out.kept (hb.block _ HT.out.lt)))
      have HB := Lib.hid hb
      have HNOT := Lib.hid hnot
      have HPI := Lib.hid hp
      clear e0 e1 e2 hb hnot hp hv
      go_wp2_with fail
      refine HC.out.mono ?_
      rintro e w1 ⟨rfl, hb1⟩
      have HB1 := Lib.hid (HB.out.trans (hb1.mono HB.out.size))
      clear hb1
      by_cases hx : p.dst = x
      · have HE := Lib.hid (show (p.dst == x) = true by simpa using hx)
        have HX := Lib.hid hx
        clear hx
        rw [HE.out]
        go_wp2
        go_ret
        exact ⟨⟨_, rfl, .inl ⟨i, p, rfl, HPI.out, HX.out, HNOT.out⟩⟩, HB1.out⟩
      · have HE := Lib.hid (show (p.dst == x) = false by simpa using hx)
        have HX := Lib.hid hx
        clear hx
        rw [HE.out]
        go_wp2
        go_roundw
        case rel => exact ⟨i + 1, by omega, by go_num, not_more HNOT.out HPI.out HX.out, HB1.out⟩
        case measure => simp [intOf]; omega
    · obtain rfl : i = n := by omega
      rw [List.take_of_length_le (by rw [hl]; exact Nat.le_refl _)] at hnot
      have HN := Lib.hid hnot
      have HB := Lib.hid hb
      clear hnot hb
      go_wp2
      go_ret
      exact ⟨⟨_, rfl, .inr ⟨rfl, HN.out⟩⟩, HB.out⟩
end Go.Proofs.Ytmmjgpdclodlfaa
