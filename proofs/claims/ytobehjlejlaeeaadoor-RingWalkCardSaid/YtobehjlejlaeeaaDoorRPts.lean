/- The points of the ring, and the owner of a place. -/
import Derived.Test.YtobehjlejlaeeaaDoorRItoa
import Derived.Test.YtobehjlejlaeeaaDoorLie
namespace Go.Proofs.YtobehjlejlaeeaaDoor
open Go.RowKit

def ptc (x : Nat × Nat) : List Value := [.int .u32 x.1, .int .i64 x.2]
theorem ptc_len (x : Nat × Nat) : (ptc x).length = 2 := rfl
theorem ptc_one (x : Nat × Nat) : ∀ u ∈ ptc x, u.oneCell' = true := by
  intro u hu
  simp [ptc] at hu
  rcases hu with rfl | rfl <;> rfl
/-- Points that lie in memory. -/
abbrev Points (w : World) (B : Nat) (a : Option Addr) (n c : Nat) (l : List (Nat × Nat)) : Prop := Lies w 58 2 B a n c (l.flatMap ptc)
theorem Points.cells {w : World} {B n c i b off : Nat} {l : List (Nat × Nat)} {p : Nat × Nat} (h : Points w B (some ⟨b, off, none⟩) n c l) (hp : l[i]? = some p) : w.cell? ⟨b, off + i * 2, none⟩ = some (.int .u32 p.1) ∧ w.cell? ⟨b, off + i * 2 + 1, none⟩ = some (.int .i64 p.2) := by
  have h0 := fm_at (f := ptc) ptc_len hp (j := 0) (by omega)
  have h1 := fm_at (f := ptc) ptc_len hp (j := 1) (by omega)
  exact ⟨h.cell h0, h.cell h1⟩
theorem far_run (a x : Nat) (ha : a < 4294967296) (hx : x < 4294967296) : ((x : Int) - (a : Int)) % 4294967296 = ((Mt.far a x : Nat) : Int) := by
  unfold Mt.far
  omega

set_option maxRecDepth 100000 in
set_option maxHeartbeats 4000000 in
theorem owner_any {B n c : Nat} {a : Option Addr} {l : List (Nat × Nat)} (at_ : Nat) (w : World) (h : Points w B a n c l) (h0 : 0 < n) (hl : l.length = n) (hn : n ≤ 512) (ha : at_ < 4294967296) (hp : ∀ p ∈ l, p.1 < 4294967296) :
    Calls Tryd.prog 24 #[.int .u32 at_, .slice a n c] w fun e w' => e = .returned (.int .i64 (Mt.owner at_ l : Nat)) ∧ Below w.heap.size w w' := by
  obtain ⟨b, off, rfl, hbl, _⟩ := h.addr h0
  obtain ⟨p0, hp0⟩ : ∃ p, l[0]? = some p := ⟨_, List.getElem?_eq_getElem (by omega)⟩
  have hhd : l.headD (0, 0) = p0 := by cases l with
    | nil => simp at hp0
    | cons x l => simpa using hp0
  obtain ⟨c0, c1⟩ := h.cells hp0
  simp only [Nat.zero_mul, Nat.add_zero] at c0 c1
  have HP := Lib.hid h
  have HHD := Lib.hid hhd
  have HLL := Lib.hid hl
  have HPP := Lib.hid hp
  have HP0 := Lib.hid hp0
  clear h hhd hl hp hp0
  go_enter Tryd.func24, Tryd.ntmps24
  go_wp2
  have hw0 : Whole (w.alloc (.cells #[.int .u32 p0.1, .int .i64 p0.2] 58)) w.heap.size 58 #[.int .u32 p0.1, .int .i64 p0.2] := heap_alloc_new _ _
  have hb0 := below_alloc w (.cells #[.int .u32 p0.1, .int .i64 p0.2] 58)
  clear c0 c1
  generalize w.alloc (.cells #[.int .u32 p0.1, .int .i64 p0.2] 58) = w0 at *
  go_loopw [13] (fun iv wr => ∃ i : Nat, i ≤ n ∧ iv = .int .i64 i ∧ (∃ f : Nat × Nat, f = Mt.firstOf at_ p0 (l.take i) ∧ Whole wr w.heap.size 58 #[.int .u32 f.1, .int .i64 f.2]) ∧ Below w.heap.size w wr) (fun iv _ => n - (intOf iv).toNat)
  case atStart => exact ⟨0, by omega, rfl, ⟨p0, rfl, hw0⟩, hb0⟩
  case round =>
    obtain ⟨i, hin, rfl, ⟨f, hf, hfw⟩, hb⟩ := hrel
    have hlt := hfw.lt
    by_cases hil : i < n
    · obtain ⟨p, hp⟩ : ∃ p, l[i]? = some p := ⟨_, List.getElem?_eq_getElem (by rw [HLL.out]; exact hil)⟩
      obtain ⟨c0, c1⟩ := Points.cells (HP.out.keep hb.size (fun ad e => hb.block _ (by cases e; exact hbl))) hp
      have hfl : f.1 < 4294967296 := by
        rw [hf]
        exact Mt.firstOf_all at_ (fun q => q.1 < 4294967296) _ _ (HPP.out _ (List.mem_of_getElem? HP0.out)) (fun q hq => HPP.out _ (List.mem_of_mem_take hq))
      have hpl : p.1 < 4294967296 := HPP.out _ (List.mem_of_getElem? hp)
      have e1 := far_run at_ p.1 ha hpl
      have e2 := far_run at_ f.1 ha hfl
      have f0 : wr.cell? ⟨w.heap.size, 0, none⟩ = some (.int .u32 f.1) := by rw [hfw.cell]; rfl
      have f1 : wr.cell? ⟨w.heap.size, 1, none⟩ = some (.int .i64 f.2) := by rw [hfw.cell]; rfl
      have z0 := hfw.free 0
      have z1 := hfw.free 1
      have HN := Lib.hid (show Mt.firstOf at_ p0 (l.take (i + 1)) = Mt.pick at_ f p by rw [Mt.firstOf_take at_ p0 p l i hp, hf])
      have HFW := Lib.hid hfw
      have HBB := Lib.hid hb
      clear hf hp hfw hb hw0 hb0
      by_cases hc : Mt.far at_ p.1 < Mt.far at_ f.1
      · have hpk : Mt.pick at_ f p = p := by unfold Mt.pick; rw [if_pos hc]
        rw [hpk] at HN
        have hst := (HFW.out.store 0 (.int .u32 p.1)).store 1 (.int .i64 p.2)
        have HW2 := Lib.hid (hst.kept ((below_alloc _ (.cells #[.int .u32 p.1, .int .i64 p.2] 58)).block _ hst.lt))
        have HB2 := Lib.hid (((HBB.out.setCell (p := ⟨w.heap.size, 0, none⟩) (Nat.le_refl _) (.int .u32 p.1)).setCell (p := ⟨w.heap.size, 1, none⟩) (Nat.le_refl _) (.int .i64 p.2)).alloc (by simp; omega) (.cells #[.int .u32 p.1, .int .i64 p.2] 58))
        clear hst
        go_wp2
        go_roundw
        case rel => exact ⟨i + 1, by omega, by go_num, ⟨p, HN.out.symm, by simpa using HW2.out⟩, HB2.out⟩
        case measure => simp [intOf]; omega
      · have hpk : Mt.pick at_ f p = f := by unfold Mt.pick; rw [if_neg hc]
        rw [hpk] at HN
        have HW2 := Lib.hid (HFW.out.kept ((below_alloc wr (.cells #[.int .u32 p.1, .int .i64 p.2] 58)).block _ hlt))
        have HB2 := Lib.hid (HBB.out.trans ((below_alloc wr (.cells #[.int .u32 p.1, .int .i64 p.2] 58)).mono HBB.out.size))
        go_wp2
        go_roundw
        case rel => exact ⟨i + 1, by omega, by go_num, ⟨f, HN.out.symm, HW2.out⟩, HB2.out⟩
        case measure => simp [intOf]; omega
    · obtain rfl : i = n := by omega
      rw [List.take_of_length_le (by rw [HLL.out]; exact Nat.le_refl _)] at hf
      have f1 : wr.cell? ⟨w.heap.size, 1, none⟩ = some (.int .i64 f.2) := by rw [hfw.cell]; rfl
      have HF := Lib.hid (show Mt.owner at_ l = f.2 by unfold Mt.owner; rw [HHD.out, hf])
      have HBB := Lib.hid hb
      clear hf hb hfw hw0 hb0
      go_wp2
      go_ret
      exact ⟨by rw [HF.out]; rfl, HBB.out⟩
end Go.Proofs.YtobehjlejlaeeaaDoor
