/- NetKeeps: rows of bytes beside a network. -/
import Derived.Test.YthijageehpoleaaN13
namespace Go.Proofs.Ythijageehpoleaa
open Go.RowKit

theorem PkAt.chg {w w' : World} {B B' g : Nat} {nodes : Int} {v : Value} {ps : List Pk} {p : Pk} (hp : PkAt w B' p) (h : NAt w B g nodes v ps) (hc : Chg w w' (NB g v)) : PkAt w' B' p := hp.keep fun q hq => by
  obtain ⟨_, cur, hW⟩ := hp.block hq
  refine hc.block _ hW.lt ?_
  rintro (rfl | hk)
  · exact whole_ne h.net hW (by decide) rfl
  · obtain ⟨_, cur2, hW2⟩ := h.row.block hk
    exact whole_ne hW hW2 (by decide) rfl
theorem PkAt.mono {w : World} {B B' : Nat} {p : Pk} (h : PkAt w B p) (hb : B' ≤ B) : PkAt w B' p := ⟨h.own.mono hb, h.byte, h.small⟩
theorem PkAt.below {w w' : World} {B : Nat} {p : Pk} (h : PkAt w B p) (hb : Below w.heap.size w w') : PkAt w' B p := h.keep fun q hq => by
  obtain ⟨_, cur, hW⟩ := h.block hq
  exact hb.block _ hW.lt
theorem PkAt.put {W : World} {B k d c : Nat} {fr dst : Int} {n : Nat} {xs : List Int} {y : Int} (h : PkAt W B ⟨fr, dst, .slice (some ⟨k, 0, none⟩) n c, xs⟩) (hn : xs.length = n) (hy : 0 ≤ y ∧ y < 256) : PkAt (W.setCell ⟨k, d, none⟩ (.int .u8 y)) B ⟨fr, dst, .slice (some ⟨k, 0, none⟩) n c, xs.set d y⟩ := by
  subst hn
  have ho := h.own
  simp only at ho
  refine ⟨?_, ?_, by simp only [List.length_set]; exact h.small⟩
  · simp only [List.length_set, List.map_set]
    exact (ho.stored d (.int .u8 y)).1
  · intro x hx
    rcases List.mem_or_eq_of_mem_set hx with hx | rfl
    · exact h.byte x hx
    · exact hy
theorem NAt.farB {W : World} {B g k : Nat} {nodes : Int} {v : Value} {ps : List Pk} {cs : Array Value} (h : NAt W B g nodes v ps) (hk : Whole W k 5 cs) (hne : ∀ p ∈ ps, p.v.ownBlock ≠ some k) (j : Nat) (u : Value) : NAt (W.setCell ⟨k, j, none⟩ u) B g nodes v ps := by
  refine ⟨h.net.kept (Below.heap_setCell _ _ _ _ (whole_ne h.net hk (by decide))), h.geg, h.row.keep fun q hq => Below.heap_setCell _ _ _ _ ?_, fun p hp => (h.pks p hp).keep fun q hq => Below.heap_setCell _ _ _ _ (by rintro rfl; exact hne p hp hq), h.apart⟩
  obtain ⟨_, cur, hW⟩ := h.row.block hq
  exact whole_ne hW hk (by decide)
theorem FRow.farB {W : World} {B k n : Nat} {v : Value} {ls : List Value} {cs : Array Value} (h : FRow W B v n ls) (hk : Whole W k 5 cs) (j : Nat) (u : Value) : FRow (W.setCell ⟨k, j, none⟩ u) B v n ls :=
  h.keep fun q hq => by
    obtain ⟨_, cur, hW⟩ := h.block hq
    exact Below.heap_setCell _ _ _ _ (whole_ne hW hk (by decide))
/-- A row of bytes of the law's own beside the network, and a row of packets. -/
structure KP (w wr : World) (g : Nat) (v : Value) (ps : List Pk) (M : Nat) (vm : Value) (N : Nat) (ys : List Int) : Prop where
  net : NAt wr g g 1 v ps
  mine : PkAt wr M ⟨0, 0, vm, ys⟩
  len : ys.length = N
  below : Below w.heap.size w wr
  low : w.heap.size ≤ M
  apart : ∀ p ∈ ps, ∀ q, p.v.ownBlock = some q → vm.ownBlock ≠ some q
theorem KP.shape {w wr : World} {g M N : Nat} {v : Value} {ps : List Pk} {ys : List Int} {a : Option Addr} {n c : Nat} (h : KP w wr g v ps M (.slice a n c) N ys) {i : Nat} (hi : i < N) : ∃ k x, a = some ⟨k, 0, none⟩ ∧ ys[i]? = some x ∧ (0 ≤ x ∧ x < 256) ∧ wr.cell? ⟨k, i, none⟩ = some (.int .u8 x) ∧ wr.frozen? ⟨k, i, none⟩ = false ∧ n = N ∧ (∃ cur, Whole wr k 5 cur) := by
  obtain ⟨k, cap, hv, hcap, _⟩ := owns_shape h.mine.own (show 0 < ys.length by rw [h.len]; omega)
  simp only at hv
  injection hv with e1 e2 e3
  subst e1 e3
  obtain ⟨x, hx⟩ : ∃ x, ys[i]? = some x := ⟨_, List.getElem?_eq_getElem (by rw [h.len]; exact hi)⟩
  have ho := h.mine.own
  simp only at ho
  rw [e2] at ho
  have g0 := ho.cells (g := k) rfl i (.int .u8 x) (by simp [hx])
  rw [add_plain, Nat.zero_add] at g0
  obtain ⟨_, cur, hW⟩ := h.mine.block (q := k) rfl
  exact ⟨k, x, rfl, hx, h.mine.byte x (List.mem_of_getElem? hx), g0, ho.frozenAt i, by rw [e2, h.len], cur, hW⟩
theorem KP.put {w wr : World} {g M N k c i : Nat} {v : Value} {ps : List Pk} {ys : List Int} {y : Int} (h : KP w wr g v ps M (.slice (some ⟨k, 0, none⟩) N c) N ys) (hk : ∃ cur, Whole wr k 5 cur) (hy : 0 ≤ y ∧ y < 256) : KP w (wr.setCell ⟨k, i, none⟩ (.int .u8 y)) g v ps M (.slice (some ⟨k, 0, none⟩) N c) N (ys.set i y) := by
  obtain ⟨cur, hW⟩ := hk
  exact ⟨h.net.farB hW (fun p hp hq => h.apart p hp k hq rfl) _ _, h.mine.put h.len hy, by rw [List.length_set]; exact h.len, h.below.setCell (p := ⟨k, i, none⟩) (Nat.le_trans h.low (h.mine.block (q := k) rfl).1) _, h.low, h.apart⟩
theorem empty_bytes (w : World) : (Instr.buildSlice 30 0 #[]).run Try.prog w = .ok (.slice (some ⟨w.heap.size, 0, none⟩) 0 0) (w.alloc (.cells #[] 5)) := by
  obtain ⟨i0, hi0, hz0, hz1, hz2⟩ := info_of Try.infoB
  simp [Instr.buildSlice, run_underlying Try.underlying30, sizeOf, typeInfo, hi0, Instr.fill, newRow]
  rw [Array.eq_empty_of_size_eq_zero (show (Array.map (fun _ => default) (Array.range 0) : Array Value).size = 0 by simp)]
/-- Flip of the second of two packets, whatever the bit. -/
theorem flip_both {W : World} {g : Nat} {v u1 u2 : Value} {bs : List Int} (bit : Int) (h : NAt W g g 1 v [⟨0, 0, u1, bs⟩, ⟨0, 0, u2, bs⟩]) (hbm : bit ≤ 9223372036854775807) :
    Calls Try.prog 16 #[.pointer (some ⟨g, 0, none⟩), .int .i64 1, .int .i64 bit] W fun e w' => ∃ c xs2, e = .returned (.int .i64 c) ∧ NAt w' g g 1 v [⟨0, 0, u1, bs⟩, ⟨0, 0, u2, xs2⟩] ∧ Chg W w' (fun k => u2.ownBlock = some k) ∧ ((strOfNums xs2).toList == (strOfNums bs).toList) = !(decide (0 ≤ bit) && decide (bit.tdiv 8 < (bs.length : Int))) := by
  by_cases hb : bit < 0 ∨ (bs.length : Int) ≤ bit.tdiv 8
  · refine (flip_range (i := 1) bit W h rfl hb hbm).mono ?_
    rintro e w' ⟨rfl, rfl⟩
    refine ⟨_, bs, rfl, h, Chg.refl _ _, ?_⟩
    have e : (decide (0 ≤ bit) && decide (bit.tdiv 8 < (bs.length : Int))) = false := by rw [Bool.and_eq_false_iff, decide_eq_false_iff_not, decide_eq_false_iff_not]; omega
    rw [e, beq_self_eq_true]
    rfl
  · obtain ⟨k, rfl⟩ : ∃ k : Nat, bit = (k : Int) := ⟨bit.toNat, by omega⟩
    have hd1 : (k : Int).tdiv 8 = ((k / 8 : Nat) : Int) := by rw [Int.tdiv_eq_ediv_of_nonneg (by omega)]; omega
    rw [hd1] at hb ⊢
    have hkl : k / 8 < bs.length := by omega
    obtain ⟨x, hx⟩ : ∃ x, bs[k / 8]? = some x := ⟨_, List.getElem?_eq_getElem hkl⟩
    have hbr := (h.pks ⟨0, 0, u2, bs⟩ (by simp)).byte
    have hxr := hbr x (List.mem_of_getElem? hx)
    have hfb := fb_facts hxr.1 hxr.2 (Nat.mod_lt k (by decide : 0 < 8))
    refine (flip_ok (i := 1) (k := k) (p := ⟨0, 0, u2, bs⟩) W h rfl hx).mono ?_
    rintro e w' ⟨rfl, hN, hc⟩
    refine ⟨_, _, rfl, hN, hc, ?_⟩
    have e : (decide (0 ≤ (k : Int)) && decide (((k / 8 : Nat) : Int) < (bs.length : Int))) = true := by rw [Bool.and_eq_true, decide_eq_true_eq, decide_eq_true_eq]; omega
    rw [e]
    refine str_ne (fun he => ?_)
    have h2 := str_inj (fun y hy => by
      rcases List.mem_or_eq_of_mem_set hy with hy | rfl
      · exact hbr y hy
      · exact ⟨hfb.1, hfb.2.1⟩) hbr he
    have h3 : (bs.set (k / 8) (fb x (k % 8)))[k / 8]? = bs[k / 8]? := by rw [h2]
    rw [List.getElem?_set_self hkl, hx] at h3
    injection h3 with h3
    exact hfb.2.2.1 h3
theorem two_of {qs : List Pk} {bs : List Int} (h : qs.map pkey = [(0, 0, bs), (0, 0, bs)]) : ∃ x y, qs = [⟨0, 0, x, bs⟩, ⟨0, 0, y, bs⟩] := by
  match qs, h with
  | [⟨a, b, x, c⟩, ⟨d, e, y, f⟩], h =>
    simp [pkey] at h
    obtain ⟨⟨rfl, rfl, rfl⟩, rfl, rfl, rfl⟩ := h
    exact ⟨x, y, rfl⟩
end Go.Proofs.Ythijageehpoleaa
