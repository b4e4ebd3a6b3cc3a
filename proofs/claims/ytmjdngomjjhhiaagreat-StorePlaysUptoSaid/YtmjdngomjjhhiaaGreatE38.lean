/- The same rows. -/
import Derived.Test.YtmjdngomjjhhiaaGreatE35
namespace Go.Proofs.YtmjdngomjjhhiaaGreat
open Go.RowKit
open Go.Maps (Keyed)

theorem rwc_at {l : List Rw} {i : Nat} {r : Rw} (h : l[i]? = some r) : (rwc l)[i * 5]? = some (.string r.t.o) ∧ (rwc l)[i * 5 + 1]? = some (.string r.t.r) ∧ (rwc l)[i * 5 + 2]? = some (.string r.t.u) ∧ (rwc l)[i * 5 + 3]? = some (.int .i64 r.s) ∧ (rwc l)[i * 5 + 4]? = some (.int .i64 r.u) := by
  induction l generalizing i with
  | nil => simp at h
  | cons q l ih =>
    have hc : rwc (q :: l) = .string q.t.o :: .string q.t.r :: .string q.t.u :: .int .i64 q.s :: .int .i64 q.u :: rwc l := rfl
    cases i with
    | zero =>
      simp at h
      subst h
      exact ⟨rfl, rfl, rfl, rfl, rfl⟩
    | succ i =>
      have h2 : l[i]? = some r := by simpa using h
      rw [hc, show (i + 1) * 5 = i * 5 + 1 + 1 + 1 + 1 + 1 by omega]
      simpa using ih h2
theorem own_cells {w : World} {B k n : Nat} {e : TypeId} {v : Value} {xs : List Value} (h : w.ownsRow B e k v n xs) (hn : 0 < n) : ∃ b c, v = .slice (some ⟨b, 0, none⟩) n c ∧ b < w.heap.size ∧ ∀ (j : Nat) u, xs[j]? = some u → w.cell? ⟨b, j, none⟩ = some u := by
  rcases h.2 with ⟨_, h0⟩ | ⟨b, cap, cur, rfl, _, hh, _, _, _, ht⟩
  · omega
  · refine ⟨b, cap, rfl, (Array.getElem?_eq_some_iff.1 hh).1, fun j u hu => ?_⟩
    rw [← ht, List.getElem?_take] at hu
    split at hu
    · simp only [World.cell?, hh]
      simpa using hu
    · cases hu
set_option maxRecDepth 100000 in
set_option maxHeartbeats 4000000 in
theorem rsame_any {w : World} {Ba Bb : Nat} {va vb : Value} {R : List Rw} (ha : w.ownsRow Ba 46 5 va R.length (rwc R)) (hb : w.ownsRow Bb 46 5 vb R.length (rwc R)) (hn : R.length ≤ 1099511627776) :
    Calls Tryz.prog 9 #[va, vb] w fun e w' => e = .returned (.bool true) ∧ Below w.heap.size w w' := by
  obtain ⟨aa, ac, rfl, _, _⟩ := owned_anyE ha
  obtain ⟨ba, bc, rfl, _, _⟩ := owned_anyE hb
  have HA := Lib.hid ha
  have HB := Lib.hid hb
  clear ha hb
  go_enter Tryz.func9, Tryz.ntmps9
  go_wp2_with fail
  go_loopw [5] (fun iv wr => ∃ i : Nat, i ≤ R.length ∧ iv = .int .i64 i ∧ Below w.heap.size w wr) (fun iv _ => R.length - (intOf iv).toNat)
  case atStart => exact ⟨0, by omega, rfl, Below.refl _ _⟩
  case round =>
    obtain ⟨i, hin, rfl, hbl⟩ := hrel
    by_cases hil : i < R.length
    · obtain ⟨r, hr⟩ : ∃ r, R[i]? = some r := ⟨_, List.getElem?_eq_getElem hil⟩
      obtain ⟨k0, k1, k2, k3, k4⟩ := rwc_at hr
      obtain ⟨a1, c1, ea, hal, hac⟩ := own_cells HA.out (by omega)
      obtain ⟨b1, c2, eb, hbl2, hbc⟩ := own_cells HB.out (by omega)
      injection ea with ea1 _ ea2
      injection eb with eb1 _ eb2
      subst ea1 eb1 ea2 eb2
      have hc : ∀ (b j : Nat) (u : Value), b < w.heap.size → w.cell? ⟨b, j, none⟩ = some u → wr.drew.cell? ⟨b, 0 + j, none⟩ = some u := fun b j u hb h => by
        rw [Nat.zero_add]
        exact (hbl.cell (p := ⟨b, j, none⟩) hb).trans h
      have x0 := hc a1 _ _ hal (hac _ _ k0)
      have x1 := hc a1 _ _ hal (hac _ _ k1)
      have x2 := hc a1 _ _ hal (hac _ _ k2)
      have x3 := hc a1 _ _ hal (hac _ _ k3)
      have x4 := hc a1 _ _ hal (hac _ _ k4)
      have y0 := hc b1 _ _ hbl2 (hbc _ _ k0)
      have y1 := hc b1 _ _ hbl2 (hbc _ _ k1)
      have y2 := hc b1 _ _ hbl2 (hbc _ _ k2)
      have y3 := hc b1 _ _ hbl2 (hbc _ _ k3)
      have y4 := hc b1 _ _ hbl2 (hbc _ _ k4)
      simp only [← Nat.add_assoc, Nat.zero_add] at x0 x1 x2 x3 x4 y0 y1 y2 y3 y4
      have hil2 : (i : Int) < (R.length : Int) := by omega
      have HBL := Lib.hid (bell_up hbl (below_drew1 wr))
      clear k0 k1 k2 k3 k4 hal hac hbl2 hbc hc hr hbl
      go_upto_region 6 with fail
      go_region
      go_wp2
      go_roundw
      case rel => exact ⟨i + 1, by omega, by go_num, HBL.out⟩
      case measure => simp [intOf]; omega
    · obtain rfl : i = R.length := by omega
      have HBL := Lib.hid hbl
      clear hbl
      go_wp2
      go_ret
      exact ⟨rfl, HBL.out⟩
end Go.Proofs.YtmjdngomjjhhiaaGreat
