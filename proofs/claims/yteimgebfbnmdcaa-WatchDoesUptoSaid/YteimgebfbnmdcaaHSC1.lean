/- The stable sort at watch.Change: the rotation. -/
import Derived.Test.YteimgebfbnmdcaaHSC0
namespace Go.Proofs.Yteimgebfbnmdcaa
open Go.Shelf Go.RowKit Go.Lib Go.Sort
variable {P : Program} {α : Type} [Inhabited α]

set_option maxHeartbeats 4000000 in
set_option maxRecDepth 1000000 in
theorem rotateC (L : EnvC P) (k : Nat) (aE : ∀ w, (isAgg 53).run P w = .ok true w) (zE : ∀ w, (Go.sizeOf 53).run P w = .ok k w) (enc : α → List Value) (g : Nat) (cb : Array Value) (blk off cap a m b : Nat) (d0 d : Array α) (w0 w : World)
    (R : RowK enc k w0 blk off d0) (hs : d0.size = d.size) (S : SWK enc k w0 blk off d w) (ham : a < m) (hmb : m < b) (hb : b ≤ d.size) (hsz : d.size < 4611686018427387904) :
    Calls P 74 #[.slice (some ⟨blk, off, none⟩) d.size cap, .int .i64 a, .int .i64 m, .int .i64 b, .func (.func g) #[] cb] w fun e w' => e = .returned (.tuple #[]) ∧ ∃ d', Rot a m b d d' ∧ PermIn a b d d' ∧ SWK enc k w0 blk off d' w' := by
  have mixed := L.mixed; have t0 := L.t0; have a0 := L.a0; have z0 := L.z0; have v0 := L.v0; have t3 := L.t3; have a3 := L.a3; have z3 := L.z3; have v3 := L.v3; have t4 := L.t4; have a4 := L.a4; have z4 := L.z4; have v4 := L.v4; have tS := L.tS; have aS := L.aS; have zS := L.zS; have vS := L.vS; have tF := L.tF; have aF := L.aF; have zF := L.zF; have vF := L.vF
  have FG := L.fRot
  have eS : ∀ args w, (callFunc 84 args).run P w = .ok (.enter 84 args) w := enters_of L.fSwap (by kernel_rfl) rfl
  have S0 : Aside (SWK enc k w0 blk off d w) := S
  have LL : Aside (EnvC P) := L
  clear S
  go_enter FG, Try.ntmps74
  go_wp2
  go_loopg [10, 11] (b - a) (fun kx s10 s11 wr => ∃ (i j : Nat) (dk : Array α), s10 = .int .i64 i ∧ s11 = .int .i64 j ∧ 1 ≤ i ∧ 1 ≤ j ∧ i ≤ m - a ∧ j ≤ b - m ∧ i + j ≤ kx ∧ dk.size = d.size ∧ Aside (SWK enc k w0 blk off dk wr) ∧ Hid ((∀ d', Rot (m - i) m (m + j) dk d' → Rot a m b d d') ∧ PermIn a b d dk))
  case atStart => exact ⟨m - a, b - m, d, by go_num, by go_num, by omega, by omega, by omega, by omega, by omega, rfl, S0, ⟨fun d' h => by rw [show m - (m - a) = a by omega, show m + (b - m) = b by omega] at h; exact h, permIn_refl _ _ _⟩⟩
  case round =>
    clear S0
    obtain ⟨i, j, dk, rfl, rfl, hi1, hj1, him, hjb, hkx, hds, S1, HE⟩ := hrel
    have hmi : ((m - i : Nat) : Int) = (m : Int) - (i : Int) := by omega
    by_cases hne : i = j
    · have hsw := swapRangeC LL.out k aE zE enc g cb blk off cap (m - i) m i d0 dk w0 wr R (by omega) S1.out (by omega) (by omega) (by omega)
      rw [hmi, hds] at hsw
      have HS := Lib.hid hsw
      clear hsw hmi S1
      subst hne
      go_wp2_with (go_at_fn 84; refine HS.out.mono ?_; rintro e w2 ⟨rfl, d2, h1, h2, h3⟩)
      go_end0
      exact ⟨rfl, d2, HE.out.1 _ (Rot.last (by omega) h1), permIn_trans _ _ _ _ _ HE.out.2 (h2 a b (by omega) (by omega) (by omega)), h3⟩
    · have hnz : ¬ ((i : Int) = (j : Int)) := by omega
      by_cases hgt : j < i
      · have hgz : (j : Int) < (i : Int) := by omega
        have hsw := swapRangeC LL.out k aE zE enc g cb blk off cap (m - i) m j d0 dk w0 wr R (by omega) S1.out (by omega) (by omega) (by omega)
        rw [hmi, hds] at hsw
        have HS := Lib.hid hsw
        clear hsw hmi S1
        go_wp2_with (go_at_fn 84; refine HS.out.mono ?_; rintro e w2 ⟨rfl, d2, h1, h2, h3⟩)
        go_roundg (i - j + j)
        case measure => omega
        case rel =>
          refine ⟨i - j, j, d2, by go_num, rfl, by omega, hj1, by omega, hjb, by omega, by rw [h1.1]; exact hds, h3, ⟨fun d' h => HE.out.1 _ (Rot.left (by omega) (by omega) h1 h), permIn_trans _ _ _ _ _ HE.out.2 (h2 a b (by omega) (by omega) (by omega))⟩⟩
      · have hgz : ¬ ((j : Int) < (i : Int)) := by omega
        have hmj : ((m + j - i : Nat) : Int) = (m : Int) + (j : Int) - (i : Int) := by omega
        have hsw := swapRangeC LL.out k aE zE enc g cb blk off cap (m - i) (m + j - i) i d0 dk w0 wr R (by omega) S1.out (by omega) (by omega) (by omega)
        rw [hmi, hmj, hds] at hsw
        have HS := Lib.hid hsw
        clear hsw hmi hmj S1
        go_wp2_with (go_at_fn 84; refine HS.out.mono ?_; rintro e w2 ⟨rfl, d2, h1, h2, h3⟩)
        go_roundg (i + (j - i))
        case measure => omega
        case rel =>
          refine ⟨i, j - i, d2, rfl, by go_num, hi1, by omega, him, by omega, by omega, by rw [h1.1]; exact hds, h3, ⟨fun d' h => HE.out.1 _ (Rot.right (by omega) (by omega) h1 h), permIn_trans _ _ _ _ _ HE.out.2 (h2 a b (by omega) (by omega) (by omega))⟩⟩
end Go.Proofs.Yteimgebfbnmdcaa
