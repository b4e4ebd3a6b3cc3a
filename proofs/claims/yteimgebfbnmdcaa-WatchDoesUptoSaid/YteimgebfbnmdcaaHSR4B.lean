/- The stable sort at api.Row: two parts are cut round the middle. -/
import Derived.Test.YteimgebfbnmdcaaHSR2
import Derived.Test.YteimgebfbnmdcaaHSR3
namespace Go.Proofs.Yteimgebfbnmdcaa
open Go.Shelf Go.RowKit Go.Lib Go.Sort
variable {P : Program} {α : Type} [Inhabited α]

set_option maxHeartbeats 16000000 in
set_option maxRecDepth 1000000 in
theorem symMidRB (L : EnvR P) (k : Nat) (aE : ∀ w, (isAgg 49).run P w = .ok true w) (zE : ∀ w, (Go.sizeOf 49).run P w = .ok k w) (enc : α → List Value) (cf : α → α → Int) (g : Nat) (cb : Array Value) (blk off cap a m b : Nat) (d0 d : Array α) (w0 w : World)
    (eg : ∀ args w, (callFunc g args).run P w = .ok (.enter g args) w) (hcmp : CmpLays P g cb enc k cf blk off d0.size w0) (R : RowK enc k w0 blk off d0) (hs : d0.size = d.size) (S : SWK enc k w0 blk off d w) {Lo : α → α → Bool} (T : Tru Lo) (ham : a < m) (hmb : m < b) (hb : b ≤ d.size) (hsz : d.size < 4611686018427387904) (hR : Rdy Lo (ltOf cf) a m b d) (hm : m ≠ a + 1) (hbm : b ≠ m + 1) (st r0 mid : Nat) (hmid : mid = (a + b) / 2) (hcs : m ≤ mid) (hst : st = a) (hr0 : r0 = m)
    (ih : ∀ (a' m' b' : Nat) (d' : Array α) (w' : World), b' - a' < b - a → a' < m' → m' < b' → b' ≤ d'.size → d0.size = d'.size → SWK enc k w0 blk off d' w' → Rdy Lo (ltOf cf) a' m' b' d' → Calls P 63 #[.slice (some ⟨blk, off, none⟩) d'.size cap, .int .i64 a', .int .i64 m', .int .i64 b', .func (.func g) #[] cb] w' fun e w' => e = .returned (.tuple #[]) ∧ ∃ d2, PermIn a' b' d' d2 ∧ Asc Lo a' b' d2 ∧ SWK enc k w0 blk off d2 w') :
    Calls P 63 #[.slice (some ⟨blk, off, none⟩) d.size cap, .int .i64 a, .int .i64 m, .int .i64 b, .func (.func g) #[] cb] w fun e w' => e = .returned (.tuple #[]) ∧ ∃ d', PermIn a b d d' ∧ Asc Lo a b d' ∧ SWK enc k w0 blk off d' w' := by
  have mixed := L.mixed; have t0 := L.t0; have a0 := L.a0; have z0 := L.z0; have v0 := L.v0; have t3 := L.t3; have a3 := L.a3; have z3 := L.z3; have v3 := L.v3; have t4 := L.t4; have a4 := L.a4; have z4 := L.z4; have v4 := L.v4; have tS := L.tS; have aS := L.aS; have zS := L.zS; have vS := L.vS; have tF := L.tF; have aF := L.aF; have zF := L.zF; have vF := L.vF; have tU := L.tU; have aU := L.aU; have zU := L.zU; have vU := L.vU
  have FG := L.fSym
  have HC : Aside _ := hcmp
  have S0 : Aside (SWK enc k w0 blk off d w) := S
  have HR : Hid _ := hR
  have HT : Hid (Tru Lo) := T
  clear S hcmp hR T
  have hm1 : ((m : Int) - (a : Int) == 1) = false := by rw [beq_eq_false_iff_ne]; omega
  have hm3 : ((b : Int) - (m : Int) == 1) = false := by rw [beq_eq_false_iff_ne]; omega
  have LL : Aside (EnvR P) := L
  have eR : ∀ args w, (callFunc 78 args).run P w = .ok (.enter 78 args) w := enters_of L.fRot (by kernel_rfl) rfl
  have eY : ∀ args w, (callFunc 63 args).run P w = .ok (.enter 63 args) w := enters_of L.fSym (by kernel_rfl) rfl
  have HCS : Hid _ := (.inr ⟨hcs, hst, hr0⟩ : (mid < m ∧ st = mid + m - b ∧ r0 = mid) ∨ (m ≤ mid ∧ st = a ∧ r0 = m))
  have HMID : Hid _ := hmid
  have z1 : a < mid := by omega
  have z2 : mid < b := by omega
  have hu0 : IntKind.u64.wrap ((a : Int) + (b : Int)) = (a : Int) + (b : Int) := by simp [IntKind.wrap, IntKind.bits, IntKind.signed]; omega
  have hsh0 : ((a : Int) + (b : Int)) / 2 = (mid : Int) := by omega
  have hw0 : IntKind.u64.wrap (mid : Int) = (mid : Int) := by simp [IntKind.wrap, IntKind.bits, IntKind.signed]; omega
  obtain ⟨pn, hpn⟩ : ∃ pn : Nat, pn = mid + m - 1 := ⟨_, rfl⟩
  have hpi : (mid : Int) + (m : Int) - 1 = (pn : Int) := by omega
  have HPN : Hid _ := hpn
  have g1 : ¬ (mid : Int) < (m : Int) := by omega
  have y1 : a ≤ m := by omega
  have y2 : a ≤ a := by omega
  have y3 : m ≤ mid := by omega
  have y4 : m ≤ m := by omega
  have y5 : mid + m - a ≤ b := by omega
  have HST : Hid _ := hst
  have HR0 : Hid _ := hr0
  clear hm hbm hmid hst hr0 hpn
  go_enter FG, Try.ntmps63
  go_wp2_with fail
  go_loopg [20, 21] (m - a) (fun kx s10 s11 wr => ∃ (i j : Nat), s10 = .int .i64 i ∧ s11 = .int .i64 j ∧ a ≤ i ∧ i ≤ j ∧ j ≤ m ∧ j - i ≤ kx ∧ Aside (SWK enc k w0 blk off d wr) ∧ Hid ((i = a ∨ ltOf cf d[mid + m - 1 - (i - 1)]! d[i - 1]! = false) ∧ (j = m ∨ ltOf cf d[mid + m - 1 - j]! d[j]! = true)))
  case atStart => exact ⟨a, m, rfl, rfl, Nat.le_refl _, y1, Nat.le_refl _, Nat.le_refl _, S0, ⟨.inl rfl, .inl rfl⟩⟩
  case round =>
    clear S0
    obtain ⟨i, j, rfl, rfl, hmi, hij, hjb, hkx, S1, HE⟩ := hrel
    by_cases hlt : (i : Int) < (j : Int)
    · 
      have hu : IntKind.u64.wrap ((i : Int) + (j : Int)) = (i : Int) + (j : Int) := by simp [IntKind.wrap, IntKind.bits, IntKind.signed]; omega
      obtain ⟨h, hh⟩ : ∃ h : Nat, h = (i + j) / 2 := ⟨_, rfl⟩
      have hsh : ((i : Int) + (j : Int)) / 2 = (h : Int) := by omega
      have hw : IntKind.u64.wrap (h : Int) = (h : Int) := by simp [IntKind.wrap, IntKind.bits, IntKind.signed]; omega
      have hw2 : IntKind.i64.wrap (h : Int) = (h : Int) := by rw [IntKind.wrap_i64]; omega
      have hhi : i ≤ h ∧ h < j := by omega
      clear hh
      obtain ⟨y, hy⟩ : ∃ y : Nat, y = mid + m - 1 - h := ⟨_, rfl⟩
      have hyi : (pn : Int) - (h : Int) = (y : Int) := by have := HPN.out; omega
      have hyb : m ≤ y ∧ y < b := by omega
      have HY : Hid _ := hy
      clear hy
      cases hL : ltOf cf d[y]! d[h]! with
      | false => as_aux_lemma =>
          have ea1 : ((y : Int)).toNat = y := by omega
          have pa1 : (0 : Int) ≤ (y : Int) := by omega
          have ba1 : (y : Int) < (d.size : Int) := by omega
          have ra1 : IntKind.i64.wrap ((y : Int)) = (y : Int) := by rw [IntKind.wrap_i64]; omega
          have ec1 : ((h : Int)).toNat = h := by omega
          have pc1 : (0 : Int) ≤ (h : Int) := by omega
          have bc1 : (h : Int) < (d.size : Int) := by omega
          have rc1 : IntKind.i64.wrap ((h : Int)) = (h : Int) := by rw [IntKind.wrap_i64]; omega
          obtain ⟨x1, hx1⟩ : ∃ x, x = d[y]! := ⟨_, rfl⟩
          obtain ⟨y1, hy1⟩ : ∃ x, x = d[h]! := ⟨_, rfl⟩
          have l1a := S1.out.ld R (by omega) P (y) (by omega)
          have l1b := S1.out.ld R (by omega) P (h) (by omega)
          rw [← hx1] at l1a
          rw [← hy1] at l1b
          have hc1 := S1.out.cmp HC.out (by omega) x1 y1
          have hv1 : ¬ cf x1 y1 < 0 := by rw [hx1, hy1]; exact of_decide_eq_false hL
          have hd1 : decide (cf x1 y1 < 0) = false := decide_eq_false hv1
          clear hx1 hy1
          go_wp2_with fail
          go_quiet_grown (first | (go_at_fn g; refine Calls.grown_of (hc1 _ _)))
          have S2 : Aside (SWK enc k w0 blk off d (grow (wr.drewN nq) osq)) := S1.out.grown nq osq
          clear l1a l1b hc1 S1
          generalize grow (wr.drewN nq) osq = w2 at S2 ⊢
          clear nq osq
          go_wp2
          go_roundg (j - (h + 1))
          case measure => omega
          case rel => exact ⟨h + 1, j, by go_num, rfl, by omega, by omega, hjb, Nat.le_refl _, S2, ⟨.inr (by rw [Nat.add_sub_cancel, ← HY.out]; exact hL), HE.out.2⟩⟩
      | true => as_aux_lemma =>
          have ea2 : ((y : Int)).toNat = y := by omega
          have pa2 : (0 : Int) ≤ (y : Int) := by omega
          have ba2 : (y : Int) < (d.size : Int) := by omega
          have ra2 : IntKind.i64.wrap ((y : Int)) = (y : Int) := by rw [IntKind.wrap_i64]; omega
          have ec2 : ((h : Int)).toNat = h := by omega
          have pc2 : (0 : Int) ≤ (h : Int) := by omega
          have bc2 : (h : Int) < (d.size : Int) := by omega
          have rc2 : IntKind.i64.wrap ((h : Int)) = (h : Int) := by rw [IntKind.wrap_i64]; omega
          obtain ⟨x2, hx2⟩ : ∃ x, x = d[y]! := ⟨_, rfl⟩
          obtain ⟨y2, hy2⟩ : ∃ x, x = d[h]! := ⟨_, rfl⟩
          have l2a := S1.out.ld R (by omega) P (y) (by omega)
          have l2b := S1.out.ld R (by omega) P (h) (by omega)
          rw [← hx2] at l2a
          rw [← hy2] at l2b
          have hc2 := S1.out.cmp HC.out (by omega) x2 y2
          have hv2 : cf x2 y2 < 0 := by rw [hx2, hy2]; exact of_decide_eq_true hL
          have hd2 : decide (cf x2 y2 < 0) = true := decide_eq_true hv2
          clear hx2 hy2
          go_wp2_with fail
          go_quiet_grown (first | (go_at_fn g; refine Calls.grown_of (hc2 _ _)))
          have S2 : Aside (SWK enc k w0 blk off d (grow (wr.drewN nq) osq)) := S1.out.grown nq osq
          clear l2a l2b hc2 S1
          generalize grow (wr.drewN nq) osq = w2 at S2 ⊢
          clear nq osq
          go_wp2
          go_roundg (h - i)
          case measure => omega
          case rel => exact ⟨i, h, rfl, by go_num, hmi, by omega, by omega, Nat.le_refl _, S2, ⟨HE.out.1, .inr (by rw [← HY.out]; exact hL)⟩⟩
    · obtain rfl : i = j := by omega
      clear hkx hij
      obtain ⟨s, hsi⟩ : ∃ s : Nat, s = i := ⟨_, rfl⟩
      obtain ⟨e, he⟩ : ∃ e : Nat, e = mid + m - s := ⟨_, rfl⟩
      have hei : (mid : Int) + (m : Int) - (s : Int) = (e : Int) := by omega
      have HEE : Hid _ := he
      have HF : Hid (s + (e - m) = mid) := (show s + (e - m) = mid by omega)
      have HCUT : Hid (∀ d', Rot s m (mid + m - s) d d' → Halves Lo (ltOf cf) a s m (mid + m - s) b d d') := fun d' hr => by
        subst hsi
        exact Rdy.cut HT.out HR.out ham hmb HMID.out HCS.out (by rw [HST.out]; exact hmi) (by rw [HR0.out]; exact hjb) (by rw [HST.out]; exact HE.out.1) (by rw [HR0.out]; exact HE.out.2) hr
      subst hsi
      have hl : m ≤ e ∧ e ≤ b ∧ a ≤ s ∧ s ≤ m ∧ s ≤ mid ∧ s + e = mid + m := by omega
      obtain ⟨hl1, hl2, hl3, hl4, hl5, hl6⟩ := hl
      clear HE hpi HPN he
      by_cases c1 : s < m
      · by_cases c2 : a < s
        · by_cases c3 : mid < e ∧ e < b
          · as_aux_lemma =>
              have r1 : (s : Int) < (m : Int) := by omega
              have r2 : (m : Int) < (e : Int) := by omega
              have k1 : (a : Int) < (s : Int) := by omega
              have k2 : (s : Int) < (mid : Int) := by omega
              have q1 : (mid : Int) < (e : Int) := by omega
              have q2 : (e : Int) < (b : Int) := by omega
              have hI := rotateR LL.out k aE zE enc g cb blk off cap s m e d0 d w0 _ R hs S1.out (by omega) (by omega) (by omega) hsz
              have HI := Lib.hid hI
              clear S1 hI
              go_wp2_with (first
                | (go_at_fn 78
                   refine HI.out.mono ?_
                   rintro _ w5 ⟨rfl, d1, hrot, hperm, S5⟩
                   have HP : Hid (PermIn a b d d1) := permIn_mono _ _ _ _ a b (by omega) (by omega) hb hperm
                   have HH : Hid (Halves Lo (ltOf cf) a s m e b d d1) := by
                     have h := HCUT.out d1 (by rw [HEE.out] at hrot; exact hrot)
                     rw [← HEE.out] at h
                     exact h
                   have S5 : Aside _ := S5
                   clear hrot hperm HI
                   have hI2 := ih a s mid d1 _ (by omega) (by omega) (by omega) (by have := HP.out.1; omega) (by have := HP.out.1; omega) S5.out (by have := HH.out.low; rw [HF.out] at this; exact this)
                   rw [show d1.size = d.size by exact HP.out.1] at hI2
                   have HI2 := Lib.hid hI2
                   clear hI2 S5)
                | (go_at_fn 63
                   refine HI2.out.mono ?_
                   clear HI2
                   rintro _ w6 ⟨rfl, d2, p2, s2, S6⟩
                   have P2 : Hid _ := p2
                   have A2 : Hid _ := s2
                   have S6 : Aside _ := S6
                   clear p2 s2
                   have hI3 := ih mid e b d2 _ (by omega) (by omega) (by omega) (by have := P2.out.1; have := HP.out.1; omega) (by have := P2.out.1; have := HP.out.1; omega) S6.out (by have := (HH.out.high).kept (by omega) (by have := P2.out; rw [← HF.out] at this; exact this); rw [HF.out] at this; exact this)
                   rw [show d2.size = d.size by have := P2.out.1; have := HP.out.1; omega] at hI3
                   have HI3 := Lib.hid hI3
                   clear hI3 S6)
                | (go_at_fn 63
                   refine HI3.out.mono ?_
                   clear HI3
                   rintro _ w7 ⟨rfl, d3, p3, s3, S7⟩
                   have P3 : Hid _ := p3
                   have A3 : Hid _ := s3
                   have S7 : Aside _ := S7
                   clear p3 s3))
              all_goals
                go_end0
                exact ⟨rfl, d3, (HH.out.done HF.out (by omega) (by omega) (by omega) HP.out P2.out A2.out P3.out A3.out).1, (HH.out.done HF.out (by omega) (by omega) (by omega) HP.out P2.out A2.out P3.out A3.out).2, S7.out⟩
          · by_cases c3 : mid = e
            · as_aux_lemma =>
                have r1 : (s : Int) < (m : Int) := by omega
                have r2 : (m : Int) < (e : Int) := by omega
                have k1 : (a : Int) < (s : Int) := by omega
                have k2 : (s : Int) < (mid : Int) := by omega
                have q1 : ¬ (mid : Int) < (e : Int) := by omega
                have hI := rotateR LL.out k aE zE enc g cb blk off cap s m e d0 d w0 _ R hs S1.out (by omega) (by omega) (by omega) hsz
                have HI := Lib.hid hI
                clear S1 hI
                go_wp2_with (first
                  | (go_at_fn 78
                     refine HI.out.mono ?_
                     rintro _ w5 ⟨rfl, d1, hrot, hperm, S5⟩
                     have HP : Hid (PermIn a b d d1) := permIn_mono _ _ _ _ a b (by omega) (by omega) hb hperm
                     have HH : Hid (Halves Lo (ltOf cf) a s m e b d d1) := by
                       have h := HCUT.out d1 (by rw [HEE.out] at hrot; exact hrot)
                       rw [← HEE.out] at h
                       exact h
                     have S5 : Aside _ := S5
                     clear hrot hperm HI
                     have hI2 := ih a s mid d1 _ (by omega) (by omega) (by omega) (by have := HP.out.1; omega) (by have := HP.out.1; omega) S5.out (by have := HH.out.low; rw [HF.out] at this; exact this)
                     rw [show d1.size = d.size by exact HP.out.1] at hI2
                     have HI2 := Lib.hid hI2
                     clear hI2 S5)
                  | (go_at_fn 63
                     refine HI2.out.mono ?_
                     clear HI2
                     rintro _ w6 ⟨rfl, d2, p2, s2, S6⟩
                     have P2 : Hid _ := p2
                     have A2 : Hid _ := s2
                     have S6 : Aside _ := S6
                     clear p2 s2
                     have HA : Hid (Asc Lo mid b d2) := by
                       have := (HH.out.high).kept (by omega) (by have := P2.out; rw [← HF.out] at this; exact this)
                       rw [HF.out] at this
                       have h3 := this.up
                       rw [show e = mid by omega] at h3
                       exact h3))
                all_goals
                  go_end0
                  exact ⟨rfl, d2, (HH.out.done HF.out (by omega) (by omega) (by omega) HP.out P2.out A2.out (permIn_refl _ _ _) HA.out).1, (HH.out.done HF.out (by omega) (by omega) (by omega) HP.out P2.out A2.out (permIn_refl _ _ _) HA.out).2, S6.out⟩
            · as_aux_lemma =>
                have r1 : (s : Int) < (m : Int) := by omega
                have r2 : (m : Int) < (e : Int) := by omega
                have k1 : (a : Int) < (s : Int) := by omega
                have k2 : (s : Int) < (mid : Int) := by omega
                have q1 : (mid : Int) < (e : Int) := by omega
                have q2 : ¬ (e : Int) < (b : Int) := by omega
                have hI := rotateR LL.out k aE zE enc g cb blk off cap s m e d0 d w0 _ R hs S1.out (by omega) (by omega) (by omega) hsz
                have HI := Lib.hid hI
                clear S1 hI
                go_wp2_with (first
                  | (go_at_fn 78
                     refine HI.out.mono ?_
                     rintro _ w5 ⟨rfl, d1, hrot, hperm, S5⟩
                     have HP : Hid (PermIn a b d d1) := permIn_mono _ _ _ _ a b (by omega) (by omega) hb hperm
                     have HH : Hid (Halves Lo (ltOf cf) a s m e b d d1) := by
                       have h := HCUT.out d1 (by rw [HEE.out] at hrot; exact hrot)
                       rw [← HEE.out] at h
                       exact h
                     have S5 : Aside _ := S5
                     clear hrot hperm HI
                     have hI2 := ih a s mid d1 _ (by omega) (by omega) (by omega) (by have := HP.out.1; omega) (by have := HP.out.1; omega) S5.out (by have := HH.out.low; rw [HF.out] at this; exact this)
                     rw [show d1.size = d.size by exact HP.out.1] at hI2
                     have HI2 := Lib.hid hI2
                     clear hI2 S5)
                  | (go_at_fn 63
                     refine HI2.out.mono ?_
                     clear HI2
                     rintro _ w6 ⟨rfl, d2, p2, s2, S6⟩
                     have P2 : Hid _ := p2
                     have A2 : Hid _ := s2
                     have S6 : Aside _ := S6
                     clear p2 s2
                     have HA : Hid (Asc Lo mid b d2) := by
                       have := (HH.out.high).kept (by omega) (by have := P2.out; rw [← HF.out] at this; exact this)
                       rw [HF.out] at this
                       have h3 := this.lo
                       rw [show e = b by omega] at h3
                       exact h3))
                all_goals
                  go_end0
                  exact ⟨rfl, d2, (HH.out.done HF.out (by omega) (by omega) (by omega) HP.out P2.out A2.out (permIn_refl _ _ _) HA.out).1, (HH.out.done HF.out (by omega) (by omega) (by omega) HP.out P2.out A2.out (permIn_refl _ _ _) HA.out).2, S6.out⟩
        · by_cases c3 : mid < e ∧ e < b
          · as_aux_lemma =>
              have r1 : (s : Int) < (m : Int) := by omega
              have r2 : (m : Int) < (e : Int) := by omega
              have k1 : ¬ (a : Int) < (s : Int) := by omega
              have q1 : (mid : Int) < (e : Int) := by omega
              have q2 : (e : Int) < (b : Int) := by omega
              have hI := rotateR LL.out k aE zE enc g cb blk off cap s m e d0 d w0 _ R hs S1.out (by omega) (by omega) (by omega) hsz
              have HI := Lib.hid hI
              clear S1 hI
              go_wp2_with (first
                | (go_at_fn 78
                   refine HI.out.mono ?_
                   rintro _ w5 ⟨rfl, d1, hrot, hperm, S5⟩
                   have HP : Hid (PermIn a b d d1) := permIn_mono _ _ _ _ a b (by omega) (by omega) hb hperm
                   have HH : Hid (Halves Lo (ltOf cf) a s m e b d d1) := by
                     have h := HCUT.out d1 (by rw [HEE.out] at hrot; exact hrot)
                     rw [← HEE.out] at h
                     exact h
                   have S5 : Aside _ := S5
                   clear hrot hperm HI
                   have P2 : Hid (PermIn a mid d1 d1) := permIn_refl _ _ _
                   have A2 : Hid (Asc Lo a mid d1) := by
                     have := HH.out.lo2
                     rw [HF.out, show s = a by omega] at this
                     exact this
                   have hI3 := ih mid e b d1 _ (by omega) (by omega) (by omega) (by have := P2.out.1; have := HP.out.1; omega) (by have := P2.out.1; have := HP.out.1; omega) S5.out (by have := (HH.out.high).kept (by omega) (by have := P2.out; rw [← HF.out] at this; exact this); rw [HF.out] at this; exact this)
                   rw [show d1.size = d.size by have := P2.out.1; have := HP.out.1; omega] at hI3
                   have HI3 := Lib.hid hI3
                   clear hI3 S5)
                | (go_at_fn 63
                   refine HI3.out.mono ?_
                   clear HI3
                   rintro _ w7 ⟨rfl, d3, p3, s3, S7⟩
                   have P3 : Hid _ := p3
                   have A3 : Hid _ := s3
                   have S7 : Aside _ := S7
                   clear p3 s3))
              all_goals
                go_end0
                exact ⟨rfl, d3, (HH.out.done HF.out (by omega) (by omega) (by omega) HP.out P2.out A2.out P3.out A3.out).1, (HH.out.done HF.out (by omega) (by omega) (by omega) HP.out P2.out A2.out P3.out A3.out).2, S7.out⟩
          · by_cases c3 : mid = e
            · as_aux_lemma =>
                have r1 : (s : Int) < (m : Int) := by omega
                have r2 : (m : Int) < (e : Int) := by omega
                have k1 : ¬ (a : Int) < (s : Int) := by omega
                have q1 : ¬ (mid : Int) < (e : Int) := by omega
                have hI := rotateR LL.out k aE zE enc g cb blk off cap s m e d0 d w0 _ R hs S1.out (by omega) (by omega) (by omega) hsz
                have HI := Lib.hid hI
                clear S1 hI
                go_wp2_with (first
                  | (go_at_fn 78
                     refine HI.out.mono ?_
                     rintro _ w5 ⟨rfl, d1, hrot, hperm, S5⟩
                     have HP : Hid (PermIn a b d d1) := permIn_mono _ _ _ _ a b (by omega) (by omega) hb hperm
                     have HH : Hid (Halves Lo (ltOf cf) a s m e b d d1) := by
                       have h := HCUT.out d1 (by rw [HEE.out] at hrot; exact hrot)
                       rw [← HEE.out] at h
                       exact h
                     have S5 : Aside _ := S5
                     clear hrot hperm HI
                     have P2 : Hid (PermIn a mid d1 d1) := permIn_refl _ _ _
                     have A2 : Hid (Asc Lo a mid d1) := by
                       have := HH.out.lo2
                       rw [HF.out, show s = a by omega] at this
                       exact this
                     have HA : Hid (Asc Lo mid b d1) := by
                       have := (HH.out.high).kept (by omega) (by have := P2.out; rw [← HF.out] at this; exact this)
                       rw [HF.out] at this
                       have h3 := this.up
                       rw [show e = mid by omega] at h3
                       exact h3))
                all_goals
                  go_end0
                  exact ⟨rfl, d1, (HH.out.done HF.out (by omega) (by omega) (by omega) HP.out P2.out A2.out (permIn_refl _ _ _) HA.out).1, (HH.out.done HF.out (by omega) (by omega) (by omega) HP.out P2.out A2.out (permIn_refl _ _ _) HA.out).2, S5.out⟩
            · as_aux_lemma =>
                have r1 : (s : Int) < (m : Int) := by omega
                have r2 : (m : Int) < (e : Int) := by omega
                have k1 : ¬ (a : Int) < (s : Int) := by omega
                have q1 : (mid : Int) < (e : Int) := by omega
                have q2 : ¬ (e : Int) < (b : Int) := by omega
                have hI := rotateR LL.out k aE zE enc g cb blk off cap s m e d0 d w0 _ R hs S1.out (by omega) (by omega) (by omega) hsz
                have HI := Lib.hid hI
                clear S1 hI
                go_wp2_with (first
                  | (go_at_fn 78
                     refine HI.out.mono ?_
                     rintro _ w5 ⟨rfl, d1, hrot, hperm, S5⟩
                     have HP : Hid (PermIn a b d d1) := permIn_mono _ _ _ _ a b (by omega) (by omega) hb hperm
                     have HH : Hid (Halves Lo (ltOf cf) a s m e b d d1) := by
                       have h := HCUT.out d1 (by rw [HEE.out] at hrot; exact hrot)
                       rw [← HEE.out] at h
                       exact h
                     have S5 : Aside _ := S5
                     clear hrot hperm HI
                     have P2 : Hid (PermIn a mid d1 d1) := permIn_refl _ _ _
                     have A2 : Hid (Asc Lo a mid d1) := by
                       have := HH.out.lo2
                       rw [HF.out, show s = a by omega] at this
                       exact this
                     have HA : Hid (Asc Lo mid b d1) := by
                       have := (HH.out.high).kept (by omega) (by have := P2.out; rw [← HF.out] at this; exact this)
                       rw [HF.out] at this
                       have h3 := this.lo
                       rw [show e = b by omega] at h3
                       exact h3))
                all_goals
                  go_end0
                  exact ⟨rfl, d1, (HH.out.done HF.out (by omega) (by omega) (by omega) HP.out P2.out A2.out (permIn_refl _ _ _) HA.out).1, (HH.out.done HF.out (by omega) (by omega) (by omega) HP.out P2.out A2.out (permIn_refl _ _ _) HA.out).2, S5.out⟩
      · by_cases c2 : s < mid
        · as_aux_lemma =>
            have r1 : ¬ (s : Int) < (m : Int) := by omega
            have k1 : (a : Int) < (s : Int) := by omega
            have k2 : (s : Int) < (mid : Int) := by omega
            have q1 : ¬ (mid : Int) < (e : Int) := by omega
            have HH0 : Hid (Halves Lo (ltOf cf) a s m e b d d) := by
              have h := HCUT.out d (by rw [← HEE.out, show s = m by omega]; exact Rot.idle_left (by omega) d)
              rw [← HEE.out] at h
              exact h
            obtain ⟨d1, hd1⟩ : ∃ d1, d1 = d := ⟨_, rfl⟩
            have HP : Hid (PermIn a b d d1) := by rw [hd1]; exact permIn_refl _ _ _
            have HH : Hid (Halves Lo (ltOf cf) a s m e b d d1) := by rw [hd1]; exact HH0
            have S5 : Aside (SWK enc k w0 blk off d1 wr) := by rw [hd1]; exact S1
            clear hd1 S1 HH0
            have hI2 := ih a s mid d1 _ (by omega) (by omega) (by omega) (by have := HP.out.1; omega) (by have := HP.out.1; omega) S5.out (by have := HH.out.low; rw [HF.out] at this; exact this)
            rw [show d1.size = d.size by exact HP.out.1] at hI2
            have HI2 := Lib.hid hI2
            clear hI2 S5
            go_wp2_with (first
              | (go_at_fn 63
                 refine HI2.out.mono ?_
                 clear HI2
                 rintro _ w6 ⟨rfl, d2, p2, s2, S6⟩
                 have P2 : Hid _ := p2
                 have A2 : Hid _ := s2
                 have S6 : Aside _ := S6
                 clear p2 s2
                 have HA : Hid (Asc Lo mid b d2) := by
                   have := (HH.out.high).kept (by omega) (by have := P2.out; rw [← HF.out] at this; exact this)
                   rw [HF.out] at this
                   have h3 := this.up
                   rw [show e = mid by omega] at h3
                   exact h3))
            all_goals
              go_end0
              exact ⟨rfl, d2, (HH.out.done HF.out (by omega) (by omega) (by omega) HP.out P2.out A2.out (permIn_refl _ _ _) HA.out).1, (HH.out.done HF.out (by omega) (by omega) (by omega) HP.out P2.out A2.out (permIn_refl _ _ _) HA.out).2, S6.out⟩
        · as_aux_lemma =>
            have r1 : ¬ (s : Int) < (m : Int) := by omega
            have k1 : (a : Int) < (s : Int) := by omega
            have k2 : ¬ (s : Int) < (mid : Int) := by omega
            have q1 : ¬ (mid : Int) < (e : Int) := by omega
            have HH0 : Hid (Halves Lo (ltOf cf) a s m e b d d) := by
              have h := HCUT.out d (by rw [← HEE.out, show s = m by omega]; exact Rot.idle_left (by omega) d)
              rw [← HEE.out] at h
              exact h
            obtain ⟨d1, hd1⟩ : ∃ d1, d1 = d := ⟨_, rfl⟩
            have HP : Hid (PermIn a b d d1) := by rw [hd1]; exact permIn_refl _ _ _
            have HH : Hid (Halves Lo (ltOf cf) a s m e b d d1) := by rw [hd1]; exact HH0
            have S5 : Aside (SWK enc k w0 blk off d1 wr) := by rw [hd1]; exact S1
            clear hd1 S1 HH0
            have P2 : Hid (PermIn a mid d1 d1) := permIn_refl _ _ _
            have A2 : Hid (Asc Lo a mid d1) := by
              have := HH.out.lo1
              rw [show s = mid by omega] at this
              exact this
            have HA : Hid (Asc Lo mid b d1) := by
              have := (HH.out.high).kept (by omega) (by have := P2.out; rw [← HF.out] at this; exact this)
              rw [HF.out] at this
              have h3 := this.up
              rw [show e = mid by omega] at h3
              exact h3
            go_wp2
            all_goals
              go_end0
              exact ⟨rfl, d1, (HH.out.done HF.out (by omega) (by omega) (by omega) HP.out P2.out A2.out (permIn_refl _ _ _) HA.out).1, (HH.out.done HF.out (by omega) (by omega) (by omega) HP.out P2.out A2.out (permIn_refl _ _ _) HA.out).2, S5.out⟩
end Go.Proofs.Yteimgebfbnmdcaa
