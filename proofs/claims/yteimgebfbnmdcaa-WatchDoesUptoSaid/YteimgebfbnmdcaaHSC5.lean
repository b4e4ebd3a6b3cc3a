/- The stable sort at watch.Change: symMerge, and the sort. -/
import Derived.Test.YteimgebfbnmdcaaHSC4A
import Derived.Test.YteimgebfbnmdcaaHSC4B
import Derived.Test.YteimgebfbnmdcaaH3
namespace Go.Proofs.Yteimgebfbnmdcaa
open Go.Shelf Go.RowKit Go.Lib Go.Sort
variable {P : Program} {α : Type} [Inhabited α]

theorem symMergeC (L : EnvC P) (k : Nat) (aE : ∀ w, (isAgg 53).run P w = .ok true w) (zE : ∀ w, (Go.sizeOf 53).run P w = .ok k w) (enc : α → List Value) (cf : α → α → Int) (g : Nat) (cb : Array Value) (blk off cap : Nat) (d0 : Array α) (w0 : World)
    (eg : ∀ args w, (callFunc g args).run P w = .ok (.enter g args) w) (hcmp : CmpLays P g cb enc k cf blk off d0.size w0) (R : RowK enc k w0 blk off d0) {Lo : α → α → Bool} (T : Tru Lo) (hsz : d0.size < 4611686018427387904) :
    ∀ (N a m b : Nat) (d : Array α) (w : World), b - a ≤ N → a < m → m < b → b ≤ d.size → d0.size = d.size → SWK enc k w0 blk off d w → Rdy Lo (ltOf cf) a m b d →
    Calls P 57 #[.slice (some ⟨blk, off, none⟩) d.size cap, .int .i64 a, .int .i64 m, .int .i64 b, .func (.func g) #[] cb] w fun e w' => e = .returned (.tuple #[]) ∧ ∃ d', PermIn a b d d' ∧ Asc Lo a b d' ∧ SWK enc k w0 blk off d' w' := by
  intro N
  induction N with
  | zero => intro a m b d w h1 h2 h3; omega
  | succ N ih =>
    intro a m b d w hN ham hmb hb hs S hR
    have hsz2 : d.size < 4611686018427387904 := by omega
    by_cases hm : m = a + 1
    · exact symOneC L k aE zE enc cf g cb blk off cap a m b d0 d w0 w eg hcmp R hs S T ham hmb hb hsz2 hR hm
    · by_cases hbm : b = m + 1
      · exact symLastC L k aE zE enc cf g cb blk off cap a m b d0 d w0 w eg hcmp R hs S T ham hmb hb hsz2 hR hm hbm
      · have ih2 : ∀ (a' m' b' : Nat) (d' : Array α) (w' : World), b' - a' < b - a → a' < m' → m' < b' → b' ≤ d'.size → d0.size = d'.size → SWK enc k w0 blk off d' w' → Rdy Lo (ltOf cf) a' m' b' d' → Calls P 57 #[.slice (some ⟨blk, off, none⟩) d'.size cap, .int .i64 a', .int .i64 m', .int .i64 b', .func (.func g) #[] cb] w' fun e w' => e = .returned (.tuple #[]) ∧ ∃ d2, PermIn a' b' d' d2 ∧ Asc Lo a' b' d2 ∧ SWK enc k w0 blk off d2 w' :=
          fun a' m' b' d' w' h1 h2 h3 h4 h5 h6 h7 => ih a' m' b' d' w' (by omega) h2 h3 h4 h5 h6 h7
        rcases Nat.lt_or_ge ((a + b) / 2) m with hc | hc
        · exact symMidCA L k aE zE enc cf g cb blk off cap a m b d0 d w0 w eg hcmp R hs S T ham hmb hb hsz2 hR hm hbm _ _ _ rfl hc rfl rfl ih2
        · exact symMidCB L k aE zE enc cf g cb blk off cap a m b d0 d w0 w eg hcmp R hs S T ham hmb hb hsz2 hR hm hbm _ _ _ rfl hc rfl rfl ih2
set_option maxHeartbeats 8000000 in
set_option maxRecDepth 1000000 in
theorem stableC (L : EnvC P) (k : Nat) (aE : ∀ w, (isAgg 53).run P w = .ok true w) (zE : ∀ w, (Go.sizeOf 53).run P w = .ok k w) (enc : α → List Value) (cf : α → α → Int) (g : Nat) (cb : Array Value) (blk off cap n : Nat) (d : Array α) (w0 w : World)
    (eg : ∀ args w, (callFunc g args).run P w = .ok (.enter g args) w) (hcmp : CmpLays P g cb enc k cf blk off d.size w0) (R : RowK enc k w0 blk off d) (S : SWK enc k w0 blk off d w) {Lo : α → α → Bool} (T : Tru Lo) (hn : n = d.size) (hsz : n ≤ 1099511627776) (hseg : Seg Lo (ltOf cf) n (fun _ => True) d)
    (hins : ∀ (a b : Nat) (d2 : Array α) (w2 : World), a ≤ b → b ≤ d2.size → d.size = d2.size → SWK enc k w0 blk off d2 w2 → Calls P 56 #[.slice (some ⟨blk, off, none⟩) d2.size cap, .int .i64 a, .int .i64 b, .func (.func g) #[] cb] w2 fun e w' => e = .returned (.tuple #[]) ∧ SWK enc k w0 blk off (Sort.insertionSort (ltOf cf) d2 a b) w')
    (eI : ∀ args w, (callFunc 56 args).run P w = .ok (.enter 56 args) w) :
    Calls P 46 #[.slice (some ⟨blk, off, none⟩) n cap, .int .i64 n, .func (.func g) #[] cb] w fun e w' => e = .returned (.tuple #[]) ∧ ∃ d', PermIn 0 n d d' ∧ Asc Lo 0 n d' ∧ SWK enc k w0 blk off d' w' := by
  have mixed := L.mixed; have t0 := L.t0; have a0 := L.a0; have z0 := L.z0; have v0 := L.v0; have t3 := L.t3; have a3 := L.a3; have z3 := L.z3; have v3 := L.v3; have t4 := L.t4; have a4 := L.a4; have z4 := L.z4; have v4 := L.v4; have tS := L.tS; have aS := L.aS; have zS := L.zS; have vS := L.vS; have tF := L.tF; have aF := L.aF; have zF := L.zF; have vF := L.vF
  have FG := L.fStb
  have eY : ∀ args w, (callFunc 57 args).run P w = .ok (.enter 57 args) w := enters_of L.fSym (by kernel_rfl) rfl
  have hsm := symMergeC L k aE zE enc cf g cb blk off cap d w0 eg hcmp R T (by omega)
  have HINS : Hid (∀ (a b : Nat) (d2 : Array α) (w2 : World), a ≤ b → b ≤ n → d2.size = n → SWK enc k w0 blk off d2 w2 → (∀ p q, a ≤ p → p < q → q < b → Crs (ltOf cf) Lo d2[p]! d2[q]!) → Calls P 56 #[.slice (some ⟨blk, off, none⟩) n cap, .int .i64 a, .int .i64 b, .func (.func g) #[] cb] w2 fun e w' => e = .returned (.tuple #[]) ∧ ∃ d3, PermIn a b d2 d3 ∧ Asc Lo a b d3 ∧ SWK enc k w0 blk off d3 w') := fun a b d2 w2 hab hb hd2 S2 hc => by
    have := hins a b d2 w2 hab (by omega) (by omega) S2
    rw [hd2] at this
    refine this.mono ?_
    rintro e w' ⟨rfl, h⟩
    have h3 := insertionL T.tr a b d2 hab (by omega) hc
    exact ⟨rfl, _, h3.1, h3.2, h⟩
  have HSM : Hid (∀ (a m b : Nat) (d2 : Array α) (w2 : World), a < m → m < b → b ≤ n → d2.size = n → SWK enc k w0 blk off d2 w2 → Rdy Lo (ltOf cf) a m b d2 → Calls P 57 #[.slice (some ⟨blk, off, none⟩) n cap, .int .i64 a, .int .i64 m, .int .i64 b, .func (.func g) #[] cb] w2 fun e w' => e = .returned (.tuple #[]) ∧ ∃ d3, PermIn a b d2 d3 ∧ Asc Lo a b d3 ∧ SWK enc k w0 blk off d3 w') := fun a m b d2 w2 h1 h2 h3 hd2 S2 hR => by
    have := hsm (b - a) a m b d2 w2 (Nat.le_refl _) h1 h2 (by omega) (by omega) S2 hR
    rw [hd2] at this
    exact this
  have HN : Hid _ := hn
  have S0 : Aside (SWK enc k w0 blk off d w) := S
  have HSEG : Hid (Seg Lo (ltOf cf) n (Bi 0 n) d) := hseg.weak (fun _ _ => trivial) (fun c _ _ => .inr (.inl (Nat.zero_le _)))
  clear hins hsm hn S hcmp hseg
  go_enter FG, Try.ntmps46
  go_wp2_with fail
  go_loopg [7, 8] n (fun kx s7 s8 wr => ∃ (A : Nat) (dk : Array α), s7 = .int .i64 A ∧ s8 = .int .i64 ((A + 20 : Nat) : Int) ∧ 20 ∣ A ∧ A ≤ n ∧ n - A ≤ kx ∧ dk.size = n ∧ Aside (SWK enc k w0 blk off dk wr) ∧ Hid (PermIn 0 n d dk ∧ Seg Lo (ltOf cf) n (Bi A n) dk))
  case atStart => exact ⟨0, d, rfl, rfl, ⟨0, rfl⟩, Nat.zero_le _, Nat.le_refl _, HN.out.symm, S0, ⟨permIn_refl _ _ _, HSEG.out⟩⟩
  case round =>
    clear S0 HSEG
    obtain ⟨A, dk, rfl, rfl, hA, hAn, hkx, hds, S1, HK⟩ := hrel
    have HDA : Hid _ := hA
    have HDS : Hid _ := hds
    clear hA hds
    by_cases hlt : A + 20 ≤ n
    · have hltz : (A : Int) + 20 ≤ (n : Int) := by omega
      have hI := HINS.out A (A + 20) dk wr (by omega) hlt HDS.out S1.out (HK.out.2.ins hlt)
      rw [show ((A + 20 : Nat) : Int) = (A : Int) + 20 by omega] at hI
      have HI := Lib.hid hI
      clear hI S1
      go_wp2_with (go_at_fn 56; refine HI.out.mono ?_; rintro _ w2 ⟨rfl, d3, p3, s3, S3⟩)
      have HP : Hid _ := p3
      have HS : Hid _ := s3
      have S3 : Aside _ := S3
      clear p3 s3 HI
      go_roundg (n - (A + 20))
      case measure => omega
      case rel => exact ⟨A + 20, d3, by go_num, by go_num, Nat.dvd_add HDA.out (Nat.dvd_refl _), hlt, Nat.le_refl _, by rw [HP.out.1]; exact HDS.out, S3, ⟨permIn_trans _ _ _ _ _ HK.out.1 (permIn_mono _ _ _ _ 0 n (Nat.zero_le _) hlt (by rw [HDS.out]; exact Nat.le_refl _) HP.out), HK.out.2.ins_next (by rw [HDS.out]; exact Nat.le_refl _) HDA.out hlt (Nat.le_refl _) (.inl rfl) HP.out HS.out⟩⟩
    · have hltz : ¬ (A : Int) + 20 ≤ (n : Int) := by omega
      have hI := HINS.out A n dk wr hAn (Nat.le_refl _) HDS.out S1.out (HK.out.2.ins (Nat.le_refl _))
      have HI := Lib.hid hI
      clear hI S1
      go_wp2_with (go_at_fn 56; refine HI.out.mono ?_; rintro _ w2 ⟨rfl, d3, p3, s3, S3⟩)
      have HK3 : Hid (PermIn 0 n d d3 ∧ Seg Lo (ltOf cf) n (Bs 20 n) d3) := ⟨permIn_trans _ _ _ _ _ HK.out.1 (permIn_mono _ _ _ _ 0 n (Nat.zero_le _) (Nat.le_refl _) (by rw [HDS.out]; exact Nat.le_refl _) p3), (HK.out.2.ins_next (by rw [HDS.out]; exact Nat.le_refl _) HDA.out (Nat.le_refl _) (by omega) (.inr rfl) p3 s3).blocks (by omega)⟩
      have HD3 : Hid (d3.size = n) := by show _ = _; rw [p3.1]; exact HDS.out
      have S3 : Aside _ := S3
      clear p3 s3 HI HK HDS HDA hltz hlt hkx
      go_loopg [6, 7, 8] n (fun kx s6 s7 s8 wr => ∃ (s : Nat) (dk : Array α), s6 = .int .i64 s ∧ 20 ≤ s ∧ s ≤ 2 * n + 20 ∧ n - s ≤ kx ∧ Hid (dk.size = n) ∧ Aside (SWK enc k w0 blk off dk wr) ∧ Hid (PermIn 0 n d dk ∧ Seg Lo (ltOf cf) n (Bs s n) dk))
      case atStart => exact ⟨20, d3, rfl, Nat.le_refl _, by omega, by omega, HD3, S3, HK3⟩
      case round =>
        clear S3 HK3 HD3
        obtain ⟨s, dk, rfl, hs20, hs2, hkx, HDS, S1, HK⟩ := hrel
        by_cases hlt : (s : Int) < (n : Int)
        · go_wp2_with fail
          go_loopg [7, 8] n (fun kx s7 s8 wr => ∃ (A : Nat) (dk : Array α), s7 = .int .i64 A ∧ s8 = .int .i64 ((A + 2 * s : Nat) : Int) ∧ A ≤ n ∧ n - A ≤ kx ∧ Hid (2 * s ∣ A) ∧ Hid (dk.size = n) ∧ Aside (SWK enc k w0 blk off dk wr) ∧ Hid (PermIn 0 n d dk ∧ Seg Lo (ltOf cf) n (Bm s A n) dk))
          case atStart => exact ⟨0, dk, rfl, by go_num, Nat.zero_le _, Nat.le_refl _, ⟨0, rfl⟩, HDS, S1, ⟨HK.out.1, HK.out.2.round⟩⟩
          case round =>
            clear S1 HK HDS dk
            obtain ⟨A, dk, rfl, rfl, hAn, hkx2, HDA, HDS, S1, HK⟩ := hrel
            by_cases hle : A + 2 * s ≤ n
            · have hlez : (A : Int) + 2 * (s : Int) ≤ (n : Int) := by omega
              have hI := HSM.out A (A + s) (A + 2 * s) dk wr (by omega) (by omega) hle HDS.out S1.out (HK.out.2.rdy (by omega) HDA.out hle (Nat.le_refl _) (by omega))
              rw [show ((A + 2 * s : Nat) : Int) = (A : Int) + 2 * (s : Int) by omega, show ((A + s : Nat) : Int) = (A : Int) + (s : Int) by omega] at hI
              have HI := Lib.hid hI
              clear hI S1
              go_wp2_with (go_at_fn 57; refine HI.out.mono ?_; rintro _ w2 ⟨rfl, d3, p3, s3, S3⟩)
              have HP : Hid _ := p3
              have HS : Hid _ := s3
              have S3 : Aside _ := S3
              clear p3 s3 HI
              go_roundg (n - (A + 2 * s))
              case measure => omega
              case rel => exact ⟨A + 2 * s, d3, by go_num, by go_num, hle, Nat.le_refl _, Nat.dvd_add HDA.out (Nat.dvd_refl _), (by show _ = _; rw [HP.out.1]; exact HDS.out), S3, ⟨permIn_trans _ _ _ _ _ HK.out.1 (permIn_mono _ _ _ _ 0 n (Nat.zero_le _) hle (by rw [HDS.out]; exact Nat.le_refl _) HP.out), HK.out.2.merge_next (by rw [HDS.out]; exact Nat.le_refl _) (by omega) HDA.out hle (Nat.le_refl _) (.inl rfl) HP.out HS.out⟩⟩
            · have hlez : ¬ (A : Int) + 2 * (s : Int) ≤ (n : Int) := by omega
              by_cases hm : A + s < n
              · have hmz : (A : Int) + (s : Int) < (n : Int) := by omega
                have hI := HSM.out A (A + s) n dk wr (by omega) hm (Nat.le_refl _) HDS.out S1.out (HK.out.2.rdy (by omega) HDA.out (Nat.le_refl _) (by omega) hm)
                rw [show ((A + s : Nat) : Int) = (A : Int) + (s : Int) by omega] at hI
                have HI := Lib.hid hI
                clear hI S1
                go_wp2_with (go_at_fn 57; refine HI.out.mono ?_; rintro _ w2 ⟨rfl, d3, p3, s3, S3⟩)
                have HP : Hid _ := p3
                have HS : Hid _ := s3
                have S3 : Aside _ := S3
                clear p3 s3 HI
                go_roundg (n - (2 * s))
                case measure => omega
                case rel => exact ⟨2 * s, d3, by go_num, by omega, by omega, Nat.le_refl _, (by show _ = _; rw [HP.out.1]; exact HDS.out), S3, ⟨permIn_trans _ _ _ _ _ HK.out.1 (permIn_mono _ _ _ _ 0 n (Nat.zero_le _) (Nat.le_refl _) (by rw [HDS.out]; exact Nat.le_refl _) HP.out), (HK.out.2.merge_next (by rw [HDS.out]; exact Nat.le_refl _) (by omega) HDA.out (Nat.le_refl _) (by omega) (.inr rfl) HP.out HS.out).over2 (by omega)⟩⟩
              · have hmz : ¬ (A : Int) + (s : Int) < (n : Int) := by omega
                go_wp2
                go_roundg (n - (2 * s))
                case measure => omega
                case rel => exact ⟨2 * s, dk, by go_num, by omega, by omega, Nat.le_refl _, HDS, S1, ⟨HK.out.1, HK.out.2.over HDA.out (by omega)⟩⟩
        · go_wp2
          go_end0
          exact ⟨rfl, dk, HK.out.1, HK.out.2.end_ (by omega), S1.out⟩
end Go.Proofs.Yteimgebfbnmdcaa
