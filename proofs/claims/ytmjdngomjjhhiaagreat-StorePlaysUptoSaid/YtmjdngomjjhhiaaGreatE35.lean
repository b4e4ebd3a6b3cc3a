/- A new store; awake. -/
import Derived.Test.YtmjdngomjjhhiaaGreatE34
namespace Go.Proofs.YtmjdngomjjhhiaaGreat
open Go.RowKit
open Go.Maps (Keyed)

/-- The blocks of a new store. -/
def Gh.new (n : Nat) : Gh where
  g := n + 7
  be := n
  bi := fun i => if i = 0 then n + 2 else if i = 1 then n + 4 else n + 6
  lab := fun b => if b = n + 7 then some .top else if b = n then some (.map 3) else if b = n + 2 then some (.map 0) else if b = n + 4 then some (.map 1) else if b = n + 6 then some (.map 2) else none
  ge := fun _ => 0
  rv := fun _ => nilS
  ps := fun _ _ => 0
  L := fun _ _ => []
  m := fun _ _ => none
  me := fun _ => none
theorem Gh.new_own {n b : Nat} (h : (Gh.new n).own b) : n ≤ b ∧ b < n + 8 := by
  unfold Gh.own at h
  have h2 : (if b = n + 7 then some Lb.top else if b = n then some (.map 3) else if b = n + 2 then some (.map 0) else if b = n + 4 then some (.map 1) else if b = n + 6 then some (.map 2) else none).isSome = true := h
  split at h2
  · omega
  · split at h2
    · omega
    · split at h2
      · omega
      · split at h2
        · omega
        · split at h2
          · omega
          · cases h2
theorem new_st (w : World) :
    Calls Tryz.prog 6 #[] w fun e w' => e = .returned (ptr (Gh.new w.heap.size).g) ∧ StAt w' 0 SM.empty (Gh.new w.heap.size) 0 ∧ Below w.heap.size w w' := by
  refine (New_any w).mono ?_
  rintro _ w' ⟨rfl, hs, h1, h2, h3, h4, h5, hb⟩
  refine ⟨rfl, ⟨SMOk.empty, ⟨by simp [SM.empty], fun _ _ => rfl, Int.le_refl _, fun b l hl => ?_, h1, if_pos rfl, ⟨h2, ?_, by simp [SM.empty], fun _ _ e => by cases e⟩, by simp [SM.empty], fun i hi => ?_, by simp [SM.empty], by simp [SM.empty]⟩⟩, hb⟩
  · have := Gh.new_own (Gh.own_of hl)
    omega
  · show (if w.heap.size = w.heap.size + 7 then some Lb.top else if w.heap.size = w.heap.size then some (.map 3) else _) = _
    rw [if_neg (by omega), if_pos rfl]
  · have hr : ∀ k, w'.ownsRow 0 81 1 (((Gh.new w.heap.size).m i k).getD nilS) ((Gh.new w.heap.size).L i k).length (((Gh.new w.heap.size).L i k).map fun t => ptr ((Gh.new w.heap.size).ge t)) := fun k => World.ownsRow_nil _ _ _ _
    have hl : ∀ k b, (((Gh.new w.heap.size).m i k).getD nilS).ownBlock = some b → (Gh.new w.heap.size).lab b = some (.lst i k) := fun k b e => by cases e
    have hcase : i = 0 ∨ i = 1 ∨ i = 2 := by omega
    rcases hcase with rfl | rfl | rfl
    · refine ⟨IxOk.empty _ _, ⟨0, Nat.le_refl _, h3⟩, ?_, fun k => ⟨fun _ => rfl, fun _ => rfl⟩, hr, hl⟩
      show (if w.heap.size + 2 = w.heap.size + 7 then some Lb.top else if w.heap.size + 2 = w.heap.size then some (.map 3) else if w.heap.size + 2 = w.heap.size + 2 then some (.map 0) else _) = _
      rw [if_neg (by omega), if_neg (by omega), if_pos rfl]
    · refine ⟨IxOk.empty _ _, ⟨0, Nat.le_refl _, h4⟩, ?_, fun k => ⟨fun _ => rfl, fun _ => rfl⟩, hr, hl⟩
      show (if w.heap.size + 4 = w.heap.size + 7 then some Lb.top else if w.heap.size + 4 = w.heap.size then some (.map 3) else if w.heap.size + 4 = w.heap.size + 2 then some (.map 0) else if w.heap.size + 4 = w.heap.size + 4 then some (.map 1) else _) = _
      rw [if_neg (by omega), if_neg (by omega), if_neg (by omega), if_pos rfl]
    · refine ⟨IxOk.empty _ _, ⟨0, Nat.le_refl _, h5⟩, ?_, fun k => ⟨fun _ => rfl, fun _ => rfl⟩, hr, hl⟩
      show (if w.heap.size + 6 = w.heap.size + 7 then some Lb.top else if w.heap.size + 6 = w.heap.size then some (.map 3) else if w.heap.size + 6 = w.heap.size + 2 then some (.map 0) else if w.heap.size + 6 = w.heap.size + 4 then some (.map 1) else if w.heap.size + 6 = w.heap.size + 6 then some (.map 2) else none) = _
      rw [if_neg (by omega), if_neg (by omega), if_neg (by omega), if_neg (by omega), if_pos rfl]
section
variable {w : World} {wm : Int} {M : SM} {H : Gh} {cb : Nat}
abbrev muC (m : Mu) : Obj := .cells #[.bool m.d, .string m.t.o, .string m.t.r, .string m.t.u] 55
theorem muts_one (w : World) (m : Mu) (hf : m.t.fits) : MutsAt (w.alloc (muC m)) (some ⟨w.heap.size, 0, none⟩) 1 [m] := by
  refine ⟨rfl, fun x hx => by rw [List.mem_singleton] at hx; rw [hx]; exact hf, .inr ⟨w.heap.size, 0, rfl, by simp, fun i x hx => ?_⟩⟩
  cases i with
  | succ i => simp at hx
  | zero =>
    simp at hx
    subst hx
    refine ⟨?_, ?_, ?_, ?_⟩ <;> rw [new_cell] <;> rfl
/-- One mutation is applied. -/
theorem apply1_any (h : StAt w wm M H cb) (hcb : cb + 5 ≤ 1099511627000) (m : Mu) (hf : m.t.fits) (rev : Int) :
    Calls Tryz.prog 11 #[ptr H.g, .int .i64 rev, .slice (some ⟨w.heap.size, 0, none⟩) 1 1] (w.alloc (muC m)) fun e w' => e = .returned (.int .i64 (chkE M wm rev [m])) ∧ ∃ H', StAt w' wm (if chkE M wm rev [m] = 0 then M.one rev m.d m.t else M) H' (cb + 5) ∧ StC w w' H H' := by
  refine (apply_any (h.below (below_alloc w (muC m))) (muts_one w m hf) (c := 1) (fun _ ad he ho => by injection he with he; rw [← he] at ho; exact absurd (h.raw.own_lt ho) (Nat.lt_irrefl _)) (by omega) rev).mono ?_
  rintro _ w' ⟨rfl, H', h1, h2⟩
  exact ⟨rfl, H', h1, (StC.ofBelow H (below_alloc w (muC m))).trans h2⟩
end
def txO : ByteArray := ⟨#[100, 111, 99, 58, 97]⟩
def txR : ByteArray := ⟨#[118, 105, 101, 119, 101, 114]⟩
def txU : ByteArray := ⟨#[117, 115, 101, 114, 58, 97, 110, 110]⟩
/-- A viewer. -/
def tpU (u : ByteArray) : Tp := ⟨txO, txR, u⟩
theorem viewer_any (w : World) (u : ByteArray) : Calls Tryz.prog 15 #[.string u] w fun e w' => e = .returned (tpV (tpU u)) ∧ Below w.heap.size w w' := by
  go_enter Tryz.func15, Tryz.ntmps15
  go_wp2
  have hW : Whole (w.alloc (.cells #[.string txO, .string txR, .string u] 32)) w.heap.size 32 #[.string txO, .string txR, .string u] := heap_alloc_new _ _
  exact bodyPost_ret (v := tpV (tpU u)) (results_cell_row Tryz.results15 _ _ w.heap.size 32 _ (0, 0) _ rfl hW Tryz.underlying32 rfl (by kernel_rfl)) rfl ⟨rfl, below_alloc _ _⟩
theorem tpA_e : (tpU txU).e = 0 := by decide +kernel
theorem tpA_fits : (tpU txU).fits := ⟨by decide, by decide, by decide⟩
/-- The two steps of awake. -/
theorem aw1 : chkE SM.empty 0 3 [⟨false, tpU txU⟩] = 0 := by
  unfold chkE chkGo
  rw [if_neg (by unfold maxRev; omega), if_neg (by simp [tpA_e]), if_neg (by simp), if_neg (by unfold SM.lat SM.empty latestB; simp)]
  rfl
def awM1 : SM := SM.empty.one 3 false (tpU txU)
def awM2 : SM := awM1.one 5 true (tpU txU)
theorem awM1_sp : awM1.sp (tpU txU) = [⟨3, 0⟩] := by
  unfold awM1
  rw [SM.one_same]
  rfl
theorem awM2_sp : awM2.sp (tpU txU) = [⟨3, 5⟩] := by
  unfold awM2
  rw [SM.one_same, awM1_sp]
  rfl
theorem aw2 : chkE awM1 0 5 [⟨true, tpU txU⟩] = 0 := by
  unfold chkE chkGo
  rw [if_neg (by unfold maxRev; omega), if_neg (by simp [tpA_e]), if_neg (by simp), if_neg (by unfold SM.lat; rw [awM1_sp]; unfold latestB; simp; omega)]
  rfl
theorem awM2_K : awM2.K = [tpU txU] := by
  unfold awM2 SM.one
  rw [awM1_sp]
  show (awM1.put (tpU txU) (endB [⟨3, 0⟩] 5)).K = _
  have h1 : awM1.K = [tpU txU] := by
    show (SM.empty.put (tpU txU) _).K = _
    unfold SM.put SM.empty
    simp
  show (if tpU txU ∈ awM1.K then awM1.K else awM1.K ++ [tpU txU]) = _
  rw [h1, if_pos (by simp)]
theorem awM2_tot : awM2.tot = 1 := by
  unfold SM.tot
  rw [awM2_K]
  simp [awM2_sp]
theorem aw_users {ts : List Tp} (h : UsersOk awM2 txO txR 3 ts) : ts.length = 1 := by
  have hm : ∀ t, t ∈ ts ↔ t = tpU txU := fun t => by
    rw [h.mem, awM2_K, List.mem_singleton]
    constructor
    · exact fun h => h.1
    · rintro rfl
      refine ⟨rfl, ⟨rfl, rfl⟩, ?_⟩
      rw [awM2_sp]; rfl
  cases ts with
  | nil => exact absurd ((hm (tpU txU)).2 rfl) (by simp)
  | cons a l =>
    cases l with
    | nil => rfl
    | cons b l =>
      have h1 := (hm a).1 (by simp)
      have h2 := (hm b).1 (by simp)
      have := h.nd
      rw [h1, h2] at this
      simp at this
/-- What a call to a store of one's own leaves alone. -/
theorem StC.since {w0 w w' : World} {H H' : Gh} (c : StC w w' H H') (hb : Below w0.heap.size w0 w) (ho : ∀ b, H.own b → w0.heap.size ≤ b) : Below w0.heap.size w0 w' ∧ ∀ b, H'.own b → w0.heap.size ≤ b := by
  refine ⟨hb.trans (c.chg.below ho hb.size), fun b h => ?_⟩
  rcases Nat.lt_or_ge b w.heap.size with hl | hl
  · exact ho b (c.new b hl h)
  · exact Nat.le_trans hb.size hl
set_option maxRecDepth 100000 in
set_option maxHeartbeats 16000000 in
theorem awake_any (w : World) : Calls Tryz.prog 5 #[] w fun e w' => e = .returned (.bool true) ∧ Below w.heap.size w w' := by
  have HN := Lib.hid (new_st w)
  obtain ⟨gn, hgn⟩ : ∃ gn, gn = (Gh.new w.heap.size).g := ⟨_, rfl⟩
  have HGN := Lib.hid hgn
  rw [← hgn] at HN
  clear hgn
  go_enter Tryz.func5, Tryz.ntmps5
  go_wp2_with fail
  refine HN.out.mono ?_
  rintro _ w1 ⟨rfl, hs1, hb1⟩
  have HS1 := Lib.hid hs1
  have HB1 := Lib.hid hb1
  clear hs1 hb1 HN
  go_wp2_with fail
  refine (viewer_any w1 txU).mono ?_
  rintro _ w2 ⟨rfl, hb2⟩
  have HS2 := Lib.hid (HS1.out.below hb2)
  have HB2 := Lib.hid (bell_up HB1.out hb2)
  clear hb2 HS1 HB1
  go_wp2_with fail
  have HA1 := Lib.hid (apply1_any HS2.out (by omega) ⟨false, tpU txU⟩ tpA_fits 3)
  rw [aw1, ← HGN.out, if_pos rfl] at HA1
  refine HA1.out.mono ?_
  rintro _ w3 ⟨rfl, H3, hs3, hc3⟩
  obtain ⟨hb3, ho3⟩ := hc3.since HB2.out (fun b hb => (Gh.new_own hb).1)
  have HS3 := Lib.hid (show StAt w3 0 awM1 H3 (0 + 5) from hs3)
  have HB3 := Lib.hid hb3
  have HO3 := Lib.hid ho3
  have HG3 := Lib.hid (show H3.g = gn by rw [hc3.g, HGN.out])
  clear hs3 hc3 hb3 ho3 HA1 HS2 HB2
  go_wp2_with fail
  refine (viewer_any w3 txU).mono ?_
  rintro _ w4 ⟨rfl, hb4⟩
  have HS4 := Lib.hid (HS3.out.below hb4)
  have HB4 := Lib.hid (bell_up HB3.out hb4)
  clear hb4 HS3 HB3
  go_wp2_with fail
  have HA2 := Lib.hid (apply1_any HS4.out (by omega) ⟨true, tpU txU⟩ tpA_fits 5)
  rw [aw2, HG3.out, if_pos rfl] at HA2
  refine HA2.out.mono ?_
  rintro _ w5 ⟨rfl, H5, hs5, hc5⟩
  obtain ⟨hb5, ho5⟩ := hc5.since HB4.out HO3.out
  have HS5 := Lib.hid (show StAt w5 0 awM2 H5 (0 + 5 + 5) from hs5)
  have HB5 := Lib.hid hb5
  have HG5 := Lib.hid (show H5.g = gn by rw [hc5.g, HG3.out])
  clear hs5 hc5 hb5 ho5 HA2 HS4 HB4 HO3
  go_wp2_with fail
  refine (viewer_any w5 txU).mono ?_
  rintro _ w6 ⟨rfl, hb6⟩
  have HS6 := Lib.hid (HS5.out.below hb6)
  have HB6 := Lib.hid (bell_up HB5.out hb6)
  clear hb6 HS5 HB5
  have HH1 := Lib.hid (has_any HS6.out tpA_fits (by omega) 4)
  have e4 : hasB awM2 0 4 (tpU txU) = true := by unfold hasB; rw [awM2_sp]; rfl
  have r4 : readableB 0 4 = 0 := rfl
  rw [HG5.out, e4, r4] at HH1
  go_wp2_with fail
  refine HH1.out.mono ?_
  rintro _ w7 ⟨rfl, hb7⟩
  have HS7 := Lib.hid (HS6.out.below hb7)
  have HB7 := Lib.hid (bell_up HB6.out hb7)
  clear hb7 HS6 HB6 HH1 e4 r4
  go_wp2_with fail
  refine (viewer_any w7 txU).mono ?_
  rintro _ w8 ⟨rfl, hb8⟩
  have HS8 := Lib.hid (HS7.out.below hb8)
  have HB8 := Lib.hid (bell_up HB7.out hb8)
  clear hb8 HS7 HB7
  have HH2 := Lib.hid (has_any HS8.out tpA_fits (by omega) 5)
  have e5 : hasB awM2 0 5 (tpU txU) = false := by unfold hasB; rw [awM2_sp]; rfl
  have r5 : readableB 0 5 = 0 := rfl
  rw [HG5.out, e5, r5] at HH2
  go_wp2_with fail
  refine HH2.out.mono ?_
  rintro _ w9 ⟨rfl, hb9⟩
  have HS9 := Lib.hid (HS8.out.below hb9)
  have HB9 := Lib.hid (bell_up HB8.out hb9)
  clear hb9 HS8 HB8 HH2 e5 r5
  have HU := Lib.hid (users_any HS9.out (by omega) (o := txO) (r := txR) (by decide) (by decide) 3)
  have r3 : readableB 0 3 = 0 := rfl
  rw [HG5.out, r3] at HU
  go_wp2_with fail
  refine HU.out.mono ?_
  rintro _ w10 ⟨uv, ts, rfl, hus, _, hrow, hb10⟩
  rw [aw_users (hus (by simp))] at hrow
  obtain ⟨ua, uc, rfl, _, _⟩ := owned_anyE hrow
  have HS10 := Lib.hid (HS9.out.below hb10)
  have HB10 := Lib.hid (bell_up HB9.out hb10)
  clear hb10 HS9 HB9 HU r3 hus hrow
  have HR := Lib.hid (rows_any HS10.out (by omega) (by rw [awM2_tot]; omega))
  rw [HG5.out] at HR
  go_wp2_with fail
  refine HR.out.mono ?_
  rintro _ w11 ⟨rv, R, rfl, _, hRl, hrr, hb11⟩
  rw [hRl, awM2_tot] at hrr
  obtain ⟨ra, rc, rfl, _, _⟩ := owned_anyE hrr
  have HB11 := Lib.hid (bell_up HB10.out hb11)
  clear hb11 HS10 HB10 HR hRl hrr
  go_wp2
  go_ret
  exact ⟨rfl, HB11.out⟩
end Go.Proofs.YtmjdngomjjhhiaaGreat
