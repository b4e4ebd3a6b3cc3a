/- index.remove: an entry is found no more; the last one of its list takes its spot. index.remove of a store's entry; forget. Drop. Load. What StoreMoves is about, without a run. Calls that came in: rows, texts, and what a script's step holds. Two stores side by side, and rows held beside them. -/
import Derived.Test.YtmjdngomjjhhiaaGreatE38
import Derived.Test.YtmjdngomjjhhiaaGreatE40
import Derived.Test.YtmjdngomjjhhiaaGreatE39
namespace Go.Proofs.YtmjdngomjjhhiaaGreat
open Go.RowKit
open Go.Maps (Keyed)

theorem mset_twice (m : Lit → Option Value) (kl : Lit) (u v : Option Value) : mset (mset m kl u) kl v = mset m kl v := by
  funext x
  unfold mset
  split <;> rfl
set_option maxRecDepth 100000 in
set_option maxHeartbeats 8000000 in
theorem rem0_any {w : World} {b N g gl : Nat} {m : Lit → Option Value} {t tl : Tp} {sv svl : Value} {p1 p2 q0 q1 q2 : Int} {pos : Nat} (hf : t.fits)
    (hm : MapAt w Tryz.prog 9 b m N) (hN : N < maxLen)
    (he : Whole w g 87 #[.string t.o, .string t.r, .string t.u, sv, .int .i64 (pos : Int), .int .i64 p1, .int .i64 p2])
    (hl : Whole w gl 87 #[.string tl.o, .string tl.r, .string tl.u, svl, .int .i64 q0, .int .i64 q1, .int .i64 q2])
    {n q cap : Nat} {xs : List Value} (hv : m (kS t.o) = some (.slice (some ⟨q, 0, none⟩) n cap)) (hr : w.ownsRow 0 81 1 (.slice (some ⟨q, 0, none⟩) n cap) n xs) (hn0 : 0 < n) (hn : n ≤ 1099511627776) (hpn : pos < n) (hlast : xs[n - 1]? = some (ptr gl)) (hat : xs[pos]? = some (ptr g)) :
    Calls Tryz.prog 74 #[.agg #[.int .i64 0, fnV 17, .map (some b)], ptr g] w fun e w' => e = .returned (.tuple #[]) ∧ w'.ownsRow 0 81 1 (.slice (some ⟨q, 0, none⟩) (n - 1) cap) (n - 1) ((xs.set pos (ptr gl)).take (n - 1)) ∧
      (∃ N', N' ≤ N ∧ MapAt w' Tryz.prog 9 b (mset m (kS t.o) (if n = 1 then none else some (.slice (some ⟨q, 0, none⟩) (n - 1) cap))) N') ∧
      Whole w' gl 87 #[.string tl.o, .string tl.r, .string tl.u, svl, .int .i64 (pos : Int), .int .i64 q1, .int .i64 q2] ∧ Chg w w' (fun k => k = gl ∨ k = b ∨ k = q) := by
  have hkey := (keyS_of hf.1)
  obtain ⟨w0, hw0⟩ : ∃ w0, w0 = w.alloc (.cells #[.int .i64 0, fnV 17, .map (some b)] 60) := ⟨_, rfl⟩
  have hb0 : Below w.heap.size w w0 := by rw [hw0]; exact below_alloc _ _
  have hx0 : Whole w0 w.heap.size 60 #[.int .i64 0, fnV 17, .map (some b)] := by rw [hw0]; exact heap_alloc_new _ _
  have HE0 := Lib.hid (he.kept (hb0.block _ he.lt))
  have HL0 := Lib.hid (hl.kept (hb0.block _ hl.lt))
  have HM0 := Lib.hid (hm.below hb0)
  have HR0 := Lib.hid (owns_keptN hr (fun k hk => hb0.block k (hr.lt k hk).2))
  have HX0 := Lib.hid hx0
  have HB0 := Lib.hid hb0
  have HXS := Lib.hid (show xs.length = n from by have := hr.1; omega)
  have HBL := Lib.hid (hm.ne hl)
  have hqblk : ∃ cur, Whole w q 81 cur := (owned_block hr rfl).2
  have HQL := Lib.hid (show q ≠ gl from by
    obtain ⟨cur, hW⟩ := hqblk
    exact whole_ne hW hl (by decide))
  have HQB := Lib.hid (show q ≠ b from by
    obtain ⟨cur, hW⟩ := hqblk
    exact hm.ne hW)
  have HQX := Lib.hid (show q ≠ w.heap.size from by
    obtain ⟨cur, hW⟩ := hqblk
    have := hW.lt
    omega)
  have HLX := Lib.hid (show gl ≠ w.heap.size from by have := hl.lt; omega)
  have HBX := Lib.hid (show b ≠ w.heap.size from by have := hm.lt; omega)
  have HV0 := Lib.hid hv
  have HLA := Lib.hid hlast
  have HKF := Lib.hid (fun W => key1_any t W)
  have HLK := Lib.hid (fun W (hW : Below w0.heap.size w0 W) => (show (Instr.lookup 58 (.map (some b)) (.string t.o) false).run Tryz.prog W = .ok (.slice (some ⟨q, 0, none⟩) n cap) W from by
    have := (HM0.out.below hW).look keyS Tryz.underlying58 (zeroL _) false hkey
    rw [HV0.out] at this
    simpa using this))
  have HC0 := Lib.hid (fun W (hW : Below w0.heap.size w0 W) => (show (W.cell? ⟨w.heap.size, 0, none⟩ = some (.int .i64 0) ∧ W.cell? ⟨w.heap.size, 1, none⟩ = some (fnV 17) ∧ W.cell? ⟨w.heap.size, 2, none⟩ = some (.map (some b))) ∧ W.cell? ⟨g, 0, none⟩ = some (.string t.o) ∧ W.cell? ⟨g, 1, none⟩ = some (.string t.r) ∧ W.cell? ⟨g, 2, none⟩ = some (.string t.u) from by
    have hx := HX0.out.kept (hW.block _ HX0.out.lt)
    have hg := HE0.out.kept (hW.block _ HE0.out.lt)
    exact ⟨⟨by rw [hx.cell]; rfl, by rw [hx.cell]; rfl, by rw [hx.cell]; rfl⟩, by rw [hg.cell]; rfl, by rw [hg.cell]; rfl, by rw [hg.cell]; rfl⟩))
  clear hm he hl hr hb0 hx0 hv hlast hqblk
  go_enter Tryz.func74, Tryz.ntmps74
  go_upto_region 1 with fail
  rw [← hw0]
  clear hw0
  go_region_held3 (fun W : World => (W.cell? ⟨w.heap.size, 0, none⟩ = some (.int .i64 0) ∧ W.cell? ⟨w.heap.size, 1, none⟩ = some (fnV 17) ∧ W.cell? ⟨w.heap.size, 2, none⟩ = some (.map (some b))) ∧ W.cell? ⟨g, 0, none⟩ = some (.string t.o) ∧ W.cell? ⟨g, 1, none⟩ = some (.string t.r) ∧ W.cell? ⟨g, 2, none⟩ = some (.string t.u)) (first | assumption | with_reducible exact HC0.out _ (below_drewN _ 1)) (first
    | (go_at_call 17; refine (HKF.out _).mono ?_; rintro e w1 ⟨rfl, hb1⟩
       have hb2 := bell_up (below_drewN w0 1) hb1
       have hc1 := HC0.out w1 hb2
       have HB2 := Lib.hid hb2
       clear hb1 hb2))
  go_upto_region 2 with fail
  clear hc1
  have hbd := bell_up HB2.out (below_drewN w1 1)
  have hlk := HLK.out w1.drew hbd
  obtain ⟨⟨d0, d1, d2⟩, _, _, _⟩ := HC0.out w1.drew hbd
  have hE1 := HE0.out.kept (HB2.out.block _ HE0.out.lt)
  have hsp : w1.drew.cell? ⟨g, 4, none⟩ = some (.int .i64 (pos : Int)) := by
    show w1.cell? _ = _
    rw [hE1.cell]; rfl
  have hlt : (pos : Int) < (n : Int) := by omega
  clear hbd hE1
  go_region
  clear hlk d0 d1 d2 hsp 
  -- the row, the last entry, the map
  obtain ⟨V, hV⟩ : ∃ V, V = w1.drew := ⟨_, rfl⟩
  try rw [← hV]
  have hbV : Below w0.heap.size w0 V := by rw [hV]; exact bell_up HB2.out (below_drew1 _)
  have HBV := Lib.hid hbV
  have HRV := Lib.hid (owns_keptN HR0.out (fun k hk => hbV.block k (HR0.out.lt k hk).2))
  have HLV := Lib.hid (HL0.out.kept (hbV.block _ HL0.out.lt))
  have HMV := Lib.hid (HM0.out.below hbV)
  have HXV := Lib.hid (HX0.out.kept (hbV.block _ HX0.out.lt))
  clear hV hbV
  obtain ⟨e, he⟩ : ∃ e, n = e + 1 := ⟨n - 1, by omega⟩
  subst he
  have hen : IntKind.i64.wrap (((e + 1 : Nat) : Int) - 1) = (e : Int) := by rw [IntWalk.i64_in _ (by omega)]; omega
  have hel : (e : Int) < ((e + 1 : Nat) : Int) := by omega
  have hel0 : (0 : Int) ≤ (e : Int) ∧ (e : Int) ≤ ((e + 1 : Nat) : Int) := by omega
  have hcells := own_cells HRV.out (by omega)
  obtain ⟨_, _, hve, hqV, hqc⟩ := hcells
  injection hve with hve f2 f3
  clear f2 f3
  injection hve with hve
  injection hve with hve
  subst hve
  have s1 : V.cell? ⟨q, e, none⟩ = some (ptr gl) := hqc _ _ HLA.out
  have s2 : V.cell? ⟨q, pos, none⟩ = some (ptr g) := hqc _ _ hat
  have s3 : V.frozen? ⟨q, pos, none⟩ = false := HRV.out.frozenAt _
  clear hqc hqV
  go_upto_region 5 with fail
  clear s1 s2 s3
  obtain ⟨V2, hV2⟩ : ∃ V2, V2 = V.setCell ⟨q, pos, none⟩ (ptr gl) := ⟨_, rfl⟩
  rw [← hV2]
  have hr2 : V2.ownsRow 0 81 1 (.slice (some ⟨q, 0, none⟩) (e + 1) cap) (e + 1) (xs.set pos (ptr gl)) := by rw [hV2]; exact (HRV.out.stored _ _).1
  have hk2 : ∀ k, k ≠ q → V2.heap[k]? = V.heap[k]? := fun k hk => by rw [hV2]; exact Below.heap_setCell V ⟨q, pos, none⟩ _ k hk
  have HL2 := Lib.hid (HLV.out.kept (hk2 gl (fun e => HQL.out e.symm)))
  have HM2 := Lib.hid (HMV.out.kept (hk2 b (fun e => HQB.out e.symm)))
  have HX2 := Lib.hid (HXV.out.kept (hk2 _ (fun e => HQX.out e.symm)))
  have HR2 := Lib.hid hr2
  have HC2 := Lib.hid (show Chg w V2 (fun k => k = gl ∨ k = b ∨ k = q) from by
    rw [hV2]
    exact (Chg.ofBelow _ (bell_up HB0.out HBV.out)).set (.inr (.inr rfl)) _ _)
  have hxl : (xs.set pos (ptr gl)).length = e + 1 := by rw [List.length_set, HXS.out]
  have hxp2 : (xs.set pos (ptr gl))[pos]? = some (ptr gl) := by rw [List.getElem?_set_self (by rw [HXS.out]; exact hpn)]
  have hxe : (xs.set pos (ptr gl))[e]? = some (ptr gl) := by
    by_cases hpe : pos = e
    · rw [← hpe]; exact hxp2
    · rw [List.getElem?_set_ne hpe]; exact HLA.out
  obtain ⟨_, _, hve, _, hqc⟩ := own_cells hr2 (by omega)
  injection hve with hve f2 f3
  clear f2 f3
  injection hve with hve
  injection hve with hve
  subst hve
  have s2 : V2.drew.cell? ⟨q, pos, none⟩ = some (ptr gl) := hqc _ _ hxp2
  have s4 : V2.drew.cell? ⟨w.heap.size, 0, none⟩ = some (.int .i64 0) := by show V2.cell? _ = _; rw [HX2.out.cell]; rfl
  have s5 : V2.drew.cell? ⟨gl, 4, none⟩ = some (.int .i64 q0) := by show V2.cell? _ = _; rw [HL2.out.cell]; rfl
  have s6 : V2.drew.frozen? ⟨gl, 4, none⟩ = false := HL2.out.free 4
  have s7 : V2.frozen? ⟨gl, 4, none⟩ = false := HL2.out.free 4
  have s8 : V2.cell? ⟨gl, 4, none⟩ = some (.int .i64 q0) := by rw [HL2.out.cell]; rfl
  clear hqc hr2 hk2 hV2 hxp2 HRV HLV HMV HXV 
  go_region
  clear s2 s4 s5 s6 s7 s8
  obtain ⟨V3, hV3⟩ : ∃ V3, V3 = (V2.setCell ⟨gl, 4, none⟩ (.int .i64 (pos : Int))).drew := ⟨_, rfl⟩
  rw [← hV3]
  have hk3 : ∀ k, k ≠ gl → V3.heap[k]? = V2.heap[k]? := fun k hk => by rw [hV3]; exact Below.heap_setCell V2 ⟨gl, 4, none⟩ _ k hk
  have HL3 := Lib.hid (show Whole V3 gl 87 #[.string tl.o, .string tl.r, .string tl.u, svl, .int .i64 (pos : Int), .int .i64 q1, .int .i64 q2] from by
    rw [hV3]
    exact (show Whole (V2.setCell ⟨gl, 4, none⟩ (.int .i64 (pos : Int))) gl 87 _ from HL2.out.store 4 (.int .i64 (pos : Int))))
  have HM3 := Lib.hid (HM2.out.kept (hk3 b (fun e => HBL.out e.symm)))
  have HX3 := Lib.hid (HX2.out.kept (hk3 _ (fun e => HLX.out e.symm)))
  have hr3 := owns_keptN HR2.out (fun k hk => hk3 k (fun e => by simp [Value.ownBlock] at hk; rw [← hk] at e; exact HQL.out e))
  have HC3 := Lib.hid (show Chg w V3 (fun k => k = gl ∨ k = b ∨ k = q) from by
    rw [hV3]
    exact (HC2.out.set (.inl rfl) _ _).drew)
  obtain ⟨_, _, hve, _, hqc⟩ := own_cells hr3 (by omega)
  injection hve with hve f2 f3
  clear f2 f3
  injection hve with hve
  injection hve with hve
  subst hve
  have s1 : V3.cell? ⟨q, e, none⟩ = some (ptr gl) := hqc _ _ hxe
  have s3 : V3.frozen? ⟨q, e, none⟩ = false := hr3.frozenAt _
  have HR3 := Lib.hid hr3
  clear hqc hr3 hk3 hV3 HL2 HM2 HX2 HR2 HC2 
  go_upto_region 7 with fail
  clear s1 s3
  obtain ⟨V4, hV4⟩ : ∃ V4, V4 = V3.setCell ⟨q, e, none⟩ (.pointer none) := ⟨_, rfl⟩
  rw [← hV4]
  have hk4 : ∀ k, k ≠ q → V4.heap[k]? = V3.heap[k]? := fun k hk => by rw [hV4]; exact Below.heap_setCell V3 ⟨q, e, none⟩ _ k hk
  have HL4 := Lib.hid (HL3.out.kept (hk4 gl (fun e => HQL.out e.symm)))
  have hm4 := HM3.out.kept (hk4 b (fun e => HQB.out e.symm))
  have HX4 := Lib.hid (HX3.out.kept (hk4 _ (fun e => HQX.out e.symm)))
  have HR4 := Lib.hid (show V4.ownsRow 0 81 1 (.slice (some ⟨q, 0, none⟩) e cap) e ((xs.set pos (ptr gl)).take e) from by
    have h1 := owns_head (show V4.ownsRow 0 81 1 (.slice (some ⟨q, 0, none⟩) (e + 1) cap) (e + 1) ((xs.set pos (ptr gl)).set e (.pointer none)) by rw [hV4]; exact (HR3.out.stored _ _).1) (Nat.le_succ e)
    rwa [List.take_set_of_le (Nat.le_refl e)] at h1)
  have HC4 := Lib.hid (show Chg w V4 (fun k => k = gl ∨ k = b ∨ k = q) from by
    rw [hV4]
    exact HC3.out.set (.inr (.inr rfl)) _ _)
  obtain ⟨V5, hrun, hm5, hg5, hsz5⟩ := (hm4.kept (w' := V4.drew) rfl).store (val := .slice (some ⟨q, 0, none⟩) e cap) keyS Tryz.underlying58 (zeroL _) hN hkey
  rw [HV0.out] at hm5
  have HM5 := Lib.hid (show MapAt V5 Tryz.prog 9 b (mset m (kS t.o) (some (.slice (some ⟨q, 0, none⟩) e cap))) N from hm5)
  have hk5 : ∀ k, k < V4.heap.size → k ≠ b → V5.heap[k]? = V4.heap[k]? := fun k hk hne => hg5.block k hk (fun e => hne (by injection e))
  have HL5 := Lib.hid (HL4.out.kept (hk5 gl HL4.out.lt (fun e => HBL.out e)))
  have HX5 := Lib.hid (HX4.out.kept (hk5 _ HX4.out.lt (fun e => HBX.out e.symm)))
  have HR5 := Lib.hid (owns_keptN HR4.out (fun k hk => hk5 k (HR4.out.lt k hk).2 (fun e => by simp [Value.ownBlock] at hk; rw [← hk] at e; exact HQB.out e)))
  have HC5 := Lib.hid (show Chg w V5 (fun k => k = gl ∨ k = b ∨ k = q) from HC4.out.drew.trans (Chg.ofGrown (P := fun k => k = b) hg5 (fun k _ e => by injection e with e; exact e.symm)) (fun k _ e => .inr (.inl e)))
  have c4 : V4.drew.cell? ⟨w.heap.size, 2, none⟩ = some (.map (some b)) := by show V4.cell? _ = _; rw [HX4.out.cell]; rfl
  have c5 : V5.cell? ⟨w.heap.size, 2, none⟩ = some (.map (some b)) := by rw [HX5.out.cell]; rfl
  have hec : e ≤ cap := by
    have := HR4.out.2
    rcases this with ⟨h1, _⟩ | ⟨_, _, _, h1, _, _, h2, _⟩
    · cases h1
    · injection h1 with _ _ h3
      omega
  have hec2 : (0 : Int) ≤ (e : Int) ∧ (e : Int) ≤ (cap : Int) := by omega
  clear hm4 hk4 hV4 hm5 hg5 hsz5 hk5 HL3 HM3 HX3 HR3 HC3 HL4 HX4 HR4 HC4 
  go_region_held3 (fun W : World => W.cell? ⟨w.heap.size, 2, none⟩ = some (.map (some b))) (first | assumption | exact c4 | exact c5) (first | fail)
  all_goals
    clear c4 hrun
    by_cases hez : e = 0
    · subst hez
      have hzz : ((0 : Nat) : Int) = 0 := rfl
      have hN5 : N < maxLen := hN
      go_wp2_with (at_delete; refine wpList_drop_map _ rfl _ _ 58 9 rfl 80 keyS Tryz.underlying58 _ (zeroL _) b N _ rfl HM5.out (.string t.o) (kS t.o) rfl hkey ?_; intro V6 hm6 hg6 hs6
                   rw [mset_twice] at hm6
                   have hk6 : ∀ k, k < V5.heap.size → k ≠ b → V6.heap[k]? = V5.heap[k]? := fun k hk hne => hg6.block k hk (fun e => hne (by injection e))
                   have HF := Lib.hid (show V6.ownsRow 0 81 1 (.slice (some ⟨q, 0, none⟩) (0 + 1 - 1) cap) (0 + 1 - 1) ((xs.set pos (ptr gl)).take (0 + 1 - 1)) ∧ (∃ N', N' ≤ N ∧ MapAt V6 Tryz.prog 9 b (mset m (kS t.o) (if 0 + 1 = 1 then none else some (.slice (some ⟨q, 0, none⟩) (0 + 1 - 1) cap))) N') ∧ Whole V6 gl 87 #[.string tl.o, .string tl.r, .string tl.u, svl, .int .i64 (pos : Int), .int .i64 q1, .int .i64 q2] ∧ Chg w V6 (fun k => k = gl ∨ k = b ∨ k = q) from
                     ⟨owns_keptN HR5.out (fun k hk => hk6 k (HR5.out.lt k hk).2 (fun e => by simp [Value.ownBlock] at hk; rw [← hk] at e; exact HQB.out e)), ⟨_, by split <;> omega, hm6⟩, HL5.out.kept (hk6 gl HL5.out.lt (fun e => HBL.out e)), HC5.out.trans (Chg.ofGrown (P := fun k => k = b) hg6 (fun k _ e => by injection e with e; exact e.symm)) (fun k _ e => .inr (.inl e))⟩)
                   clear hm6 hg6 hs6 hk6)
      exact ⟨rfl, .tuple #[], (by simp [results, Tryz.results74, go_sem]), rfl, HF.out⟩
    · have hez2 : ¬ (e : Int) = 0 := by omega
      go_wp2
      exact ⟨rfl, .tuple #[], (by simp [results, Tryz.results74, go_sem]), rfl, HR5.out, ⟨N, Nat.le_refl _, HM5.out⟩, HL5.out, HC5.out⟩
set_option maxRecDepth 100000 in
set_option maxHeartbeats 8000000 in
theorem rem1_any {w : World} {b N g gl : Nat} {m : Lit → Option Value} {t tl : Tp} {sv svl : Value} {p0 p2 q0 q1 q2 : Int} {pos : Nat} (hf : t.fits)
    (hm : MapAt w Tryz.prog 68 b m N) (hN : N < maxLen)
    (he : Whole w g 87 #[.string t.o, .string t.r, .string t.u, sv, .int .i64 p0, .int .i64 (pos : Int), .int .i64 p2])
    (hl : Whole w gl 87 #[.string tl.o, .string tl.r, .string tl.u, svl, .int .i64 q0, .int .i64 q1, .int .i64 q2])
    {n q cap : Nat} {xs : List Value} (hv : m (kP t.o t.r) = some (.slice (some ⟨q, 0, none⟩) n cap)) (hr : w.ownsRow 0 81 1 (.slice (some ⟨q, 0, none⟩) n cap) n xs) (hn0 : 0 < n) (hn : n ≤ 1099511627776) (hpn : pos < n) (hlast : xs[n - 1]? = some (ptr gl)) (hat : xs[pos]? = some (ptr g)) :
    Calls Tryz.prog 75 #[.agg #[.int .i64 1, fnV 19, .map (some b)], ptr g] w fun e w' => e = .returned (.tuple #[]) ∧ w'.ownsRow 0 81 1 (.slice (some ⟨q, 0, none⟩) (n - 1) cap) (n - 1) ((xs.set pos (ptr gl)).take (n - 1)) ∧
      (∃ N', N' ≤ N ∧ MapAt w' Tryz.prog 68 b (mset m (kP t.o t.r) (if n = 1 then none else some (.slice (some ⟨q, 0, none⟩) (n - 1) cap))) N') ∧
      Whole w' gl 87 #[.string tl.o, .string tl.r, .string tl.u, svl, .int .i64 q0, .int .i64 (pos : Int), .int .i64 q2] ∧ Chg w w' (fun k => k = gl ∨ k = b ∨ k = q) := by
  have hkey := (keyP_of hf.1 hf.2.1)
  obtain ⟨w0, hw0⟩ : ∃ w0, w0 = w.alloc (.cells #[.int .i64 1, fnV 19, .map (some b)] 65) := ⟨_, rfl⟩
  have hb0 : Below w.heap.size w w0 := by rw [hw0]; exact below_alloc _ _
  have hx0 : Whole w0 w.heap.size 65 #[.int .i64 1, fnV 19, .map (some b)] := by rw [hw0]; exact heap_alloc_new _ _
  have HE0 := Lib.hid (he.kept (hb0.block _ he.lt))
  have HL0 := Lib.hid (hl.kept (hb0.block _ hl.lt))
  have HM0 := Lib.hid (hm.below hb0)
  have HR0 := Lib.hid (owns_keptN hr (fun k hk => hb0.block k (hr.lt k hk).2))
  have HX0 := Lib.hid hx0
  have HB0 := Lib.hid hb0
  have HXS := Lib.hid (show xs.length = n from by have := hr.1; omega)
  have HBL := Lib.hid (hm.ne hl)
  have hqblk : ∃ cur, Whole w q 81 cur := (owned_block hr rfl).2
  have HQL := Lib.hid (show q ≠ gl from by
    obtain ⟨cur, hW⟩ := hqblk
    exact whole_ne hW hl (by decide))
  have HQB := Lib.hid (show q ≠ b from by
    obtain ⟨cur, hW⟩ := hqblk
    exact hm.ne hW)
  have HQX := Lib.hid (show q ≠ w.heap.size from by
    obtain ⟨cur, hW⟩ := hqblk
    have := hW.lt
    omega)
  have HLX := Lib.hid (show gl ≠ w.heap.size from by have := hl.lt; omega)
  have HBX := Lib.hid (show b ≠ w.heap.size from by have := hm.lt; omega)
  have HV0 := Lib.hid hv
  have HLA := Lib.hid hlast
  have HKF := Lib.hid (fun W => key2_any t W)
  have HLK := Lib.hid (fun W (hW : Below w0.heap.size w0 W) => (show (Instr.lookup 63 (.map (some b)) (.agg #[.string t.o, .string t.r]) false).run Tryz.prog W = .ok (.slice (some ⟨q, 0, none⟩) n cap) W from by
    have := (HM0.out.below hW).look keyP Tryz.underlying63 (zeroL _) false hkey
    rw [HV0.out] at this
    simpa using this))
  have HC0 := Lib.hid (fun W (hW : Below w0.heap.size w0 W) => (show (W.cell? ⟨w.heap.size, 0, none⟩ = some (.int .i64 1) ∧ W.cell? ⟨w.heap.size, 1, none⟩ = some (fnV 19) ∧ W.cell? ⟨w.heap.size, 2, none⟩ = some (.map (some b))) ∧ W.cell? ⟨g, 0, none⟩ = some (.string t.o) ∧ W.cell? ⟨g, 1, none⟩ = some (.string t.r) ∧ W.cell? ⟨g, 2, none⟩ = some (.string t.u) from by
    have hx := HX0.out.kept (hW.block _ HX0.out.lt)
    have hg := HE0.out.kept (hW.block _ HE0.out.lt)
    exact ⟨⟨by rw [hx.cell]; rfl, by rw [hx.cell]; rfl, by rw [hx.cell]; rfl⟩, by rw [hg.cell]; rfl, by rw [hg.cell]; rfl, by rw [hg.cell]; rfl⟩))
  clear hm he hl hr hb0 hx0 hv hlast hqblk
  go_enter Tryz.func75, Tryz.ntmps75
  go_upto_region 1 with fail
  rw [← hw0]
  clear hw0
  go_region_held3 (fun W : World => (W.cell? ⟨w.heap.size, 0, none⟩ = some (.int .i64 1) ∧ W.cell? ⟨w.heap.size, 1, none⟩ = some (fnV 19) ∧ W.cell? ⟨w.heap.size, 2, none⟩ = some (.map (some b))) ∧ W.cell? ⟨g, 0, none⟩ = some (.string t.o) ∧ W.cell? ⟨g, 1, none⟩ = some (.string t.r) ∧ W.cell? ⟨g, 2, none⟩ = some (.string t.u)) (first | assumption | with_reducible exact HC0.out _ (below_drewN _ 1) | exact HC0.out _ (bell_alloc HB2.out _) | exact HC0.out _ (below_alloc w0 _) | exact HC0.out _ ((below_alloc w0 _).trans ((below_drew1 _).mono (by simp))) | exact HC0.out _ ((HB2.out.setCell (by simp) _).setCell (by simp) _) | exact HC0.out _ (((bell_alloc HB2.out _).setCell HB2.out.size _).setCell HB2.out.size _)) (first
    | (go_at_call 19; refine (HKF.out _).mono ?_; rintro e w1 ⟨rfl, hb1⟩
       have hb1 : Below (w0.alloc (.cells #[.string ⟨#[]⟩, .string ⟨#[]⟩] 68)).heap.size (w0.alloc (.cells #[.string ⟨#[]⟩, .string ⟨#[]⟩] 68)) w1 := bell_up (below_drew1 _) hb1
       have hx1 : Whole w1 w0.heap.size 68 #[.string ⟨#[]⟩, .string ⟨#[]⟩] := (show Whole (w0.alloc (.cells #[.string ⟨#[]⟩, .string ⟨#[]⟩] 68)) w0.heap.size 68 _ from heap_alloc_new _ _).kept (hb1.block _ (by simp))
       have hb2 := bell_up (below_alloc w0 _) hb1
       have hc1 := HC0.out w1 hb2
       obtain ⟨⟨x0, x1⟩, xf0, xf1⟩ := two_of hx1
       have HB2 := Lib.hid hb2
       have HX1 := Lib.hid hx1
       clear hb1 hb2 hx1)
    | (go_at_call 19; refine (HKF.out _).mono ?_; rintro e w1 ⟨rfl, hb1⟩
       have hb2 := bell_up (below_drewN w0 1) hb1
       have hc1 := HC0.out w1 hb2
       have HB2 := Lib.hid hb2
       clear hb1 hb2))
  all_goals (first
    | (obtain ⟨w5, hw5⟩ : ∃ w5, w5 = w1.alloc (.cells #[.string t.o, .string t.r] 68) := ⟨_, rfl⟩
       rw [← hw5]
       have HP5 : Whole w5 w1.heap.size 68 #[.string t.o, .string t.r] := by rw [hw5]; exact heap_alloc_new _ _
       have HB5 := Lib.hid (show Below w0.heap.size w0 w5 by rw [hw5]; exact bell_alloc HB2.out _)
       obtain ⟨xp, hxp⟩ : ∃ xp, xp = w1.heap.size := ⟨_, rfl⟩
       rw [← hxp] at HP5 ⊢
       have HP5 := Lib.hid HP5
       clear hxp HB2 hw5)
    | (obtain ⟨w5, hw5⟩ : ∃ w5, w5 = (w1.setCell ⟨w0.heap.size, 0, none⟩ (.string t.o)).setCell ⟨w0.heap.size, 1, none⟩ (.string t.r) := ⟨_, rfl⟩
       rw [← hw5]
       have HP5 : Whole w5 w0.heap.size 68 #[.string t.o, .string t.r] := by rw [hw5]; exact (HX1.out.store 0 (.string t.o)).store 1 (.string t.r)
       have HB5 := Lib.hid (show Below w0.heap.size w0 w5 by rw [hw5]; exact ((HB2.out.setCell (p := ⟨w0.heap.size, 0, none⟩) (Nat.le_refl _) _).setCell (p := ⟨w0.heap.size, 1, none⟩) (Nat.le_refl _) _))
       have HP5 := Lib.hid HP5
       obtain ⟨xp, hxp⟩ : ∃ xp, xp = w0.heap.size := ⟨_, rfl⟩
       rw [← hxp] at HP5 ⊢
       clear hxp HB2 HX1 hw5 x0 x1 xf0 xf1))
  all_goals have HB2 := HB5
  all_goals
    go_upto_region 2 with fail
    clear hc1
    have hbd := bell_up HB2.out (below_drewN w5 1)
    have hlk := HLK.out w5.drew hbd
    obtain ⟨⟨d0, d1, d2⟩, _, _, _⟩ := HC0.out w5.drew hbd
    have hE1 := HE0.out.kept (HB2.out.block _ HE0.out.lt)
    have hsp : w5.drew.cell? ⟨g, 5, none⟩ = some (.int .i64 (pos : Int)) := by
      show w5.cell? _ = _
      rw [hE1.cell]; rfl
    have hP1 := HP5.out
    have z0 : w5.drew.cell? ⟨xp, 0, none⟩ = some (.string t.o) := by
      show w5.cell? _ = _
      rw [hP1.cell]; rfl
    have z1 : w5.drew.cell? ⟨xp, 1, none⟩ = some (.string t.r) := by
      show w5.cell? _ = _
      rw [hP1.cell]; rfl
    have hlt : (pos : Int) < (n : Int) := by omega
    clear hbd hE1
    go_region
    clear hlk d0 d1 d2 hsp z0 z1 hP1
    -- the row, the last entry, the map
    obtain ⟨V, hV⟩ : ∃ V, V = w5.drew := ⟨_, rfl⟩
    try rw [← hV]
    have hbV : Below w0.heap.size w0 V := by rw [hV]; exact bell_up HB2.out (below_drew1 _)
    have HBV := Lib.hid hbV
    have HRV := Lib.hid (owns_keptN HR0.out (fun k hk => hbV.block k (HR0.out.lt k hk).2))
    have HLV := Lib.hid (HL0.out.kept (hbV.block _ HL0.out.lt))
    have HMV := Lib.hid (HM0.out.below hbV)
    have HXV := Lib.hid (HX0.out.kept (hbV.block _ HX0.out.lt))
    have HPV := Lib.hid (show Whole V xp 68 #[.string t.o, .string t.r] by rw [hV]; exact HP5.out)
    have HXQ := Lib.hid (show xp ≠ q from by
      obtain ⟨_, cur, hW⟩ := owned_block HRV.out rfl
      exact whole_ne HPV.out hW (by decide))
    have HXL := Lib.hid (show xp ≠ gl from whole_ne HPV.out HLV.out (by decide))
    have HXB := Lib.hid (show xp ≠ b from HMV.out.ne HPV.out)
    clear hV hbV
    obtain ⟨e, he⟩ : ∃ e, n = e + 1 := ⟨n - 1, by omega⟩
    subst he
    have hen : IntKind.i64.wrap (((e + 1 : Nat) : Int) - 1) = (e : Int) := by rw [IntWalk.i64_in _ (by omega)]; omega
    have hel : (e : Int) < ((e + 1 : Nat) : Int) := by omega
    have hel0 : (0 : Int) ≤ (e : Int) ∧ (e : Int) ≤ ((e + 1 : Nat) : Int) := by omega
    have hcells := own_cells HRV.out (by omega)
    obtain ⟨_, _, hve, hqV, hqc⟩ := hcells
    injection hve with hve f2 f3
    clear f2 f3
    injection hve with hve
    injection hve with hve
    subst hve
    have s1 : V.cell? ⟨q, e, none⟩ = some (ptr gl) := hqc _ _ HLA.out
    have s2 : V.cell? ⟨q, pos, none⟩ = some (ptr g) := hqc _ _ hat
    have s3 : V.frozen? ⟨q, pos, none⟩ = false := HRV.out.frozenAt _
    clear hqc hqV
    go_upto_region 5 with fail
    clear s1 s2 s3
    obtain ⟨V2, hV2⟩ : ∃ V2, V2 = V.setCell ⟨q, pos, none⟩ (ptr gl) := ⟨_, rfl⟩
    rw [← hV2]
    have hr2 : V2.ownsRow 0 81 1 (.slice (some ⟨q, 0, none⟩) (e + 1) cap) (e + 1) (xs.set pos (ptr gl)) := by rw [hV2]; exact (HRV.out.stored _ _).1
    have hk2 : ∀ k, k ≠ q → V2.heap[k]? = V.heap[k]? := fun k hk => by rw [hV2]; exact Below.heap_setCell V ⟨q, pos, none⟩ _ k hk
    have HL2 := Lib.hid (HLV.out.kept (hk2 gl (fun e => HQL.out e.symm)))
    have HM2 := Lib.hid (HMV.out.kept (hk2 b (fun e => HQB.out e.symm)))
    have HX2 := Lib.hid (HXV.out.kept (hk2 _ (fun e => HQX.out e.symm)))
    have HP2 := Lib.hid (HPV.out.kept (hk2 xp HXQ.out))
    have HR2 := Lib.hid hr2
    have HC2 := Lib.hid (show Chg w V2 (fun k => k = gl ∨ k = b ∨ k = q) from by
      rw [hV2]
      exact (Chg.ofBelow _ (bell_up HB0.out HBV.out)).set (.inr (.inr rfl)) _ _)
    have hxl : (xs.set pos (ptr gl)).length = e + 1 := by rw [List.length_set, HXS.out]
    have hxp2 : (xs.set pos (ptr gl))[pos]? = some (ptr gl) := by rw [List.getElem?_set_self (by rw [HXS.out]; exact hpn)]
    have hxe : (xs.set pos (ptr gl))[e]? = some (ptr gl) := by
      by_cases hpe : pos = e
      · rw [← hpe]; exact hxp2
      · rw [List.getElem?_set_ne hpe]; exact HLA.out
    obtain ⟨_, _, hve, _, hqc⟩ := own_cells hr2 (by omega)
    injection hve with hve f2 f3
    clear f2 f3
    injection hve with hve
    injection hve with hve
    subst hve
    have s2 : V2.drew.cell? ⟨q, pos, none⟩ = some (ptr gl) := hqc _ _ hxp2
    have s4 : V2.drew.cell? ⟨w.heap.size, 0, none⟩ = some (.int .i64 1) := by show V2.cell? _ = _; rw [HX2.out.cell]; rfl
    have s5 : V2.drew.cell? ⟨gl, 5, none⟩ = some (.int .i64 q1) := by show V2.cell? _ = _; rw [HL2.out.cell]; rfl
    have s6 : V2.drew.frozen? ⟨gl, 5, none⟩ = false := HL2.out.free 5
    have s7 : V2.frozen? ⟨gl, 5, none⟩ = false := HL2.out.free 5
    have s8 : V2.cell? ⟨gl, 5, none⟩ = some (.int .i64 q1) := by rw [HL2.out.cell]; rfl
    clear hqc hr2 hk2 hV2 hxp2 HRV HLV HMV HXV HPV
    go_region
    clear s2 s4 s5 s6 s7 s8
    obtain ⟨V3, hV3⟩ : ∃ V3, V3 = (V2.setCell ⟨gl, 5, none⟩ (.int .i64 (pos : Int))).drew := ⟨_, rfl⟩
    rw [← hV3]
    have hk3 : ∀ k, k ≠ gl → V3.heap[k]? = V2.heap[k]? := fun k hk => by rw [hV3]; exact Below.heap_setCell V2 ⟨gl, 5, none⟩ _ k hk
    have HL3 := Lib.hid (show Whole V3 gl 87 #[.string tl.o, .string tl.r, .string tl.u, svl, .int .i64 q0, .int .i64 (pos : Int), .int .i64 q2] from by
      rw [hV3]
      exact (show Whole (V2.setCell ⟨gl, 5, none⟩ (.int .i64 (pos : Int))) gl 87 _ from HL2.out.store 5 (.int .i64 (pos : Int))))
    have HM3 := Lib.hid (HM2.out.kept (hk3 b (fun e => HBL.out e.symm)))
    have HX3 := Lib.hid (HX2.out.kept (hk3 _ (fun e => HLX.out e.symm)))
    have HP3 := Lib.hid (HP2.out.kept (hk3 xp HXL.out))
    have hr3 := owns_keptN HR2.out (fun k hk => hk3 k (fun e => by simp [Value.ownBlock] at hk; rw [← hk] at e; exact HQL.out e))
    have HC3 := Lib.hid (show Chg w V3 (fun k => k = gl ∨ k = b ∨ k = q) from by
      rw [hV3]
      exact (HC2.out.set (.inl rfl) _ _).drew)
    obtain ⟨_, _, hve, _, hqc⟩ := own_cells hr3 (by omega)
    injection hve with hve f2 f3
    clear f2 f3
    injection hve with hve
    injection hve with hve
    subst hve
    have s1 : V3.cell? ⟨q, e, none⟩ = some (ptr gl) := hqc _ _ hxe
    have s3 : V3.frozen? ⟨q, e, none⟩ = false := hr3.frozenAt _
    have HR3 := Lib.hid hr3
    clear hqc hr3 hk3 hV3 HL2 HM2 HX2 HR2 HC2 HP2
    go_upto_region 7 with fail
    clear s1 s3
    obtain ⟨V4, hV4⟩ : ∃ V4, V4 = V3.setCell ⟨q, e, none⟩ (.pointer none) := ⟨_, rfl⟩
    rw [← hV4]
    have hk4 : ∀ k, k ≠ q → V4.heap[k]? = V3.heap[k]? := fun k hk => by rw [hV4]; exact Below.heap_setCell V3 ⟨q, e, none⟩ _ k hk
    have HL4 := Lib.hid (HL3.out.kept (hk4 gl (fun e => HQL.out e.symm)))
    have hm4 := HM3.out.kept (hk4 b (fun e => HQB.out e.symm))
    have HX4 := Lib.hid (HX3.out.kept (hk4 _ (fun e => HQX.out e.symm)))
    have HP4 := Lib.hid (HP3.out.kept (hk4 xp HXQ.out))
    have HR4 := Lib.hid (show V4.ownsRow 0 81 1 (.slice (some ⟨q, 0, none⟩) e cap) e ((xs.set pos (ptr gl)).take e) from by
      have h1 := owns_head (show V4.ownsRow 0 81 1 (.slice (some ⟨q, 0, none⟩) (e + 1) cap) (e + 1) ((xs.set pos (ptr gl)).set e (.pointer none)) by rw [hV4]; exact (HR3.out.stored _ _).1) (Nat.le_succ e)
      rwa [List.take_set_of_le (Nat.le_refl e)] at h1)
    have HC4 := Lib.hid (show Chg w V4 (fun k => k = gl ∨ k = b ∨ k = q) from by
      rw [hV4]
      exact HC3.out.set (.inr (.inr rfl)) _ _)
    obtain ⟨V5, hrun, hm5, hg5, hsz5⟩ := (hm4.kept (w' := V4.drew) rfl).store (val := .slice (some ⟨q, 0, none⟩) e cap) keyP Tryz.underlying63 (zeroL _) hN hkey
    rw [HV0.out] at hm5
    have HM5 := Lib.hid (show MapAt V5 Tryz.prog 68 b (mset m (kP t.o t.r) (some (.slice (some ⟨q, 0, none⟩) e cap))) N from hm5)
    have hk5 : ∀ k, k < V4.heap.size → k ≠ b → V5.heap[k]? = V4.heap[k]? := fun k hk hne => hg5.block k hk (fun e => hne (by injection e))
    have HL5 := Lib.hid (HL4.out.kept (hk5 gl HL4.out.lt (fun e => HBL.out e)))
    have HX5 := Lib.hid (HX4.out.kept (hk5 _ HX4.out.lt (fun e => HBX.out e.symm)))
    have HP6 := Lib.hid (HP4.out.kept (hk5 xp HP4.out.lt HXB.out))
    have z40 : V4.drew.cell? ⟨xp, 0, none⟩ = some (.string t.o) := by show V4.cell? _ = _; rw [HP4.out.cell]; rfl
    have z41 : V4.drew.cell? ⟨xp, 1, none⟩ = some (.string t.r) := by show V4.cell? _ = _; rw [HP4.out.cell]; rfl
    have z50 : V5.cell? ⟨xp, 0, none⟩ = some (.string t.o) := by rw [HP6.out.cell]; rfl
    have z51 : V5.cell? ⟨xp, 1, none⟩ = some (.string t.r) := by rw [HP6.out.cell]; rfl
    have HR5 := Lib.hid (owns_keptN HR4.out (fun k hk => hk5 k (HR4.out.lt k hk).2 (fun e => by simp [Value.ownBlock] at hk; rw [← hk] at e; exact HQB.out e)))
    have HC5 := Lib.hid (show Chg w V5 (fun k => k = gl ∨ k = b ∨ k = q) from HC4.out.drew.trans (Chg.ofGrown (P := fun k => k = b) hg5 (fun k _ e => by injection e with e; exact e.symm)) (fun k _ e => .inr (.inl e)))
    have c4 : V4.drew.cell? ⟨w.heap.size, 2, none⟩ = some (.map (some b)) := by show V4.cell? _ = _; rw [HX4.out.cell]; rfl
    have c5 : V5.cell? ⟨w.heap.size, 2, none⟩ = some (.map (some b)) := by rw [HX5.out.cell]; rfl
    have hec : e ≤ cap := by
      have := HR4.out.2
      rcases this with ⟨h1, _⟩ | ⟨_, _, _, h1, _, _, h2, _⟩
      · cases h1
      · injection h1 with _ _ h3
        omega
    have hec2 : (0 : Int) ≤ (e : Int) ∧ (e : Int) ≤ (cap : Int) := by omega
    clear hm4 hk4 hV4 hm5 hg5 hsz5 hk5 HL3 HM3 HX3 HR3 HC3 HL4 HX4 HR4 HC4 HP3 HP4
    go_region_held3 (fun W : World => (W.cell? ⟨xp, 0, none⟩ = some (.string t.o) ∧ W.cell? ⟨xp, 1, none⟩ = some (.string t.r)) ∧ W.cell? ⟨w.heap.size, 2, none⟩ = some (.map (some b))) (first | assumption | exact ⟨⟨z40, z41⟩, c4⟩ | exact ⟨⟨z50, z51⟩, c5⟩) (first | fail)
    all_goals
      clear c4 hrun
      by_cases hez : e = 0
      · subst hez
        have hzz : ((0 : Nat) : Int) = 0 := rfl
        have hN5 : N < maxLen := hN
        go_wp2_with (at_delete; refine wpList_drop_map _ rfl _ _ 63 68 rfl 80 keyP Tryz.underlying63 _ (zeroL _) b N _ rfl HM5.out (.agg #[.string t.o, .string t.r]) (kP t.o t.r) rfl hkey ?_; intro V6 hm6 hg6 hs6
                     rw [mset_twice] at hm6
                     have hk6 : ∀ k, k < V5.heap.size → k ≠ b → V6.heap[k]? = V5.heap[k]? := fun k hk hne => hg6.block k hk (fun e => hne (by injection e))
                     have HF := Lib.hid (show V6.ownsRow 0 81 1 (.slice (some ⟨q, 0, none⟩) (0 + 1 - 1) cap) (0 + 1 - 1) ((xs.set pos (ptr gl)).take (0 + 1 - 1)) ∧ (∃ N', N' ≤ N ∧ MapAt V6 Tryz.prog 68 b (mset m (kP t.o t.r) (if 0 + 1 = 1 then none else some (.slice (some ⟨q, 0, none⟩) (0 + 1 - 1) cap))) N') ∧ Whole V6 gl 87 #[.string tl.o, .string tl.r, .string tl.u, svl, .int .i64 q0, .int .i64 (pos : Int), .int .i64 q2] ∧ Chg w V6 (fun k => k = gl ∨ k = b ∨ k = q) from
                       ⟨owns_keptN HR5.out (fun k hk => hk6 k (HR5.out.lt k hk).2 (fun e => by simp [Value.ownBlock] at hk; rw [← hk] at e; exact HQB.out e)), ⟨_, by split <;> omega, hm6⟩, HL5.out.kept (hk6 gl HL5.out.lt (fun e => HBL.out e)), HC5.out.trans (Chg.ofGrown (P := fun k => k = b) hg6 (fun k _ e => by injection e with e; exact e.symm)) (fun k _ e => .inr (.inl e))⟩)
                     clear hm6 hg6 hs6 hk6)
        exact ⟨rfl, .tuple #[], (by simp [results, Tryz.results75, go_sem]), rfl, HF.out⟩
      · have hez2 : ¬ (e : Int) = 0 := by omega
        go_wp2
        exact ⟨rfl, .tuple #[], (by simp [results, Tryz.results75, go_sem]), rfl, HR5.out, ⟨N, Nat.le_refl _, HM5.out⟩, HL5.out, HC5.out⟩
set_option maxRecDepth 100000 in
set_option maxHeartbeats 8000000 in
theorem rem2_any {w : World} {b N g gl : Nat} {m : Lit → Option Value} {t tl : Tp} {sv svl : Value} {p0 p1 q0 q1 q2 : Int} {pos : Nat} (hf : t.fits)
    (hm : MapAt w Tryz.prog 9 b m N) (hN : N < maxLen)
    (he : Whole w g 87 #[.string t.o, .string t.r, .string t.u, sv, .int .i64 p0, .int .i64 p1, .int .i64 (pos : Int)])
    (hl : Whole w gl 87 #[.string tl.o, .string tl.r, .string tl.u, svl, .int .i64 q0, .int .i64 q1, .int .i64 q2])
    {n q cap : Nat} {xs : List Value} (hv : m (kS t.u) = some (.slice (some ⟨q, 0, none⟩) n cap)) (hr : w.ownsRow 0 81 1 (.slice (some ⟨q, 0, none⟩) n cap) n xs) (hn0 : 0 < n) (hn : n ≤ 1099511627776) (hpn : pos < n) (hlast : xs[n - 1]? = some (ptr gl)) (hat : xs[pos]? = some (ptr g)) :
    Calls Tryz.prog 74 #[.agg #[.int .i64 2, fnV 20, .map (some b)], ptr g] w fun e w' => e = .returned (.tuple #[]) ∧ w'.ownsRow 0 81 1 (.slice (some ⟨q, 0, none⟩) (n - 1) cap) (n - 1) ((xs.set pos (ptr gl)).take (n - 1)) ∧
      (∃ N', N' ≤ N ∧ MapAt w' Tryz.prog 9 b (mset m (kS t.u) (if n = 1 then none else some (.slice (some ⟨q, 0, none⟩) (n - 1) cap))) N') ∧
      Whole w' gl 87 #[.string tl.o, .string tl.r, .string tl.u, svl, .int .i64 q0, .int .i64 q1, .int .i64 (pos : Int)] ∧ Chg w w' (fun k => k = gl ∨ k = b ∨ k = q) := by
  have hkey := (keyS_of hf.2.2)
  obtain ⟨w0, hw0⟩ : ∃ w0, w0 = w.alloc (.cells #[.int .i64 2, fnV 20, .map (some b)] 60) := ⟨_, rfl⟩
  have hb0 : Below w.heap.size w w0 := by rw [hw0]; exact below_alloc _ _
  have hx0 : Whole w0 w.heap.size 60 #[.int .i64 2, fnV 20, .map (some b)] := by rw [hw0]; exact heap_alloc_new _ _
  have HE0 := Lib.hid (he.kept (hb0.block _ he.lt))
  have HL0 := Lib.hid (hl.kept (hb0.block _ hl.lt))
  have HM0 := Lib.hid (hm.below hb0)
  have HR0 := Lib.hid (owns_keptN hr (fun k hk => hb0.block k (hr.lt k hk).2))
  have HX0 := Lib.hid hx0
  have HB0 := Lib.hid hb0
  have HXS := Lib.hid (show xs.length = n from by have := hr.1; omega)
  have HBL := Lib.hid (hm.ne hl)
  have hqblk : ∃ cur, Whole w q 81 cur := (owned_block hr rfl).2
  have HQL := Lib.hid (show q ≠ gl from by
    obtain ⟨cur, hW⟩ := hqblk
    exact whole_ne hW hl (by decide))
  have HQB := Lib.hid (show q ≠ b from by
    obtain ⟨cur, hW⟩ := hqblk
    exact hm.ne hW)
  have HQX := Lib.hid (show q ≠ w.heap.size from by
    obtain ⟨cur, hW⟩ := hqblk
    have := hW.lt
    omega)
  have HLX := Lib.hid (show gl ≠ w.heap.size from by have := hl.lt; omega)
  have HBX := Lib.hid (show b ≠ w.heap.size from by have := hm.lt; omega)
  have HV0 := Lib.hid hv
  have HLA := Lib.hid hlast
  have HKF := Lib.hid (fun W => key3_any t W)
  have HLK := Lib.hid (fun W (hW : Below w0.heap.size w0 W) => (show (Instr.lookup 58 (.map (some b)) (.string t.u) false).run Tryz.prog W = .ok (.slice (some ⟨q, 0, none⟩) n cap) W from by
    have := (HM0.out.below hW).look keyS Tryz.underlying58 (zeroL _) false hkey
    rw [HV0.out] at this
    simpa using this))
  have HC0 := Lib.hid (fun W (hW : Below w0.heap.size w0 W) => (show (W.cell? ⟨w.heap.size, 0, none⟩ = some (.int .i64 2) ∧ W.cell? ⟨w.heap.size, 1, none⟩ = some (fnV 20) ∧ W.cell? ⟨w.heap.size, 2, none⟩ = some (.map (some b))) ∧ W.cell? ⟨g, 0, none⟩ = some (.string t.o) ∧ W.cell? ⟨g, 1, none⟩ = some (.string t.r) ∧ W.cell? ⟨g, 2, none⟩ = some (.string t.u) from by
    have hx := HX0.out.kept (hW.block _ HX0.out.lt)
    have hg := HE0.out.kept (hW.block _ HE0.out.lt)
    exact ⟨⟨by rw [hx.cell]; rfl, by rw [hx.cell]; rfl, by rw [hx.cell]; rfl⟩, by rw [hg.cell]; rfl, by rw [hg.cell]; rfl, by rw [hg.cell]; rfl⟩))
  clear hm he hl hr hb0 hx0 hv hlast hqblk
  go_enter Tryz.func74, Tryz.ntmps74
  go_upto_region 1 with fail
  rw [← hw0]
  clear hw0
  go_region_held3 (fun W : World => (W.cell? ⟨w.heap.size, 0, none⟩ = some (.int .i64 2) ∧ W.cell? ⟨w.heap.size, 1, none⟩ = some (fnV 20) ∧ W.cell? ⟨w.heap.size, 2, none⟩ = some (.map (some b))) ∧ W.cell? ⟨g, 0, none⟩ = some (.string t.o) ∧ W.cell? ⟨g, 1, none⟩ = some (.string t.r) ∧ W.cell? ⟨g, 2, none⟩ = some (.string t.u)) (first | assumption | with_reducible exact HC0.out _ (below_drewN _ 1)) (first
    | (go_at_call 20; refine (HKF.out _).mono ?_; rintro e w1 ⟨rfl, hb1⟩
       have hb2 := bell_up (below_drewN w0 1) hb1
       have hc1 := HC0.out w1 hb2
       have HB2 := Lib.hid hb2
       clear hb1 hb2))
  go_upto_region 2 with fail
  clear hc1
  have hbd := bell_up HB2.out (below_drewN w1 1)
  have hlk := HLK.out w1.drew hbd
  obtain ⟨⟨d0, d1, d2⟩, _, _, _⟩ := HC0.out w1.drew hbd
  have hE1 := HE0.out.kept (HB2.out.block _ HE0.out.lt)
  have hsp : w1.drew.cell? ⟨g, 6, none⟩ = some (.int .i64 (pos : Int)) := by
    show w1.cell? _ = _
    rw [hE1.cell]; rfl
  have hlt : (pos : Int) < (n : Int) := by omega
  clear hbd hE1
  go_region
  clear hlk d0 d1 d2 hsp 
  -- the row, the last entry, the map
  obtain ⟨V, hV⟩ : ∃ V, V = w1.drew := ⟨_, rfl⟩
  try rw [← hV]
  have hbV : Below w0.heap.size w0 V := by rw [hV]; exact bell_up HB2.out (below_drew1 _)
  have HBV := Lib.hid hbV
  have HRV := Lib.hid (owns_keptN HR0.out (fun k hk => hbV.block k (HR0.out.lt k hk).2))
  have HLV := Lib.hid (HL0.out.kept (hbV.block _ HL0.out.lt))
  have HMV := Lib.hid (HM0.out.below hbV)
  have HXV := Lib.hid (HX0.out.kept (hbV.block _ HX0.out.lt))
  clear hV hbV
  obtain ⟨e, he⟩ : ∃ e, n = e + 1 := ⟨n - 1, by omega⟩
  subst he
  have hen : IntKind.i64.wrap (((e + 1 : Nat) : Int) - 1) = (e : Int) := by rw [IntWalk.i64_in _ (by omega)]; omega
  have hel : (e : Int) < ((e + 1 : Nat) : Int) := by omega
  have hel0 : (0 : Int) ≤ (e : Int) ∧ (e : Int) ≤ ((e + 1 : Nat) : Int) := by omega
  have hcells := own_cells HRV.out (by omega)
  obtain ⟨_, _, hve, hqV, hqc⟩ := hcells
  injection hve with hve f2 f3
  clear f2 f3
  injection hve with hve
  injection hve with hve
  subst hve
  have s1 : V.cell? ⟨q, e, none⟩ = some (ptr gl) := hqc _ _ HLA.out
  have s2 : V.cell? ⟨q, pos, none⟩ = some (ptr g) := hqc _ _ hat
  have s3 : V.frozen? ⟨q, pos, none⟩ = false := HRV.out.frozenAt _
  clear hqc hqV
  go_upto_region 5 with fail
  clear s1 s2 s3
  obtain ⟨V2, hV2⟩ : ∃ V2, V2 = V.setCell ⟨q, pos, none⟩ (ptr gl) := ⟨_, rfl⟩
  rw [← hV2]
  have hr2 : V2.ownsRow 0 81 1 (.slice (some ⟨q, 0, none⟩) (e + 1) cap) (e + 1) (xs.set pos (ptr gl)) := by rw [hV2]; exact (HRV.out.stored _ _).1
  have hk2 : ∀ k, k ≠ q → V2.heap[k]? = V.heap[k]? := fun k hk => by rw [hV2]; exact Below.heap_setCell V ⟨q, pos, none⟩ _ k hk
  have HL2 := Lib.hid (HLV.out.kept (hk2 gl (fun e => HQL.out e.symm)))
  have HM2 := Lib.hid (HMV.out.kept (hk2 b (fun e => HQB.out e.symm)))
  have HX2 := Lib.hid (HXV.out.kept (hk2 _ (fun e => HQX.out e.symm)))
  have HR2 := Lib.hid hr2
  have HC2 := Lib.hid (show Chg w V2 (fun k => k = gl ∨ k = b ∨ k = q) from by
    rw [hV2]
    exact (Chg.ofBelow _ (bell_up HB0.out HBV.out)).set (.inr (.inr rfl)) _ _)
  have hxl : (xs.set pos (ptr gl)).length = e + 1 := by rw [List.length_set, HXS.out]
  have hxp2 : (xs.set pos (ptr gl))[pos]? = some (ptr gl) := by rw [List.getElem?_set_self (by rw [HXS.out]; exact hpn)]
  have hxe : (xs.set pos (ptr gl))[e]? = some (ptr gl) := by
    by_cases hpe : pos = e
    · rw [← hpe]; exact hxp2
    · rw [List.getElem?_set_ne hpe]; exact HLA.out
  obtain ⟨_, _, hve, _, hqc⟩ := own_cells hr2 (by omega)
  injection hve with hve f2 f3
  clear f2 f3
  injection hve with hve
  injection hve with hve
  subst hve
  have s2 : V2.drew.cell? ⟨q, pos, none⟩ = some (ptr gl) := hqc _ _ hxp2
  have s4 : V2.drew.cell? ⟨w.heap.size, 0, none⟩ = some (.int .i64 2) := by show V2.cell? _ = _; rw [HX2.out.cell]; rfl
  have s5 : V2.drew.cell? ⟨gl, 6, none⟩ = some (.int .i64 q2) := by show V2.cell? _ = _; rw [HL2.out.cell]; rfl
  have s6 : V2.drew.frozen? ⟨gl, 6, none⟩ = false := HL2.out.free 6
  have s7 : V2.frozen? ⟨gl, 6, none⟩ = false := HL2.out.free 6
  have s8 : V2.cell? ⟨gl, 6, none⟩ = some (.int .i64 q2) := by rw [HL2.out.cell]; rfl
  clear hqc hr2 hk2 hV2 hxp2 HRV HLV HMV HXV 
  go_region
  clear s2 s4 s5 s6 s7 s8
  obtain ⟨V3, hV3⟩ : ∃ V3, V3 = (V2.setCell ⟨gl, 6, none⟩ (.int .i64 (pos : Int))).drew := ⟨_, rfl⟩
  rw [← hV3]
  have hk3 : ∀ k, k ≠ gl → V3.heap[k]? = V2.heap[k]? := fun k hk => by rw [hV3]; exact Below.heap_setCell V2 ⟨gl, 6, none⟩ _ k hk
  have HL3 := Lib.hid (show Whole V3 gl 87 #[.string tl.o, .string tl.r, .string tl.u, svl, .int .i64 q0, .int .i64 q1, .int .i64 (pos : Int)] from by
    rw [hV3]
    exact (show Whole (V2.setCell ⟨gl, 6, none⟩ (.int .i64 (pos : Int))) gl 87 _ from HL2.out.store 6 (.int .i64 (pos : Int))))
  have HM3 := Lib.hid (HM2.out.kept (hk3 b (fun e => HBL.out e.symm)))
  have HX3 := Lib.hid (HX2.out.kept (hk3 _ (fun e => HLX.out e.symm)))
  have hr3 := owns_keptN HR2.out (fun k hk => hk3 k (fun e => by simp [Value.ownBlock] at hk; rw [← hk] at e; exact HQL.out e))
  have HC3 := Lib.hid (show Chg w V3 (fun k => k = gl ∨ k = b ∨ k = q) from by
    rw [hV3]
    exact (HC2.out.set (.inl rfl) _ _).drew)
  obtain ⟨_, _, hve, _, hqc⟩ := own_cells hr3 (by omega)
  injection hve with hve f2 f3
  clear f2 f3
  injection hve with hve
  injection hve with hve
  subst hve
  have s1 : V3.cell? ⟨q, e, none⟩ = some (ptr gl) := hqc _ _ hxe
  have s3 : V3.frozen? ⟨q, e, none⟩ = false := hr3.frozenAt _
  have HR3 := Lib.hid hr3
  clear hqc hr3 hk3 hV3 HL2 HM2 HX2 HR2 HC2 
  go_upto_region 7 with fail
  clear s1 s3
  obtain ⟨V4, hV4⟩ : ∃ V4, V4 = V3.setCell ⟨q, e, none⟩ (.pointer none) := ⟨_, rfl⟩
  rw [← hV4]
  have hk4 : ∀ k, k ≠ q → V4.heap[k]? = V3.heap[k]? := fun k hk => by rw [hV4]; exact Below.heap_setCell V3 ⟨q, e, none⟩ _ k hk
  have HL4 := Lib.hid (HL3.out.kept (hk4 gl (fun e => HQL.out e.symm)))
  have hm4 := HM3.out.kept (hk4 b (fun e => HQB.out e.symm))
  have HX4 := Lib.hid (HX3.out.kept (hk4 _ (fun e => HQX.out e.symm)))
  have HR4 := Lib.hid (show V4.ownsRow 0 81 1 (.slice (some ⟨q, 0, none⟩) e cap) e ((xs.set pos (ptr gl)).take e) from by
    have h1 := owns_head (show V4.ownsRow 0 81 1 (.slice (some ⟨q, 0, none⟩) (e + 1) cap) (e + 1) ((xs.set pos (ptr gl)).set e (.pointer none)) by rw [hV4]; exact (HR3.out.stored _ _).1) (Nat.le_succ e)
    rwa [List.take_set_of_le (Nat.le_refl e)] at h1)
  have HC4 := Lib.hid (show Chg w V4 (fun k => k = gl ∨ k = b ∨ k = q) from by
    rw [hV4]
    exact HC3.out.set (.inr (.inr rfl)) _ _)
  obtain ⟨V5, hrun, hm5, hg5, hsz5⟩ := (hm4.kept (w' := V4.drew) rfl).store (val := .slice (some ⟨q, 0, none⟩) e cap) keyS Tryz.underlying58 (zeroL _) hN hkey
  rw [HV0.out] at hm5
  have HM5 := Lib.hid (show MapAt V5 Tryz.prog 9 b (mset m (kS t.u) (some (.slice (some ⟨q, 0, none⟩) e cap))) N from hm5)
  have hk5 : ∀ k, k < V4.heap.size → k ≠ b → V5.heap[k]? = V4.heap[k]? := fun k hk hne => hg5.block k hk (fun e => hne (by injection e))
  have HL5 := Lib.hid (HL4.out.kept (hk5 gl HL4.out.lt (fun e => HBL.out e)))
  have HX5 := Lib.hid (HX4.out.kept (hk5 _ HX4.out.lt (fun e => HBX.out e.symm)))
  have HR5 := Lib.hid (owns_keptN HR4.out (fun k hk => hk5 k (HR4.out.lt k hk).2 (fun e => by simp [Value.ownBlock] at hk; rw [← hk] at e; exact HQB.out e)))
  have HC5 := Lib.hid (show Chg w V5 (fun k => k = gl ∨ k = b ∨ k = q) from HC4.out.drew.trans (Chg.ofGrown (P := fun k => k = b) hg5 (fun k _ e => by injection e with e; exact e.symm)) (fun k _ e => .inr (.inl e)))
  have c4 : V4.drew.cell? ⟨w.heap.size, 2, none⟩ = some (.map (some b)) := by show V4.cell? _ = _; rw [HX4.out.cell]; rfl
  have c5 : V5.cell? ⟨w.heap.size, 2, none⟩ = some (.map (some b)) := by rw [HX5.out.cell]; rfl
  have hec : e ≤ cap := by
    have := HR4.out.2
    rcases this with ⟨h1, _⟩ | ⟨_, _, _, h1, _, _, h2, _⟩
    · cases h1
    · injection h1 with _ _ h3
      omega
  have hec2 : (0 : Int) ≤ (e : Int) ∧ (e : Int) ≤ (cap : Int) := by omega
  clear hm4 hk4 hV4 hm5 hg5 hsz5 hk5 HL3 HM3 HX3 HR3 HC3 HL4 HX4 HR4 HC4 
  go_region_held3 (fun W : World => W.cell? ⟨w.heap.size, 2, none⟩ = some (.map (some b))) (first | assumption | exact c4 | exact c5) (first | fail)
  all_goals
    clear c4 hrun
    by_cases hez : e = 0
    · subst hez
      have hzz : ((0 : Nat) : Int) = 0 := rfl
      have hN5 : N < maxLen := hN
      go_wp2_with (at_delete; refine wpList_drop_map _ rfl _ _ 58 9 rfl 80 keyS Tryz.underlying58 _ (zeroL _) b N _ rfl HM5.out (.string t.u) (kS t.u) rfl hkey ?_; intro V6 hm6 hg6 hs6
                   rw [mset_twice] at hm6
                   have hk6 : ∀ k, k < V5.heap.size → k ≠ b → V6.heap[k]? = V5.heap[k]? := fun k hk hne => hg6.block k hk (fun e => hne (by injection e))
                   have HF := Lib.hid (show V6.ownsRow 0 81 1 (.slice (some ⟨q, 0, none⟩) (0 + 1 - 1) cap) (0 + 1 - 1) ((xs.set pos (ptr gl)).take (0 + 1 - 1)) ∧ (∃ N', N' ≤ N ∧ MapAt V6 Tryz.prog 9 b (mset m (kS t.u) (if 0 + 1 = 1 then none else some (.slice (some ⟨q, 0, none⟩) (0 + 1 - 1) cap))) N') ∧ Whole V6 gl 87 #[.string tl.o, .string tl.r, .string tl.u, svl, .int .i64 q0, .int .i64 q1, .int .i64 (pos : Int)] ∧ Chg w V6 (fun k => k = gl ∨ k = b ∨ k = q) from
                     ⟨owns_keptN HR5.out (fun k hk => hk6 k (HR5.out.lt k hk).2 (fun e => by simp [Value.ownBlock] at hk; rw [← hk] at e; exact HQB.out e)), ⟨_, by split <;> omega, hm6⟩, HL5.out.kept (hk6 gl HL5.out.lt (fun e => HBL.out e)), HC5.out.trans (Chg.ofGrown (P := fun k => k = b) hg6 (fun k _ e => by injection e with e; exact e.symm)) (fun k _ e => .inr (.inl e))⟩)
                   clear hm6 hg6 hs6 hk6)
      exact ⟨rfl, .tuple #[], (by simp [results, Tryz.results74, go_sem]), rfl, HF.out⟩
    · have hez2 : ¬ (e : Int) = 0 := by omega
      go_wp2
      exact ⟨rfl, .tuple #[], (by simp [results, Tryz.results74, go_sem]), rfl, HR5.out, ⟨N, Nat.le_refl _, HM5.out⟩, HL5.out, HC5.out⟩
end Go.Proofs.YtmjdngomjjhhiaaGreat

namespace Go.Proofs.YtmjdngomjjhhiaaGreat
open Go.RowKit
open Go.Maps (Keyed)

def kbut (K : List Tp) (t : Tp) : List Tp := K.filter fun x => decide (x ≠ t)
/-- The indexes below J have the tuple no more. -/
def KR (K : List Tp) (t : Tp) (J : Nat) : Nat → List Tp := fun i => if i < J then kbut K t else K
theorem KR_next (K : List Tp) (t : Tp) (J : Nat) : (fun j => if j = J then kbut K t else KR K t J j) = KR K t (J + 1) := by
  funext j
  unfold KR
  by_cases h1 : j = J
  · rw [if_pos h1, if_pos (by omega)]
  · rw [if_neg h1]
    by_cases h2 : j < J
    · rw [if_pos h2, if_pos (by omega)]
    · rw [if_neg h2, if_neg (by omega)]
theorem swap_map {α β : Type} (f : α → β) {L : List α} {pos : Nat} {last : α} (hl : L.getLast? = some last) : ((L.map f).set pos (f last)).take (L.length - 1) = (swapOut L pos).map f := by
  unfold swapOut
  rw [hl]
  show _ = ((L.set pos last).dropLast).map f
  rw [List.dropLast_eq_take, List.map_take, List.map_set, List.length_set]
theorem swapOut_nil {α : Type} {L : List α} {pos : Nat} (h : L.length = 1) : swapOut L pos = [] := List.eq_nil_of_length_eq_zero (by rw [swapOut_length]; omega)
section
variable {w : World} {wm : Int} {K : List Tp} {sp : Tp → List Sp} {H : Gh} {cb : Nat} {t : Tp}
theorem grem0_any (h : StGen w wm K (kbut K t) (KR K t 0) sp H cb) (ht : t ∈ K) (hK : K.length ≤ 1099511627776) (hcb : cb < maxLen) :
    Calls Tryz.prog 74 #[.agg #[.int .i64 0, fnV 17, .map (some (H.bi 0))], ptr (H.ge t)] w fun e w' => e = .returned (.tuple #[]) ∧ ∃ H', StGen w' wm K (kbut K t) (KR K t 1) sp H' cb ∧ StC w w' H H' ∧ H'.ge = H.ge ∧ H'.bi = H.bi ∧ H'.be = H.be ∧ H'.me = H.me := by
  have hE := h.ents t ht
  obtain ⟨a, c, hv, hA⟩ := hE.at_
  have hI := h.ix 0 (by omega)
  have hKI : KR K t 0 0 = K := if_neg (by omega)
  rw [hKI] at hI
  obtain ⟨N, hN, hM⟩ := hI.map
  have hln : (H.L 0 (kI 0 t)).length ≤ K.length := nd_len (hI.ok.nd _) (fun x hx => ((hI.ok.mem _ x).1 hx).1)
  have hat := hI.ok.at_ t ht
  have hpl := (List.getElem?_eq_some_iff.1 hat).1
  obtain ⟨last, hlast⟩ : ∃ last, (H.L 0 (kI 0 t)).getLast? = some last := by
    cases hg : (H.L 0 (kI 0 t)).getLast? with
    | none => rw [List.getLast?_eq_none_iff.1 hg] at hpl; exact absurd hpl (Nat.not_lt_zero _)
    | some x => exact ⟨x, rfl⟩
  have hlK : last ∈ K := ((hI.ok.mem _ last).1 (List.mem_of_getLast? hlast)).1
  obtain ⟨la, lc, hlv, hLA⟩ := (h.ents last hlK).at_
  have hrow := hI.row (kI 0 t)
  obtain ⟨q, cap, hmv⟩ : ∃ q cap, H.m 0 (kI 0 t) = some (.slice (some ⟨q, 0, none⟩) (H.L 0 (kI 0 t)).length cap) := by
    cases hm : H.m 0 (kI 0 t) with
    | none => rw [(hI.none_ _).1 hm] at hpl; exact absurd hpl (Nat.not_lt_zero _)
    | some v =>
      rw [hm] at hrow
      rcases hrow.2 with ⟨_, h0⟩ | ⟨q, cap, cur, he, _⟩
      · omega
      · exact ⟨q, cap, by rw [← he]; rfl⟩
  have hrow2 : w.ownsRow 0 81 1 (.slice (some ⟨q, 0, none⟩) (H.L 0 (kI 0 t)).length cap) (H.L 0 (kI 0 t)).length ((H.L 0 (kI 0 t)).map fun t => ptr (H.ge t)) := by
    rw [hmv] at hrow; exact hrow
  have hob : ((H.m 0 (kI 0 t)).getD nilS).ownBlock = some q := by rw [hmv]; rfl
  refine (rem0_any (t := t) (tl := last) hE.fit hM (by omega) hA.blk hLA.blk hmv hrow2 (by omega) (by omega) hpl (by
    rw [List.getElem?_map, ← List.getLast?_eq_getElem?, hlast]; rfl) (by rw [List.getElem?_map, hat]; rfl)).mono ?_
  rintro _ w' ⟨rfl, r1, ⟨N', hN', r2⟩, r3, r4⟩
  refine ⟨rfl, ?_⟩
  have hok := @IxOk.remove Lit litDec (kI 0) K (H.L 0) (H.ps 0) hI.ok t last ht hlast
  rw [swap_map (fun t => ptr (H.ge t)) hlast] at r1
  have hsl := swapOut_length (H.L 0 (kI 0 t)) (H.ps 0 t)
  have ho : (if (H.L 0 (kI 0 t)).length = 1 then (none : Option Value) else some (.slice (some ⟨q, 0, none⟩) ((H.L 0 (kI 0 t)).length - 1) cap)) = none ↔ swapOut (H.L 0 (kI 0 t)) (H.ps 0 t) = [] := by
    by_cases h1 : (H.L 0 (kI 0 t)).length = 1
    · rw [if_pos h1]; exact ⟨fun _ => swapOut_nil h1, fun _ => rfl⟩
    · rw [if_neg h1]
      refine ⟨fun e => (by cases e), fun e => ?_⟩
      rw [e] at hsl
      simp at hsl
      omega
  obtain ⟨g1, g2⟩ := h.index (i := 0) (by omega) (k := kI 0 t) (kI_lit _ _) (l := swapOut (H.L 0 (kI 0 t)) (H.ps 0 t)) (o := if (H.L 0 (kI 0 t)).length = 1 then none else some (.slice (some ⟨q, 0, none⟩) ((H.L 0 (kI 0 t)).length - 1) cap)) (x := last) (n := H.ps 0 t) (cb' := cb) (K' := kbut K t) hlK (Nat.le_refl _)
    (by rw [hlv]; exact r3) r2 (by omega) (by
      rw [hsl]
      by_cases h1 : (H.L 0 (kI 0 t)).length = 1
      · rw [if_pos h1, swapOut_nil h1, h1]
        exact World.ownsRow_nil _ _ _ _
      · rw [if_neg h1]; exact r1) ho hok (r4.mono (fun k _ hk => by
        rcases hk with h1 | h1 | h1
        · exact .inl h1
        · exact .inr (.inl h1)
        · exact .inr (.inr (by rw [hob, h1]))))
    (fun q2 hq => .inl (by
      rw [hob]
      by_cases h1 : (H.L 0 (kI 0 t)).length = 1
      · rw [if_pos h1] at hq; cases hq
      · rw [if_neg h1] at hq; exact hq))
  rw [KR_next] at g1
  exact ⟨_, g1, g2, rfl, rfl, rfl, rfl⟩
theorem grem1_any (h : StGen w wm K (kbut K t) (KR K t 1) sp H cb) (ht : t ∈ K) (hK : K.length ≤ 1099511627776) (hcb : cb < maxLen) :
    Calls Tryz.prog 75 #[.agg #[.int .i64 1, fnV 19, .map (some (H.bi 1))], ptr (H.ge t)] w fun e w' => e = .returned (.tuple #[]) ∧ ∃ H', StGen w' wm K (kbut K t) (KR K t 2) sp H' cb ∧ StC w w' H H' ∧ H'.ge = H.ge ∧ H'.bi = H.bi ∧ H'.be = H.be ∧ H'.me = H.me := by
  have hE := h.ents t ht
  obtain ⟨a, c, hv, hA⟩ := hE.at_
  have hI := h.ix 1 (by omega)
  have hKI : KR K t 1 1 = K := if_neg (by omega)
  rw [hKI] at hI
  obtain ⟨N, hN, hM⟩ := hI.map
  have hln : (H.L 1 (kI 1 t)).length ≤ K.length := nd_len (hI.ok.nd _) (fun x hx => ((hI.ok.mem _ x).1 hx).1)
  have hat := hI.ok.at_ t ht
  have hpl := (List.getElem?_eq_some_iff.1 hat).1
  obtain ⟨last, hlast⟩ : ∃ last, (H.L 1 (kI 1 t)).getLast? = some last := by
    cases hg : (H.L 1 (kI 1 t)).getLast? with
    | none => rw [List.getLast?_eq_none_iff.1 hg] at hpl; exact absurd hpl (Nat.not_lt_zero _)
    | some x => exact ⟨x, rfl⟩
  have hlK : last ∈ K := ((hI.ok.mem _ last).1 (List.mem_of_getLast? hlast)).1
  obtain ⟨la, lc, hlv, hLA⟩ := (h.ents last hlK).at_
  have hrow := hI.row (kI 1 t)
  obtain ⟨q, cap, hmv⟩ : ∃ q cap, H.m 1 (kI 1 t) = some (.slice (some ⟨q, 0, none⟩) (H.L 1 (kI 1 t)).length cap) := by
    cases hm : H.m 1 (kI 1 t) with
    | none => rw [(hI.none_ _).1 hm] at hpl; exact absurd hpl (Nat.not_lt_zero _)
    | some v =>
      rw [hm] at hrow
      rcases hrow.2 with ⟨_, h0⟩ | ⟨q, cap, cur, he, _⟩
      · omega
      · exact ⟨q, cap, by rw [← he]; rfl⟩
  have hrow2 : w.ownsRow 0 81 1 (.slice (some ⟨q, 0, none⟩) (H.L 1 (kI 1 t)).length cap) (H.L 1 (kI 1 t)).length ((H.L 1 (kI 1 t)).map fun t => ptr (H.ge t)) := by
    rw [hmv] at hrow; exact hrow
  have hob : ((H.m 1 (kI 1 t)).getD nilS).ownBlock = some q := by rw [hmv]; rfl
  refine (rem1_any (t := t) (tl := last) hE.fit hM (by omega) hA.blk hLA.blk hmv hrow2 (by omega) (by omega) hpl (by
    rw [List.getElem?_map, ← List.getLast?_eq_getElem?, hlast]; rfl) (by rw [List.getElem?_map, hat]; rfl)).mono ?_
  rintro _ w' ⟨rfl, r1, ⟨N', hN', r2⟩, r3, r4⟩
  refine ⟨rfl, ?_⟩
  have hok := @IxOk.remove Lit litDec (kI 1) K (H.L 1) (H.ps 1) hI.ok t last ht hlast
  rw [swap_map (fun t => ptr (H.ge t)) hlast] at r1
  have hsl := swapOut_length (H.L 1 (kI 1 t)) (H.ps 1 t)
  have ho : (if (H.L 1 (kI 1 t)).length = 1 then (none : Option Value) else some (.slice (some ⟨q, 0, none⟩) ((H.L 1 (kI 1 t)).length - 1) cap)) = none ↔ swapOut (H.L 1 (kI 1 t)) (H.ps 1 t) = [] := by
    by_cases h1 : (H.L 1 (kI 1 t)).length = 1
    · rw [if_pos h1]; exact ⟨fun _ => swapOut_nil h1, fun _ => rfl⟩
    · rw [if_neg h1]
      refine ⟨fun e => (by cases e), fun e => ?_⟩
      rw [e] at hsl
      simp at hsl
      omega
  obtain ⟨g1, g2⟩ := h.index (i := 1) (by omega) (k := kI 1 t) (kI_lit _ _) (l := swapOut (H.L 1 (kI 1 t)) (H.ps 1 t)) (o := if (H.L 1 (kI 1 t)).length = 1 then none else some (.slice (some ⟨q, 0, none⟩) ((H.L 1 (kI 1 t)).length - 1) cap)) (x := last) (n := H.ps 1 t) (cb' := cb) (K' := kbut K t) hlK (Nat.le_refl _)
    (by rw [hlv]; exact r3) r2 (by omega) (by
      rw [hsl]
      by_cases h1 : (H.L 1 (kI 1 t)).length = 1
      · rw [if_pos h1, swapOut_nil h1, h1]
        exact World.ownsRow_nil _ _ _ _
      · rw [if_neg h1]; exact r1) ho hok (r4.mono (fun k _ hk => by
        rcases hk with h1 | h1 | h1
        · exact .inl h1
        · exact .inr (.inl h1)
        · exact .inr (.inr (by rw [hob, h1]))))
    (fun q2 hq => .inl (by
      rw [hob]
      by_cases h1 : (H.L 1 (kI 1 t)).length = 1
      · rw [if_pos h1] at hq; cases hq
      · rw [if_neg h1] at hq; exact hq))
  rw [KR_next] at g1
  exact ⟨_, g1, g2, rfl, rfl, rfl, rfl⟩
theorem grem2_any (h : StGen w wm K (kbut K t) (KR K t 2) sp H cb) (ht : t ∈ K) (hK : K.length ≤ 1099511627776) (hcb : cb < maxLen) :
    Calls Tryz.prog 74 #[.agg #[.int .i64 2, fnV 20, .map (some (H.bi 2))], ptr (H.ge t)] w fun e w' => e = .returned (.tuple #[]) ∧ ∃ H', StGen w' wm K (kbut K t) (KR K t 3) sp H' cb ∧ StC w w' H H' ∧ H'.ge = H.ge ∧ H'.bi = H.bi ∧ H'.be = H.be ∧ H'.me = H.me := by
  have hE := h.ents t ht
  obtain ⟨a, c, hv, hA⟩ := hE.at_
  have hI := h.ix 2 (by omega)
  have hKI : KR K t 2 2 = K := if_neg (by omega)
  rw [hKI] at hI
  obtain ⟨N, hN, hM⟩ := hI.map
  have hln : (H.L 2 (kI 2 t)).length ≤ K.length := nd_len (hI.ok.nd _) (fun x hx => ((hI.ok.mem _ x).1 hx).1)
  have hat := hI.ok.at_ t ht
  have hpl := (List.getElem?_eq_some_iff.1 hat).1
  obtain ⟨last, hlast⟩ : ∃ last, (H.L 2 (kI 2 t)).getLast? = some last := by
    cases hg : (H.L 2 (kI 2 t)).getLast? with
    | none => rw [List.getLast?_eq_none_iff.1 hg] at hpl; exact absurd hpl (Nat.not_lt_zero _)
    | some x => exact ⟨x, rfl⟩
  have hlK : last ∈ K := ((hI.ok.mem _ last).1 (List.mem_of_getLast? hlast)).1
  obtain ⟨la, lc, hlv, hLA⟩ := (h.ents last hlK).at_
  have hrow := hI.row (kI 2 t)
  obtain ⟨q, cap, hmv⟩ : ∃ q cap, H.m 2 (kI 2 t) = some (.slice (some ⟨q, 0, none⟩) (H.L 2 (kI 2 t)).length cap) := by
    cases hm : H.m 2 (kI 2 t) with
    | none => rw [(hI.none_ _).1 hm] at hpl; exact absurd hpl (Nat.not_lt_zero _)
    | some v =>
      rw [hm] at hrow
      rcases hrow.2 with ⟨_, h0⟩ | ⟨q, cap, cur, he, _⟩
      · omega
      · exact ⟨q, cap, by rw [← he]; rfl⟩
  have hrow2 : w.ownsRow 0 81 1 (.slice (some ⟨q, 0, none⟩) (H.L 2 (kI 2 t)).length cap) (H.L 2 (kI 2 t)).length ((H.L 2 (kI 2 t)).map fun t => ptr (H.ge t)) := by
    rw [hmv] at hrow; exact hrow
  have hob : ((H.m 2 (kI 2 t)).getD nilS).ownBlock = some q := by rw [hmv]; rfl
  refine (rem2_any (t := t) (tl := last) hE.fit hM (by omega) hA.blk hLA.blk hmv hrow2 (by omega) (by omega) hpl (by
    rw [List.getElem?_map, ← List.getLast?_eq_getElem?, hlast]; rfl) (by rw [List.getElem?_map, hat]; rfl)).mono ?_
  rintro _ w' ⟨rfl, r1, ⟨N', hN', r2⟩, r3, r4⟩
  refine ⟨rfl, ?_⟩
  have hok := @IxOk.remove Lit litDec (kI 2) K (H.L 2) (H.ps 2) hI.ok t last ht hlast
  rw [swap_map (fun t => ptr (H.ge t)) hlast] at r1
  have hsl := swapOut_length (H.L 2 (kI 2 t)) (H.ps 2 t)
  have ho : (if (H.L 2 (kI 2 t)).length = 1 then (none : Option Value) else some (.slice (some ⟨q, 0, none⟩) ((H.L 2 (kI 2 t)).length - 1) cap)) = none ↔ swapOut (H.L 2 (kI 2 t)) (H.ps 2 t) = [] := by
    by_cases h1 : (H.L 2 (kI 2 t)).length = 1
    · rw [if_pos h1]; exact ⟨fun _ => swapOut_nil h1, fun _ => rfl⟩
    · rw [if_neg h1]
      refine ⟨fun e => (by cases e), fun e => ?_⟩
      rw [e] at hsl
      simp at hsl
      omega
  obtain ⟨g1, g2⟩ := h.index (i := 2) (by omega) (k := kI 2 t) (kI_lit _ _) (l := swapOut (H.L 2 (kI 2 t)) (H.ps 2 t)) (o := if (H.L 2 (kI 2 t)).length = 1 then none else some (.slice (some ⟨q, 0, none⟩) ((H.L 2 (kI 2 t)).length - 1) cap)) (x := last) (n := H.ps 2 t) (cb' := cb) (K' := kbut K t) hlK (Nat.le_refl _)
    (by rw [hlv]; exact r3) r2 (by omega) (by
      rw [hsl]
      by_cases h1 : (H.L 2 (kI 2 t)).length = 1
      · rw [if_pos h1, swapOut_nil h1, h1]
        exact World.ownsRow_nil _ _ _ _
      · rw [if_neg h1]; exact r1) ho hok (r4.mono (fun k _ hk => by
        rcases hk with h1 | h1 | h1
        · exact .inl h1
        · exact .inr (.inl h1)
        · exact .inr (.inr (by rw [hob, h1]))))
    (fun q2 hq => .inl (by
      rw [hob]
      by_cases h1 : (H.L 2 (kI 2 t)).length = 1
      · rw [if_pos h1] at hq; cases hq
      · rw [if_neg h1] at hq; exact hq))
  rw [KR_next] at g1
  exact ⟨_, g1, g2, rfl, rfl, rfl, rfl⟩
theorem StRaw.unmap (h : StRaw w wm K sp H cb) (ht : t ∈ K) {w' : World} (hM : MapAt w' Tryz.prog 32 H.be (mset H.me (kT t) none) (K.length - 1)) (hC : Chg w w' (fun b => b = H.be)) :
    StGen w' wm K (kbut K t) (KR K t 0) sp { H with me := mset H.me (kT t) none } cb ∧ StC w w' H { H with me := mset H.me (kT t) none } := by
  have hlb : ∀ b lb, H.lab b = some lb → lb ≠ .map 3 → w'.heap[b]? = w.heap[b]? := fun b lb hb hn => hC.block b (h.lt b lb hb) (fun e2 => by
    rw [e2, h.em.lab] at hb; injection hb with hb; exact hn hb.symm)
  have hlen : (kbut K t).length = K.length - 1 := by
    have h1 : kbut K t = K.erase t := by
      rw [h.nd.erase_eq_filter]
      unfold kbut
      refine List.filter_congr fun x _ => ?_
      simp [bne]
      rfl
    rw [h1, List.length_erase_of_mem ht]
  have hm : ∀ y, y ∈ kbut K t ↔ y ∈ K ∧ y ≠ t := fun y => by unfold kbut; simp
  refine ⟨⟨h.wm0, fun b lb hb => Nat.lt_of_lt_of_le (h.lt b lb hb) hC.size, ⟨h.top.blk.kept (hlb _ _ h.ltop (by simp))⟩, h.ltop, ⟨by rw [hlen]; exact hM, h.em.lab, fun y hy => ?_, fun kl v hv => ?_⟩, fun y hy => ?_, fun i hi => ?_⟩, ?_⟩
  · obtain ⟨h1, h2⟩ := (hm y).1 hy
    show mset H.me (kT t) none (kT y) = _
    rw [mset_other (fun e => h2 (kT_inj (h.ents y h1).fit (h.ents t ht).fit e))]
    exact h.em.has y h1
  · have hv2 : mset H.me (kT t) none kl = some v := hv
    by_cases hk : kl = kT t
    · rw [hk, mset_same (kT_lit t)] at hv2; cases hv2
    · rw [mset_other hk] at hv2
      obtain ⟨y, hy, e⟩ := h.em.only kl v hv2
      exact ⟨y, (hm y).2 ⟨hy, fun e2 => hk (by rw [e, e2])⟩, e⟩
  · exact (h.ents y hy).keep (fun b hb => hb.elim (fun e2 => ⟨hlb b _ e2 (by simp), rfl⟩) (fun e2 => ⟨hlb b _ e2 (by simp), rfl⟩)) rfl rfl (fun _ _ => rfl)
  · have e2 : Lb.map i ≠ .map 3 := by intro e2; injection e2 with e2; omega
    exact (h.ix i hi).keep (fun b hb => hb.elim (fun e3 => ⟨hlb b _ e3 e2, rfl⟩) (fun ⟨q, e3⟩ => ⟨hlb b _ e3 (by simp), rfl⟩)) rfl rfl rfl (fun _ _ => rfl) (fun _ _ => rfl)
  · exact ⟨hC.mono (fun b _ hb => by rw [hb]; exact Gh.own_of h.em.lab), rfl, fun b _ ho => ho⟩
/-- A tuple's spans are gone. -/
def spBut (sp : Tp → List Sp) (t : Tp) : Tp → List Sp := updK sp t []
set_option maxRecDepth 100000 in
set_option maxHeartbeats 8000000 in
theorem forget_any (h : StRaw w wm K sp H cb) (ht : t ∈ K) (hcb : cb ≤ 1099511627000) :
    Calls Tryz.prog 51 #[ptr H.g, ptr (H.ge t)] w fun e w' => e = .returned (.tuple #[]) ∧ ∃ H', StRaw w' wm (kbut K t) (spBut sp t) H' cb ∧ StC w w' H H' ∧ ∀ y ∈ kbut K t, H'.ge y = H.ge y := by
  have hf := (h.ents t ht).fit
  obtain ⟨a, c, _, hA⟩ := (h.ents t ht).at_
  have hcells : ∀ W : World, W.heap[H.ge t]? = w.heap[H.ge t]? → W.cell? ⟨H.ge t, 0, none⟩ = some (.string t.o) ∧ W.cell? ⟨H.ge t, 1, none⟩ = some (.string t.r) ∧ W.cell? ⟨H.ge t, 2, none⟩ = some (.string t.u) := fun W hW => by
    have hE := hA.blk.kept hW
    exact ⟨by rw [hE.cell]; rfl, by rw [hE.cell]; rfl, by rw [hE.cell]; rfl⟩
  obtain ⟨e0, e1, e2⟩ := hcells w.drew rfl
  have htop : ∀ W : World, W.heap[H.g]? = w.heap[H.g]? → W.cell? ⟨H.g, 1, none⟩ = some (.map (some H.be)) := fun W hW => (StB.mk (h.top.blk.kept hW)).cells.2.1
  have c1 := htop w.drew rfl
  have hmd : (H.me (kT t)).isSome = true := by rw [h.em.has t ht]; rfl
  have HM := Lib.hid (h.em.map.kept (w' := w.drew) rfl)
  have HH := Lib.hid h
  have HTK := Lib.hid ht
  have HCE := Lib.hid hcells
  have HTO := Lib.hid htop
  have HNE := Lib.hid (show H.g ≠ H.be from h.em.map.ne h.top.blk)
  have HNG := Lib.hid (show H.ge t ≠ H.be from h.em.map.ne hA.blk)
  have HGL := Lib.hid h.top.blk.lt
  have HEL := Lib.hid hA.blk.lt
  have HMD := Lib.hid hmd
  have HKL := Lib.hid (show K.length ≤ 1099511627776 by have := h.bigK; omega)
  have HCB := Lib.hid (show cb < maxLen by unfold maxLen; omega)
  clear h ht hA hcells htop hmd
  go_enter Tryz.func51, Tryz.ntmps51
  go_upto_region 0 with fail
  go_region_held3 (fun W : World => W.cell? ⟨H.g, 1, none⟩ = some (.map (some H.be)) ∧ W.cell? ⟨H.ge t, 0, none⟩ = some (.string t.o) ∧ W.cell? ⟨H.ge t, 1, none⟩ = some (.string t.r) ∧ W.cell? ⟨H.ge t, 2, none⟩ = some (.string t.u)) (first | assumption | exact ⟨c1, e0, e1, e2⟩) (first
    | (refine step_drop_map _ rfl (.tmp 7) (.tmp 11) 56 32 rfl 81 keyT Tryz.underlying56 _ (zeroE _) H.be K.length H.me rfl HM.out (tpV t) (kT t) rfl (keyT_of hf) ?_; intro w1 hm1 hg1 hs1
       rw [HMD.out, if_pos rfl] at hm1
       have hkg : w1.heap[H.g]? = w.heap[H.g]? := hg1.block _ HGL.out (fun e => HNE.out (by injection e))
       have hke : w1.heap[H.ge t]? = w.heap[H.ge t]? := hg1.block _ HEL.out (fun e => HNG.out (by injection e))
       have hk1 : w1.cell? ⟨H.g, 1, none⟩ = some (.map (some H.be)) ∧ w1.cell? ⟨H.ge t, 0, none⟩ = some (.string t.o) ∧ w1.cell? ⟨H.ge t, 1, none⟩ = some (.string t.r) ∧ w1.cell? ⟨H.ge t, 2, none⟩ = some (.string t.u) := ⟨HTO.out w1 hkg, HCE.out w1 hke⟩
       have hcw : Chg w w1 (fun b => b = H.be) := (Chg.ofBelow (w := w) (w' := w.drew) (fun b => b = H.be) (below_drew1 w)).trans (Chg.ofGrown (P := fun b => b = H.be) hg1 (fun k _ e => by injection e with e; exact e.symm)) (fun _ _ e => e)
       obtain ⟨g1, s1⟩ := HH.out.unmap HTK.out hm1 hcw
       have G1 := Lib.hid g1
       have S1 := Lib.hid s1
       clear hm1 hg1 hs1 hkg hke hcw g1 s1))
  all_goals
    obtain ⟨H1, hH1⟩ : ∃ H1, H1 = { H with me := mset H.me (kT t) none } := ⟨_, rfl⟩
    rw [← hH1] at G1 S1
    have hge1 : H1.ge = H.ge := by rw [hH1]
    have hg1 : H1.g = H.g := by rw [hH1]
    clear hH1 hk1 c1 e0 e1 e2
    have HGE1 := Lib.hid hge1
    have hc1 := G1.out.top.cells
    rw [hg1] at hc1
    obtain ⟨_, _, ⟨p1, p2, p3⟩, _⟩ := hc1
    have hA1 := Lib.hid (grem0_any G1.out HTK.out HKL.out HCB.out)
    rw [hge1] at hA1
    have HG1 := Lib.hid hg1
    clear hge1 hg1
    go_wp2_with fail
    refine hA1.out.mono ?_
    rintro _ w2 ⟨rfl, H2, g2, s2, e1, e2, e3, e4⟩
    have G2 := Lib.hid g2
    have S2 := Lib.hid (S1.out.trans s2)
    have HGE2 := Lib.hid (show H2.ge = H.ge by rw [e1])
    have hc2 := g2.top.cells
    rw [show H2.g = H.g by rw [s2.g, HG1.out]] at hc2
    obtain ⟨_, _, _, ⟨q1, q2, q3⟩, _⟩ := hc2
    have HG2 := Lib.hid (show H2.g = H.g by rw [s2.g, HG1.out])
    have hA2 := Lib.hid (grem1_any G2.out HTK.out HKL.out HCB.out)
    rw [HGE2.out] at hA2
    clear g2 s2 e1 e2 e3 e4 p1 p2 p3 hA1
    go_wp2_with fail
    refine hA2.out.mono ?_
    rintro _ w3 ⟨rfl, H3, g3, s3, e1, e2, e3, e4⟩
    have G3 := Lib.hid g3
    have S3 := Lib.hid (S2.out.trans s3)
    have HGE3 := Lib.hid (show H3.ge = H.ge by rw [e1])
    have hc3 := g3.top.cells
    rw [show H3.g = H.g by rw [s3.g, HG2.out]] at hc3
    obtain ⟨_, _, _, _, q1', q2', q3'⟩ := hc3
    have hA3 := Lib.hid (grem2_any G3.out HTK.out HKL.out HCB.out)
    rw [HGE3.out] at hA3
    clear g3 s3 e1 e2 e3 e4 q1 q2 q3 hA2
    go_wp2_with fail
    refine hA3.out.mono ?_
    rintro _ w4 ⟨rfl, H4, g4, s4, e1, e2, e3, e4⟩
    have hm : ∀ y, y ∈ kbut K t ↔ y ∈ K ∧ y ≠ t := fun y => by unfold kbut; simp
    have HF := Lib.hid (show ∃ H', StRaw w4 wm (kbut K t) (spBut sp t) H' cb ∧ StC w w4 H H' ∧ ∀ y ∈ kbut K t, H'.ge y = H.ge y from by
      refine ⟨H4, ?_, S3.out.trans s4, fun y _ => by rw [e1]⟩
      have g5 : StGen w4 wm (kbut K t) (kbut K t) (KR K t 3) (spBut sp t) H4 cb := ⟨g4.wm0, g4.lt, g4.top, g4.ltop, g4.em, fun y hy => by
        obtain ⟨h1, h2⟩ := (hm y).1 hy
        have : spBut sp t y = sp y := updK_other _ _ h2
        rw [this]
        exact g4.ents y h1, g4.ix⟩
      refine g5.raw (fun i hi => if_pos hi) (HH.out.nd.filter _) (fun y hy => ?_) ?_ (fun y => ?_)
      · by_cases hyt : y = t
        · rw [hyt]; exact updK_same _ _ _
        · have : spBut sp t y = sp y := updK_other _ _ hyt
          rw [this]
          exact HH.out.no y (fun hk => hy ((hm y).2 ⟨hk, hyt⟩))
      · have := List.length_filter_le (fun x => decide (x ≠ t)) K
        have := HH.out.bigK
        unfold kbut
        omega
      · by_cases hyt : y = t
        · rw [hyt]
          have : spBut sp t t = [] := updK_same _ _ _
          rw [this]; exact Nat.zero_le _
        · have : spBut sp t y = sp y := updK_other _ _ hyt
          rw [this]; exact HH.out.bigS y)
    clear g4 s4 e1 e2 e3 e4 q1' q2' q3' hA3 hm
    go_wp2
    exact ⟨rfl, .tuple #[], (by simp [results, Tryz.results51, go_sem]), rfl, HF.out⟩
end
end Go.Proofs.YtmjdngomjjhhiaaGreat

namespace Go.Proofs.YtmjdngomjjhhiaaGreat
open Go.RowKit
open Go.Maps (Keyed)

theorem nil_eql (w : World) : (binOp BinOp.eql 80 (.slice none 0 0) (.slice none 0 0)).run Tryz.prog w = .ok (.bool true) w := by kernel_rfl
theorem some_eql (a : Addr) (n c : Nat) (w : World) : (binOp BinOp.eql 80 (.slice (some a) n c) (.slice none 0 0)).run Tryz.prog w = .ok (.bool false) w := by kernel_rfl
set_option maxRecDepth 100000 in
set_option maxHeartbeats 4000000 in
/-- A copy of a row of entries. -/
theorem cloneE_any {w : World} {B n : Nat} {v : Value} {xs : List Value} (h : w.ownsRow B 81 1 v n xs) (hn : n ≤ 1099511627776) (h1 : ∀ u ∈ xs, u.oneCell' = true) :
    Calls Tryz.prog 52 #[v] w fun e w' => ∃ v', e = .returned v' ∧ w'.ownsRow w.heap.size 81 1 v' n xs ∧ Below w.heap.size w w' := by
  obtain ⟨i0, hi0, hz0, hz1, hz2⟩ := info_parts infoE
  have hxl : xs.length = n := by have := h.1; omega
  rcases h.2 with ⟨rfl, rfl⟩ | ⟨q, cap, cur, rfl, _, hh, hnc, hcm, hcs, ht⟩
  · obtain rfl := List.eq_nil_of_length_eq_zero hxl
    clear h
    have hq := nil_eql w
    go_enter Tryz.func52, Tryz.ntmps52
    go_wp2
    go_ret
    exact ⟨_, rfl, World.ownsRow_nil _ _ _ _, Below.refl _ _⟩
  · have HN := Lib.hid (show ∀ j u, xs[j]? = some u → (w.alloc (.cells #[] 81)).cell? ((⟨q, 0, none⟩ : Addr).add j) = some u from fun j u hu => by
      rw [add_plain, Nat.zero_add]
      rw [← ht, List.getElem?_take] at hu
      split at hu
      · have hc : w.cell? ⟨q, j, none⟩ = some u := by
          simp only [World.cell?, hh]
          simpa using hu
        exact ((below_alloc w _).cell (p := ⟨q, j, none⟩) (Array.getElem?_eq_some_iff.1 hh).1).trans hc
      · cases hu)
    have HR := Lib.hid (show (w.alloc (.cells #[] 81)).ownsRow w.heap.size 81 1 (.slice (some ⟨w.heap.size, 0, none⟩) 0 0) 0 [] from World.ownsRow_made w #[] 0 (Nat.le_refl _) (by simp [maxLen]) (by simp))
    have hm1 : 0 + n ≤ maxLen := by unfold maxLen; omega
    have hm2 : (0 + n) * 8 ≤ 140737488355328 := by omega
    clear h hh ht
    have hq := some_eql ⟨q, 0, none⟩ n cap w
    go_enter Tryz.func52, Tryz.ntmps52
    go_wp2_with (at_builtin; refine wpList_append_at_any _ rfl (.tmp 5) (.tmp 6) 80 rfl w.heap.size 81 i0 (.pointer none) 1 8 Tryz.underlying80 hi0 hz0 hz1 hz2 rfl (by decide) (.slice (some ⟨w.heap.size, 0, none⟩) 0 0) 0 [] rfl HR.out (some ⟨q, 0, none⟩) n cap xs rfl (by omega) (fun e => by cases e) (fun ad e => by injection e with e; rw [← e]; exact HN.out) h1 hm1 hm2 (by simp) ?_; intro v5 w5 hown5 hgr5 _
                 have HF := Lib.hid (show w5.ownsRow w.heap.size 81 1 v5 n xs ∧ Below w.heap.size w w5 from ⟨by simpa using hown5, (below_alloc w (.cells #[] 81)).grown hgr5 (by simp) (fun k e => by simp [Value.ownBlock] at e; omega)⟩)
                 clear hown5 hgr5)
    go_ret
    exact ⟨_, rfl, HF.out.1, HF.out.2⟩
/-- Nothing is known any more of an object. -/
def SM.dropO (M : SM) (o : ByteArray) : SM := M.drop fun t => decide (t.o = o)
def SM.dropL (M : SM) (os : List ByteArray) : SM := os.foldl (fun M o => M.dropO o) M
theorem SMOk.dropL {M : SM} (h : SMOk M) : ∀ os, SMOk (M.dropL os) := by
  intro os
  induction os generalizing M with
  | nil => exact h
  | cons o os ih => exact ih (h.drop _)
/-- Texts as they lie. -/
structure StrsAt (w : World) (a : Option Addr) (n : Nat) (os : List ByteArray) : Prop where
  len : os.length = n
  fits : ∀ o ∈ os, o.size ≤ 1000000000000000000
  at_ : n = 0 ∨ ∃ b off, a = some ⟨b, off, none⟩ ∧ b < w.heap.size ∧ ∀ (i : Nat) (o : ByteArray), os[i]? = some o → w.cell? ⟨b, off + i, none⟩ = some (.string o)
theorem StrsAt.keep {w w' : World} {a : Option Addr} {n : Nat} {l : List ByteArray} (h : StrsAt w a n l) (hs : w.heap.size ≤ w'.heap.size) (hk : ∀ ad, a = some ad → ad.block < w.heap.size → w'.heap[ad.block]? = w.heap[ad.block]?) : StrsAt w' a n l := by
  refine ⟨h.len, h.fits, h.at_.imp_right ?_⟩
  rintro ⟨b, off, rfl, hb, hc⟩
  have hbb := hk _ rfl hb
  refine ⟨b, off, rfl, Nat.lt_of_lt_of_le hb hs, fun i m hm => ?_⟩
  simp only at hbb
  have := hc i m hm
  simp only [World.cell?, hbb] at this ⊢
  exact this
section
variable {w : World} {wm : Int} {M : SM} {H : Gh} {cb : Nat}
/-- Some tuples are forgotten. -/
def forgetK (K ts : List Tp) : List Tp := K.filter fun x => decide (x ∉ ts)
def forgetS (sp : Tp → List Sp) (ts : List Tp) : Tp → List Sp := fun x => if x ∈ ts then [] else sp x
theorem forgetK_next (K ts : List Tp) (t : Tp) : kbut (forgetK K ts) t = forgetK K (ts ++ [t]) := by
  unfold kbut forgetK
  rw [List.filter_filter]
  refine List.filter_congr fun x _ => ?_
  rw [Bool.eq_iff_iff]
  simp
  exact ⟨fun h => ⟨h.2, h.1⟩, fun h => ⟨h.2, h.1⟩⟩
theorem forgetS_next (sp : Tp → List Sp) (ts : List Tp) (t : Tp) : spBut (forgetS sp ts) t = forgetS sp (ts ++ [t]) := by
  funext x
  unfold spBut forgetS updK
  by_cases h1 : x = t
  · simp [h1]
  · simp [h1]
theorem forget_drop (h : SMOk M) {o : ByteArray} {ts : List Tp} (hm : ∀ t, t ∈ ts ↔ t ∈ M.K ∧ t.o = o) : forgetK M.K ts = (M.dropO o).K ∧ forgetS M.sp ts = (M.dropO o).sp := by
  constructor
  · show M.K.filter _ = M.K.filter _
    refine List.filter_congr fun x hx => ?_
    rw [Bool.eq_iff_iff]
    simp [hm, hx]
  · funext x
    show (if x ∈ ts then [] else M.sp x) = if decide (x.o = o) then [] else M.sp x
    by_cases hx : x ∈ M.K
    · by_cases ho : x.o = o
      · rw [if_pos ((hm x).2 ⟨hx, ho⟩), if_pos (by simpa using ho)]
      · rw [if_neg (fun e => ho ((hm x).1 e).2), if_neg (by simpa using ho)]
    · rw [h.no x hx, ite_self, ite_self]
set_option maxRecDepth 100000 in
set_option maxHeartbeats 16000000 in
theorem drop_any (h : StAt w wm M H cb) (hcb : cb ≤ 1099511627000) {a : Option Addr} {n c : Nat} {os : List ByteArray} (hl : StrsAt w a n os) (hn : n ≤ 1099511627776) (hap : 0 < n → ∀ ad, a = some ad → ¬ H.own ad.block) :
    Calls Tryz.prog 27 #[ptr H.g, .slice a n c] w fun e w' => e = .returned (.tuple #[]) ∧ ∃ H', StAt w' wm (M.dropL os) H' cb ∧ StC w w' H H' := by
  have HI := Lib.hid (show ∃ Hr : Gh, StAt w wm (M.dropL (os.take 0)) Hr cb ∧ StC w w H Hr from ⟨H, h, StC.refl _ _⟩)
  have HL := Lib.hid hl
  clear h hl
  go_enter Tryz.func27, Tryz.ntmps27
  go_wp2_with fail
  go_loopw [10] (fun iv wr => ∃ (i : Nat), i ≤ n ∧ iv = .int .i64 i ∧ ∃ Hr : Gh, StAt wr wm (M.dropL (os.take i)) Hr cb ∧ StC w wr H Hr) (fun iv _ => n - (intOf iv).toNat)
  case atStart => exact ⟨0, by omega, rfl, HI.out⟩
  case round =>
    clear HI
    obtain ⟨i, hin, rfl, Hr, hst, hsc⟩ := hrel
    by_cases hil : i < n
    · have hlr := HL.out.keep hsc.chg.size (fun ad ha hb => hsc.chg.block _ hb (hap (by omega) ad ha))
      obtain ⟨b, off, rfl, hbB, hcc⟩ := hlr.at_.resolve_left (by omega)
      obtain ⟨o, hoi⟩ : ∃ o, os[i]? = some o := ⟨_, List.getElem?_eq_getElem (show i < os.length by rw [HL.out.len]; exact hil)⟩
      have y0 := hcc i o hoi
      have hfo := HL.out.fits o (List.mem_of_getElem? hoi)
      have htk : M.dropL (os.take (i + 1)) = (M.dropL (os.take i)).dropO o := by
        rw [List.take_add_one, hoi]
        unfold SM.dropL
        rw [List.foldl_append]; rfl
      have HTK := Lib.hid htk
      obtain ⟨Mi, hMi⟩ : ∃ Mi, Mi = M.dropL (os.take i) := ⟨_, rfl⟩
      rw [← hMi] at hst htk
      have HMI := Lib.hid htk
      have hgg : Hr.g = H.g := hsc.g
      have hIx := hst.raw.ix 0 (by omega)
      obtain ⟨N, hN, hM⟩ := hIx.map
      have hmem : ∀ t, t ∈ Hr.L 0 (kS o) ↔ t ∈ Mi.K ∧ t.o = o := fun t => by
        rw [hIx.ok.mem]
        constructor
        · rintro ⟨h1, h2⟩
          exact ⟨h1, kS_inj (hst.raw.ents t h1).fit.1 hfo h2⟩
        · rintro ⟨h1, rfl⟩
          exact ⟨h1, rfl⟩
      have hnd := hIx.ok.nd (kS o)
      have hrow := hIx.row (kS o)
      have hln : (Hr.L 0 (kS o)).length ≤ cb := Nat.le_trans (nd_len hnd (fun x hx => ((hmem x).1 hx).1)) hst.raw.bigK
      have HLS := Lib.hid (listS_any hM 0 17 hfo)
      obtain ⟨_, _, ⟨p1, p2, p3⟩, _⟩ := hst.raw.top.cells
      rw [hgg] at p1 p2 p3
      generalize Hr.L 0 (kS o) = ts at *
      generalize (Hr.m 0 (kS o)).getD nilS = lv at *
      have HCL := Lib.hid (fun W (hW : Below wr.heap.size wr W) => cloneE_any (owns_keptN hrow (fun k hk => hW.block k (hrow.lt k hk).2)) (by omega) (fun u hu => by obtain ⟨t, _, rfl⟩ := List.mem_map.1 hu; rfl))
      have HST := Lib.hid hst
      have HSC := Lib.hid hsc
      have HGG := Lib.hid hgg
      have HMM := Lib.hid hmem
      have HND := Lib.hid hnd
      have HFD := Lib.hid (forget_drop hst.ok hmem)
      have hil2 : (i : Int) < (n : Int) := by omega
      have hi4 : i ≤ 1099511627776 := by omega
      clear hlr hcc hoi hst hsc hgg hIx hM hmem hnd hrow hbB hMi htk
      go_wp2_with fail
      refine HLS.out.mono ?_
      rintro _ w1 ⟨rfl, hb1⟩
      have HC1 := Lib.hid (HCL.out w1 hb1)
      have HB1 := Lib.hid hb1
      clear hb1 p1 p2 p3 y0 HLS HCL
      go_wp2_with fail
      refine HC1.out.mono ?_
      rintro _ w2 ⟨cv, rfl, hcr, hb2⟩
      obtain ⟨ca, cc, rfl, _, _⟩ := owned_anyE hcr
      have hbw : Below wr.heap.size wr w2 := bell_up HB1.out hb2
      have HI2 := Lib.hid (show ∃ Hj : Gh, StRaw w2 wm (forgetK Mi.K (ts.take 0)) (forgetS Mi.sp (ts.take 0)) Hj cb ∧ StC wr w2 Hr Hj ∧ (∀ y ∈ forgetK Mi.K (ts.take 0), Hj.ge y = Hr.ge y) ∧ w2.ownsRow w1.heap.size 81 1 (.slice ca ts.length cc) ts.length (ts.map fun t => ptr (Hr.ge t)) ∧ (∀ k, (Value.slice ca ts.length cc).ownBlock = some k → ¬ Hj.own k) from by
        refine ⟨Hr, ?_, StC.ofBelow Hr hbw, fun _ _ => rfl, by simpa using hcr, fun k hk ho => by
          have h1 := (hcr.lt k (by simpa using hk)).1
          have h2 := HST.out.raw.own_lt ho
          have := HB1.out.size
          omega⟩
        have e1 : forgetK Mi.K (ts.take 0) = Mi.K := by unfold forgetK; simp
        have e2 : forgetS Mi.sp (ts.take 0) = Mi.sp := by unfold forgetS; simp
        rw [e1, e2]
        exact HST.out.raw.below hbw)
      have HW2 := Lib.hid (StC.ofBelow Hr hbw)
      clear hcr hb2 hbw HC1
      go_wp2_with fail
      go_loopw [22] (fun iv wq => ∃ (j : Nat), j ≤ ts.length ∧ iv = .int .i64 j ∧ ∃ Hj : Gh, StRaw wq wm (forgetK Mi.K (ts.take j)) (forgetS Mi.sp (ts.take j)) Hj cb ∧ StC wr w2 Hr Hr ∧ StC wr wq Hr Hj ∧ (∀ y ∈ forgetK Mi.K (ts.take j), Hj.ge y = Hr.ge y) ∧ wq.ownsRow w1.heap.size 81 1 (.slice ca ts.length cc) ts.length (ts.map fun t => ptr (Hr.ge t)) ∧ (∀ k, (Value.slice ca ts.length cc).ownBlock = some k → ¬ Hj.own k)) (fun iv _ => ts.length - (intOf iv).toNat)
      case atStart =>
        obtain ⟨Hj, h1, h2, h3⟩ := HI2.out
        exact ⟨0, by omega, rfl, Hj, h1, HW2.out, h2, h3⟩
      case round =>
        clear HI2
        obtain ⟨j, hjn, rfl, Hj, hraw, _, hsj, hge, hrow, hno⟩ := hrel
        by_cases hjl : j < ts.length
        · obtain ⟨t, htj⟩ : ∃ t, ts[j]? = some t := ⟨_, List.getElem?_eq_getElem hjl⟩
          have htm : t ∈ ts := List.mem_of_getElem? htj
          have htk2 : ts.take (j + 1) = ts.take j ++ [t] := by rw [List.take_add_one, htj]; rfl
          have htn : t ∉ ts.take j := fun e => by
            have hnd := HND.out
            have h1 : ts = ts.take j ++ ts.drop j := (List.take_append_drop j ts).symm
            rw [h1] at hnd
            exact (List.nodup_append.1 hnd).2.2 t e t (by rw [drop_get htj]; simp) rfl
          have htK : t ∈ forgetK Mi.K (ts.take j) := by
            unfold forgetK
            rw [List.mem_filter]
            exact ⟨((HMM.out t).1 htm).1, by simpa using htn⟩
          obtain ⟨cb2, cc2, he, hcB, hcc2⟩ := own_cells hrow (by omega)
          injection he with he f2 f3
          clear f2 f3
          subst he
          have yc := hcc2 j (ptr (Hr.ge t)) (by rw [List.getElem?_map, htj]; rfl)
          have hfg := forget_any hraw htK hcb
          rw [hge t htK, forgetK_next, forgetS_next, ← htk2, show Hj.g = H.g by rw [hsj.g, HGG.out]] at hfg
          have HFG := Lib.hid hfg
          have HSJ := Lib.hid hsj
          have HGE := Lib.hid hge
          have HRW := Lib.hid hrow
          have HNO := Lib.hid hno
          have hjl2 : (j : Int) < (ts.length : Int) := by omega
          have hj4 : j ≤ 1099511627776 := by omega
          have HSUB := Lib.hid (show ∀ y ∈ forgetK Mi.K (ts.take (j + 1)), y ∈ forgetK Mi.K (ts.take j) from fun y hy => by
            unfold forgetK at hy ⊢
            rw [List.mem_filter] at hy ⊢
            refine ⟨hy.1, ?_⟩
            have h2 := hy.2
            rw [htk2] at h2
            simp at h2 ⊢
            exact h2.1)
          clear hraw hsj hge hrow hno htj htm htk2 htn hfg hcB hcc2
          go_wp2_with fail
          refine HFG.out.mono ?_
          rintro _ w5 ⟨rfl, H5, g1, s1, e1⟩
          have HN := Lib.hid (show ∃ H5 : Gh, StRaw w5 wm (forgetK Mi.K (ts.take (j + 1))) (forgetS Mi.sp (ts.take (j + 1))) H5 cb ∧ StC _ w2 Hr Hr ∧ StC _ w5 Hr H5 ∧ (∀ y ∈ forgetK Mi.K (ts.take (j + 1)), H5.ge y = Hr.ge y) ∧ w5.ownsRow w1.heap.size 81 1 (.slice (some ⟨cb2, 0, none⟩) ts.length cc) ts.length (ts.map fun t => ptr (Hr.ge t)) ∧ (∀ k, (Value.slice (some ⟨cb2, 0, none⟩) ts.length cc).ownBlock = some k → ¬ H5.own k) from
            ⟨H5, g1, HW2.out, HSJ.out.trans s1, fun y hy => (e1 y hy).trans (HGE.out y (HSUB.out y hy)), owns_keptN HRW.out (fun k hk => s1.chg.block k (HRW.out.lt k hk).2 (HNO.out k hk)), fun k hk ho => HNO.out k hk (s1.new k (HRW.out.lt k hk).2 ho)⟩)
          clear g1 s1 e1 yc HFG
          go_wp2
          go_roundw
          case rel => exact ⟨j + 1, by omega, by go_num, HN.out⟩
          case measure => simp [intOf]; omega
        · obtain rfl : j = ts.length := by omega
          have HF := Lib.hid (show ∃ Hj : Gh, StAt _ wm (M.dropL (os.take (i + 1))) Hj cb ∧ StC w _ H Hj from
            ⟨Hj, by
              rw [HMI.out]
              refine ⟨HST.out.ok.drop _, ?_⟩
              rw [List.take_length, HFD.out.1, HFD.out.2] at hraw
              exact hraw, HSC.out.trans hsj⟩)
          clear hraw hsj hge hrow hno
          go_wp2
          go_roundw
          case rel => exact ⟨i + 1, by omega, by go_num, HF.out⟩
          case measure => simp [intOf]; omega
    · obtain rfl : i = n := by omega
      have HF := Lib.hid (show ∃ H', StAt wr wm (M.dropL os) H' cb ∧ StC w wr H H' from ⟨Hr, by rw [List.take_of_length_le (by rw [HL.out.len]; exact Nat.le_refl _)] at hst; exact hst, hsc⟩)
      clear hst hsc
      go_wp2
      exact ⟨rfl, .tuple #[], (by simp [results, Tryz.results27, go_sem]), rfl, HF.out⟩
end
end Go.Proofs.YtmjdngomjjhhiaaGreat

namespace Go.Proofs.YtmjdngomjjhhiaaGreat
open Go.RowKit
open Go.Maps (Keyed)

/-- What is wrong with rows, behind the last spans of those ahead. -/
def ldGo (M : SM) : (Tp → Option Sp) → List Rw → Int
  | _, [] => 0
  | lf, x :: l => if x.t.e ≠ 0 then x.t.e else if x.t ∈ M.K then 5 else if (⟨x.s, x.u⟩ : Sp).okB = false then 1 else if (match lf x.t with
      | some y => !(decide (y.u ≠ 0) && decide (y.u < x.s))
      | none => false) = true then 70 else ldGo M (updK lf x.t (some ⟨x.s, x.u⟩)) l
def ldE (M : SM) (l : List Rw) : Int := ldGo M (fun _ => none) l
theorem Sp.okB_ok {x : Sp} (h : x.okB = true) : x.ok := by
  unfold Sp.okB at h
  unfold Sp.ok
  simp at h
  omega
theorem ldGo_ok {M : SM} : ∀ {l : List Rw} {lf : Tp → Option Sp} {N : SM}, ldGo M lf l = 0 → (∀ t, t ∉ M.K → (N.sp t).getLast? = lf t) → LoadOk N l := by
  intro l
  induction l with
  | nil => intro _ _ _ _; exact trivial
  | cons x l ih =>
    intro lf N h hN
    unfold ldGo at h
    by_cases h1 : x.t.e ≠ 0
    · rw [if_pos h1] at h; exact absurd h h1
    · rw [if_neg h1] at h
      by_cases h2 : x.t ∈ M.K
      · rw [if_pos h2] at h; cases h
      · rw [if_neg h2] at h
        by_cases h3 : (⟨x.s, x.u⟩ : Sp).okB = false
        · rw [if_pos h3] at h; cases h
        · rw [if_neg h3] at h
          by_cases h4 : (match lf x.t with
            | some y => !(decide (y.u ≠ 0) && decide (y.u < x.s))
            | none => false) = true
          · rw [if_pos h4] at h; cases h
          · rw [if_neg h4] at h
            refine ⟨⟨Sp.okB_ok (by simpa using h3), fun y hy => ?_⟩, ih h fun t ht => ?_⟩
            · rw [hN x.t h2] at hy
              rw [hy] at h4
              simp at h4
              exact h4
            · show ((N.put x.t (N.sp x.t ++ [⟨x.s, x.u⟩])).sp t).getLast? = _
              by_cases hxt : t = x.t
              · rw [hxt, SM.put_same, updK_same, List.getLast?_concat]
              · rw [SM.put_other N _ hxt, updK_other _ _ hxt]
                exact hN t ht
theorem ldE_ok {M : SM} (hM : SMOk M) {l : List Rw} (h : ldE M l = 0) : LoadOk M l := ldGo_ok h (fun t ht => by rw [hM.no t ht]; rfl)
/-- Rows as they lie. -/
structure RowsAt (w : World) (a : Option Addr) (n : Nat) (l : List Rw) : Prop where
  len : l.length = n
  fits : ∀ r ∈ l, r.t.fits
  at_ : n = 0 ∨ ∃ b off, a = some ⟨b, off, none⟩ ∧ b < w.heap.size ∧ ∀ (i : Nat) (r : Rw), l[i]? = some r →
    w.cell? ⟨b, off + i * 5, none⟩ = some (.string r.t.o) ∧ w.cell? ⟨b, off + i * 5 + 1, none⟩ = some (.string r.t.r) ∧ w.cell? ⟨b, off + i * 5 + 2, none⟩ = some (.string r.t.u) ∧ w.cell? ⟨b, off + i * 5 + 3, none⟩ = some (.int .i64 r.s) ∧ w.cell? ⟨b, off + i * 5 + 4, none⟩ = some (.int .i64 r.u)
theorem RowsAt.keep {w w' : World} {a : Option Addr} {n : Nat} {l : List Rw} (h : RowsAt w a n l) (hs : w.heap.size ≤ w'.heap.size) (hk : ∀ ad, a = some ad → ad.block < w.heap.size → w'.heap[ad.block]? = w.heap[ad.block]?) : RowsAt w' a n l := by
  refine ⟨h.len, h.fits, h.at_.imp_right ?_⟩
  rintro ⟨b, off, rfl, hb, hc⟩
  have hbb := hk _ rfl hb
  have hcc : ∀ i, w'.cell? ⟨b, i, none⟩ = w.cell? ⟨b, i, none⟩ := fun i => by
    simp only at hbb
    simp only [World.cell?, hbb]
  refine ⟨b, off, rfl, Nat.lt_of_lt_of_le hb hs, fun i m hm => ?_⟩
  rw [hcc, hcc, hcc, hcc, hcc]
  exact hc i m hm
theorem RowsAt.below {w w' : World} {a : Option Addr} {n : Nat} {l : List Rw} (h : RowsAt w a n l) (hb : Below w.heap.size w w') : RowsAt w' a n l := h.keep hb.size (fun _ _ h => hb.block _ h)
abbrev spV (x : Sp) : Value := .agg #[.int .i64 x.s, .int .i64 x.u]
/-- The map of the last spans. -/
structure LastAt (w : World) (b : Nat) (mm : Lit → Option Value) (lf : Tp → Option Sp) (N : Nat) : Prop where
  map : ∃ k, k ≤ N ∧ MapAt w Tryz.prog 32 b mm k
  has : ∀ t, t.fits → mm (kT t) = (lf t).map spV
theorem zeroSp (w : World) : (zeroValue 90).run Tryz.prog w = .ok (spV ⟨0, 0⟩) w := by kernel_rfl
theorem LastAt.look {w : World} {b N : Nat} {mm : Lit → Option Value} {lf : Tp → Option Sp} (h : LastAt w b mm lf N) {t : Tp} (hf : t.fits) :
    (Instr.lookup 108 (.map (some b)) (tpV t) true).run Tryz.prog w = .ok (.tuple #[spV ((lf t).getD ⟨0, 0⟩), .bool (lf t).isSome]) w := by
  obtain ⟨k, _, hm⟩ := h.map
  have := hm.look keyT Tryz.underlying108 (zeroSp _) true (keyT_of hf)
  rw [if_pos rfl] at this
  rw [this, h.has t hf]
  cases lf t <;> rfl
section
variable {w : World} {wm : Int} {M : SM} {H : Gh} {cb : Nat}
set_option maxRecDepth 100000 in
set_option maxHeartbeats 16000000 in
theorem load_any (h : StAt w wm M H cb) {a : Option Addr} {n c : Nat} {R : List Rw} (hl : RowsAt w a n R) (hap : 0 < n → ∀ ad, a = some ad → ¬ H.own ad.block) (hn : n ≤ 1099511627776) (hcb : cb + 5 * n ≤ 1099511627000) :
    Calls Tryz.prog 24 #[ptr H.g, .slice a n c] w fun e w' => e = .returned (.int .i64 (ldE M R)) ∧ ∃ H', StAt w' wm (if ldE M R = 0 then M.load R else M) H' (cb + 5 * n) ∧ StC w w' H H' := by
  have HH := Lib.hid h
  have HL := Lib.hid hl
  generalize hte : ldE M R = te
  have HTE := Lib.hid hte
  obtain ⟨w0, hw0⟩ : ∃ w0, w0 = w.alloc (.map #[] 0) := ⟨_, rfl⟩
  have hmk : (Instr.makeMap 108 none).run Tryz.prog w = .ok (.map (some w.heap.size)) w0 := by rw [run_makeMap, hw0]
  have HM0 := Lib.hid (show LastAt w0 w.heap.size (fun _ => none) (fun _ => none) 0 from ⟨⟨0, Nat.le_refl _, by rw [hw0]; exact MapAt.made _ _ _⟩, fun _ _ => rfl⟩)
  have HB0 := Lib.hid (show Below w.heap.size w w0 by rw [hw0]; exact below_alloc _ _)
  clear h hl hw0 hte
  go_enter Tryz.func24, Tryz.ntmps24
  go_wp2_with fail
  go_loopw [19] (fun iv wr => ∃ (i : Nat), i ≤ n ∧ iv = .int .i64 i ∧ Below w.heap.size w wr ∧ ∃ mm lf, LastAt wr w.heap.size mm lf i ∧ ldGo M lf (R.drop i) = te) (fun iv _ => n - (intOf iv).toNat)
  case atStart => exact ⟨0, by omega, rfl, HB0.out, _, _, HM0.out, HTE.out⟩
  case round =>
    clear HM0 HB0
    obtain ⟨i, hin, rfl, hbl, mm, lf, hla, hgo⟩ := hrel
    by_cases hil : i < n
    · obtain ⟨b, off, rfl, hbB, hcc⟩ := HL.out.at_.resolve_left (by omega)
      obtain ⟨r, hri⟩ : ∃ r, R[i]? = some r := ⟨_, List.getElem?_eq_getElem (show i < R.length by rw [HL.out.len]; exact hil)⟩
      obtain ⟨z0, z1, z2, z3, z4⟩ := hcc i r hri
      have hfm := HL.out.fits r (List.mem_of_getElem? hri)
      have y0 := (hbl.cell (p := ⟨b, off + i * 5, none⟩) hbB).trans z0
      have y1 := (hbl.cell (p := ⟨b, off + i * 5 + 1, none⟩) hbB).trans z1
      have y2 := (hbl.cell (p := ⟨b, off + i * 5 + 2, none⟩) hbB).trans z2
      have y3 := (hbl.cell (p := ⟨b, off + i * 5 + 3, none⟩) hbB).trans z3
      have y4 := (hbl.cell (p := ⟨b, off + i * 5 + 4, none⟩) hbB).trans z4
      rw [drop_get hri, ldGo] at hgo
      obtain ⟨w1, hw1⟩ : ∃ w1, w1 = wr.alloc (.cells #[.string r.t.o, .string r.t.r, .string r.t.u, .int .i64 r.s, .int .i64 r.u] 46) := ⟨_, rfl⟩
      have hW1 : Whole w1 wr.heap.size 46 #[.string r.t.o, .string r.t.r, .string r.t.u, .int .i64 r.s, .int .i64 r.u] := by rw [hw1]; exact heap_alloc_new _ _
      have hs1 : Below wr.heap.size wr w1 := by rw [hw1]; exact below_alloc _ _
      have HB1 := Lib.hid (bell_up hbl hs1)
      have HW1 := Lib.hid hW1
      obtain ⟨kk, hkk, hmk1⟩ := hla.map
      have HLA := Lib.hid (show LastAt w1 w.heap.size mm lf i from ⟨⟨kk, hkk, hmk1.below hs1⟩, hla.has⟩)
      have HGO := Lib.hid hgo
      have HCK := Lib.hid (check_any (some ⟨w1.heap.size, 0, none⟩) 1 1 [(r.t.o, r.t.r, r.t.u)] (w1.alloc (.cells #[.string r.t.o, .string r.t.r, .string r.t.u] 32))
        ⟨rfl, fun t ht => by rw [List.mem_singleton] at ht; rw [ht]; exact hfm, .inr ⟨w1.heap.size, 0, rfl, by simp, fun j t ht => by
          cases j with
          | succ j => simp at ht
          | zero =>
            simp at ht
            subst ht
            refine ⟨?_, ?_, ?_⟩ <;> rw [new_cell] <;> rfl⟩⟩ (by omega))
      have hte1 : tupsE [(r.t.o, r.t.r, r.t.u)] = r.t.e := by
        show (if Tq.e (r.t.o, r.t.r, r.t.u) = 0 then 0 else Tq.e (r.t.o, r.t.r, r.t.u)) = _
        have : Tq.e (r.t.o, r.t.r, r.t.u) = r.t.e := rfl
        rw [this]
        split <;> simp_all
      rw [hte1] at HCK
      have hfits := hfm
      have d0 : w1.cell? ⟨wr.heap.size, 0, none⟩ = some (.string r.t.o) := by rw [hW1.cell]; rfl
      have d1 : w1.cell? ⟨wr.heap.size, 1, none⟩ = some (.string r.t.r) := by rw [hW1.cell]; rfl
      have d2 : w1.cell? ⟨wr.heap.size, 2, none⟩ = some (.string r.t.u) := by rw [hW1.cell]; rfl
      clear hcc z0 z1 z2 z3 z4 hbl hla hgo hW1 hte1 hfm hs1 hmk1 hkk
      go_upto_region 5 with fail
      rw [← hw1]
      clear hw1 y0 y1 y2 y3 y4
      go_wp2_with fail
      refine HCK.out.mono ?_
      rintro _ w2 ⟨rfl, hb2⟩
      have hb12 : Below w1.heap.size w1 w2 := bell_up (below_alloc _ _) hb2
      have HW2 := Lib.hid (HW1.out.kept (hb12.block _ HW1.out.lt))
      have HB2 := Lib.hid (bell_up HB1.out hb12)
      have HL2 := Lib.hid (show LastAt w2 w.heap.size mm lf i from by
        obtain ⟨kk, h1, h2⟩ := HLA.out.map
        exact ⟨⟨kk, h1, h2.below hb12⟩, HLA.out.has⟩)
      clear hb2 hb12 d0 d1 d2 HCK
      generalize hme : r.t.e = me at *
      by_cases hq : me = 0
      · subst hq
        have hst2 := HH.out.below HB2.out
        have hlk := hst2.raw.lookT hfits w2.drew rfl
        obtain ⟨_, c1, _⟩ := hst2.raw.top.cells
        have c1 : w2.drew.cell? ⟨H.g, 1, none⟩ = some (.map (some H.be)) := c1
        have e0 : w2.drew.cell? ⟨wr.heap.size, 0, none⟩ = some (.string r.t.o) := by show w2.cell? _ = _; rw [HW2.out.cell]; rfl
        have e1 : w2.drew.cell? ⟨wr.heap.size, 1, none⟩ = some (.string r.t.r) := by show w2.cell? _ = _; rw [HW2.out.cell]; rfl
        have e2 : w2.drew.cell? ⟨wr.heap.size, 2, none⟩ = some (.string r.t.u) := by show w2.cell? _ = _; rw [HW2.out.cell]; rfl
        clear hst2
        by_cases hK : r.t ∈ M.K
        · rw [if_pos hK, decide_eq_true hK] at hlk
          have ht5 : te = 5 := by
            have := HGO.out
            rw [if_neg (by simp), if_pos hK] at this
            exact this.symm
          subst ht5
          have HF := Lib.hid (show ∃ H', StAt w2.drew wm (if (5 : Int) = 0 then M.load R else M) H' (cb + 5 * n) ∧ StC w w2.drew H H' from ⟨H, (by rw [if_neg (by decide)]; exact (HH.out.below (bell_up HB2.out (below_drew1 _))).mono (by omega)), StC.ofBelow H (bell_up HB2.out (below_drew1 _))⟩)
          go_upto_region 8 with fail
          go_region
          clear hlk c1 e0 e1 e2
          go_wp2
          go_ret
          exact ⟨rfl, HF.out⟩
        · rw [if_neg hK, decide_eq_false hK] at hlk
          have HGK := Lib.hid (show (if (⟨r.s, r.u⟩ : Sp).okB = false then (1 : Int) else if (match lf r.t with
              | some y => !(decide (y.u ≠ 0) && decide (y.u < r.s))
              | none => false) = true then 70 else ldGo M (updK lf r.t (some ⟨r.s, r.u⟩)) (R.drop (i + 1))) = te from by
            have := HGO.out
            rw [if_neg (by simp), if_neg hK] at this
            exact this)
          have HKK := Lib.hid hK
          clear hK HGO
          go_upto_region 8 with fail
          go_region
          clear hlk c1 e0 e1 e2
          obtain ⟨V, hV⟩ : ∃ V, V = w2.drew := ⟨_, rfl⟩
          have hbV : Below w2.heap.size w2 V := by rw [hV]; exact below_drew1 _
          have hWV := HW2.out.kept (hbV.block _ HW2.out.lt)
          obtain ⟨w3, hw3⟩ : ∃ w3, w3 = V.alloc (.cells #[.int .i64 r.s, .int .i64 r.u] 90) := ⟨_, rfl⟩
          have hb3 : Below V.heap.size V w3 := by rw [hw3]; exact below_alloc _ _
          have f3 : V.cell? ⟨wr.heap.size, 3, none⟩ = some (.int .i64 r.s) := by rw [hWV.cell]; rfl
          have f4 : V.cell? ⟨wr.heap.size, 4, none⟩ = some (.int .i64 r.u) := by rw [hWV.cell]; rfl
          have hX3 : Whole w3 V.heap.size 90 #[.int .i64 r.s, .int .i64 r.u] := by rw [hw3]; exact heap_alloc_new _ _
          have hb23 : Below w2.heap.size w2 w3 := bell_up hbV hb3
          have HW3 := Lib.hid (HW2.out.kept (hb23.block _ HW2.out.lt))
          have HX3 := Lib.hid hX3
          have HB3 := Lib.hid (bell_up HB2.out hb23)
          have HL3 := Lib.hid (show LastAt w3 w.heap.size mm lf i from by
            obtain ⟨kk, h1, h2⟩ := HL2.out.map
            exact ⟨⟨kk, h1, h2.below hb23⟩, HL2.out.has⟩)
          have x0 : w3.cell? ⟨V.heap.size, 0, none⟩ = some (.int .i64 r.s) := by rw [hX3.cell]; rfl
          have x1 : w3.cell? ⟨V.heap.size, 1, none⟩ = some (.int .i64 r.u) := by rw [hX3.cell]; rfl
          clear hbV hWV hb3 hX3 hb23 HW2 HB2 HL2
          rw [← hV]
          clear hV
          go_upto_region 12 with fail
          rw [← hw3]
          clear hw3 f3 f4
          go_wp2_with fail
          refine (right_any ⟨r.s, r.u⟩ w3).mono ?_
          rintro _ w4 ⟨rfl, hb4⟩
          have HW4 := Lib.hid (HW3.out.kept (hb4.block _ HW3.out.lt))
          have HX4 := Lib.hid (HX3.out.kept (hb4.block _ HX3.out.lt))
          have HB4 := Lib.hid (bell_up HB3.out hb4)
          have HL4 := Lib.hid (show LastAt w4 w.heap.size mm lf i from by
            obtain ⟨kk, h1, h2⟩ := HL3.out.map
            exact ⟨⟨kk, h1, h2.below hb4⟩, HL3.out.has⟩)
          clear hb4 x0 x1 HW3 HX3 HB3 HL3
          generalize hokb : (⟨r.s, r.u⟩ : Sp).okB = okb at *
          have HOKB := Lib.hid hokb
          clear hokb
          cases okb
          · have ht1 : te = 1 := by
              have := HGK.out
              rw [if_pos rfl] at this
              exact this.symm
            subst ht1
            have HF := Lib.hid (show ∃ H', StAt w4 wm (if (1 : Int) = 0 then M.load R else M) H' (cb + 5 * n) ∧ StC w w4 H H' from ⟨H, by rw [if_neg (by decide)]; exact (HH.out.below HB4.out).mono (by omega), StC.ofBelow H HB4.out⟩)
            go_wp2
            go_ret
            exact ⟨rfl, HF.out⟩
          · have HGL := Lib.hid (show (if (match lf r.t with
                | some y => !(decide (y.u ≠ 0) && decide (y.u < r.s))
                | none => false) = true then 70 else ldGo M (updK lf r.t (some ⟨r.s, r.u⟩)) (R.drop (i + 1))) = te from by
              have := HGK.out
              rw [if_neg (by simp)] at this
              exact this)
            have hlk := HL4.out.look hfits
            have g0 : w4.cell? ⟨wr.heap.size, 0, none⟩ = some (.string r.t.o) := by rw [HW4.out.cell]; rfl
            have g1 : w4.cell? ⟨wr.heap.size, 1, none⟩ = some (.string r.t.r) := by rw [HW4.out.cell]; rfl
            have g2 : w4.cell? ⟨wr.heap.size, 2, none⟩ = some (.string r.t.u) := by rw [HW4.out.cell]; rfl
            obtain ⟨y, hy⟩ : ∃ y, y = (lf r.t).getD ⟨0, 0⟩ := ⟨_, rfl⟩
            rw [← hy] at hlk
            obtain ⟨w5, hw5⟩ : ∃ w5, w5 = w4.alloc (.cells #[.int .i64 y.s, .int .i64 y.u] 90) := ⟨_, rfl⟩
            have hb5 : Below w4.heap.size w4 w5 := by rw [hw5]; exact below_alloc _ _
            have hY5 : Whole w5 w4.heap.size 90 #[.int .i64 y.s, .int .i64 y.u] := by rw [hw5]; exact heap_alloc_new _ _
            have hX5 := HX4.out.kept (hb5.block _ HX4.out.lt)
            have hW5 := HW4.out.kept (hb5.block _ HW4.out.lt)
            have HB5 := Lib.hid (bell_up HB4.out hb5)
            have HL5 := Lib.hid (show LastAt w5 w.heap.size mm lf i from by
              obtain ⟨kk, h1, h2⟩ := HL4.out.map
              exact ⟨⟨kk, h1, h2.below hb5⟩, HL4.out.has⟩)
            have HW5 := Lib.hid hW5
            have HX5 := Lib.hid hX5
            have HMAP := Lib.hid (fun (W : World) (hW : Below w5.heap.size w5 W) => (by
              obtain ⟨kk, hk1, hk2⟩ := HL5.out.map
              obtain ⟨w7, hrun, hm, hgr, hs⟩ := (hk2.below hW).store (val := spV ⟨r.s, r.u⟩) keyT Tryz.underlying108 (zeroSp _) (by unfold maxLen; omega) (keyT_of hfits)
              exact ⟨w7, hrun, ⟨⟨if (mm (kT r.t)).isSome then kk else kk + 1, by split <;> omega, hm⟩, fun t ht => by
                by_cases htt : t = r.t
                · subst htt
                  rw [mset_same (keyT.key (keyT_of ht)), updK_same]
                  rfl
                · rw [mset_other (fun e => htt (kT_inj ht hfits e)), updK_other _ _ htt]
                  exact HL5.out.has t ht⟩, (HB5.out.trans (hW.mono HB5.out.size)).grown hgr (Nat.le_trans HB5.out.size hW.size) (fun k e => by cases e; exact Nat.le_refl _)⟩ :
              ∃ w7, (Instr.mapUpdate 108 (.map (some w.heap.size)) (tpV r.t) (spV ⟨r.s, r.u⟩)).run Tryz.prog W = .ok () w7 ∧ LastAt w7 w.heap.size (mset mm (kT r.t) (some (spV ⟨r.s, r.u⟩))) (updK lf r.t (some ⟨r.s, r.u⟩)) (i + 1) ∧ Below w.heap.size w w7))
            have m0 : w5.cell? ⟨V.heap.size, 0, none⟩ = some (.int .i64 r.s) := by rw [hX5.cell]; rfl
            have m1 : w5.cell? ⟨V.heap.size, 1, none⟩ = some (.int .i64 r.u) := by rw [hX5.cell]; rfl
            have m2 : w5.cell? ⟨w4.heap.size, 0, none⟩ = some (.int .i64 y.s) := by rw [hY5.cell]; rfl
            have m3 : w5.cell? ⟨w4.heap.size, 1, none⟩ = some (.int .i64 y.u) := by rw [hY5.cell]; rfl
            have HY := Lib.hid hy
            clear hb5 hY5 hX5 hW5 hy HB4 HX4 HW4 HL4
            generalize hso : (lf r.t).isSome = so at *
            go_upto_region 15 with fail
            rw [← hw5]
            clear hw5 hlk g0 g1 g2
            cases so
            · have hnn : lf r.t = none := by cases h : lf r.t with
                | none => rfl
                | some z => rw [h] at hso; cases hso
              have HGM := Lib.hid (show ldGo M (updK lf r.t (some ⟨r.s, r.u⟩)) (R.drop (i + 1)) = te from by
                have := HGL.out
                rw [hnn] at this
                rw [if_neg (by simp)] at this
                exact this)
              clear m2 m3
              have n0 : w5.cell? ⟨wr.heap.size, 0, none⟩ = some (.string r.t.o) := by rw [HW5.out.cell]; rfl
              have n1 : w5.cell? ⟨wr.heap.size, 1, none⟩ = some (.string r.t.r) := by rw [HW5.out.cell]; rfl
              have n2 : w5.cell? ⟨wr.heap.size, 2, none⟩ = some (.string r.t.u) := by rw [HW5.out.cell]; rfl
              obtain ⟨w7, hrun, hl7, hb7⟩ := HMAP.out w5 (Below.refl _ _)
              have HL7 := Lib.hid hl7
              have HB7 := Lib.hid hb7
              clear hl7 hb7
              go_wp2
              go_roundw
              case rel => exact ⟨i + 1, by omega, by go_num, HB7.out, _, _, HL7.out, HGM.out⟩
              case measure => simp [intOf]; omega
            · obtain ⟨z, hz⟩ : ∃ z, lf r.t = some z := by cases h : lf r.t with
                | none => rw [h] at hso; cases hso
                | some z => exact ⟨z, rfl⟩
              obtain rfl : y = z := by have := HY.out; rw [hz] at this; exact this
              have HGM := Lib.hid (show (if (!(decide (y.u ≠ 0) && decide (y.u < r.s))) = true then 70 else ldGo M (updK lf r.t (some ⟨r.s, r.u⟩)) (R.drop (i + 1))) = te from by
                have := HGL.out
                rw [hz] at this
                exact this)
              go_wp2_with fail
              refine (behind_any ⟨r.s, r.u⟩ y w5).mono ?_
              rintro _ w6 ⟨rfl, hb6⟩
              have HW6 := Lib.hid (HW5.out.kept (hb6.block _ HW5.out.lt))
              have HX6 := Lib.hid (HX5.out.kept (hb6.block _ HX5.out.lt))
              have HB6 := Lib.hid (bell_up HB5.out hb6)
              have HBB := Lib.hid hb6
              clear m0 m1 m2 m3 hb6
              generalize (decide (y.u ≠ 0) && decide (y.u < r.s)) = bh at *
              cases bh
              · have ht7 : te = 70 := by
                  have := HGM.out
                  rw [if_pos (by decide)] at this
                  exact this.symm
                subst ht7
                have HF := Lib.hid (show ∃ H', StAt w6 wm (if (70 : Int) = 0 then M.load R else M) H' (cb + 5 * n) ∧ StC w w6 H H' from ⟨H, by rw [if_neg (by decide)]; exact (HH.out.below HB6.out).mono (by omega), StC.ofBelow H HB6.out⟩)
                go_wp2
                go_ret
                exact ⟨rfl, HF.out⟩
              · have HGN := Lib.hid (show ldGo M (updK lf r.t (some ⟨r.s, r.u⟩)) (R.drop (i + 1)) = te from by
                  have := HGM.out
                  rw [if_neg (by simp)] at this
                  exact this)
                have n0 : w6.cell? ⟨wr.heap.size, 0, none⟩ = some (.string r.t.o) := by rw [HW6.out.cell]; rfl
                have n1 : w6.cell? ⟨wr.heap.size, 1, none⟩ = some (.string r.t.r) := by rw [HW6.out.cell]; rfl
                have n2 : w6.cell? ⟨wr.heap.size, 2, none⟩ = some (.string r.t.u) := by rw [HW6.out.cell]; rfl
                have m0 : w6.cell? ⟨V.heap.size, 0, none⟩ = some (.int .i64 r.s) := by rw [HX6.out.cell]; rfl
                have m1 : w6.cell? ⟨V.heap.size, 1, none⟩ = some (.int .i64 r.u) := by rw [HX6.out.cell]; rfl
                obtain ⟨w7, hrun, hl7, hb7⟩ := HMAP.out w6 HBB.out
                have HL7 := Lib.hid hl7
                have HB7 := Lib.hid hb7
                clear hl7 hb7
                go_wp2
                go_roundw
                case rel => exact ⟨i + 1, by omega, by go_num, HB7.out, _, _, HL7.out, HGN.out⟩
                case measure => simp [intOf]; omega
      · have hteq : te = me := by
          have := HGO.out
          rw [if_pos hq] at this
          exact this.symm
        subst hteq
        have HF := Lib.hid (show ∃ H', StAt w2 wm M H' (cb + 5 * n) ∧ StC w w2 H H' from ⟨H, (HH.out.below HB2.out).mono (by omega), StC.ofBelow H HB2.out⟩)
        go_wp2
        go_ret
        exact ⟨rfl, HF.out⟩
    · obtain rfl : i = n := by omega
      have ht0 : te = 0 := by
        rw [List.drop_eq_nil_of_le (by rw [HL.out.len]; exact Nat.le_refl _)] at hgo
        exact hgo.symm
      subst ht0
      have HOK := Lib.hid (ldE_ok HH.out.ok HTE.out)
      have HI := Lib.hid (show ∃ Hr : Gh, StRaw wr wm (M.load (R.take 0)).K (M.load (R.take 0)).sp Hr (cb + 5 * 0) ∧ StC w wr H Hr from ⟨H, HH.out.raw.below hbl, StC.ofBelow H hbl⟩)
      clear hbl hla hgo
      go_wp2_with fail
      go_loopw [70] (fun iv wq => ∃ (j : Nat), j ≤ i ∧ iv = .int .i64 j ∧ ∃ Hr : Gh, StRaw wq wm (M.load (R.take j)).K (M.load (R.take j)).sp Hr (cb + 5 * j) ∧ StC w wq H Hr) (fun iv _ => i - (intOf iv).toNat)
      case atStart => exact ⟨0, by omega, rfl, HI.out⟩
      case round =>
        clear HI
        obtain ⟨j, hjn, rfl, Hr, hraw, hsc⟩ := hrel
        by_cases hjl : j < i
        · have hlr := HL.out.keep hsc.chg.size (fun ad ha hb => hsc.chg.block _ hb (hap (by omega) ad ha))
          obtain ⟨b, off, rfl, hbB, hcc⟩ := hlr.at_.resolve_left (by omega)
          obtain ⟨r, hri⟩ : ∃ r, R[j]? = some r := ⟨_, List.getElem?_eq_getElem (show j < R.length by rw [HL.out.len]; exact hjl)⟩
          obtain ⟨y0, y1, y2, y3, y4⟩ := hcc j r hri
          have hfm := HL.out.fits r (List.mem_of_getElem? hri)
          have htk : M.load (R.take (j + 1)) = (M.load (R.take j)).loadRow r := by
            rw [List.take_add_one, hri]
            unfold SM.load
            rw [List.foldl_append]; rfl
          have hgg : Hr.g = H.g := hsc.g
          obtain ⟨w1, hw1⟩ : ∃ w1, w1 = wr.alloc (.cells #[.string r.t.o, .string r.t.r, .string r.t.u, .int .i64 r.s, .int .i64 r.u] 46) := ⟨_, rfl⟩
          have hW1 : Whole w1 wr.heap.size 46 #[.string r.t.o, .string r.t.r, .string r.t.u, .int .i64 r.s, .int .i64 r.u] := by rw [hw1]; exact heap_alloc_new _ _
          have hs1 : Below wr.heap.size wr w1 := by rw [hw1]; exact below_alloc _ _
          have had := sadd_any (hraw.below hs1) (by omega) hfm ⟨r.s, r.u⟩
          rw [hgg] at had
          have HAD := Lib.hid had
          have HSC := Lib.hid (hsc.trans (StC.ofBelow Hr hs1))
          have HTK := Lib.hid htk
          have d0 : w1.cell? ⟨wr.heap.size, 0, none⟩ = some (.string r.t.o) := by rw [hW1.cell]; rfl
          have d1 : w1.cell? ⟨wr.heap.size, 1, none⟩ = some (.string r.t.r) := by rw [hW1.cell]; rfl
          have d2 : w1.cell? ⟨wr.heap.size, 2, none⟩ = some (.string r.t.u) := by rw [hW1.cell]; rfl
          have d3 : w1.cell? ⟨wr.heap.size, 3, none⟩ = some (.int .i64 r.s) := by rw [hW1.cell]; rfl
          have d4 : w1.cell? ⟨wr.heap.size, 4, none⟩ = some (.int .i64 r.u) := by rw [hW1.cell]; rfl
          have hjl2 : (j : Int) < (i : Int) := by omega
          have hj4 : j ≤ 1099511627776 := by omega
          clear hlr hcc hri hraw hsc hgg hW1 hs1 had htk hbB
          go_upto_region 22 with fail
          rw [← hw1]
          clear hw1 y0 y1 y2 y3 y4
          go_wp2_with fail
          refine HAD.out.mono ?_
          rintro _ w5 ⟨rfl, H5, g1, s1⟩
          have HN := Lib.hid (show ∃ H5 : Gh, StRaw w5 wm (M.load (R.take (j + 1))).K (M.load (R.take (j + 1))).sp H5 (cb + 5 * (j + 1)) ∧ StC w w5 H H5 from ⟨H5, by rw [HTK.out]; exact g1.mono (by omega), HSC.out.trans s1⟩)
          clear g1 s1 d0 d1 d2 d3 d4 HAD
          go_wp2
          go_roundw
          case rel => exact ⟨j + 1, by omega, by go_num, HN.out⟩
          case measure => simp [intOf]; omega
        · obtain rfl : j = i := by omega
          have HF := Lib.hid (show ∃ H', StAt wr wm (if (0 : Int) = 0 then M.load R else M) H' (cb + 5 * j) ∧ StC w wr H H' from ⟨Hr, by
            rw [if_pos rfl]
            refine ⟨HH.out.ok.load HOK.out, ?_⟩
            rw [List.take_of_length_le (by rw [HL.out.len]; exact Nat.le_refl _)] at hraw
            exact hraw, hsc⟩)
          clear hraw hsc
          go_wp2
          go_ret
          exact ⟨rfl, HF.out⟩
end
end Go.Proofs.YtmjdngomjjhhiaaGreat

namespace Go.Proofs.YtmjdngomjjhhiaaGreat

/-- Two stores tell the same. -/
def Alike (M N : SM) : Prop := ∀ t, M.sp t = N.sp t
/-- Only tuples that are right are kept. -/
def Good (M : SM) : Prop := ∀ t ∈ M.K, t.e = 0
theorem Good.empty : Good SM.empty := fun t h => by simp [SM.empty] at h
theorem SM.one_mem {M : SM} {rev : Int} {d : Bool} {t x : Tp} (h : x ∈ (M.one rev d t).K) : x ∈ M.K ∨ x = t := by
  unfold SM.one at h
  cases d with
  | true =>
    simp only [if_true] at h
    by_cases ho : openB (M.sp t) = true
    · rw [if_pos ho] at h; exact (SM.put_mem M t _ x).1 h
    · rw [if_neg ho] at h; exact .inl h
  | false =>
    simp only [Bool.false_eq_true, if_false] at h
    by_cases ho : openB (M.sp t) = true
    · rw [if_pos ho] at h; exact .inl h
    · rw [if_neg ho] at h; exact (SM.put_mem M t _ x).1 h
theorem SM.apply_mem {rev : Int} : ∀ {l : List Mu} {M : SM} {x : Tp}, x ∈ (M.apply rev l).K → x ∈ M.K ∨ ∃ m ∈ l, x = m.t := by
  intro l
  induction l with
  | nil => exact fun h => .inl h
  | cons m l ih =>
    intro M x h
    rcases ih (M := M.one rev m.d m.t) h with h1 | ⟨y, hy, h1⟩
    · rcases SM.one_mem h1 with h2 | h2
      · exact .inl h2
      · exact .inr ⟨m, by simp, h2⟩
    · exact .inr ⟨y, List.mem_cons_of_mem _ hy, h1⟩
theorem chkGo_right {lat : Tp → Int} {rev : Int} : ∀ {l : List Mu} {seen : List Tp}, chkGo lat rev seen l = 0 → ∀ m ∈ l, m.t.e = 0 := by
  intro l
  induction l with
  | nil => exact fun _ m h => by cases h
  | cons x l ih =>
    intro seen h m hm
    unfold chkGo at h
    by_cases h1 : x.t.e ≠ 0
    · rw [if_pos h1] at h; exact absurd h h1
    · rw [if_neg h1] at h
      by_cases h2 : x.t ∈ seen
      · rw [if_pos h2] at h; cases h
      · rw [if_neg h2] at h
        by_cases h3 : rev ≤ lat x.t
        · rw [if_pos h3] at h; cases h
        · rw [if_neg h3] at h
          rcases List.mem_cons.1 hm with h4 | h4
          · rw [h4]; exact Decidable.not_not.1 h1
          · exact ih h m h4
theorem chkE_right {M : SM} {wm rev : Int} {l : List Mu} (h : chkE M wm rev l = 0) : ∀ m ∈ l, m.t.e = 0 := by
  unfold chkE at h
  by_cases h1 : rev < 1 ∨ maxRev < rev
  · rw [if_pos h1] at h; cases h
  · rw [if_neg h1] at h
    exact chkGo_right h
/-- A call of Apply. -/
def SM.tried (M : SM) (wm rev : Int) (l : List Mu) : SM := if chkE M wm rev l = 0 then M.apply rev l else M
theorem Good.tried {M : SM} (h : Good M) (wm rev : Int) (l : List Mu) : Good (M.tried wm rev l) := by
  unfold SM.tried
  by_cases h0 : chkE M wm rev l = 0
  · rw [if_pos h0]
    intro t ht
    rcases SM.apply_mem ht with h1 | ⟨m, hm, rfl⟩
    · exact h t h1
    · exact chkE_right h0 m hm
  · rw [if_neg h0]; exact h
theorem SMOk.tried {M : SM} (h : SMOk M) (wm rev : Int) (l : List Mu) : SMOk (M.tried wm rev l) := by
  unfold SM.tried
  by_cases h0 : chkE M wm rev l = 0
  · rw [if_pos h0]
    obtain ⟨a, b, c, _⟩ := chkE_zero h0
    exact h.apply a b c
  · rw [if_neg h0]; exact h
theorem SM.tried_tot {M : SM} (h : SMOk M) (wm rev : Int) (l : List Mu) : (M.tried wm rev l).tot ≤ M.tot + l.length := by
  unfold SM.tried
  by_cases h0 : chkE M wm rev l = 0
  · rw [if_pos h0]
    obtain ⟨a, b, c, _⟩ := chkE_zero h0
    exact SM.apply_tot a b h c
  · rw [if_neg h0]; omega
theorem Alike.lat {M N : SM} (h : Alike M N) (wm : Int) : M.lat wm = N.lat wm := by
  funext t
  unfold SM.lat
  rw [h t]
theorem Alike.chk {M N : SM} (h : Alike M N) (wm rev : Int) (l : List Mu) : chkE M wm rev l = chkE N wm rev l := by
  unfold chkE
  rw [h.lat]
theorem Alike.one {M N : SM} (h : Alike M N) (rev : Int) (d : Bool) (t : Tp) : Alike (M.one rev d t) (N.one rev d t) := by
  intro x
  unfold SM.one
  rw [h t]
  cases d with
  | true =>
    simp only [if_true]
    by_cases ho : openB (N.sp t) = true
    · rw [if_pos ho, if_pos ho]
      show (if x = t then _ else M.sp x) = (if x = t then _ else N.sp x)
      rw [h x]
    · rw [if_neg ho, if_neg ho]; exact h x
  | false =>
    simp only [Bool.false_eq_true, if_false]
    by_cases ho : openB (N.sp t) = true
    · rw [if_pos ho, if_pos ho]; exact h x
    · rw [if_neg ho, if_neg ho]
      show (if x = t then _ else M.sp x) = (if x = t then _ else N.sp x)
      rw [h x]
theorem Alike.apply {rev : Int} : ∀ {l : List Mu} {M N : SM}, Alike M N → Alike (M.apply rev l) (N.apply rev l) := by
  intro l
  induction l with
  | nil => exact fun h => h
  | cons m l ih => exact fun h => ih (h.one rev m.d m.t)
theorem Alike.tried {M N : SM} (h : Alike M N) (wm rev : Int) (l : List Mu) : Alike (M.tried wm rev l) (N.tried wm rev l) := by
  unfold SM.tried
  rw [h.chk]
  by_cases h0 : chkE N wm rev l = 0
  · rw [if_pos h0, if_pos h0]; exact h.apply
  · rw [if_neg h0, if_neg h0]; exact h
theorem Alike.rep {lt : Tp → Tp → Bool} {M N : SM} (h : Alike M N) {R : List Rw} (hr : Rep lt M R) : Rep lt N R := ⟨hr.so, fun t s u => by rw [← h t]; exact hr.mem t s u⟩
theorem SMOk.mem_iff {M : SM} (h : SMOk M) (t : Tp) : t ∈ M.K ↔ M.sp t ≠ [] := by
  constructor
  · intro ht he
    exact (h.ok t ht).ne he
  · intro hn
    exact Decidable.not_not.1 fun e => hn (h.no t e)
theorem Alike.users {M N : SM} (h : Alike M N) (hm : SMOk M) (hn : SMOk N) {o r : ByteArray} {rev : Int} {a b : List Tp} (ha : UsersOk M o r rev a) (hb : UsersOk N o r rev b) : a.length = b.length := by
  refine ((List.perm_ext_iff_of_nodup ha.nd hb.nd).2 fun t => ?_).length_eq
  rw [ha.mem, hb.mem, hm.mem_iff, hn.mem_iff, h t]
/-- The rows of a store can be loaded where none of its tuples is. -/
theorem Sp.ok_okB {x : Sp} (h : x.ok) : x.okB = true := by
  unfold Sp.ok at h
  unfold Sp.okB
  simp
  omega
theorem ldGo_zero {M : SM} : ∀ {l : List Rw} {lf : Tp → Option Sp} {N : SM}, LoadOk N l → (∀ x ∈ l, x.t.e = 0 ∧ x.t ∉ M.K) → (∀ t, (N.sp t).getLast? = lf t) → ldGo M lf l = 0 := by
  intro l
  induction l with
  | nil => intro _ _ _ _ _; rfl
  | cons x l ih =>
    intro lf N h hg hN
    obtain ⟨g1, g2⟩ := hg x (by simp)
    unfold ldGo
    rw [if_neg (fun e => e g1), if_neg g2, if_neg (by rw [Sp.ok_okB h.1.ok]; simp)]
    have h4 : ¬ (match lf x.t with
        | some y => !(decide (y.u ≠ 0) && decide (y.u < x.s))
        | none => false) = true := by
      have hb := h.1.la
      rw [hN x.t] at hb
      cases hl : lf x.t with
      | none => simp
      | some y =>
        have := hb y hl
        simp
        exact this
    refine (if_neg h4).trans ?_
    refine ih h.2 (fun y hy => hg y (List.mem_cons_of_mem _ hy)) fun t => ?_
    show ((N.put x.t (N.sp x.t ++ [⟨x.s, x.u⟩])).sp t).getLast? = _
    by_cases hxt : t = x.t
    · rw [hxt, SM.put_same, updK_same, List.getLast?_concat]
    · rw [SM.put_other N _ hxt, updK_other _ _ hxt]
      exact hN t
theorem rep_known {lt : Tp → Tp → Bool} {M : SM} (hm : SMOk M) {R : List Rw} (hr : Rep lt M R) {x : Rw} (hx : x ∈ R) : x.t ∈ M.K := by
  rw [hm.mem_iff]
  intro e
  have := (hr.mem x.t x.s x.u).1 hx
  rw [e] at this
  cases this
theorem ldE_back {lt : Tp → Tp → Bool} {M : SM} (hm : SMOk M) (hg : Good M) {R : List Rw} (hr : Rep lt M R) : ldE SM.empty R = 0 :=
  ldGo_zero (hr.loadOk hm) (fun x hx => ⟨hg _ (rep_known hm hr hx), by simp [SM.empty]⟩) fun _ => rfl
theorem ldE_twice {lt : Tp → Tp → Bool} {M N : SM} (hm : SMOk M) (hg : Good M) {R : List Rw} (hr : Rep lt M R) (hn : SMOk N) (ha : Alike N M) (h0 : 0 < R.length) : ldE N R = 5 := by
  cases R with
  | nil => simp at h0
  | cons x l =>
    have hx := rep_known hm hr (x := x) (by simp)
    have hx2 : x.t ∈ N.K := by
      rw [hn.mem_iff, ha x.t, ← hm.mem_iff]
      exact hx
    unfold ldE ldGo
    rw [if_neg (fun e => e (hg _ hx)), if_pos hx2]
theorem SMOk.load_back {lt : Tp → Tp → Bool} {M : SM} (hm : SMOk M) {R : List Rw} (hr : Rep lt M R) : SMOk (SM.empty.load R) ∧ Alike (SM.empty.load R) M :=
  ⟨SMOk.empty.load (hr.loadOk hm), hr.load_back hm⟩
theorem SM.load_tot : ∀ {l : List Rw} {M : SM}, SMOk M → LoadOk M l → (M.load l).tot = M.tot + l.length := by
  intro l
  induction l with
  | nil => intro M _ _; rfl
  | cons x l ih =>
    intro M hm hl
    have h1 := ih (hm.addSp hl.1) hl.2
    have h2 := SM.put_tot hm x.t (M.sp x.t ++ [⟨x.s, x.u⟩])
    rw [List.length_append] at h2
    show ((M.loadRow x).load l).tot = _
    rw [show M.loadRow x = M.put x.t (M.sp x.t ++ [⟨x.s, x.u⟩]) from rfl, h1, List.length_cons]
    simp at h2
    omega
/-- Dropped is what is of these objects. -/
theorem SM.dropL_mem : ∀ {os : List ByteArray} {M : SM} {t : Tp}, t ∈ (M.dropL os).K ↔ t ∈ M.K ∧ t.o ∉ os := by
  intro os
  induction os with
  | nil => intro M t; simp [SM.dropL]
  | cons o os ih =>
    intro M t
    show t ∈ ((M.dropO o).dropL os).K ↔ _
    rw [ih]
    show t ∈ M.K.filter _ ∧ _ ↔ _
    rw [List.mem_filter]
    simp
    constructor
    · rintro ⟨⟨h1, h2⟩, h3⟩
      exact ⟨h1, h2, h3⟩
    · rintro ⟨h1, h2, h3⟩
      exact ⟨⟨h1, h2⟩, h3⟩
theorem SM.dropL_none {M : SM} (hm : SMOk M) {lt : Tp → Tp → Bool} {R : List Rw} (hr : Rep lt M R) {os : List ByteArray} (hos : ∀ x ∈ R, x.t.o ∈ os) {S : List Rw} (hS : Rep lt (M.dropL os) S) : S.length = 0 := by
  cases S with
  | nil => rfl
  | cons x S =>
    have hx := rep_known (hm.dropL os) hS (x := x) (by simp)
    rw [SM.dropL_mem] at hx
    have h1 := (hm.mem_iff x.t).1 hx.1
    cases hsp : M.sp x.t with
    | nil => exact absurd hsp h1
    | cons y l =>
      have h2 := (hr.mem x.t y.s y.u).2 (by rw [hsp]; simp)
      exact absurd (hos _ h2) hx.2
end Go.Proofs.YtmjdngomjjhhiaaGreat

namespace Go.Proofs.YtmjdngomjjhhiaaGreat
open Go.RowKit Go.ChangeShapes Go.WideShapes

theorem rowsB_opened {H : Type} {enc : TypeId × Value → H} {W : World} {fuel : Nat} {v : Value} {x : DataW H × List MemPlace}
    (h : DataW.trod enc Tryz.prog W 0 (fun _ => true) true fuel 26 [v] = some x) (hw : Rows.uptoBulk x.1 ≤ 1048576) :
    ∃ a n c, v = .slice a n c ∧ (∃ l, RowsAt W a n l) ∧ n ≤ c ∧ c ≤ maxLen ∧ n ≤ Rows.uptoBulk x.1 := by
  rcases Go.Deep.open_slice Tryz.underlying26 h with ⟨hcs, hx⟩ | ⟨ad, l, c, m, n, Dd, Pl, hcs, _, hl, hm, hmm, hx, hall⟩
  · simp at hcs
    subst hcs
    exact ⟨none, 0, 0, rfl, ⟨[], rfl, by simp, .inl rfl⟩, by omega, by simp [maxLen], by omega⟩
  · simp at hcs
    subst hcs
    have hcell : Tryz.prog.cellsOf 46 = 5 := by kernel_rfl
    rw [hcell] at hall
    simp only [if_true] at hmm
    have hlen : l ≤ Rows.uptoBulk x.1 := by
      rw [hx]
      have h1 := bulks.slice_le ((List.range l).map Dd) ((List.range (m - l)).map fun j => Dd (l + j))
      simp at h1 ⊢
      omega
    rcases Nat.eq_zero_or_pos l with h0 | h0
    · subst h0
      exact ⟨some ad, 0, c, rfl, ⟨[], rfl, by simp, .inl rfl⟩, hl, hm, by omega⟩
    · obtain ⟨b, off, spot⟩ := ad
      have hs : spot = none := by
        obtain ⟨cs', hc, _⟩ := hall 0 (by omega)
        obtain ⟨_, hcl, hat⟩ := World.cells?_some hc
        have h1 := hat 0 (by omega)
        rw [List.getElem?_eq_getElem (by omega)] at h1
        simpa [Addr.add] using World.cell?_spot h1
      subst hs
      have key : ∀ i, i < l → ∃ r : Rw, (W.cell? ⟨b, off + i * 5, none⟩ = some (.string r.t.o) ∧ W.cell? ⟨b, off + i * 5 + 1, none⟩ = some (.string r.t.r) ∧ W.cell? ⟨b, off + i * 5 + 2, none⟩ = some (.string r.t.u) ∧ W.cell? ⟨b, off + i * 5 + 3, none⟩ = some (.int .i64 r.s) ∧ W.cell? ⟨b, off + i * 5 + 4, none⟩ = some (.int .i64 r.u)) ∧ r.t.fits := by
        intro i hi
        obtain ⟨cs', hc, ht⟩ := hall i (by omega)
        obtain ⟨_, hcl, hat⟩ := World.cells?_some hc
        have hbi : Rows.uptoBulk (Dd i) ≤ 1048576 := by
          have h1 : Dd i ∈ (List.range l).map Dd := List.mem_map.2 ⟨i, List.mem_range.2 hi, rfl⟩
          have h2 := bulks.part_le h1
          rw [hx] at hw
          simp only [Rows.uptoBulk] at hw
          omega
        match cs', hcl with
        | [v0, v1, v2, v3, v4], _ =>
          have e0 := hat 0 (by omega)
          have e1 := hat 1 (by omega)
          have e2 := hat 2 (by omega)
          have e3 := hat 3 (by omega)
          have e4 := hat 4 (by omega)
          simp only [add_plain, Nat.add_zero, List.getElem?_cons_zero, List.getElem?_cons_succ] at e0 e1 e2 e3 e4
          obtain ⟨xs, n', _, hd, _, hlen, hf⟩ := DataW.trod_struct Tryz.underlying46 ht
          match xs, hlen with
          | [y0, y1, y2], _ =>
            have t0 := hf 0 _ rfl
            have t1 := hf 1 _ rfl
            have t2 := hf 2 _ rfl
            have kb : Tryz.prog.cellsOf 2 = 1 := by kernel_rfl
            have kt : Tryz.prog.cellsOf 32 = 3 := by kernel_rfl
            simp [kb, kt] at t0 t1 t2
            obtain ⟨q1, h1, _, _⟩ := DataW.trod_int Tryz.underlying2 t1
            obtain ⟨q2, h2, _, _⟩ := DataW.trod_int Tryz.underlying2 t2
            have hdi : Dd i = .agg [y0.1, y1.1, y2.1] := by have := congrArg Prod.fst hd; simpa using this
            have hb1 : Rows.uptoBulk y0.1 ≤ 1048576 := by
              rw [hdi] at hbi
              simp only [Rows.uptoBulk, Rows.uptoBulkAll] at hbi
              omega
            obtain ⟨t, rfl, rfl, rfl, hft⟩ := tupB_opened t0 hb1
            simp at h1 h2
            subst h1 h2
            exact ⟨⟨t, q1, q2⟩, ⟨e0, by rw [Nat.add_assoc]; exact e1, by rw [Nat.add_assoc]; exact e2, by rw [Nat.add_assoc]; exact e3, by rw [Nat.add_assoc]; exact e4⟩, hft⟩
      have hb : b < W.heap.size := by
        obtain ⟨m, ⟨c0, _⟩, _⟩ := key 0 h0
        exact World.block_lt_of_cell? W ⟨b, off + 0 * 5, none⟩ c0
      refine ⟨_, l, c, rfl, ⟨(List.range l).map fun i => if h : i < l then (key i h).choose else ⟨⟨ByteArray.empty, ByteArray.empty, ByteArray.empty⟩, 0, 0⟩, ⟨by simp, ?_, .inr ⟨b, off, rfl, hb, ?_⟩⟩⟩, hl, hm, hlen⟩
      · intro m hm2
        obtain ⟨i, hi, rfl⟩ := List.mem_map.1 hm2
        have hi' : i < l := List.mem_range.1 hi
        simp only [dif_pos hi']
        exact (key i hi').choose_spec.2
      · intro i m hi
        have hil : i < l := by
          have := (List.getElem?_eq_some_iff.1 hi).1
          simpa using this
        rw [List.getElem?_map, List.getElem?_range hil] at hi
        simp only [Option.map_some, Option.some.injEq, dif_pos hil] at hi
        subst hi
        exact (key i hil).choose_spec.1
theorem strsB_opened {H : Type} {enc : TypeId × Value → H} {W : World} {fuel : Nat} {v : Value} {x : DataW H × List MemPlace}
    (h : DataW.trod enc Tryz.prog W 0 (fun _ => true) true fuel 30 [v] = some x) (hw : Rows.uptoBulk x.1 ≤ 1048576) :
    ∃ a n c, v = .slice a n c ∧ (∃ l, StrsAt W a n l) ∧ n ≤ c ∧ c ≤ maxLen ∧ n ≤ Rows.uptoBulk x.1 := by
  rcases Go.Deep.open_slice Tryz.underlying30 h with ⟨hcs, hx⟩ | ⟨ad, l, c, m, n, Dd, Pl, hcs, _, hl, hm, hmm, hx, hall⟩
  · simp at hcs
    subst hcs
    exact ⟨none, 0, 0, rfl, ⟨[], rfl, by simp, .inl rfl⟩, by omega, by simp [maxLen], by omega⟩
  · simp at hcs
    subst hcs
    have hcell : Tryz.prog.cellsOf 9 = 1 := by kernel_rfl
    rw [hcell] at hall
    simp only [if_true] at hmm
    have hlen : l ≤ Rows.uptoBulk x.1 := by
      rw [hx]
      have h1 := bulks.slice_le ((List.range l).map Dd) ((List.range (m - l)).map fun j => Dd (l + j))
      simp at h1 ⊢
      omega
    rcases Nat.eq_zero_or_pos l with h0 | h0
    · subst h0
      exact ⟨some ad, 0, c, rfl, ⟨[], rfl, by simp, .inl rfl⟩, hl, hm, by omega⟩
    · obtain ⟨b, off, spot⟩ := ad
      have hs : spot = none := by
        obtain ⟨cs', hc, _⟩ := hall 0 (by omega)
        obtain ⟨_, hcl, hat⟩ := World.cells?_some hc
        have h1 := hat 0 (by omega)
        rw [List.getElem?_eq_getElem (by omega)] at h1
        simpa [Addr.add] using World.cell?_spot h1
      subst hs
      have key : ∀ i, i < l → ∃ o : ByteArray, (W.cell? ⟨b, off + i, none⟩ = some (.string o) ∧ True) ∧ o.size ≤ 1000000000000000000 := by
        intro i hi
        obtain ⟨cs', hc, ht⟩ := hall i (by omega)
        obtain ⟨_, hcl, hat⟩ := World.cells?_some hc
        have hbi : Rows.uptoBulk (Dd i) ≤ 1048576 := by
          have h1 : Dd i ∈ (List.range l).map Dd := List.mem_map.2 ⟨i, List.mem_range.2 hi, rfl⟩
          have h2 := bulks.part_le h1
          rw [hx] at hw
          simp only [Rows.uptoBulk] at hw
          omega
        match cs', hcl with
        | [v0], _ =>
          have e0 := hat 0 (by omega)
          simp only [add_plain, Nat.add_zero, List.getElem?_cons_zero, Nat.mul_one] at e0
          obtain ⟨o, q0, hq, _⟩ := DataW.trod_string Tryz.underlying9 ht
          simp at q0
          subst q0
          refine ⟨o, ⟨e0, trivial⟩, ?_⟩
          have hq1 := congrArg Prod.fst hq
          simp only at hq1
          rw [hq1] at hbi
          simp only [Rows.uptoBulk] at hbi
          simp only [Lib.size_eq]
          omega
      have hb : b < W.heap.size := by
        obtain ⟨m, ⟨c0, _⟩, _⟩ := key 0 h0
        exact World.block_lt_of_cell? W ⟨b, off + 0, none⟩ c0
      refine ⟨_, l, c, rfl, ⟨(List.range l).map fun i => if h : i < l then (key i h).choose else ByteArray.empty, ⟨by simp, ?_, .inr ⟨b, off, rfl, hb, ?_⟩⟩⟩, hl, hm, hlen⟩
      · intro m hm2
        obtain ⟨i, hi, rfl⟩ := List.mem_map.1 hm2
        have hi' : i < l := List.mem_range.1 hi
        simp only [dif_pos hi']
        exact (key i hi').choose_spec.2
      · intro i m hi
        have hil : i < l := by
          have := (List.getElem?_eq_some_iff.1 hi).1
          simpa using this
        rw [List.getElem?_map, List.getElem?_range hil] at hi
        simp only [Option.map_some, Option.some.injEq, dif_pos hil] at hi
        subst hi
        exact (key i hil).choose_spec.1.1
/-- One step of a script. -/
structure OpD where
  k : Int
  rev : Int
  ma : Option Addr
  ml : List Mu
  mc : Nat
  ra : Option Addr
  rl : List Rw
  rc : Nat
  oa : Option Addr
  ol : List ByteArray
  oc : Nat
  t : Tp
def OpD.cost (d : OpD) : Nat := d.ml.length + d.rl.length + d.ol.length
def OpD.vals (d : OpD) : List Value := [.int .i64 d.k, .int .i64 d.rev, .slice d.ma d.ml.length d.mc, .slice d.ra d.rl.length d.rc, .slice d.oa d.ol.length d.oc, .string d.t.o, .string d.t.r, .string d.t.u]
/-- What it holds lies there. -/
structure OpOk (W : World) (d : OpD) : Prop where
  mu : MutsAt W d.ma d.ml.length d.ml
  ro : RowsAt W d.ra d.rl.length d.rl
  ob : StrsAt W d.oa d.ol.length d.ol
  fit : d.t.fits
set_option maxRecDepth 100000 in
theorem opB_opened {H : Type} {enc : TypeId × Value → H} {W : World} {fuel : Nat} {vs : List Value} {x : DataW H × List MemPlace}
    (hl : vs.length = 8) (h : DataW.trod enc Tryz.prog W 0 (fun _ => true) true fuel 34 vs = some x) (hw : Rows.uptoBulk x.1 ≤ 1048576) :
    ∃ d : OpD, vs = d.vals ∧ OpOk W d ∧ d.cost ≤ Rows.uptoBulk x.1 := by
  match vs, hl with
  | [v0, v1, v2, v3, v4, v5, v6, v7], _ =>
    obtain ⟨xs, n', _, hd, _, hlen, hf⟩ := DataW.trod_struct Tryz.underlying34 h
    match xs, hlen with
    | [y0, y1, y2, y3, y4, y5], _ =>
      have t0 := hf 0 _ rfl
      have t1 := hf 1 _ rfl
      have t2 := hf 2 _ rfl
      have t3 := hf 3 _ rfl
      have t4 := hf 4 _ rfl
      have t5 := hf 5 _ rfl
      have ki : Tryz.prog.cellsOf 3 = 1 := by kernel_rfl
      have kj : Tryz.prog.cellsOf 2 = 1 := by kernel_rfl
      have km : Tryz.prog.cellsOf 29 = 1 := by kernel_rfl
      have kr : Tryz.prog.cellsOf 26 = 1 := by kernel_rfl
      have ks : Tryz.prog.cellsOf 30 = 1 := by kernel_rfl
      have kt : Tryz.prog.cellsOf 32 = 3 := by kernel_rfl
      simp [ki, kj, km, kr, ks, kt] at t0 t1 t2 t3 t4 t5
      have hdi : x.1 = .agg [y0.1, y1.1, y2.1, y3.1, y4.1, y5.1] := by have := congrArg Prod.fst hd; simpa using this
      rw [hdi] at hw ⊢
      simp only [Rows.uptoBulk, Rows.uptoBulkAll] at hw ⊢
      obtain ⟨q0, h0, _, _⟩ := DataW.trod_int Tryz.underlying3 t0
      obtain ⟨q1, h1, _, _⟩ := DataW.trod_int Tryz.underlying2 t1
      obtain ⟨ma, mn, mc, rfl, ⟨ml, hml⟩, _, _, hmn, _⟩ := mutsB_opened t2 (by omega)
      obtain ⟨ra, rn, rc, rfl, ⟨rl, hrl⟩, _, _, hrn⟩ := rowsB_opened t3 (by omega)
      obtain ⟨oa, on, oc, rfl, ⟨ol, hol⟩, _, _, hon⟩ := strsB_opened t4 (by omega)
      obtain ⟨t, rfl, rfl, rfl, hft⟩ := tupB_opened t5 (by omega)
      simp at h0 h1
      subst h0 h1
      obtain rfl := hml.len
      obtain rfl := hrl.len
      obtain rfl := hol.len
      refine ⟨⟨q0, q1, ma, ml, mc, ra, rl, rc, oa, ol, oc, t⟩, rfl, ⟨hml, hrl, hol, hft⟩, ?_⟩
      unfold OpD.cost
      simp only
      omega
/-- A script that came in. -/
structure OpsIn (W : World) (a : Option Addr) (n : Nat) (D : List OpD) : Prop where
  len : D.length = n
  ok : ∀ d ∈ D, OpOk W d
  cost : (D.map OpD.cost).sum ≤ 1048576
  at_ : n = 0 ∨ ∃ b off, a = some ⟨b, off, none⟩ ∧ b < W.heap.size ∧ ∀ (i : Nat) (d : OpD), D[i]? = some d → ∀ (j : Nat) (u : Value), d.vals[j]? = some u → W.cell? ⟨b, off + i * 8 + j, none⟩ = some u
theorem bulk_sum {H : Type} (Dd : Nat → DataW H) (f : Nat → Nat) : ∀ l : List Nat, (∀ i ∈ l, f i ≤ Rows.uptoBulk (Dd i)) → (l.map f).sum ≤ Rows.uptoBulkAll (l.map Dd) := by
  intro l
  induction l with
  | nil => intro _; simp [Rows.uptoBulkAll]
  | cons i l ih =>
    intro h
    have h1 := h i (by simp)
    have h2 := ih fun j hj => h j (List.mem_cons_of_mem _ hj)
    simp only [List.map_cons, List.sum_cons, Rows.uptoBulkAll]
    omega
set_option maxRecDepth 100000 in
theorem opsU_opened {H : Type} {enc : TypeId × Value → H} {W : World} {fuel : Nat} {a : Option Addr} {len cap : Nat} {x : DataW H × List MemPlace}
    (h : DataW.trod enc Tryz.prog W 0 (fun _ => true) true fuel 22 (Value.slice a len cap).cells.toList = some x) (hw : Rows.uptoBulk x.1 ≤ 1048576) : (∃ D, OpsIn W a len D) ∧ len ≤ 1048576 := by
  have h' : DataW.trod enc Tryz.prog W 0 (fun _ => true) true fuel 22 [Value.slice a len cap] = some x := by simpa [Value.cells] using h
  rcases Go.Deep.open_slice Tryz.underlying22 h' with ⟨hcs, hx⟩ | ⟨ad, l, c, m, n, Dd, Pl, hcs, _, hl, hm, hmm, hx, hall⟩
  · simp at hcs
    obtain ⟨rfl, rfl, rfl⟩ := hcs
    exact ⟨⟨[], rfl, by simp, by simp, .inl rfl⟩, by omega⟩
  · simp at hcs
    obtain ⟨rfl, rfl, rfl⟩ := hcs
    have hcell : Tryz.prog.cellsOf 34 = 8 := by kernel_rfl
    rw [hcell] at hall
    simp only [if_true] at hmm
    have hlen : len ≤ 1048576 := by
      rw [hx] at hw
      have h1 := Nat.le_trans (bulks.slice_le ((List.range len).map Dd) _) hw
      simp at h1
      omega
    refine ⟨?_, hlen⟩
    rcases Nat.eq_zero_or_pos len with h0 | h0
    · subst h0
      exact ⟨[], rfl, by simp, by simp, .inl rfl⟩
    · obtain ⟨b, off, spot⟩ := ad
      have hs : spot = none := by
        obtain ⟨cs', hc, _⟩ := hall 0 (by omega)
        obtain ⟨_, hcl, hat⟩ := World.cells?_some hc
        have h1 := hat 0 (by omega)
        rw [List.getElem?_eq_getElem (by omega)] at h1
        simpa [Addr.add] using World.cell?_spot h1
      subst hs
      have hb : b < W.heap.size := by
        obtain ⟨cs', hc, _⟩ := hall 0 (by omega)
        obtain ⟨_, hcl, hat⟩ := World.cells?_some hc
        have h1 := hat 0 (by omega)
        rw [List.getElem?_eq_getElem (by omega)] at h1
        have := World.block_lt_of_cell? W _ h1
        simpa [Addr.add] using this
      have key : ∀ i, i < len → ∃ d : OpD, (∀ (j : Nat) (u : Value), d.vals[j]? = some u → W.cell? ⟨b, off + i * 8 + j, none⟩ = some u) ∧ OpOk W d ∧ d.cost ≤ Rows.uptoBulk (Dd i) := by
        intro i hi
        obtain ⟨cs', hc, ht⟩ := hall i (by omega)
        obtain ⟨_, hcl, hat⟩ := World.cells?_some hc
        have hbi : Rows.uptoBulk (Dd i) ≤ 1048576 := by
          have h1 : Dd i ∈ (List.range len).map Dd := List.mem_map.2 ⟨i, List.mem_range.2 hi, rfl⟩
          have h2 := bulks.part_le h1
          rw [hx] at hw
          simp only [Rows.uptoBulk] at hw
          omega
        obtain ⟨d, rfl, hok, hco⟩ := opB_opened (by omega) ht hbi
        refine ⟨d, fun j u hu => ?_, hok, hco⟩
        have hj := (List.getElem?_eq_some_iff.1 hu).1
        have h1 := hat j (by omega)
        rw [hu] at h1
        simpa [add_plain, Nat.add_assoc] using h1
      obtain ⟨d0, _⟩ := key 0 h0
      let g : Nat → OpD := fun i => if h : i < len then (key i h).choose else d0
      have hg : ∀ i (hi : i < len), g i = (key i hi).choose := fun i hi => by simp only [g, dif_pos hi]
      refine ⟨(List.range len).map g, by simp, ?_, ?_, .inr ⟨b, off, rfl, hb, ?_⟩⟩
      · intro d hd
        obtain ⟨i, hi, rfl⟩ := List.mem_map.1 hd
        rw [hg i (List.mem_range.1 hi)]
        exact (key i (List.mem_range.1 hi)).choose_spec.2.1
      · rw [hx] at hw
        simp only [Rows.uptoBulk] at hw
        have := bulk_sum Dd (fun i => (g i).cost) (List.range len) fun i hi => by
          rw [hg i (List.mem_range.1 hi)]
          exact (key i (List.mem_range.1 hi)).choose_spec.2.2
        rw [List.map_map]
        exact Nat.le_trans this (by omega)
      · intro i d hi
        have hil : i < len := by
          have := (List.getElem?_eq_some_iff.1 hi).1
          simpa using this
        rw [List.getElem?_map, List.getElem?_range hil] at hi
        simp only [Option.map_some, Option.some.injEq] at hi
        subst hi
        rw [hg i hil]
        exact (key i hil).choose_spec.1
set_option maxRecDepth 100000 in
theorem opU_opened {H : Type} {enc : TypeId × Value → H} {W : World} {r : Reach} {b0 : Nat} {v : Value} {d : DataW H} {p : List MemPlace}
    (hv : Value.okWide Tryz.prog W r b0 34 v) (h : DataW.Trod enc Tryz.prog W 0 (fun _ => true) true 34 v d p) (hw : Rows.uptoBulk d ≤ 1048576) :
    ∃ o : OpD, v = .agg o.vals.toArray ∧ OpOk W o ∧ o.cost ≤ 1048576 := by
  obtain ⟨cs, rfl, hsz⟩ := okWide_struct Tryz.underlying34 hv
  obtain ⟨fuel, hf⟩ := h
  have hcell : Tryz.prog.cellsOf 34 = 8 := by kernel_rfl
  have hl : cs.toList.length = 8 := by simpa [hcell] using hsz
  have hc : (Value.agg cs).cells.toList = cs.toList := by simp [Value.cells]
  rw [hc] at hf
  obtain ⟨o, ho, hok, hco⟩ := opB_opened hl hf hw
  refine ⟨o, ?_, hok, Nat.le_trans hco hw⟩
  rw [← ho]
end Go.Proofs.YtmjdngomjjhhiaaGreat

namespace Go.Proofs.YtmjdngomjjhhiaaGreat
open Go.RowKit
open Go.Maps (Keyed)

structure Two (W0 wr : World) (g1 g2 : Nat) (Ma Mb : SM) (Ha Hb : Gh) (ca cb : Nat) : Prop where
  a : StAt wr 0 Ma Ha ca
  b : StAt wr 0 Mb Hb cb
  ga : Ha.g = g1
  gb : Hb.g = g2
  dj : ∀ k, Ha.own k → ¬ Hb.own k
  oa : ∀ k, Ha.own k → W0.heap.size ≤ k
  ob : ∀ k, Hb.own k → W0.heap.size ≤ k
  bel : Below W0.heap.size W0 wr
section
variable {W0 wr w' : World} {g1 g2 : Nat} {Ma Mb Ma' Mb' : SM} {Ha Hb Ha' Hb' : Gh} {ca cb ca' cb' : Nat}
theorem Two.below (h : Two W0 wr g1 g2 Ma Mb Ha Hb ca cb) (hb : Below wr.heap.size wr w') : Two W0 w' g1 g2 Ma Mb Ha Hb ca cb :=
  ⟨h.a.below hb, h.b.below hb, h.ga, h.gb, h.dj, h.oa, h.ob, bell_up h.bel hb⟩
theorem Two.stepA (h : Two W0 wr g1 g2 Ma Mb Ha Hb ca cb) (hs : StAt w' 0 Ma' Ha' ca') (c : StC wr w' Ha Ha') : Two W0 w' g1 g2 Ma' Mb Ha' Hb ca' cb := by
  obtain ⟨b', d'⟩ := c.keep2 h.b h.dj
  obtain ⟨l', o'⟩ := c.since h.bel h.oa
  exact ⟨hs, b', c.g.trans h.ga, h.gb, d', o', h.ob, l'⟩
theorem Two.stepB (h : Two W0 wr g1 g2 Ma Mb Ha Hb ca cb) (hs : StAt w' 0 Mb' Hb' cb') (c : StC wr w' Hb Hb') : Two W0 w' g1 g2 Ma Mb' Ha Hb' ca cb' := by
  obtain ⟨a', d'⟩ := c.keep2 h.a (fun k k1 k2 => h.dj k k2 k1)
  obtain ⟨l', o'⟩ := c.since h.bel h.ob
  exact ⟨a', hs, h.ga, c.g.trans h.gb, fun k k1 k2 => d' k k2 k1, h.oa, o', l'⟩
theorem Two.monoB (h : Two W0 wr g1 g2 Ma Mb Ha Hb ca cb) (hc : cb ≤ cb') : Two W0 wr g1 g2 Ma Mb Ha Hb ca cb' := ⟨h.a, h.b.mono hc, h.ga, h.gb, h.dj, h.oa, h.ob, h.bel⟩
structure Held (wr : World) (Ha Hb : Gh) (B : Nat) (v : Value) (R : List Rw) : Prop where
  row : wr.ownsRow B 46 5 v R.length (rwc R)
  no : ∀ k, v.ownBlock = some k → ¬ Ha.own k ∧ ¬ Hb.own k
variable {B : Nat} {v : Value} {R : List Rw}
theorem Held.made (t : Two W0 wr g1 g2 Ma Mb Ha Hb ca cb) (h : w'.ownsRow wr.heap.size 46 5 v R.length (rwc R)) : Held w' Ha Hb wr.heap.size v R :=
  ⟨h, fun k hk => ⟨fun ho => by have := t.a.raw.own_lt ho; have := (h.lt k hk).1; omega, fun ho => by have := t.b.raw.own_lt ho; have := (h.lt k hk).1; omega⟩⟩
theorem Held.below (h : Held wr Ha Hb B v R) (hb : Below wr.heap.size wr w') : Held w' Ha Hb B v R := ⟨owns_keptN h.row (fun k hk => hb.block k (h.row.lt k hk).2), h.no⟩
theorem Held.chgA (h : Held wr Ha Hb B v R) (c : StC wr w' Ha Ha') : Held w' Ha' Hb B v R :=
  ⟨owns_keptN h.row (fun k hk => c.chg.block k (h.row.lt k hk).2 (h.no k hk).1), fun k hk => ⟨fun ho => (h.no k hk).1 (c.new k (h.row.lt k hk).2 ho), (h.no k hk).2⟩⟩
theorem Held.chgB (h : Held wr Ha Hb B v R) (c : StC wr w' Hb Hb') : Held w' Ha Hb' B v R :=
  ⟨owns_keptN h.row (fun k hk => c.chg.block k (h.row.lt k hk).2 (h.no k hk).2), fun k hk => ⟨(h.no k hk).1, fun ho => (h.no k hk).2 (c.new k (h.row.lt k hk).2 ho)⟩⟩
theorem Held.rows {a : Option Addr} {n c : Nat} (h : Held wr Ha Hb B (.slice a n c) R) (hn : R.length = n) (hf : ∀ r ∈ R, r.t.fits) : RowsAt wr a n R ∧ (0 < n → ∀ ad, a = some ad → ¬ Ha.own ad.block ∧ ¬ Hb.own ad.block) := by
  rcases Nat.eq_zero_or_pos n with h0 | h0
  · exact ⟨⟨hn, hf, .inl h0⟩, fun hp => by omega⟩
  · have hr := h.row
    rw [hn] at hr
    obtain ⟨b, c', he, hb, hc⟩ := own_cells hr h0
    injection he with e1 e2 e3
    subst e1
    refine ⟨⟨hn, hf, .inr ⟨b, 0, rfl, hb, fun i r hi => ?_⟩⟩, fun _ ad ha => ?_⟩
    · obtain ⟨k0, k1, k2, k3, k4⟩ := rwc_at hi
      rw [Nat.zero_add]
      exact ⟨hc _ _ k0, hc _ _ k1, hc _ _ k2, hc _ _ k3, hc _ _ k4⟩
    · injection ha with ha
      subst ha
      exact h.no b (by simp [Value.ownBlock])
end
theorem fits_of {w : World} {wm : Int} {M : SM} {H : Gh} {cb : Nat} (h : StAt w wm M H cb) {lt : Tp → Tp → Bool} {R : List Rw} (hr : Rep lt M R) : ∀ r ∈ R, r.t.fits := fun _ hx => (h.raw.ents _ (rep_known h.ok hr hx)).fit
theorem MutsAt.apart {w0 : World} {a : Option Addr} {n : Nat} {l : List Mu} (h : MutsAt w0 a n l) {H : Gh} (ho : ∀ k, H.own k → w0.heap.size ≤ k) : 0 < n → ∀ ad, a = some ad → ¬ H.own ad.block := by
  intro hn ad ha hk
  obtain ⟨b, off, he, hb, _⟩ := h.at_.resolve_left (by omega)
  rw [ha] at he
  injection he with he
  subst he
  have := ho _ hk
  simp only at this
  omega
theorem strs_own {w : World} {B n c : Nat} {a : Option Addr} {os : List ByteArray} (h : w.ownsRow B 9 1 (.slice a n c) n (os.map Value.string)) (hf : ∀ o ∈ os, o.size ≤ 1000000000000000000) : StrsAt w a n os ∧ (0 < n → ∀ ad, a = some ad → B ≤ ad.block) := by
  have hl : os.length = n := by have := h.1; simpa using this
  rcases Nat.eq_zero_or_pos n with h0 | h0
  · exact ⟨⟨hl, hf, .inl h0⟩, fun hp => by omega⟩
  · obtain ⟨b, c', he, hb, hc⟩ := own_cells h h0
    injection he with e1 e2 e3
    subst e1
    refine ⟨⟨hl, hf, .inr ⟨b, 0, rfl, hb, fun i o hi => ?_⟩⟩, fun _ ad ha => ?_⟩
    · rw [Nat.zero_add]
      exact hc _ _ (by rw [List.getElem?_map, hi]; rfl)
    · injection ha with ha
      subst ha
      exact (h.lt b (by simp [Value.ownBlock])).1
section
variable {W0 wr : World} {g1 g2 : Nat} {Ma Mb : SM} {Ha Hb : Gh} {ca cb : Nat}
theorem Two.applyA (h : Two W0 wr g1 g2 Ma Mb Ha Hb ca cb) {a : Option Addr} {n : Nat} {l : List Mu} (hm : MutsAt W0 a n l) (c : Nat) (rev : Int) (hc : ca + 5 * n ≤ 1099511627000) :
    Calls Tryz.prog 11 #[ptr g1, .int .i64 rev, .slice a n c] wr fun e w' => e = .returned (.int .i64 (chkE Ma 0 rev l)) ∧ ∃ Ha', StC wr w' Ha Ha' ∧ Two W0 w' g1 g2 (Ma.tried 0 rev l) Mb Ha' Hb (ca + 5 * n) cb := by
  have hp := apply_any h.a (hm.below h.bel) (c := c) (hm.apart h.oa) hc rev
  rw [h.ga] at hp
  refine hp.mono ?_
  rintro e w' ⟨rfl, H', hs, hst⟩
  exact ⟨rfl, H', hst, h.stepA hs hst⟩
theorem Two.applyB (h : Two W0 wr g1 g2 Ma Mb Ha Hb ca cb) {a : Option Addr} {n : Nat} {l : List Mu} (hm : MutsAt W0 a n l) (c : Nat) (rev : Int) (hc : cb + 5 * n ≤ 1099511627000) :
    Calls Tryz.prog 11 #[ptr g2, .int .i64 rev, .slice a n c] wr fun e w' => e = .returned (.int .i64 (chkE Mb 0 rev l)) ∧ ∃ Hb', StC wr w' Hb Hb' ∧ Two W0 w' g1 g2 Ma (Mb.tried 0 rev l) Ha Hb' ca (cb + 5 * n) := by
  have hp := apply_any h.b (hm.below h.bel) (c := c) (hm.apart h.ob) hc rev
  rw [h.gb] at hp
  refine hp.mono ?_
  rintro e w' ⟨rfl, H', hs, hst⟩
  exact ⟨rfl, H', hst, h.stepB hs hst⟩
theorem Two.rowsA (h : Two W0 wr g1 g2 Ma Mb Ha Hb ca cb) (hc : ca ≤ 1099511627776) (ht : Ma.tot ≤ 1099511627776) :
    Calls Tryz.prog 10 #[ptr g1] wr fun e w' => ∃ v R, e = .returned v ∧ Rep ltT Ma R ∧ R.length = Ma.tot ∧ w'.ownsRow wr.heap.size 46 5 v R.length (rwc R) ∧ Below wr.heap.size wr w' := by
  have := rows_any h.a hc ht
  rwa [h.ga] at this
theorem Two.rowsB (h : Two W0 wr g1 g2 Ma Mb Ha Hb ca cb) (hc : cb ≤ 1099511627776) (ht : Mb.tot ≤ 1099511627776) :
    Calls Tryz.prog 10 #[ptr g2] wr fun e w' => ∃ v R, e = .returned v ∧ Rep ltT Mb R ∧ R.length = Mb.tot ∧ w'.ownsRow wr.heap.size 46 5 v R.length (rwc R) ∧ Below wr.heap.size wr w' := by
  have := rows_any h.b hc ht
  rwa [h.gb] at this
end
theorem readable0 (j : Nat) : readableB 0 (j : Int) = 0 := by
  unfold readableB
  rw [if_neg (by omega), if_neg (by omega)]
theorem users0 {w : World} {M : SM} {H : Gh} {cb : Nat} (h : StAt w 0 M H cb) (hc : cb ≤ 1099511627776) {o r : ByteArray} (ho : o.size ≤ 1000000000000000000) (hr : r.size ≤ 1000000000000000000) (j : Nat) :
    Calls Tryz.prog 12 #[ptr H.g, .string o, .string r, .int .i64 (j : Int)] w fun e w' => ∃ a n c, e = .returned (.tuple #[.slice a n c, .int .i64 0]) ∧ (∃ ts, ts.length = n ∧ UsersOk M o r (j : Int) ts) ∧ Below w.heap.size w w' := by
  refine (users_any h hc ho hr (j : Int)).mono ?_
  rintro e w' ⟨v, ts, rfl, hu, _, hrow, hb⟩
  obtain ⟨a, c, rfl, _, _⟩ := owned_anyE hrow
  rw [readable0]
  exact ⟨a, ts.length, c, rfl, ⟨ts, rfl, hu (readable0 j)⟩, hb⟩
theorem Two.usersA {W0 wr : World} {g1 g2 : Nat} {Ma Mb : SM} {Ha Hb : Gh} {ca cb : Nat} (h : Two W0 wr g1 g2 Ma Mb Ha Hb ca cb) (hc : ca ≤ 1099511627776) {o r : ByteArray} (ho : o.size ≤ 1000000000000000000) (hr : r.size ≤ 1000000000000000000) (j : Nat) :
    Calls Tryz.prog 12 #[ptr g1, .string o, .string r, .int .i64 (j : Int)] wr fun e w' => ∃ a n c, e = .returned (.tuple #[.slice a n c, .int .i64 0]) ∧ (∃ ts, ts.length = n ∧ UsersOk Ma o r (j : Int) ts) ∧ Below wr.heap.size wr w' := by
  have := users0 h.a hc ho hr j
  rwa [h.ga] at this
theorem Two.usersB {W0 wr : World} {g1 g2 : Nat} {Ma Mb : SM} {Ha Hb : Gh} {ca cb : Nat} (h : Two W0 wr g1 g2 Ma Mb Ha Hb ca cb) (hc : cb ≤ 1099511627776) {o r : ByteArray} (ho : o.size ≤ 1000000000000000000) (hr : r.size ≤ 1000000000000000000) (j : Nat) :
    Calls Tryz.prog 12 #[ptr g2, .string o, .string r, .int .i64 (j : Int)] wr fun e w' => ∃ a n c, e = .returned (.tuple #[.slice a n c, .int .i64 0]) ∧ (∃ ts, ts.length = n ∧ UsersOk Mb o r (j : Int) ts) ∧ Below wr.heap.size wr w' := by
  have := users0 h.b hc ho hr j
  rwa [h.gb] at this
/-- Objects gathered. -/
structure ObjS (w wr : World) (v : Value) (os : List ByteArray) : Prop where
  below : Below w.heap.size w wr
  row : wr.ownsRow w.heap.size 9 1 v os.length (os.map Value.string)
theorem ObjS.up {w wr w' : World} {v : Value} {os : List ByteArray} (h : ObjS w wr v os) (hb : Below wr.heap.size wr w') : ObjS w w' v os :=
  ⟨bell_up h.below hb, owns_keptN h.row (fun k hk => hb.block k (h.row.lt k hk).2)⟩
theorem dropL_tot {M : SM} (hm : SMOk M) {lt : Tp → Tp → Bool} {R : List Rw} (hr : Rep lt M R) {os : List ByteArray} (hos : ∀ x ∈ R, x.t.o ∈ os) : (M.dropL os).tot = 0 := by
  have hk : (M.dropL os).K = [] := by
    refine List.eq_nil_iff_forall_not_mem.2 fun t ht => ?_
    rw [SM.dropL_mem] at ht
    have h1 := (hm.mem_iff t).1 ht.1
    cases hsp : M.sp t with
    | nil => exact h1 hsp
    | cons y l =>
      have h2 := (hr.mem t y.s y.u).2 (by rw [hsp]; simp)
      exact ht.2 (hos _ h2)
  unfold SM.tot
  rw [hk]; rfl
/-- Costs ahead. -/
def costs (D : List OpD) (i : Nat) : Nat := ((D.take i).map OpD.cost).sum
theorem costs_next {D : List OpD} {i : Nat} {d : OpD} (h : D[i]? = some d) : costs D (i + 1) = costs D i + d.cost := by
  unfold costs
  rw [List.take_add_one, h]
  simp
theorem costs_le (D : List OpD) (i : Nat) : costs D i ≤ (D.map OpD.cost).sum := by
  unfold costs
  conv => rhs; rw [← List.take_append_drop i D]
  rw [List.map_append, List.sum_append]
  omega
theorem OpOk.below {w w' : World} {d : OpD} (h : OpOk w d) (hb : Below w.heap.size w w') : OpOk w' d := ⟨h.mu.below hb, h.ro.below hb, h.ob.keep hb.size (fun _ _ e => hb.block _ e), h.fit⟩
end Go.Proofs.YtmjdngomjjhhiaaGreat
