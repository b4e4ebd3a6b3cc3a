/- A coordinator takes a record: the walk. A coordinator writes. A coordinator commits. A coordinator is told that a transaction was applied. -/
import Derived.Test.YtkailiifgdjgmaaGreatWb
namespace Go.Proofs.YtkailiifgdjgmaaGreat
open Go.RowKit
open Go.Maps (Keyed)

section
variable {w w' : World} {B gc gl b1 b2 b3 : Nat} {c : Co}
/-- What comes of a record that is taken. -/
def TakeR (w : World) (B gc gl b1 b2 b3 : Nat) (c : Co) (e : Ending) (w' : World) : Prop := e = .returned (.tuple #[]) ∧ CoAt w' B gc gl b1 b2 b3 c ∧ Chg w w' (CB gc b1 b2 b3)
/-- What a message's box holds that take reads. -/
structure MBox (w : World) (b : Nat) (kd id rv : Int) (nv : Value) : Prop where
  k : w.cell? ⟨b, 0, none⟩ = some (.int .i64 kd)
  i : w.cell? ⟨b, 3, none⟩ = some (.int .i64 id)
  r : w.cell? ⟨b, 4, none⟩ = some (.int .i64 rv)
  n : w.cell? ⟨b, 8, none⟩ = some nv
theorem commit_end {m1 m2 m3 : Lit → Option Value} {n1 n1' n2' n3 : Nat} {id rev : Int} {l : List Int} (hid : InI id) (hnd : dget c.deb id = none) (hok : ({ c with bal := updF c.bal id none, deb := c.deb ++ [⟨id, sset l, sset l, c.com, rev⟩], com := c.com + 1 } : Co).ok) (hge : B ≤ gc ∧ B ≤ b1 ∧ B ≤ b2 ∧ B ≤ b3)
    (h : Raw w' gc b1 b2 b3 #[.pointer (some ⟨gl, 0, none⟩), .int .i64 c.node, .int .i64 (c.opened : Int), .int .i64 (c.begun : Int), .map (some b1), .map (some b2), .map (some b3), .int .i64 ((c.com : Int) + 1)] (mset m1 (.int .i64 id) none) (mset m2 (.int .i64 id) (some (debV ⟨id, sset l, sset l, c.com, rev⟩))) m3 n1' n2' n3)
    (hn1 : n1' ≤ n1) (hn2 : n2' = if (m2 (.int .i64 id)).isSome then c.deb.length else c.deb.length + 1) (hn : n1 ≤ c.begun ∧ n3 + c.deb.length ≤ c.com) (s1 : ∀ k, InI k → m1 (.int .i64 k) = (c.bal k).map balV) (s2 : ∀ k, InI k → m2 (.int .i64 k) = (dget c.deb k).map debV) (s3 : ∀ k, InI k → m3 (.int .i64 k) = (c.don k).map (Value.int .i64)) :
    CoAt w' B gc gl b1 b2 b3 { c with bal := updF c.bal id none, deb := c.deb ++ [⟨id, sset l, sset l, c.com, rev⟩], com := c.com + 1 } := by
  rw [s2 id hid, hnd] at hn2
  simp only [Option.map_none, Option.isSome_none, Bool.false_eq_true, if_false] at hn2
  refine CoAt.ofRaw (c := { c with bal := updF c.bal id none, deb := c.deb ++ [⟨id, sset l, sset l, c.com, rev⟩], com := c.com + 1 }) (by simpa using h) ⟨by show n1' ≤ c.begun; omega, ?_, ?_⟩ (fun k hk => ?_) (fun k hk => ?_) s3 hok hge
  · show n3 + (c.deb ++ [_]).length ≤ c.com + 1
    rw [List.length_append, List.length_singleton]
    omega
  · show n2' = (c.deb ++ [_]).length
    rw [List.length_append, List.length_singleton, hn2]
  · rw [mset_int _ _ _ hid, s1 k hk]
    simp only [updF]
    split <;> rfl
  · rw [mset_int _ _ _ hid, s2 k hk]
    show _ = (dget (c.deb ++ [_]) k).map debV
    rw [dget_append (by exact hnd)]
    split <;> rfl
theorem done_end {m1 m2 m3 : Lit → Option Value} {n1 n2' n3 n3' : Nat} {id rev : Int} {d : Debt} (hid : InI id) (hd : dget c.deb id = some d) (hc : c.ok) (hok : ({ c with deb := c.deb.filter fun d => decide (d.id ≠ id), don := updF c.don id (some rev) } : Co).ok) (hge : B ≤ gc ∧ B ≤ b1 ∧ B ≤ b2 ∧ B ≤ b3)
    (h : Raw w' gc b1 b2 b3 #[.pointer (some ⟨gl, 0, none⟩), .int .i64 c.node, .int .i64 (c.opened : Int), .int .i64 (c.begun : Int), .map (some b1), .map (some b2), .map (some b3), .int .i64 (c.com : Int)] m1 (mset m2 (.int .i64 id) none) (mset m3 (.int .i64 id) (some (.int .i64 rev))) n1 n2' n3')
    (hn2 : n2' = if (m2 (.int .i64 id)).isSome then c.deb.length - 1 else c.deb.length) (hn3 : n3' ≤ n3 + 1) (hn : n1 ≤ c.begun ∧ n3 + c.deb.length ≤ c.com) (s1 : ∀ k, InI k → m1 (.int .i64 k) = (c.bal k).map balV) (s2 : ∀ k, InI k → m2 (.int .i64 k) = (dget c.deb k).map debV) (s3 : ∀ k, InI k → m3 (.int .i64 k) = (c.don k).map (Value.int .i64)) :
    CoAt w' B gc gl b1 b2 b3 { c with deb := c.deb.filter fun d => decide (d.id ≠ id), don := updF c.don id (some rev) } := by
  rw [s2 id hid, hd] at hn2
  simp only [Option.map_some, Option.isSome_some, if_true] at hn2
  have hfl := filter_len hc.nd hd
  refine CoAt.ofRaw (c := { c with deb := c.deb.filter fun d => decide (d.id ≠ id), don := updF c.don id (some rev) }) h ⟨hn.1, ?_, ?_⟩ s1 (fun k hk => ?_) (fun k hk => ?_) hok hge
  · show n3' + (c.deb.filter _).length ≤ c.com
    omega
  · show n2' = (c.deb.filter _).length
    omega
  · rw [mset_int _ _ _ hid, s2 k hk]
    show _ = (dget (c.deb.filter _) k).map debV
    rw [dget_filter]
    split <;> rfl
  · rw [mset_int _ _ _ hid, s3 k hk]
    simp only [updF]
    split <;> rfl
set_option maxRecDepth 100000 in
set_option maxHeartbeats 16000000 in
theorem take_any (w : World) (V : Value) (m : MsgD) (hm : MsgIn w V m) (h : CoAt w B gc gl b1 b2 b3 c) (ho : c.opened < 1048576) (hc : c.com < 1048576) :
    Calls Tryz.prog 42 #[.pointer (some ⟨gc, 0, none⟩), V] w (TakeR w B gc gl b1 b2 b3 (ctake c m)) := by
  obtain ⟨na, ma, pa, ra, nn, nc, mn, mc, pn, pc, rn, rc, hm⟩ := hm
  have hv := hm.val
  subst hv
  have hid : InI m.id := hm.id
  have hrv : InI m.rev := hm.rev
  have hno := hm.nodes
  have hln := hm.ln
  obtain ⟨W0, hW0, hw0, hb0⟩ := alloc_box w #[.int .i64 m.kind, .int .i64 m.from_, .int .i64 m.«to», .int .i64 m.id, .int .i64 m.rev, .int .i64 m.epoch, .int .i64 m.slot, .bool m.flag, .slice na nn nc, .slice ma mn mc, .slice pa pn pc, .slice ra rn rc]
  have hO := h.below hb0
  have HST := Lib.hid (status_any W0 hO m.id hid)
  have k3 := hw0.cell 3
  obtain ⟨hsi, hs0, hs3⟩ := stat_in h.ok m.id
  -- behind Status
  have HMB := Lib.hid (fun W (hW : Below W0.heap.size W0 W) => (show MBox W w.heap.size m.kind m.id m.rev (.slice na nn nc) ∧ Whole W w.heap.size 57 _ ∧ CoAt W B gc gl b1 b2 b3 c ∧ IntsAt W w.heap.size na nn m.nodes ∧ Chg w W (CB gc b1 b2 b3) ∧ w.heap.size < W.heap.size from by
    have hx := hw0.kept (hW.block _ hw0.lt)
    exact ⟨⟨hx.cell 0, hx.cell 3, hx.cell 4, hx.cell 8⟩, hx, hO.below hW, hno.below (hb0.trans (hW.mono hb0.size)), Chg.ofBelow _ (hb0.trans (hW.mono hb0.size)), hx.lt⟩))
  have HKD := Lib.hid (show (∃ s, s = (stat c m.id).1) from ⟨_, rfl⟩)
  have HOK := Lib.hid h.ok
  have HGE := Lib.hid h.ge
  clear hm hno hw0 hb0 h hO
  unfold ctake
  by_cases hk5 : m.kind = 5
  · rw [if_pos hk5]
    have HK5 := Lib.hid hk5
    generalize m.kind = kd at *
    subst hk5
    go_enter Tryz.func42, Tryz.ntmps42
    go_upto_region 1 with fail
    rw [← hW0]
    clear hW0
    go_wp2_with fail
    refine HST.out.mono ?_
    rintro e w1 ⟨rfl, hb1⟩
    obtain ⟨hmb, _, hco, hno, hch, hlt⟩ := HMB.out w1 hb1
    obtain ⟨q0, q3, q4, q8⟩ := hmb
    obtain ⟨_, _, c2, _, _, _, _, _, z2, _, _⟩ := hco.cells
    have hadd : IntKind.i64.wrap ((c.opened : Int) + 1) = (c.opened : Int) + 1 := i64_wrap ⟨by omega, by omega⟩
    have HE := Lib.hid (show TakeR w B gc gl b1 b2 b3 { c with opened := c.opened + 1 } (.returned (.tuple #[])) (w1.setCell ⟨gc, 2, none⟩ (.int .i64 ((c.opened : Int) + 1))) from by
      obtain ⟨m1, m2, m3, n1, n3, hr, hn, s1, s2, s3⟩ := hco.raw
      have hr2 := hr.set 2 (.int .i64 ((c.opened : Int) + 1))
      exact ⟨rfl, CoAt.ofRaw (c := { c with opened := c.opened + 1 }) (by simpa using hr2) ⟨hn.1, hn.2, rfl⟩ s1 s2 s3 (HOK.out.boot ho) HGE.out, hch.set (.inl rfl) 2 _⟩)
    clear hco hno hch hlt hb1 k3
    go_wp2
    go_end0
    exact HE.out
  · rw [if_neg hk5]
    have e5 : (m.kind == 5) = false := by simpa using hk5
    by_cases hk6 : m.kind = 6 ∧ ((stat c m.id).1 = 0 ∨ (stat c m.id).1 = 1)
    · rw [if_pos hk6]
      have hnd := stat_nodebt HOK.out hk6.2
      obtain ⟨hk, hst⟩ := hk6
      have HCM := Lib.hid (HOK.out.commit hc hid hrv m.nodes hnd)
      have HND := Lib.hid hnd
      generalize m.kind = kd at *
      subst hk
      generalize (stat c m.id).1 = st at *
      clear hnd
      have e6 : decide ((6 : Int) = 5) = false := rfl
      go_enter Tryz.func42, Tryz.ntmps42
      go_upto_region 1 with fail
      rw [← hW0]
      clear hW0
      go_wp2_with fail
      refine HST.out.mono ?_
      rintro e w1 ⟨rfl, hb1⟩
      obtain ⟨hmb, hwb, hco, hno, hch, hlt⟩ := HMB.out w1 hb1
      obtain ⟨q0, q3, q4, q8⟩ := hmb
      have HWB := Lib.hid hwb
      have HCO := Lib.hid hco
      have HNO := Lib.hid hno
      have HCH := Lib.hid hch
      have HLT := Lib.hid hlt
      have c4 := hco.cells.2.2.2.2.1
      clear hwb hco hno hch hlt hb1 k3
      generalize w.heap.size = g0 at *
      rcases hst with hst | hst <;> subst hst
      all_goals
        go_upto_region 5 with fail
        refine wp_region_still_tail 6 (by kernel_rfl) (by kernel_rfl) ?_
        simp only [List.take_succ_cons, List.take_zero, List.drop_succ_cons, List.drop_zero]
        still_step
        still_step
        still_step
        still_step
        still_step
        still_step
        refine wpStill_nil ?_
        change wpList _ _ _ _ _ w1.drew
        obtain ⟨m1, m2, m3, n1, n3, hr, hn, s1, s2, s3⟩ := (HCO.out.below (below_drewN w1 1)).raw
        have hr : Raw w1.drew gc b1 b2 b3 _ m1 m2 m3 n1 c.deb.length n3 := hr
        have HNO2 := Lib.hid (show IntsAt w1.drew g0 na nn m.nodes from HNO.out)
        have HWB2 := Lib.hid (show Whole w1.drew g0 57 _ from HWB.out)
        have HLT2 := Lib.hid (show g0 < w1.drew.heap.size from HLT.out)
        have HCH2 := Lib.hid (show Chg w w1.drew (CB gc b1 b2 b3) from HCH.out.drew)
        have HR := Lib.hid hr
        have hm1 := hr.r1
        have HN := Lib.hid hn
        have HS1 := Lib.hid s1
        have HS2 := Lib.hid s2
        have HS3 := Lib.hid s3
        clear hr hn s1 s2 s3 q0 q3 q4 q8 c4
        generalize w1.drew = w2 at *
        go_wp2_with (at_delete; refine wpList_drop_map _ rfl _ _ 80 2 rfl 88 Tryz.keyL Tryz.underlying80 _ (Tryz.zeroBal _) b1 n1 m1 rfl hm1 (.int .i64 m.id) (.int .i64 m.id) rfl (key_long m.id hid) ?_; intro w3 hm3 hg3 hs3)
        have hr3 := HR.out.g1 hm3 hg3
        have hx3 := HWB2.out.kept (hg3.block _ HWB2.out.lt (by intro e; injection e with e; exact hm1.ne HWB2.out e))
        have hno3 := HNO2.out.grown (Nat.le_of_lt HLT2.out) hm1 hg3
        have HCH3 := Lib.hid (HCH2.out.toGrown hg3 (.inr (.inl rfl)))
        have HX3 := Lib.hid hx3
        have HR3 := Lib.hid hr3
        have HSO := Lib.hid (setOf_any w3.drew na nn nc m.nodes g0 hno3 hln)
        have hlt3 : g0 < w3.heap.size := hx3.lt
        have q3 : w3.drew.cell? ⟨g0, 3, none⟩ = some (.int .i64 m.id) := hx3.cell 3
        have q4 : w3.drew.cell? ⟨g0, 4, none⟩ = some (.int .i64 m.rev) := hx3.cell 4
        have q8 : w3.drew.cell? ⟨g0, 8, none⟩ = some (.slice na nn nc) := hx3.cell 8
        have c5 : w3.drew.cell? ⟨gc, 5, none⟩ = some (.map (some b2)) := hr3.own.cell 5
        have c7 : w3.drew.cell? ⟨gc, 7, none⟩ = some (.int .i64 (c.com : Int)) := hr3.own.cell 7
        have hm2 : MapAt w3.drew Tryz.prog 2 b2 m2 c.deb.length := hr3.r2.below (below_drewN w3 1)
        have HR4 := Lib.hid (show Raw w3.drew gc b1 b2 b3 _ _ _ _ _ _ _ from hr3.below (below_drewN w3 1))
        have HCH4 := Lib.hid (show Chg w w3.drew (CB gc b1 b2 b3) from HCH3.out.drew)
        have HLE := Lib.hid (show (if (m1 (.int .i64 m.id)).isSome then n1 - 1 else n1) ≤ n1 by split <;> omega)
        clear hm3 hg3 hs3 hm1 hr3 hx3 hno3
        go_upto_region 6 with fail
        refine wp_region_still_tail 19 (by kernel_rfl) (by kernel_rfl) ?_
        simp only [List.take_succ_cons, List.take_zero, List.drop_succ_cons, List.drop_zero]
        still_step
        still_step
        still_step
        still_step
        still_step
        still_step
        still_step
        still_step
        still_call HSO.out
        still_step
        still_step
        still_call HSO.out
        still_step
        still_step
        still_step
        still_step
        still_step
        still_step
        still_step
        refine wpStill_nil ?_
        change wpList _ _ _ _ _ w3.drew
        generalize w3.drew = w4 at *
        go_wp2_with (at_mapUpdate; refine wpList_store_map _ rfl _ _ _ 81 rfl 2 95 Tryz.keyL Tryz.underlying81 _ (Tryz.zeroDeb _) b2 c.deb.length m2 rfl hm2 (by unfold maxLen; have := HN.out; omega) (.int .i64 m.id) (debV ⟨m.id, sset m.nodes, sset m.nodes, c.com, m.rev⟩) (.int .i64 m.id) rfl rfl (key_long m.id hid) ?_; intro w5 hm5 hg5 hs5; have hr5 := HR4.out.g2 hm5 hg5; have HCH5 := Lib.hid (HCH4.out.toGrown hg5 (.inr (.inr (.inl rfl)))); have c7 : w5.cell? ⟨gc, 7, none⟩ = some (.int .i64 (c.com : Int)) := hr5.own.cell 7; have z7 := hr5.own.free 7; have hadd : IntKind.i64.wrap ((c.com : Int) + 1) = (c.com : Int) + 1 := i64_wrap ⟨by omega, by omega⟩; have HE := Lib.hid (show TakeR w B gc gl b1 b2 b3 { c with bal := updF c.bal m.id none, deb := c.deb ++ [⟨m.id, sset m.nodes, sset m.nodes, c.com, m.rev⟩], com := c.com + 1 } (.returned (.tuple #[])) (w5.setCell ⟨gc, 7, none⟩ (.int .i64 ((c.com : Int) + 1))) from ⟨rfl, commit_end hid HND.out HCM.out HGE.out (by simpa using hr5.set 7 (.int .i64 ((c.com : Int) + 1))) HLE.out rfl HN.out HS1.out HS2.out HS3.out, HCH5.out.set (.inl rfl) 7 _⟩); clear hm5 hg5 hs5 hr5 hm2 c5 q3 q4 q8)
        go_end0
        exact HE.out
    · rw [if_neg hk6]
      by_cases hk7 : m.kind = 7 ∧ (stat c m.id).1 = 2
      · rw [if_pos hk7]
        obtain ⟨hk, hst⟩ := hk7
        obtain ⟨d, hd, hrd, hb0⟩ : ∃ d, dget c.deb m.id = some d ∧ (stat c m.id).2 = d.rev ∧ c.bal m.id = none := by
          rcases stat_cases (c := c) (k := m.id) with ⟨h1, _⟩ | ⟨hb0, ⟨h1, d, hd, h2⟩ | ⟨_, ⟨h1, _⟩ | ⟨h1, _⟩⟩⟩
          · omega
          · exact ⟨d, hd, h2, hb0⟩
          · omega
          · omega
        have HDN := Lib.hid (HOK.out.done (id := m.id) hsi hb0)
        have HD := Lib.hid hd
        generalize m.kind = kd at *
        subst hk
        generalize (stat c m.id).1 = st at *
        generalize (stat c m.id).2 = rv at *
        subst hst
        clear hd hrd hb0
        go_enter Tryz.func42, Tryz.ntmps42
        go_upto_region 1 with fail
        rw [← hW0]
        clear hW0
        go_wp2_with fail
        refine HST.out.mono ?_
        rintro e w1 ⟨rfl, hb1⟩
        obtain ⟨hmb, hwb, hco, hno, hch, hlt⟩ := HMB.out w1 hb1
        obtain ⟨q0, q3, q4, q8⟩ := hmb
        have HWB := Lib.hid hwb
        have HCO := Lib.hid hco
        have HCH := Lib.hid hch
        have c5 := hco.cells.2.2.2.2.2.1
        clear hwb hco hno hch hlt hb1 k3
        generalize w.heap.size = g0 at *
        go_upto_region 9 with fail
        refine wp_region_still_tail 6 (by kernel_rfl) (by kernel_rfl) ?_
        simp only [List.take_succ_cons, List.take_zero, List.drop_succ_cons, List.drop_zero]
        still_step
        still_step
        still_step
        still_step
        still_step
        still_step
        refine wpStill_nil ?_
        change wpList _ _ _ _ _ w1.drew
        obtain ⟨m1, m2, m3, n1, n3, hr, hn, s1, s2, s3⟩ := (HCO.out.below (below_drewN w1 1)).raw
        have hr : Raw w1.drew gc b1 b2 b3 _ m1 m2 m3 n1 c.deb.length n3 := hr
        have HWB2 := Lib.hid (show Whole w1.drew g0 57 _ from HWB.out)
        have HCH2 := Lib.hid (show Chg w w1.drew (CB gc b1 b2 b3) from HCH.out.drew)
        have HR := Lib.hid hr
        have hm2 := hr.r2
        have HN := Lib.hid hn
        have HS1 := Lib.hid s1
        have HS2 := Lib.hid s2
        have HS3 := Lib.hid s3
        clear hr hn s1 s2 s3 q0 q3 q4 q8 c5
        generalize w1.drew = w2 at *
        go_wp2_with (at_delete; refine wpList_drop_map _ rfl _ _ 81 2 rfl 95 Tryz.keyL Tryz.underlying81 _ (Tryz.zeroDeb _) b2 c.deb.length m2 rfl hm2 (.int .i64 m.id) (.int .i64 m.id) rfl (key_long m.id hid) ?_; intro w3 hm3 hg3 hs3)
        have hr3 := HR.out.g2 hm3 hg3
        have hx3 := HWB2.out.kept (hg3.block _ HWB2.out.lt (by intro e; injection e with e; exact hm2.ne HWB2.out e))
        have HCH3 := Lib.hid (HCH2.out.toGrown hg3 (.inr (.inr (.inl rfl))))
        have q3 : w3.drew.cell? ⟨g0, 3, none⟩ = some (.int .i64 m.id) := hx3.cell 3
        have c6 : w3.drew.cell? ⟨gc, 6, none⟩ = some (.map (some b3)) := hr3.own.cell 6
        have hm4 : MapAt w3.drew Tryz.prog 2 b3 m3 n3 := hr3.r3.below (below_drewN w3 1)
        have HR4 := Lib.hid (show Raw w3.drew gc b1 b2 b3 _ _ _ _ _ _ _ from hr3.below (below_drewN w3 1))
        have HCH4 := Lib.hid (show Chg w w3.drew (CB gc b1 b2 b3) from HCH3.out.drew)
        have HLE := Lib.hid (show (if (m3 (.int .i64 m.id)).isSome then n3 else n3 + 1) ≤ n3 + 1 by split <;> omega)
        clear hm3 hg3 hs3 hm2 hr3 hx3
        go_upto_region 10 with fail
        refine wp_region_still_tail 7 (by kernel_rfl) (by kernel_rfl) ?_
        simp only [List.take_succ_cons, List.take_zero, List.drop_succ_cons, List.drop_zero]
        still_step
        still_step
        still_step
        still_step
        still_step
        still_step
        still_step
        refine wpStill_nil ?_
        change wpList _ _ _ _ _ w3.drew
        generalize w3.drew = w4 at *
        go_wp2_with (at_mapUpdate; refine wpList_store_map _ rfl _ _ _ 34 rfl 2 2 Tryz.keyL Tryz.underlying34 _ (Tryz.zeroDon _) b3 n3 m3 rfl hm4 (by unfold maxLen; have := HN.out; omega) (.int .i64 m.id) (.int .i64 rv) (.int .i64 m.id) rfl rfl (key_long m.id hid) ?_; intro w5 hm5 hg5 hs5)
        have hr5 := HR4.out.g3 hm5 hg5
        have HE := Lib.hid (show TakeR w B gc gl b1 b2 b3 { c with deb := c.deb.filter fun d => decide (d.id ≠ m.id), don := updF c.don m.id (some rv) } (.returned (.tuple #[])) w5 from
          ⟨rfl, done_end hid HD.out HOK.out HDN.out HGE.out hr5 rfl HLE.out HN.out HS1.out HS2.out HS3.out, HCH4.out.toGrown hg5 (.inr (.inr (.inr rfl)))⟩)
        clear hm5 hg5 hs5 hr5 hm4 c6 q3
        go_wp2
        go_end0
        exact HE.out
      · rw [if_neg hk7]
        have HE := Lib.hid (fun W (hW : Below W0.heap.size W0 W) => (show TakeR w B gc gl b1 b2 b3 c (.returned (.tuple #[])) W from ⟨rfl, (HMB.out W hW).2.2.1, (HMB.out W hW).2.2.2.2.1⟩))
        generalize m.kind = kd at *
        generalize (stat c m.id).1 = st at *
        by_cases h6 : kd = 6
        · subst h6
          have f0 : (st == 0) = false := by simp; intro e; exact hk6 ⟨rfl, .inl e⟩
          have f1 : (st == 1) = false := by simp; intro e; exact hk6 ⟨rfl, .inr e⟩
          clear hk6 hk7 hk5
          go_enter Tryz.func42, Tryz.ntmps42
          go_upto_region 1 with fail
          rw [← hW0]
          clear hW0
          go_wp2_with fail
          refine HST.out.mono ?_
          rintro e w1 ⟨rfl, hb1⟩
          obtain ⟨q0, q3, q4, q8⟩ := (HMB.out w1 hb1).1
          have HE1 := Lib.hid (HE.out w1 hb1)
          clear hb1 k3
          go_wp2
          go_end0
          exact HE1.out
        · have g6 : (kd == 6) = false := by simpa using h6
          by_cases h7 : kd = 7
          · subst h7
            have f2 : (st == 2) = false := by simp; intro e; exact hk7 ⟨rfl, e⟩
            clear hk6 hk7 hk5
            go_enter Tryz.func42, Tryz.ntmps42
            go_upto_region 1 with fail
            rw [← hW0]
            clear hW0
            go_wp2_with fail
            refine HST.out.mono ?_
            rintro e w1 ⟨rfl, hb1⟩
            obtain ⟨q0, q3, q4, q8⟩ := (HMB.out w1 hb1).1
            have HE1 := Lib.hid (HE.out w1 hb1)
            clear hb1 k3
            go_wp2
            go_end0
            exact HE1.out
          · have g7 : (kd == 7) = false := by simpa using h7
            clear hk6 hk7
            go_enter Tryz.func42, Tryz.ntmps42
            go_upto_region 1 with fail
            rw [← hW0]
            clear hW0
            go_wp2_with fail
            refine HST.out.mono ?_
            rintro e w1 ⟨rfl, hb1⟩
            obtain ⟨q0, q3, q4, q8⟩ := (HMB.out w1 hb1).1
            have HE1 := Lib.hid (HE.out w1 hb1)
            clear hb1 k3
            go_wp2
            go_end0
            exact HE1.out
end
end Go.Proofs.YtkailiifgdjgmaaGreat

namespace Go.Proofs.YtkailiifgdjgmaaGreat
open Go.RowKit
open Go.Maps (Keyed)

/-- A coordinator and its log. -/
structure CS (w : World) (B gc gl b1 b2 b3 g : Nat) (v : Value) (c : Co) (ms : List MsgD) (r : Nat) : Prop where
  log : Ls w B gl g v ms (cat ms).length r
  co : CoAt w B gc gl b1 b2 b3 c
  fine : ∀ m ∈ ms, m.fine
  few : c.opened ≤ ms.length ∧ c.com ≤ ms.length
/-- The blocks of a coordinator and its log. -/
def SB (gc gl b1 b2 b3 g : Nat) (v : Value) (k : Nat) : Prop := k = gl ∨ k = g ∨ v.ownBlock = some k ∨ CB gc b1 b2 b3 k
theorem ctake_few (c : Co) (m : MsgD) : (ctake c m).opened ≤ c.opened + 1 ∧ (ctake c m).com ≤ c.com + 1 := by
  unfold ctake
  split
  · exact ⟨Nat.le_refl _, Nat.le_succ _⟩
  · split
    · exact ⟨Nat.le_succ _, Nat.le_refl _⟩
    · split
      · exact ⟨Nat.le_succ _, Nat.le_succ _⟩
      · exact ⟨Nat.le_succ _, Nat.le_succ _⟩
section
variable {w w' : World} {B gc gl b1 b2 b3 g r : Nat} {v : Value} {c : Co} {ms : List MsgD}
theorem CS.below (h : CS w B gc gl b1 b2 b3 g v c ms r) (hb : Below w.heap.size w w') : CS w' B gc gl b1 b2 b3 g v c ms r := ⟨Lg.keep h.log hb, h.co.below hb, h.fine, h.few⟩
theorem CS.small (h : CS w B gc gl b1 b2 b3 g v c ms r) : ms.length ≤ 52428 := by
  have h1 := Ls.small h.log
  omega
theorem CoAt.kept_log {n d : Nat} {xs : List Int} (h : CoAt w B gc gl b1 b2 b3 c) (hl : Lg w B gl g v xs d r n) (hk : Kept w w' gl g v) : CoAt w' B gc gl b1 b2 b3 c := by
  refine h.kept fun k hk2 => hk.block k (h.lt hk2) ?_ ?_ ?_
  · rintro rfl; exact h.other hl.lg (by decide) hk2
  · rintro rfl; exact h.other (show Whole w k 73 _ from hl.disk.blk) (by decide) hk2
  · intro e
    obtain ⟨_, cur, hW⟩ := owned_block hl.disk.own e.symm
    exact h.other hW (by decide) hk2
theorem Lg.kept_co {n d : Nat} {xs : List Int} (hl : Lg w B gl g v xs d r n) (h : CoAt w B gc gl b1 b2 b3 c) (hk : Chg w w' (CB gc b1 b2 b3)) : Lg w' B gl g v xs d r n := by
  have hn : ∀ (k : Nat) (T : TypeId) (cs : Array Value), Whole w k T cs → T ≠ 83 → w'.heap[k]? = w.heap[k]? := fun k T cs hW h1 => hk.block k hW.lt (h.other hW h1)
  have hd : Whole w g 73 _ := hl.disk.blk
  refine ⟨hl.lg.kept (hn _ _ _ hl.lg (by decide)), hl.ge, ⟨hd.kept (hn _ _ _ hd (by decide)), hl.disk.ge, owns_keep hl.disk.own fun j hj => ?_, hl.disk.byte, hl.disk.hd, hl.disk.hr, hl.disk.hm⟩⟩
  obtain ⟨_, cur, hW⟩ := owned_block hl.disk.own hj
  exact hn _ _ _ hW (by decide)
theorem past_log {n d k : Nat} {xs : List Int} {t : TypeId} {cs : Array Value} (hw : Whole w k t cs) (h : Lg w B gl g v xs d r n) (hk : Kept w w' gl g v) (ht : t ≠ 108) (h2 : t ≠ 73) (h3 : t ≠ 5) : Whole w' k t cs := by
  refine hw.kept (hk.block k hw.lt (whole_ne hw h.lg ht) (whole_ne hw (show Whole w g 73 _ from h.disk.blk) h2) fun e => ?_)
  obtain ⟨_, cur, hW⟩ := owned_block h.disk.own e.symm
  exact whole_ne hw hW h3 rfl
theorem CS.ge (h : CS w B gc gl b1 b2 b3 g v c ms r) {k : Nat} (hk : SB gc gl b1 b2 b3 g v k) : B ≤ k ∧ k < w.heap.size := by
  have hl : Lg w B gl g v (cat ms) (cat ms).length r ms.length := h.log
  have hd : Whole w g 73 _ := hl.disk.blk
  rcases hk with h1 | h1 | h1 | h1
  · rw [h1]; exact ⟨hl.ge, hl.lg.lt⟩
  · rw [h1]; exact ⟨hl.disk.ge, hd.lt⟩
  · exact hl.disk.own.lt k h1
  · exact ⟨h.co.geB h1, h.co.lt h1⟩
theorem CS.other (h : CS w B gc gl b1 b2 b3 g v c ms r) {k : Nat} {T : TypeId} {cs : Array Value} (hk : Whole w k T cs) (h1 : T ≠ 83) (h3 : T ≠ 108) (h4 : T ≠ 73) (h5 : T ≠ 5) : ¬ SB gc gl b1 b2 b3 g v k := by
  have hl : Lg w B gl g v (cat ms) (cat ms).length r ms.length := h.log
  have hd : Whole w g 73 _ := hl.disk.blk
  rintro (h6 | h6 | h6 | h6)
  · exact whole_ne hk hl.lg h3 h6
  · exact whole_ne hk hd h4 h6
  · obtain ⟨_, cur, hW⟩ := owned_block hl.disk.own h6
    exact whole_ne hk hW h5 rfl
  · exact h.co.other hk h1 h6
theorem Kept.chg (h : Kept w w' gl g v) : Chg w w' (SB gc gl b1 b2 b3 g v) := ⟨h.os, h.tape, h.output, h.size, fun k hk hn => h.block k hk (fun e => hn (.inl e)) (fun e => hn (.inr (.inl e))) (fun e => hn (.inr (.inr (.inl e.symm))))⟩
/-- A change of the coordinator alone. -/
theorem CS.step {c' : Co} (h : CS w B gc gl b1 b2 b3 g v c ms r) (hc : CoAt w' B gc gl b1 b2 b3 c') (hch : Chg w w' (CB gc b1 b2 b3)) (hf : c'.opened ≤ ms.length ∧ c'.com ≤ ms.length) : CS w' B gc gl b1 b2 b3 g v c' ms r ∧ Chg w w' (SB gc gl b1 b2 b3 g v) :=
  ⟨⟨Lg.kept_co h.log h.co hch, hc, h.fine, hf⟩, hch.mono fun _ _ hk => .inr (.inr (.inr hk))⟩
/-- What becomes of a record that is written. -/
def WrR (w : World) (B gc gl b1 b2 b3 g : Nat) (v : Value) (c : Co) (ms : List MsgD) (r : Nat) (m : MsgD) (k : Int) (w' : World) : Prop :=
  (k = 0 ∧ (cat ms).length + (rcd m).length ≤ r ∧ ∃ v', CS w' B gc gl b1 b2 b3 g v' (ctake c m) (ms ++ [m]) r ∧ Chg w w' (SB gc gl b1 b2 b3 g v)) ∨
    (k = 3 ∧ r < (cat ms).length + (rcd m).length ∧ CS w' B gc gl b1 b2 b3 g v c ms r ∧ Below w.heap.size w w')
def WrE (w : World) (B gc gl b1 b2 b3 g : Nat) (v : Value) (c : Co) (ms : List MsgD) (r : Nat) (m : MsgD) (e : Ending) (w' : World) : Prop := ∃ k : Int, e = .returned (.int .i64 k) ∧ WrR w B gc gl b1 b2 b3 g v c ms r m k w'
set_option maxRecDepth 100000 in
set_option maxHeartbeats 8000000 in
theorem cwrite_any (w : World) (h : CS w B gc gl b1 b2 b3 g v c ms r) (hB : B ≤ w.heap.size) (V : Value) (m : MsgD) (hf : m.fine) (hkeep : ∀ W w', Below w.heap.size w W → Kept W w' gl g v → MsgIn w' V m) :
    Calls Tryz.prog 30 #[.pointer (some ⟨gc, 0, none⟩), V] w (WrE w B gc gl b1 b2 b3 g v c ms r m) := by
  have hV : ∃ na ma pa ra nn nc mn mc pn pc rn rc, V = .agg #[.int .i64 m.kind, .int .i64 m.from_, .int .i64 m.«to», .int .i64 m.id, .int .i64 m.rev, .int .i64 m.epoch, .int .i64 m.slot, .bool m.flag, .slice na nn nc, .slice ma mn mc, .slice pa pn pc, .slice ra rn rc] := by
    obtain ⟨na, ma, pa, ra, nn, nc, mn, mc, pn, pc, rn, rc, hm⟩ := hkeep w w (Below.refl _ _) (Kept.refl _ _ _ _)
    exact ⟨na, ma, pa, ra, nn, nc, mn, mc, pn, pc, rn, rc, hm.val⟩
  obtain ⟨na, ma, pa, ra, nn, nc, mn, mc, pn, pc, rn, rc, rfl⟩ := hV
  have HF := Lib.hid hf
  have HMI := Lib.hid hkeep
  obtain ⟨W0, hW0, hw0, hb0⟩ := alloc_box w #[.int .i64 m.kind, .int .i64 m.from_, .int .i64 m.«to», .int .i64 m.id, .int .i64 m.rev, .int .i64 m.epoch, .int .i64 m.slot, .bool m.flag, .slice na nn nc, .slice ma mn mc, .slice pa pn pc, .slice ra rn rc]
  have hOS := h.below hb0
  have c0 := hOS.co.cells.1
  have k0 := hw0.cell 0
  have k1 := hw0.cell 1
  have k2 := hw0.cell 2
  have k3 := hw0.cell 3
  have k4 := hw0.cell 4
  have k5 := hw0.cell 5
  have k6 := hw0.cell 6
  have k7 := hw0.cell 7
  have k8 := hw0.cell 8
  have k9 := hw0.cell 9
  have k10 := hw0.cell 10
  have k11 := hw0.cell 11
  have HB := Lib.hid hB
  have HB0 := Lib.hid hb0
  have HW := Lib.hid hw0
  have HOS := Lib.hid hOS
  clear hb0 hw0 h hOS hB hkeep hf
  go_enter Tryz.func30, Tryz.ntmps30
  go_upto_region 1 with fail
  rw [← hW0]
  clear hW0
  refine wp_region_still_tail 5 (by kernel_rfl) (by kernel_rfl) ?_
  simp only [List.take_succ_cons, List.take_zero, List.drop_succ_cons, List.drop_zero]
  repeat still_step
  refine wpStill_nil ?_
  change wpList _ _ _ _ _ W0.drew
  obtain ⟨W1, hW1, hb1⟩ : ∃ W1, W1 = W0.drew ∧ Below W0.heap.size W0 W1 := ⟨_, rfl, below_drewN _ 1⟩
  rw [← hW1]
  have HO1 := Lib.hid (HOS.out.below hb1)
  have HW1 := Lib.hid (HW.out.kept (hb1.block _ HW.out.lt))
  have HB1 := Lib.hid (bell_up HB0.out hb1)
  clear hW1 hb1 k0 k1 k2 k3 k4 k5 k6 k7 k8 k9 k10 k11 c0
  go_wp2_with fail
  refine (lwrite_any B gl g v ms _ r _ m _ HO1.out.log (HMI.out W1 W1 HB1.out (Kept.refl _ _ _ _))).mono ?_
  rintro e w2 ⟨k, rfl, hc⟩
  rcases hc with ⟨rfl, hg, hle, v2, hL2, hK, hv2⟩ | ⟨hc, hL2, hb2⟩
  · have hx2 := past_log HW1.out HO1.out.log hK (by decide) (by decide) (by decide)
    have hO2 := CoAt.kept_log HO1.out.co HO1.out.log hK
    have k0 := hx2.cell 0
    have k1 := hx2.cell 1
    have k2 := hx2.cell 2
    have k3 := hx2.cell 3
    have k4 := hx2.cell 4
    have k5 := hx2.cell 5
    have k6 := hx2.cell 6
    have k7 := hx2.cell 7
    have k8 := hx2.cell 8
    have k9 := hx2.cell 9
    have k10 := hx2.cell 10
    have k11 := hx2.cell 11
    have HL2 := Lib.hid hL2
    have HO2 := Lib.hid hO2
    have HMI2 := Lib.hid (HMI.out W1 w2 HB1.out hK)
    have HK2 := Lib.hid (Kept.chg (gc := gc) (b1 := b1) (b2 := b2) (b3 := b3) hK)
    have HLE := Lib.hid hle
    clear hg hle hL2 hK hv2 hx2 hO2
    go_wp2_with fail
    refine (take_any _ _ m HMI2.out HO2.out (by have := HO1.out.few; have := HO1.out.small; omega) (by have := HO1.out.few; have := HO1.out.small; omega)).mono ?_
    rintro e w3 ⟨rfl, hO3, hC3⟩
    have HE := Lib.hid (show WrE w B gc gl b1 b2 b3 g v c ms r m (.returned (.int .i64 0)) w3 from ⟨0, rfl, .inl ⟨rfl, HLE.out, v2, ⟨Lg.kept_co HL2.out HO2.out hC3, hO3, fun x hx => by
      rcases List.mem_append.1 hx with h1 | h1
      · exact HO1.out.fine x h1
      · rw [List.mem_singleton] at h1; rw [h1]; exact HF.out, by
        have h1 := ctake_few c m
        have h2 := HO1.out.few
        rw [List.length_append, List.length_singleton]
        omega⟩, (Chg.ofBelow _ HB1.out).trans (HK2.out.trans (hC3.mono fun _ _ hk => .inr (.inr (.inr hk))))⟩⟩)
    clear hO3 hC3
    go_wp2
    go_ret
    exact HE.out
  · have hc3 : k = 3 ∧ r < (cat ms).length + (rcd m).length := by
      rcases hc with ⟨h1, _, h2⟩ | ⟨_, h2⟩
      · exact ⟨h1, h2⟩
      · exact absurd HF.out.1 h2
    obtain ⟨rfl, hlt⟩ := hc3
    have HE := Lib.hid (show WrE w B gc gl b1 b2 b3 g v c ms r m (.returned (.int .i64 3)) w2 from ⟨3, rfl, .inr ⟨rfl, hlt, HO1.out.below hb2, bell_up HB1.out hb2⟩⟩)
    clear hc hlt hL2 hb2
    go_wp2
    go_ret
    exact HE.out
end
end Go.Proofs.YtkailiifgdjgmaaGreat

namespace Go.Proofs.YtkailiifgdjgmaaGreat
open Go.RowKit
open Go.Maps (Keyed)

/-- A record. -/
def oC (k id rev : Int) (ns : List Int) : MsgD := ⟨k, 0, 0, id, rev, 0, 0, false, ns, [], [], []⟩
theorem oc_in64 {k id rev : Int} {ns : List Int} (h1 : InI k) (h2 : InI id) (h3 : InI rev) (h4 : ∀ n ∈ ns, isN n) : (oC k id rev ns).in64 := ⟨h1, in0, in0, h2, h3, in0, in0, fun x hx => ⟨by have := (h4 x hx).1; omega, by have := (h4 x hx).2; omega⟩, by simp [oC]⟩
theorem int_small {j : Int} (hj : 0 ≤ j ∧ j < 64) : (Vi.int j).length = 1 := by
  rw [Vi.int, Vi.vi_small _ (by unfold Vi.zig; rw [if_pos hj.1]; omega)]
  rfl
theorem int_zero : (Vi.int 0).length = 1 := int_small (by omega)
theorem lst_small (ns : List Int) (h : ∀ n ∈ ns, isN n) (hl : ns.length ≤ 8) : (lst Vi.int ns).length ≤ 90 := by
  have e1 : ∀ l : List Int, (∀ n ∈ l, isN n) → ((l.map Vi.int).flatten).length ≤ 10 * l.length := by
    intro l
    induction l with
    | nil => simp
    | cons x l ih =>
      intro hh
      have h1 := Vi.int_length x (by have := (hh x (by simp)).1; omega) (by have := (hh x (by simp)).2; omega)
      have h2 := ih fun y hy => hh y (List.mem_cons_of_mem _ hy)
      simp only [List.map_cons, List.flatten_cons, List.length_append, List.length_cons]
      omega
  have h2 := Vi.int_length (ns.length : Int) (by omega) (by omega)
  have h3 := e1 ns h
  rw [lst, List.length_append]
  omega
theorem oc_len {k id rev : Int} {ns : List Int} (h1 : InI k) (h2 : InI id) (h3 : InI rev) (h4 : ∀ n ∈ ns, isN n) (h5 : ns.length ≤ 8) : (enc (oC k id rev ns)).length ≤ 140 := by
  have e1 := Vi.int_length k h1.1 h1.2
  have e3 := Vi.int_length id h2.1 h2.2
  have e4 := Vi.int_length rev h3.1 h3.2
  have e5 := lst_small ns h4 h5
  have h0 := int_zero
  simp only [enc, oC, List.length_append, List.length_singleton]
  have e6 : (lst mutB ([] : List Mut)).length = 1 := by simp [lst, int_zero]
  have e7 : (lst rowOf ([] : List RowD)).length = 1 := by simp [lst, int_zero]
  omega
theorem oc_good {k id rev : Int} {ns : List Int} (h1 : InI k) (h2 : InI id) (h3 : InI rev) (h4 : ∀ n ∈ ns, isN n) (h5 : ns.length ≤ 8) : (oC k id rev ns).good :=
  ⟨⟨by show ns.length ≤ 1024; omega, ⟨by simp [oC], by simp [oC]⟩, ⟨by simp [oC], by simp [oC]⟩, ⟨by simp [oC], by simp [oC]⟩⟩, by have := oc_len h1 h2 h3 h4 h5; omega⟩
theorem oc_fine {k id rev : Int} {ns : List Int} (h1 : InI k) (h2 : InI id) (h3 : InI rev) (h4 : ∀ n ∈ ns, isN n) (h5 : ns.length ≤ 8) : (oC k id rev ns).fine := ⟨oc_good h1 h2 h3 h4 h5, oc_in64 h1 h2 h3 h4⟩
theorem oc_rcd {k id rev : Int} {ns : List Int} (h1 : InI k) (h2 : InI id) (h3 : InI rev) (h4 : ∀ n ∈ ns, isN n) (h5 : ns.length ≤ 8) : (rcd (oC k id rev ns)).length ≤ 148 := by
  have := oc_len h1 h2 h3 h4 h5
  rw [rcd_len]
  omega
abbrev oV (k id rev : Int) (a : Option Addr) (n cp : Nat) : Value := .agg #[.int .i64 k, .int .i64 0, .int .i64 0, .int .i64 id, .int .i64 rev, .int .i64 0, .int .i64 0, .bool false, .slice a n cp, .slice none 0 0, .slice none 0 0, .slice none 0 0]
theorem oc_msg (w : World) {k id rev : Int} {ns : List Int} {a : Option Addr} {n cp : Nat} (h1 : InI k) (h2 : InI id) (h3 : InI rev) (hx : IntsAt w w.heap.size a n ns) (hn : n ≤ 9223372036854775807) : MsgIn w (oV k id rev a n cp) (oC k id rev ns) :=
  ⟨a, none, none, none, n, cp, 0, 0, 0, 0, 0, 0, ⟨rfl, h1, in0, in0, h2, h3, in0, in0, hx, ⟨rfl, .inl rfl⟩, ⟨rfl, .inl rfl⟩, ⟨rfl, .inl rfl⟩, hn, by omega, by omega, by omega⟩⟩
theorem oc_none (w : World) {k id rev : Int} (h1 : InI k) (h2 : InI id) (h3 : InI rev) : MsgIn w (oV k id rev none 0 0) (oC k id rev []) := oc_msg w h1 h2 h3 ⟨rfl, .inl rfl⟩ (by omega)
section
variable {w w' : World} {B gc gl b1 b2 b3 g r : Nat} {v : Value} {c : Co} {ms : List MsgD}
theorem CS.geB (h : CS w B gc gl b1 b2 b3 g v c ms r) : B ≤ w.heap.size := by
  have h1 := h.ge (k := gl) (.inl rfl)
  omega
theorem WrR.from_ {m : MsgD} {k : Int} {W : World} (h : WrR W B gc gl b1 b2 b3 g v c ms r m k w') (hb : Below w.heap.size w W) : WrR w B gc gl b1 b2 b3 g v c ms r m k w' := by
  rcases h with ⟨h1, h2, v', h3, h4⟩ | ⟨h1, h2, h3, h4⟩
  · exact .inl ⟨h1, h2, v', h3, (Chg.ofBelow _ hb).trans h4⟩
  · exact .inr ⟨h1, h2, h3, bell_up hb h4⟩
/-- What Commit comes to. -/
def CmR (w : World) (B gc gl b1 b2 b3 g : Nat) (v : Value) (c : Co) (ms : List MsgD) (r : Nat) (id rev : Int) (e : Ending) (w' : World) : Prop :=
  ∃ k : Int, e = .returned (.int .i64 k) ∧
    ((k ≠ 0 ∧ ¬ (∃ s, c.bal id = some (s, 0) ∧ 1 ≤ rev ∧ rev ≤ 1125899906842624) ∧ CS w' B gc gl b1 b2 b3 g v c ms r ∧ Below w.heap.size w w') ∨
      (∃ s, c.bal id = some (s, 0) ∧ 1 ≤ rev ∧ rev ≤ 1125899906842624 ∧ WrR w B gc gl b1 b2 b3 g v c ms r (oC 6 id rev (slist s)) k w'))
set_option maxRecDepth 100000 in
set_option maxHeartbeats 8000000 in
theorem commit_any (w : World) (h : CS w B gc gl b1 b2 b3 g v c ms r) (id rev : Int) (hk : InI id) (hrv : InI rev) :
    Calls Tryz.prog 13 #[.pointer (some ⟨gc, 0, none⟩), .int .i64 id, .int .i64 rev] w (CmR w B gc gl b1 b2 b3 g v c ms r id rev) := by
  have hl1 := h.co.lookBal hk
  obtain ⟨c0, c1, c2, c3, c4, c5, c6, c7, _, _, _⟩ := h.co.cells
  cases hb : c.bal id with
  | none =>
    rw [hb] at hl1
    simp only [Option.map_none, Option.getD_none, Option.isSome_none] at hl1
    have HE := Lib.hid (fun W (hW : Below w.heap.size w W) => (show CmR w B gc gl b1 b2 b3 g v c ms r id rev (.returned (.int .i64 4)) W from ⟨4, rfl, .inl ⟨by omega, (by rintro ⟨s, h1, _⟩; rw [hb] at h1; cases h1), h.below hW, hW⟩⟩))
    clear h hb
    go_enter Tryz.func13, Tryz.ntmps13
    go_wp2
    go_ret
    exact HE.out _ (below_alloc _ _)
  | some b =>
    obtain ⟨s, lf⟩ := b
    rw [hb] at hl1
    simp only [Option.map_some, Option.getD_some, Option.isSome_some, balV] at hl1
    obtain ⟨W1, hW1, hw1, hB1⟩ := box_new w 88 #[.int .u8 (s : Int), .int .u8 (lf : Int)]
    have hs := (h.co.ok.bal id _ hb).1
    have k0 := hw1.cell 0
    have k1 := hw1.cell 1
    have he := fun W => empty_any W lf
    by_cases hlf : lf = 0
    · rw [decide_eq_true hlf] at he
      have HLF := Lib.hid hlf
      clear hlf
      by_cases hr1 : rev < 1
      · have HE := Lib.hid (fun W (hW : Below w.heap.size w W) => (show CmR w B gc gl b1 b2 b3 g v c ms r id rev (.returned (.int .i64 1)) W from ⟨1, rfl, .inl ⟨by omega, (by rintro ⟨_, _, h1, _⟩; omega), h.below hW, hW⟩⟩))
        have HB1 := Lib.hid hB1
        clear h hb hw1 hB1
        go_enter Tryz.func13, Tryz.ntmps13
        go_upto_region 5 with fail
        rw [← hW1]
        clear hW1
        go_wp2_with (go_at_call 29; refine (he _).mono ?_; rintro e w9 ⟨rfl, hw9⟩; rw [hw9]; clear hw9 w9)
        go_ret
        exact HE.out _ HB1.out
      · by_cases hr2 : rev > 1125899906842624
        · have HE := Lib.hid (fun W (hW : Below w.heap.size w W) => (show CmR w B gc gl b1 b2 b3 g v c ms r id rev (.returned (.int .i64 1)) W from ⟨1, rfl, .inl ⟨by omega, (by rintro ⟨_, _, _, h1⟩; omega), h.below hW, hW⟩⟩))
          have HB1 := Lib.hid hB1
          have d1 : decide (rev < 1) = false := decide_eq_false hr1
          have d2 : decide (rev > 1125899906842624) = true := decide_eq_true hr2
          clear h hb hw1 hB1 hr1 hr2
          go_enter Tryz.func13, Tryz.ntmps13
          go_upto_region 5 with fail
          rw [← hW1]
          clear hW1
          go_wp2_with (go_at_call 29; refine (he _).mono ?_; rintro e w9 ⟨rfl, hw9⟩; rw [hw9]; clear hw9 w9)
          go_ret
          exact HE.out _ HB1.out
        · have HL := Lib.hid (list_any W1 s hs)
          have HCS := Lib.hid (h.below hB1)
          have HB1 := Lib.hid hB1
          have HBL := Lib.hid (show c.bal id = some (s, 0) by rw [hb, HLF.out])
          have d1 : decide (rev < 1) = false := decide_eq_false hr1
          have d2 : decide (rev > 1125899906842624) = false := decide_eq_false hr2
          have HRR := Lib.hid (show 1 ≤ rev ∧ rev ≤ 1125899906842624 by omega)
          clear h hb hw1 hB1 hr1 hr2
          go_enter Tryz.func13, Tryz.ntmps13
          go_upto_region 5 with fail
          rw [← hW1]
          clear hW1
          go_wp2_with (go_at_call 29; refine (he _).mono ?_; rintro e w9 ⟨rfl, hw9⟩; rw [hw9]; clear hw9 w9)
          refine HL.out.mono ?_
          rintro e w2 ⟨u, rfl, hrow, hb2⟩
          obtain ⟨a, cp, rfl, hnc, hcm⟩ := owned_anyE hrow
          have h2 := HCS.out.below hb2
          have HF := Lib.hid (oc_fine (k := 6) ⟨by omega, by omega⟩ hk hrv (slist_node (s := s)) (slist_len s))
          have HKP := Lib.hid (show ∀ W w', Below w2.heap.size w2 W → Kept W w' gl g v → MsgIn w' (oV 6 id rev a (slist s).length cp) (oC 6 id rev (slist s)) from fun W w' hW hK => by
            have hrW : W.ownsRow W1.heap.size 3 1 (.slice a (slist s).length cp) (slist s).length ((slist s).map (Value.int .i64)) := owns_keep hrow (fun k hk => hW.block k (hrow.lt k hk).2)
            have hLg := (h2.below hW).log
            refine oc_msg w' ⟨by omega, by omega⟩ hk hrv (ints_owned (owns_keep hrW fun k hk => ?_) rfl fun z hz => ?_) (by have := slist_len s; omega)
            · obtain ⟨_, cur, hWk⟩ := owned_block hrW hk
              have := past_log hWk hLg hK (by decide) (by decide) (by decide)
              unfold Whole at this hWk
              rw [this, hWk]
            · have := slist_node z hz
              exact ⟨by have := this.1; omega, by have := this.2; omega⟩)
          have HWR := Lib.hid (cwrite_any w2 h2 h2.geB _ _ HF.out HKP.out)
          have HB2 := Lib.hid (HB1.out.trans (hb2.mono HB1.out.size))
          clear hrow hb2 h2 hnc hcm HKP HF HL HCS k0 k1
          go_wp2_with fail
          refine HWR.out.mono ?_
          rintro e w3 ⟨k, rfl, hc⟩
          have HE := Lib.hid (show CmR w B gc gl b1 b2 b3 g v c ms r id rev (.returned (.int .i64 k)) w3 from ⟨k, rfl, .inr ⟨s, HBL.out, HRR.out.1, HRR.out.2, hc.from_ HB2.out⟩⟩)
          clear hc
          go_wp2
          go_ret
          exact HE.out
    · have HE := Lib.hid (fun W (hW : Below w.heap.size w W) => (show CmR w B gc gl b1 b2 b3 g v c ms r id rev (.returned (.int .i64 154)) W from ⟨154, rfl, .inl ⟨by omega, (by rintro ⟨_, h1, _⟩; rw [hb] at h1; injection h1 with h1; injection h1 with _ h1; exact hlf h1), h.below hW, hW⟩⟩))
      have HB1 := Lib.hid hB1
      rw [decide_eq_false hlf] at he
      clear h hb hw1 hB1
      go_enter Tryz.func13, Tryz.ntmps13
      go_upto_region 5 with fail
      rw [← hW1]
      clear hW1
      go_wp2_with (go_at_call 29; refine (he _).mono ?_; rintro e w9 ⟨rfl, hw9⟩; rw [hw9]; clear hw9 w9)
      go_ret
      exact HE.out _ HB1.out
end
end Go.Proofs.YtkailiifgdjgmaaGreat

namespace Go.Proofs.YtkailiifgdjgmaaGreat
open Go.RowKit
open Go.Maps (Keyed)

/-- Those that haven't applied it are these from now on. -/
def dset (L : List Debt) (id : Int) (lf : Nat) : List Debt := L.map fun d => if d.id = id then { d with lf := lf } else d
theorem dset_ids (L : List Debt) (id : Int) (lf : Nat) : (dset L id lf).map (·.id) = L.map (·.id) := by
  unfold dset
  rw [List.map_map]
  apply List.map_congr_left
  intro d _
  simp only [Function.comp]
  split <;> rfl
theorem dset_ahs (L : List Debt) (id : Int) (lf : Nat) : (dset L id lf).map (·.ah) = L.map (·.ah) := by
  unfold dset
  rw [List.map_map]
  apply List.map_congr_left
  intro d _
  simp only [Function.comp]
  split <;> rfl
theorem dset_len (L : List Debt) (id : Int) (lf : Nat) : (dset L id lf).length = L.length := by unfold dset; rw [List.length_map]
theorem dget_dset (L : List Debt) (id : Int) (lf : Nat) (k : Int) : dget (dset L id lf) k = if k = id then (dget L id).map (fun d => { d with lf := lf }) else dget L k := by
  unfold dget dset
  rw [List.find?_map]
  have hp : ∀ x : Int, ((fun d : Debt => decide (d.id = x)) ∘ fun d : Debt => if d.id = id then { d with lf := lf } else d) = fun d => decide (d.id = x) := by
    intro x
    funext d
    simp only [Function.comp]
    split <;> rfl
  rw [hp]
  by_cases hk : k = id
  · subst hk
    rw [if_pos rfl]
    cases h : L.find? fun d => decide (d.id = k) with
    | none => rfl
    | some d =>
      have := List.find?_some h
      simp at this
      simp [this]
  · rw [if_neg hk]
    cases h : L.find? fun d => decide (d.id = k) with
    | none => rfl
    | some d =>
      have := List.find?_some h
      simp at this
      simp only [Option.map_some]
      rw [if_neg (by rw [this]; exact hk)]
def cack (c : Co) (id : Int) (lf : Nat) : Co := { c with deb := dset c.deb id lf }
theorem Co.ok.ack {c : Co} (h : c.ok) (id : Int) {lf : Nat} (hl : lf < 256) : (cack c id lf).ok := by
  refine ⟨h.node, h.opened, h.begun, h.com, h.bal, fun d hd => ?_, ?_, ?_, h.don, fun k b hb => ?_⟩
  · obtain ⟨d0, h0, rfl⟩ := List.mem_map.1 hd
    have := h.deb d0 h0
    split
    · exact ⟨this.1, this.2.1, hl, this.2.2.2⟩
    · exact this
  · show ((dset c.deb id lf).map (·.id)).Nodup
    rw [dset_ids]; exact h.nd
  · show ((dset c.deb id lf).map (·.ah)).Pairwise (· < ·)
    rw [dset_ahs]; exact h.asc
  · obtain ⟨e1, e2⟩ := h.apart k b hb
    refine ⟨?_, e2⟩
    show dget (dset c.deb id lf) k = none
    rw [dget_dset]
    split
    · next e => rw [← e, e1]; rfl
    · exact e1
section
variable {w w' : World} {B gc gl b1 b2 b3 g r : Nat} {v : Value} {c : Co} {ms : List MsgD}
theorem CoAt.ack_step (h : CoAt w B gc gl b1 b2 b3 c) {id : Int} (hid : InI id) {d : Debt} (hd : dget c.deb id = some d) {lf : Nat} (hl : lf < 256) {mm : Lit → Option Value} {N : Nat} (hf : ∀ k, InI k → mm (.int .i64 k) = (dget c.deb k).map debV)
    (hm : MapAt w' Tryz.prog 2 b2 (mset mm (.int .i64 id) (some (debV { d with lf := lf }))) N) (hN : N = if (mm (.int .i64 id)).isSome then c.deb.length else c.deb.length + 1) (hg : w.grownBy w' (some b2)) : CoAt w' B gc gl b1 b2 b3 (cack c id lf) := by
  obtain ⟨m1, m2, m3, n1, n3, hr, hn, s1, s2, s3⟩ := h.raw
  have hr2 := hr.g2 hm hg
  rw [hf id hid, hd] at hN
  simp only [Option.map_some, Option.isSome_some, if_true] at hN
  refine CoAt.ofRaw (c := cack c id lf) hr2 ⟨hn.1, ?_, ?_⟩ s1 (fun k hk => ?_) s3 (h.ok.ack id hl) h.ge
  · show n3 + (dset c.deb id lf).length ≤ c.com
    rw [dset_len]; exact hn.2
  · show N = (dset c.deb id lf).length
    rw [dset_len, hN]
  · rw [mset_int _ _ _ hid, hf k hk]
    show _ = (dget (dset c.deb id lf) k).map debV
    rw [dget_dset]
    split
    · rw [hd]; rfl
    · rfl
/-- What Ack comes to. -/
def AkR (w : World) (B gc gl b1 b2 b3 g : Nat) (v : Value) (c : Co) (ms : List MsgD) (r : Nat) (id n : Int) (e : Ending) (w' : World) : Prop :=
  ∃ k : Int, e = .returned (.int .i64 k) ∧
    (((c.don id ≠ none ∧ k = 0 ∨ c.don id = none ∧ k ≠ 0 ∧ ¬ ∃ d, dget c.deb id = some d ∧ shas d.ns n = true) ∧ CS w' B gc gl b1 b2 b3 g v c ms r ∧ Below w.heap.size w w') ∨
      (∃ d, c.don id = none ∧ dget c.deb id = some d ∧ shas d.ns n = true ∧
        ((swo d.lf n ≠ 0 ∧ k = 0 ∧ CS w' B gc gl b1 b2 b3 g v (cack c id (swo d.lf n)) ms r ∧ Chg w w' (SB gc gl b1 b2 b3 g v)) ∨
          (swo d.lf n = 0 ∧ ((k = 0 ∧ (cat ms).length + (rcd (oC 7 id 0 [])).length ≤ r ∧ ∃ v', CS w' B gc gl b1 b2 b3 g v' (ctake (cack c id 0) (oC 7 id 0 [])) (ms ++ [oC 7 id 0 []]) r ∧ Chg w w' (SB gc gl b1 b2 b3 g v)) ∨
            (k = 3 ∧ r < (cat ms).length + (rcd (oC 7 id 0 [])).length ∧ CS w' B gc gl b1 b2 b3 g v (cack c id 0) ms r ∧ Chg w w' (SB gc gl b1 b2 b3 g v)))))))
set_option maxRecDepth 100000 in
set_option maxHeartbeats 16000000 in
theorem ack_any (w : World) (h : CS w B gc gl b1 b2 b3 g v c ms r) (id n : Int) (hk : InI id) (hn : InI n) :
    Calls Tryz.prog 15 #[.pointer (some ⟨gc, 0, none⟩), .int .i64 id, .int .i64 n] w (AkR w B gc gl b1 b2 b3 g v c ms r id n) := by
  have hl1 := h.co.lookDon hk
  have hl2 := h.co.lookDeb hk
  obtain ⟨c0, c1, c2, c3, c4, c5, c6, c7, _, _, _⟩ := h.co.cells
  cases hb : c.don id with
  | some r0 =>
    rw [hb] at hl1
    simp only [Option.map_some, Option.getD_some, Option.isSome_some] at hl1
    have HE := Lib.hid (show AkR w B gc gl b1 b2 b3 g v c ms r id n (.returned (.int .i64 0)) w from ⟨0, rfl, .inl ⟨.inl ⟨by rw [hb]; simp, rfl⟩, h, Below.refl _ _⟩⟩)
    clear h hb hl2
    go_enter Tryz.func15, Tryz.ntmps15
    go_wp2
    go_ret
    exact HE.out
  | none =>
    rw [hb] at hl1
    simp only [Option.map_none, Option.getD_none, Option.isSome_none] at hl1
    cases hd : dget c.deb id with
    | none =>
      rw [hd] at hl2
      simp only [Option.map_none, Option.getD_none, Option.isSome_none] at hl2
      have HE := Lib.hid (fun W (hW : Below w.heap.size w W) => (show AkR w B gc gl b1 b2 b3 g v c ms r id n (.returned (.int .i64 4)) W from ⟨4, rfl, .inl ⟨.inr ⟨hb, by omega, by rintro ⟨d, h1, _⟩; rw [hd] at h1; cases h1⟩, h.below hW, hW⟩⟩))
      clear h hb hd
      go_enter Tryz.func15, Tryz.ntmps15
      go_wp2
      go_ret
      exact HE.out _ (below_alloc _ _)
    | some d =>
      obtain ⟨di, s, lf, ah, rv⟩ := d
      rw [hd] at hl2
      simp only [Option.map_some, Option.getD_some, Option.isSome_some, debV] at hl2
      obtain ⟨W1, hW1, hw1, hB1⟩ := box_new w 95 #[.int .u8 (s : Int), .int .u8 (lf : Int), .int .i64 (ah : Int), .int .i64 rv]
      obtain ⟨_, hs1, hs2, _, _⟩ := h.co.ok.deb _ (dget_some hd).1
      have HH := Lib.hid (fun W => has_any W s hs1 n hn)
      have k0 := hw1.cell 0
      cases hsh : shas s n
      · rw [hsh] at HH
        have HE := Lib.hid (fun W (hW : Below w.heap.size w W) => (show AkR w B gc gl b1 b2 b3 g v c ms r id n (.returned (.int .i64 1)) W from ⟨1, rfl, .inl ⟨.inr ⟨hb, by omega, by rintro ⟨d, h1, h2⟩; rw [hd] at h1; injection h1 with h1; rw [← h1] at h2; rw [hsh] at h2; cases h2⟩, h.below hW, hW⟩⟩))
        have HB1 := Lib.hid hB1
        clear h hb hd hsh hw1 hB1 hs1 hs2
        go_enter Tryz.func15, Tryz.ntmps15
        go_upto_region 7 with fail
        rw [← hW1]
        clear hW1
        go_wp2_with fail
        refine (HH.out _).mono ?_
        rintro e w2 ⟨rfl, hb2⟩
        have HE2 := Lib.hid (HE.out w2 (HB1.out.trans (hb2.mono HB1.out.size)))
        clear hb2
        go_wp2
        go_ret
        exact HE2.out
      · rw [hsh] at HH
        have HWO := Lib.hid (fun W => without_any W lf hs2 n hn)
        have HLF := Lib.hid (swo_lt hs2 n)
        have HSH := Lib.hid hsh
        have HCS := Lib.hid h
        have HB1 := Lib.hid hB1
        have HW1 := Lib.hid hw1
        have HDN := Lib.hid hb
        have HDB := Lib.hid hd
        have HID := Lib.hid hk
        clear h hb hd hsh hw1 hB1 hs1 hs2 hk
        go_enter Tryz.func15, Tryz.ntmps15
        go_upto_region 7 with fail
        rw [← hW1]
        clear hW1 c0 c1 c2 c3 c4 c5 c6 c7 hl1 hl2
        go_wp2_with fail
        refine (HH.out _).mono ?_
        rintro e w2 ⟨rfl, hb2⟩
        have hx2 := HW1.out.kept (hb2.block _ HW1.out.lt)
        have q1 := hx2.cell 1
        have HX2 := Lib.hid hx2
        have HB2 := Lib.hid (HB1.out.trans (hb2.mono HB1.out.size))
        clear hb2 hx2 k0
        go_wp2_with fail
        refine (HWO.out _).mono ?_
        rintro e w3 ⟨rfl, hb3⟩
        have hx3 := HX2.out.kept (hb3.block _ HX2.out.lt)
        have HB3 := Lib.hid (HB2.out.trans (hb3.mono HB2.out.size))
        have hz1 := hx3.free 1
        have HX3 := Lib.hid hx3
        clear q1
        have q1 := hx3.cell 1
        clear hb3 hx3
        generalize hsw : swo lf n = lf2 at *
        have HSW := Lib.hid hsw
        clear hsw
        obtain ⟨w4, hw4⟩ : ∃ w4, w4 = w3.setCell ⟨w.heap.size, 1, none⟩ (.int .u8 (lf2 : Int)) := ⟨_, rfl⟩
        go_upto_region 10 with fail
        rw [← hw4]
        have hx4 : Whole w4 w.heap.size 95 #[.int .u8 (s : Int), .int .u8 (lf2 : Int), .int .i64 (ah : Int), .int .i64 rv] := by rw [hw4]; simpa using HX3.out.store 1 (.int .u8 (lf2 : Int))
        have hb4 : Below w.heap.size w w4 := by rw [hw4]; exact HB3.out.setCell (Nat.le_refl _) _
        clear hw4 hz1 q1
        have h4 := HCS.out.below (hb4.trans (below_drewN w4 1 |>.mono hb4.size))
        have h4 : CS w4.drew B gc gl b1 b2 b3 g v c ms r := h4
        have hx5 : Whole w4.drew w.heap.size 95 #[.int .u8 (s : Int), .int .u8 (lf2 : Int), .int .i64 (ah : Int), .int .i64 rv] := hx4
        have hb5 : Below w.heap.size w w4.drew := hb4.trans (below_drewN w4 1 |>.mono hb4.size)
        clear hx4 hb4
        generalize hg1 : w.heap.size = g1 at *
        have HG1 := Lib.hid hg1
        clear hg1
        have q0 := hx5.cell 0
        have q1 := hx5.cell 1
        have q2 := hx5.cell 2
        have q3 := hx5.cell 3
        have c5 := h4.co.cells.2.2.2.2.2.1
        refine wp_region_still_tail 6 (by kernel_rfl) (by kernel_rfl) ?_
        simp only [List.take_succ_cons, List.take_zero, List.drop_succ_cons, List.drop_zero]
        still_step
        still_step
        still_step
        still_step
        still_step
        still_step
        refine wpStill_nil ?_
        change wpList _ _ _ _ _ w4.drew
        generalize w4.drew = w5 at *
        obtain ⟨mm, hm, hf⟩ := h4.co.deb
        have HCK := Lib.hid (fun w6 N (e1 : MapAt w6 Tryz.prog 2 b2 (mset mm (.int .i64 id) (some (debV ⟨di, s, lf2, ah, rv⟩))) N) (e2 : N = if (mm (.int .i64 id)).isSome then c.deb.length else c.deb.length + 1) (e3 : w5.grownBy w6 (some b2)) => (show CS w6 B gc gl b1 b2 b3 g v (cack c id lf2) ms r ∧ Chg w w6 (SB gc gl b1 b2 b3 g v) ∧ Whole w6 g1 95 #[.int .u8 (s : Int), .int .u8 (lf2 : Int), .int .i64 (ah : Int), .int .i64 rv] from by
          have hc := h4.co.ack_step HID.out (d := ⟨di, s, lf, ah, rv⟩) HDB.out HLF.out hf e1 e2 e3
          obtain ⟨h7, h8⟩ := h4.step hc ((Chg.refl _ _).toGrown e3 (.inr (.inr (.inl rfl)))) h4.few
          exact ⟨h7, (Chg.ofBelow _ (by rw [HG1.out]; exact hb5)).trans h8, hx5.kept (e3.block _ hx5.lt (by intro e; injection e with e; exact hm.ne hx5 e))⟩))
        have HSM := Lib.hid (show c.deb.length < maxLen by have h1 := h4.co.don; obtain ⟨_, _, _, h2, _⟩ := h1; have := h4.few; have := h4.small; unfold maxLen; omega)
        clear h4 hx5 hb5 hf q0 q1 q2 q3 c5
        go_wp2_with (at_mapUpdate; refine wpList_store_map _ rfl _ _ _ 81 rfl 2 95 Tryz.keyL Tryz.underlying81 _ (Tryz.zeroDeb _) b2 c.deb.length mm rfl hm HSM.out (.int .i64 id) (debV ⟨di, s, lf2, ah, rv⟩) (.int .i64 id) rfl rfl (key_long id HID.out) ?_; intro w6 hm6 hg6 hs6; obtain ⟨h6, hc6, hx6⟩ := HCK.out w6 _ hm6 rfl hg6; have q1 := hx6.cell 1; have HC6 := Lib.hid hc6; have H6 := Lib.hid h6; clear hm6 hg6 hs6 h6 hc6 hx6)
        have he := empty_any w6 lf2
        by_cases hz : lf2 = 0
        · rw [decide_eq_true hz] at he
          have HZ := Lib.hid hz
          have HF := Lib.hid (oc_fine (k := 7) (id := id) (rev := 0) (ns := []) ⟨by omega, by omega⟩ HID.out ⟨by omega, by omega⟩ (by simp) (by simp))
          have HWR := Lib.hid (cwrite_any w6 H6.out H6.out.geB _ (oC 7 id 0 []) HF.out (fun W w' _ _ => oc_none w' ⟨by omega, by omega⟩ HID.out ⟨by omega, by omega⟩))
          clear hz
          go_wp2_with (go_at_call 29; refine he.mono ?_; rintro e w9 ⟨rfl, hw9⟩; rw [hw9]; clear hw9 w9)
          refine HWR.out.mono ?_
          rintro e w7 ⟨k, rfl, hc⟩
          have HE := Lib.hid (show AkR w B gc gl b1 b2 b3 g v c ms r id n (.returned (.int .i64 k)) w7 from ⟨k, rfl, .inr ⟨_, HDN.out, HDB.out, HSH.out, .inr ⟨by rw [HSW.out, HZ.out], by
            have hz := HZ.out
            subst hz
            rcases hc with ⟨rfl, h1, v', h2, h3⟩ | ⟨rfl, h1, h2, h3⟩
            · exact .inl ⟨rfl, h1, v', h2, HC6.out.trans h3⟩
            · exact .inr ⟨rfl, h1, h2, HC6.out.trans (Chg.ofBelow _ h3)⟩⟩⟩⟩)
          clear hc
          go_wp2
          go_ret
          exact HE.out
        · rw [decide_eq_false hz] at he
          have HE := Lib.hid (show AkR w B gc gl b1 b2 b3 g v c ms r id n (.returned (.int .i64 0)) w6 from ⟨0, rfl, .inr ⟨_, HDN.out, HDB.out, HSH.out, .inl ⟨by rw [HSW.out]; exact hz, rfl, by rw [HSW.out]; exact H6.out, HC6.out⟩⟩⟩)
          clear hz
          go_wp2_with (go_at_call 29; refine he.mono ?_; rintro e w9 ⟨rfl, hw9⟩; rw [hw9]; clear hw9 w9)
          go_ret
          exact HE.out
end
end Go.Proofs.YtkailiifgdjgmaaGreat
