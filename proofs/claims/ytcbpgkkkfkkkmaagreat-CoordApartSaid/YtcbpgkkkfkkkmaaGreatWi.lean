/- CoordApart: a coordinator with two transactions. CoordApart: two ends compared. CoordApart: the walk. -/
import Derived.Test.YtcbpgkkkfkkkmaaGreatWOC
import Derived.DeepKeys
namespace Go.Proofs.YtcbpgkkkfkkkmaaGreat
open Go.RowKit
open Go.Maps (Keyed)

def P1 : MsgD := bootM (rep 2 [])
def C1 : Co := ctake (rep 2 []) P1
def idx : Int := newId C1
def C2 : Co := cbegin C1 [0, 1]
def idy : Int := newId C2
def C3 : Co := cbegin C2 [1, 0]
theorem p_ids : (-9223372036854775808 ≤ idx ∧ idx ≤ 9223372036854775807) ∧ (-9223372036854775808 ≤ idy ∧ idy ≤ 9223372036854775807) := by decide +kernel
theorem p_ne : idx ≠ idy := by decide +kernel
theorem p_fr1 : (dget C1.deb idx).isNone ∧ (C1.don idx).isNone := by decide +kernel
theorem p_fr2 : (dget C2.deb idy).isNone ∧ (C2.don idy).isNone := by decide +kernel
theorem p_set : sset [0, 1] = 3 ∧ sset [1, 0] = 3 := by decide +kernel
theorem p_vy : (C2.bal idy).isNone := by decide +kernel
theorem isNone_eq {α : Type} {o : Option α} (h : o.isNone = true) : o = none := by cases o <;> simp_all
def V0 : Vw := ⟨some (3, 3), none, none⟩
def Vn : Vw := ⟨none, none, none⟩
theorem vw_x2 : vw C2 idx = V0 := by
  have h := (vw_begin C1 [0, 1] ⟨isNone_eq p_fr1.1, isNone_eq p_fr1.2⟩).1
  rw [p_set.1] at h
  exact h
theorem vw_y2 : vw C2 idy = Vn := by
  unfold vw
  rw [isNone_eq p_vy, isNone_eq p_fr2.1, isNone_eq p_fr2.2]
  rfl
theorem vw_y3 : vw C3 idy = V0 := by
  have h := (vw_begin C2 [1, 0] ⟨isNone_eq p_fr2.1, isNone_eq p_fr2.2⟩).1
  rw [p_set.2] at h
  exact h
theorem vw_x3 : vw C3 idx = V0 := by
  have h := (vw_begin C2 [1, 0] ⟨isNone_eq p_fr2.1, isNone_eq p_fr2.2⟩).2 idx p_ne
  exact h.trans vw_x2
/-- The transaction after a list of steps. -/
def fin (V : Vw) (L : List OpD) : Vw := L.foldl (fun V d => vlead V d.k d.n d.yes d.rev) V
theorem fin_step (V : Vw) (L : List OpD) (j : Nat) (d : OpD) (h : L[j]? = some d) : fin V (L.take (j + 1)) = vlead (fin V (L.take j)) d.k d.n d.yes d.rev := by
  have hj : j < L.length := by
    rcases Nat.lt_or_ge j L.length with h1 | h1
    · exact h1
    · rw [List.getElem?_eq_none h1] at h; cases h
  have hd : L[j] = d := by
    rw [List.getElem?_eq_getElem hj] at h
    exact Option.some.inj h
  rw [List.take_succ_eq_append_getElem hj, hd]
  simp [fin]
theorem nrec_two (V : Vw) : nrec V ≤ 2 := by
  unfold nrec
  split
  · omega
  · split <;> omega
/-- A coordinator over new memory, with what is known of two transactions of it. -/
def Ap (w : World) (B gc : Nat) (id id2 : Int) (V V2 : Vw) : Prop :=
  ∃ (gl b1 b2 b3 g : Nat) (v : Value) (c : Co) (ms : List MsgD), CS w B gc gl b1 b2 b3 g v c ms 1048576 ∧ vw c id = V ∧ vw c id2 = V2 ∧ InI id ∧ InI id2 ∧ id ≠ id2 ∧ (cat ms).length ≤ 29 + 148 * (nrec V + nrec V2)
section
variable {w w' : World} {B gc : Nat} {id id2 : Int} {V V2 : Vw}
theorem Ap.swap (h : Ap w B gc id id2 V V2) : Ap w B gc id2 id V2 V := by
  obtain ⟨gl, b1, b2, b3, g, v, c, ms, h1, h2, h3, h4, h5, h6, h7⟩ := h
  exact ⟨gl, b1, b2, b3, g, v, c, ms, h1, h3, h2, h5, h4, fun e => h6 e.symm, by omega⟩
theorem Ap.below (h : Ap w B gc id id2 V V2) (hb : Below w.heap.size w w') : Ap w' B gc id id2 V V2 := by
  obtain ⟨gl, b1, b2, b3, g, v, c, ms, h1, h2⟩ := h
  exact ⟨gl, b1, b2, b3, g, v, c, ms, h1.below hb, h2⟩
theorem Ap.geB (h : Ap w B gc id id2 V V2) : B ≤ w.heap.size := by
  obtain ⟨gl, b1, b2, b3, g, v, c, ms, h1, h2⟩ := h
  exact h1.geB
theorem Ap.lead (h : Ap w B gc id id2 V V2) (k t n rev : Int) (yes : Bool) (na : Option Addr) (nn nc : Nat) (hn : InI n) (hrv : InI rev) :
    Calls Tryz.prog 20 #[.pointer (some ⟨gc, 0, none⟩), .int .i64 id, .agg #[.int .i64 k, .int .i64 t, .int .i64 n, .slice na nn nc, .bool yes, .int .i64 rev]] w fun e w' => e = .returned (.tuple #[]) ∧ Ap w' B gc id id2 (vlead V k n yes rev) V2 ∧ Below B w w' := by
  obtain ⟨gl, b1, b2, b3, g, v, c, ms, h1, h2, h3, h4, h5, h6, h7⟩ := h
  have n1 := nrec_two V
  have n2 := nrec_two V2
  refine (lead_any w h1 (by omega) id k t n rev yes na nn nc h4 hn hrv).mono ?_
  rintro e w' ⟨rfl, v', c', ms', q1, q2, q3, q4, q5⟩
  rw [h2] at q3 q5
  exact ⟨rfl, ⟨gl, b1, b2, b3, g, v', c', ms', q1, q3, (q4 id2 (fun e => h6 e.symm)).trans h3, h4, h5, h6, by omega⟩, h1.sb_below q2⟩
theorem Ap.status (h : Ap w B gc id id2 V V2) :
    Calls Tryz.prog 18 #[.pointer (some ⟨gc, 0, none⟩), .int .i64 id] w fun e w' => e = .returned (.tuple #[.int .i64 (svw V).1, .int .i64 (svw V).2]) ∧ Below w.heap.size w w' := by
  obtain ⟨gl, b1, b2, b3, g, v, c, ms, h1, h2, h3, h4, h5, h6, h7⟩ := h
  refine (status_any w h1.co id h4).mono ?_
  rintro e w' ⟨rfl, hb⟩
  rw [stat_vw, h2]
  exact ⟨rfl, hb⟩
end
/-- A coordinator that was opened just now. -/
def Bt (w : World) (B gc : Nat) (c : Co) : Prop := ∃ (gl b1 b2 b3 g : Nat) (v : Value), CS w B gc gl b1 b2 b3 g v c [P1] 1048576
theorem opened_two {w : World} {B g : Nat} {v : Value} (h : Dk.DAt w B g v (cat []) 0 1048576) (hB : B ≤ w.heap.size) (hv : ∀ k, DB g v k → B ≤ k) :
    Calls Tryz.prog 9 #[.pointer (some ⟨g, 0, none⟩), .int .i64 2] w fun e w' => ∃ gc, e = .returned (.tuple #[.pointer (some ⟨gc, 0, none⟩), .int .i64 0]) ∧ Bt w' B gc C1 ∧ Below B w w' := by
  refine (opened_any (ms := []) w 0 h (by simp) hB 2 ⟨by omega, by omega⟩).mono ?_
  rintro e w' (⟨_, gc, gl, b1, b2, b3, v2, rfl, hcs, hch, _⟩ | ⟨hlt, _⟩)
  · exact ⟨gc, rfl, ⟨gl, b1, b2, b3, g, v2, hcs⟩, hch.below hv hB⟩
  · exfalso
    have h1 : (rcd (bootM (rep 2 []))).length ≤ 29 := boot_len (by simp)
    have h2 : (cat []).length = 0 := rfl
    omega
theorem Bt.begin {w : World} {B gc : Nat} {c : Co} (h : Bt w B gc c) (l : List Int) (hl : ∀ x ∈ l, InI x) (hg : beginOk c l) (hfr : (dget c.deb (newId c)).isNone ∧ (c.don (newId c)).isNone) (hn : l.length ≤ 1000) :
    Calls Tryz.prog 11 #[.pointer (some ⟨gc, 0, none⟩), .slice (some ⟨w.heap.size, 0, none⟩) l.length l.length] (w.alloc (.cells (l.map (Value.int .i64)).toArray 3)) fun e w' => e = .returned (.tuple #[.int .i64 (newId c), .int .i64 0]) ∧ Bt w' B gc (cbegin c l) ∧ Below B w w' := by
  obtain ⟨gl, b1, b2, b3, g, v, h1⟩ := h
  refine (begin_new w h1 l hl hg ⟨isNone_eq hfr.1, isNone_eq hfr.2⟩ hn).mono ?_
  rintro e w' ⟨rfl, h2, h3⟩
  exact ⟨rfl, ⟨gl, b1, b2, b3, g, v, h2⟩, h1.sb_below h3⟩
theorem begin_x {w : World} {B gc : Nat} (h : Bt w B gc C1) :
    Calls Tryz.prog 11 #[.pointer (some ⟨gc, 0, none⟩), .slice (some ⟨w.heap.size, 0, none⟩) 2 2] (w.alloc (.cells #[.int .i64 0, .int .i64 1] 3)) fun e w' => e = .returned (.tuple #[.int .i64 idx, .int .i64 0]) ∧ Bt w' B gc C2 ∧ Below B w w' :=
  h.begin [0, 1] (by intro x hx; simp at hx; rcases hx with rfl | rfl <;> exact ⟨by omega, by omega⟩) ⟨by simp, by intro x hx; simp at hx; rcases hx with rfl | rfl <;> exact ⟨by omega, by omega⟩, by decide +kernel⟩ p_fr1 (by simp)
theorem begin_y {w : World} {B gc : Nat} (h : Bt w B gc C2) :
    Calls Tryz.prog 11 #[.pointer (some ⟨gc, 0, none⟩), .slice (some ⟨w.heap.size, 0, none⟩) 2 2] (w.alloc (.cells #[.int .i64 1, .int .i64 0] 3)) fun e w' => e = .returned (.tuple #[.int .i64 idy, .int .i64 0]) ∧ Bt w' B gc C3 ∧ Below B w w' :=
  h.begin [1, 0] (by intro x hx; simp at hx; rcases hx with rfl | rfl <;> exact ⟨by omega, by omega⟩) ⟨by simp, by intro x hx; simp at hx; rcases hx with rfl | rfl <;> exact ⟨by omega, by omega⟩, by decide +kernel⟩ p_fr2 (by simp)
theorem p_cat : (cat [P1]).length ≤ 29 := by
  have h1 : (rcd (bootM (rep 2 []))).length ≤ 29 := boot_len (by simp)
  have h2 : (cat [P1]).length = (rcd P1).length := by simp [cat]
  rw [h2]
  exact h1
theorem Bt.one {w : World} {B gc : Nat} (h : Bt w B gc C2) : Ap w B gc idx idy V0 Vn := by
  obtain ⟨gl, b1, b2, b3, g, v, h1⟩ := h
  exact ⟨gl, b1, b2, b3, g, v, _, _, h1, vw_x2, vw_y2, p_ids.1, p_ids.2, p_ne, by have := p_cat; omega⟩
theorem Bt.two {w : World} {B gc : Nat} (h : Bt w B gc C3) : Ap w B gc idx idy V0 V0 := by
  obtain ⟨gl, b1, b2, b3, g, v, h1⟩ := h
  exact ⟨gl, b1, b2, b3, g, v, _, _, h1, vw_x3, vw_y3, p_ids.1, p_ids.2, p_ne, by have := p_cat; omega⟩
theorem Bt.below {w w' : World} {B gc : Nat} {c : Co} (h : Bt w B gc c) (hb : Below w.heap.size w w') : Bt w' B gc c := by
  obtain ⟨gl, b1, b2, b3, g, v, h1⟩ := h
  exact ⟨gl, b1, b2, b3, g, v, h1.below hb⟩
end Go.Proofs.YtcbpgkkkfkkkmaaGreat

namespace Go.Proofs.YtcbpgkkkfkkkmaaGreat
open Go.RowKit

def okV (V : Vw) : Prop := (∀ d, V.db = some d → InI d.2.2) ∧ (∀ r, V.dn = some r → InI r)
theorem lead_ok {V : Vw} (h : okV V) (k n : Int) (yes : Bool) (rev : Int) : okV (vlead V k n yes rev) := by
  unfold vlead
  split
  · unfold vVote
    split
    · exact h
    · split
      · split <;> exact ⟨h.1, h.2⟩
      · exact h
  · split
    · unfold vCommit
      split
      · exact h
      · split
        · rename_i hc
          refine ⟨fun d hd => ?_, fun r hr => by cases hr⟩
          injection hd with hd
          rw [← hd]
          exact ⟨by show (-9223372036854775808 : Int) ≤ rev; omega, by show rev ≤ 9223372036854775807; omega⟩
        · exact h
    · split
      · exact ⟨h.1, h.2⟩
      · split
        · unfold vAck
          split
          · exact h
          · split
            · exact h
            · rename_i d hd
              split
              · split
                · refine ⟨fun d' hd' => ?_, h.2⟩
                  injection hd' with hd'
                  rw [← hd']
                  exact h.1 d hd
                · refine ⟨fun d' hd' => (by cases hd'), fun r hr => ?_⟩
                  injection hr with hr
                  rw [← hr]
                  exact h.1 d hd
              · exact h
        · exact h
theorem fin_ok (L : List OpD) (V : Vw) (h : okV V) : okV (fin V L) := by
  induction L generalizing V with
  | nil => exact h
  | cons d L ih => exact ih _ (lead_ok h d.k d.n d.yes d.rev)
theorem svw_in {V : Vw} (h : okV V) : InI (svw V).1 ∧ InI (svw V).2 := by
  have i0 : InI 0 := ⟨by omega, by omega⟩
  have i1 : InI 1 := ⟨by omega, by omega⟩
  have i2 : InI 2 := ⟨by omega, by omega⟩
  have i3 : InI 3 := ⟨by omega, by omega⟩
  unfold svw
  split
  · exact ⟨i1, i0⟩
  · split
    · rename_i d hd
      exact ⟨i2, h.1 d hd⟩
    · split
      · rename_i r hr
        exact ⟨i3, h.2 r hr⟩
      · exact ⟨i0, i0⟩
theorem v0_ok : okV V0 := ⟨fun d hd => (by cases hd), fun r hr => (by cases hr)⟩
theorem wf_ofE (x : Int) (h : InI x) : (Lit.int .i64 x).wf = true := by unfold InI at h; simp [Lit.wf, IntKind.min, IntKind.max, IntKind.signed, IntKind.bits]; omega
theorem eq_end (x y : Int) (hx : InI x) (hy : InI y) (w : World) : (Op.equalIn 10000 63 (.agg #[.int .i64 x, .int .i64 y]) (.agg #[.int .i64 x, .int .i64 y])).run Tryz.prog w = .ok true w := by
  have k1 : Tryz.prog.cellsOf 2 = 1 := by kernel_rfl
  have k2 : Tryz.prog.cellsOf 63 = 2 := by kernel_rfl
  have h1 : Tryz.prog.keyLits 1 2 [.int .i64 x] = some [.int .i64 x] := by simp [Program.keyLits, Tryz.underlying2, wf_ofE x hx]
  have h2 : Tryz.prog.keyLits 1 2 [.int .i64 y] = some [.int .i64 y] := by simp [Program.keyLits, Tryz.underlying2, wf_ofE y hy]
  have hl : Tryz.prog.keyLits 2 63 [.int .i64 x, .int .i64 y] = some [.int .i64 x, .int .i64 y] := by
    unfold Program.keyLits
    rw [Tryz.underlying63]
    simp only
    rw [if_pos (by rw [k2]; rfl)]
    simp [List.range, List.range.loop, k1, h1, h2]
  obtain ⟨r, hr, hi⟩ := run_equalIn_deep (P := Tryz.prog) 9998 2 63 (by kernel_rfl) w 2 2 (.agg #[.int .i64 x, .int .i64 y]) (.agg #[.int .i64 x, .int .i64 y]) _ _
    (by simp [Value.formed, Tryz.underlying63]; kernel_rfl) (by simp [Value.formed, Tryz.underlying63]; kernel_rfl) (by simpa [Value.cells] using hl) (by simpa [Value.cells] using hl)
  have ht : r = true := hi.2 rfl
  subst ht
  rw [show (10000 : Nat) = 9998 + 2 from rfl]
  exact hr
end Go.Proofs.YtcbpgkkkfkkkmaaGreat

namespace Go.Proofs.YtcbpgkkkfkkkmaaGreat
open Go.RowKit
open Go.Maps (Keyed)

theorem below_set {w w' : World} {B b : Nat} (h : Below B w w') (hb : B ≤ b) (i : Nat) (u : Value) : Below B w (w'.setCell ⟨b, i, none⟩ u) :=
  ⟨h.os, h.tape, h.output, by simpa [World.setCell] using h.size, fun k hk => (Below.heap_setCell w' ⟨b, i, none⟩ u k (by rintro rfl; exact absurd hb (Nat.not_le_of_lt hk))).trans (h.block k hk)⟩
theorem whole_far {w : World} {k : Nat} {t : TypeId} {cs : Array Value} (h : Whole w k t cs) (b i : Nat) (hb : k ≠ b) (u : Value) : Whole (w.setCell ⟨b, i, none⟩ u) k t cs := h.kept (Below.heap_setCell w ⟨b, i, none⟩ u k hb)
theorem whole_one {w : World} {g : Nat} {t : TypeId} {q0 q1 q2 q3 : Value} (h : Whole w g t #[q0, q1, q2, q3]) (u v : Value) : Whole ((w.setCell ⟨g, 0, none⟩ u).setCell ⟨g, 1, none⟩ v) g t #[u, v, q2, q3] := (h.store 0 u).store 1 v
theorem whole_two {w : World} {g : Nat} {t : TypeId} {q0 q1 q2 q3 : Value} (h : Whole w g t #[q0, q1, q2, q3]) (u v : Value) : Whole ((w.setCell ⟨g, 2, none⟩ u).setCell ⟨g, 3, none⟩ v) g t #[q0, q1, u, v] := (h.store 2 u).store 3 v
set_option maxRecDepth 100000 in
set_option maxHeartbeats 32000000 in
theorem apart_walk (a b c : Option Addr) (na ca nb cb nt ct : Nat) (la lb : List OpD) (lt : List Bool) (w : World) (ha : CopsL w a na la) (hb : CopsL w b nb lb) (ht : BoolsA w c nt lt) (hna : na ≤ 140737488351232) (hnb : nb ≤ 140737488351232) :
    Calls Tryz.prog 6 #[.slice a na ca, .slice b nb cb, .slice c nt ct] w fun e w' => e = .returned (.bool true) ∧ Below w.heap.size w w' := by
  have HA := Lib.hid ha
  have HB := Lib.hid hb
  have HT := Lib.hid ht
  clear ha hb ht
  go_enter Tryz.func6, Tryz.ntmps6
  go_wp2_with fail
  refine (awake_any _).mono ?_
  rintro e w1 ⟨rfl, hb1⟩
  have HB1 := Lib.hid hb1
  clear hb1
  obtain ⟨W2, hW2, hE2, hBe⟩ := box_new w1 64 #[.int .i64 0, .int .i64 0, .int .i64 0, .int .i64 0]
  obtain ⟨W3, hW3, hS3, hBs⟩ := box_new W2 22 #[.slice a na ca, .slice b nb cb]
  have hsz2 : W2.heap.size = w1.heap.size + 1 := by rw [hW2]; exact Array.size_push _
  have HE3 := Lib.hid (hE2.kept (hBs.block _ hE2.lt))
  have HS3 := Lib.hid hS3
  have HB3 := Lib.hid (bell_up (bell_up HB1.out hBe) hBs)
  have HS := Lib.hid hsz2
  clear hE2 hS3 hBe hBs
  go_wp2_with fail
  rw [← hW2, ← hsz2, ← hW3]
  clear hW2 hW3 hsz2
  have HLE := Lib.hid HB1.out.size
  generalize W2.heap.size = sb at *
  generalize w1.heap.size = eb at *
  go_loopw [41] (fun iv wr => ∃ (j : Nat) (q0 q1 q2 q3 : Value), j ≤ 2 ∧ iv = .int .i64 (j : Int) ∧ Below w.heap.size w wr ∧ Whole wr sb 22 #[.slice a na ca, .slice b nb cb] ∧ Whole wr eb 64 #[q0, q1, q2, q3] ∧ (1 ≤ j → q0 = .int .i64 (svw (fin V0 la)).1 ∧ q1 = .int .i64 (svw (fin V0 la)).2) ∧ (2 ≤ j → q2 = .int .i64 (svw (fin V0 lb)).1 ∧ q3 = .int .i64 (svw (fin V0 lb)).2)) (fun iv _ => 2 - (intOf iv).toNat)
  case atStart => exact ⟨0, _, _, _, _, by omega, rfl, HB3.out, HS3.out, HE3.out, fun h => by omega, fun h => by omega⟩
  case round =>
    obtain ⟨j, q0, q1, q2, q3, hj2, rfl, hbl, hsw, hew, hq1, hq2⟩ := hrel
    have HBL := Lib.hid hbl
    have HSW := Lib.hid hsw
    have HEW := Lib.hid hew
    have HQ1 := Lib.hid hq1
    have HQ2 := Lib.hid hq2
    by_cases hjl : j < 2
    · obtain ⟨sa, sn, sc, Ls, hcell, hcops, hl0, hl1, hsn⟩ : ∃ sa sn sc Ls, wr.cell? ⟨sb, j, none⟩ = some (.slice sa sn sc) ∧ CopsL wr sa sn Ls ∧ (j = 0 → Ls = la) ∧ (j = 1 → Ls = lb) ∧ sn ≤ 140737488351232 := by
        rcases (show j = 0 ∨ j = 1 by omega) with rfl | rfl
        · exact ⟨_, _, _, la, hsw.cell 0, HA.out.below hbl, fun _ => rfl, fun h => by omega, hna⟩
        · exact ⟨_, _, _, lb, hsw.cell 1, HB.out.below hbl, fun h => by omega, fun _ => rfl, hnb⟩
      have HCO := Lib.hid hcops
      have HL := Lib.hid (And.intro hl0 hl1)
      have HNW := Lib.hid (Dk.new_good wr.heap.size 1048576 wr (by decide) (Nat.le_refl _))
      have hij : (0:Int) ≤ (j:Int) ∧ (j:Int) < 2 := by omega
      clear hbl hsw hew hq1 hq2 hcops hl0 hl1
      go_wp2_with fail
      refine HNW.out.mono ?_
      rintro e w3 ⟨rfl, hd3, hb3⟩
      have HB4 := Lib.hid hb3
      have HO := Lib.hid (opened_two (w := w3) hd3 hb3.size (fun k hk => by rcases hk with h | h; exact (by rw [h]; exact Nat.le_refl _); cases h))
      clear hd3 hb3 HNW
      go_wp2_with fail
      refine HO.out.mono ?_
      rintro e w4 ⟨gc, rfl, hbt, hb4⟩
      have HB5 := Lib.hid (HB4.out.trans hb4)
      have HBX := Lib.hid (begin_x hbt)
      clear hbt hb4 HO
      go_wp2_with fail
      refine HBX.out.mono ?_
      rintro e w5 ⟨rfl, hbt, hb5⟩
      have HB6 := Lib.hid (HB5.out.trans hb5)
      have HAP := Lib.hid hbt.one
      clear hbt hb5 HBX
      go_wp2_with fail
      go_loopw [67] (fun kv wx => ∃ i : Nat, i ≤ sn ∧ kv = .int .i64 (i : Int) ∧ Ap wx wr.heap.size gc idx idy (fin V0 (Ls.take i)) Vn ∧ Below wr.heap.size wr wx) (fun kv _ => sn - (intOf kv).toNat)
      case atStart => exact ⟨0, by omega, rfl, HAP.out, HB6.out⟩
      case round =>
        obtain ⟨i, hi, rfl, hap, hbi⟩ := hrel
        have HAI := Lib.hid hap
        have HBI := Lib.hid hbi
        by_cases hil : i < sn
        · obtain ⟨b0, off, rfl, hb0, hcc⟩ := HCO.out.2.resolve_left (by omega)
          obtain ⟨d, hd⟩ : ∃ d, Ls[i]? = some d := ⟨_, List.getElem?_eq_getElem (by have := HCO.out.1; omega)⟩
          obtain ⟨c0, c1, c2, c3, c4, c5, g1, g2, g3⟩ := hcc i d hd
          have k0 := (hbi.cell (p := ⟨b0, _, none⟩) hb0).trans c0
          have k1 := (hbi.cell (p := ⟨b0, _, none⟩) hb0).trans c1
          have k2 := (hbi.cell (p := ⟨b0, _, none⟩) hb0).trans c2
          have k3 := (hbi.cell (p := ⟨b0, _, none⟩) hb0).trans c3
          have k4 := (hbi.cell (p := ⟨b0, _, none⟩) hb0).trans c4
          have k5 := (hbi.cell (p := ⟨b0, _, none⟩) hb0).trans c5
          have HD := Lib.hid (And.intro hd (And.intro g1 (And.intro g2 g3)))
          have hij2 : (0:Int) ≤ (i:Int) ∧ (i:Int) < (sn:Int) := by omega
          clear hap hbi hcc hd c0 c1 c2 c3 c4 c5 g1 g2 g3
          go_wp2_with fail
          refine ((HAI.out.below (below_alloc wr _)).lead d.k d.t d.n d.rev d.yes d.na d.nn d.nc HD.out.2.2.1 HD.out.2.2.2).mono ?_
          rintro e w6 ⟨rfl, hap, hb6⟩
          rw [← fin_step _ _ _ _ HD.out.1] at hap
          have HA7 := Lib.hid hap
          have HB7 := Lib.hid ((HBI.out.trans ((below_alloc wr _).mono HBI.out.size)).trans hb6)
          clear hap hb6
          go_wp2_with fail
          go_roundw
          case rel => exact ⟨i + 1, by omega, by go_num, HA7.out, HB7.out⟩
          case measure => simp [intOf]; omega
        · obtain rfl : i = sn := by omega
          have hfin : Ls.take i = Ls := List.take_of_length_le (by have := HCO.out.1; omega)
          rw [hfin] at HAI
          have HST := Lib.hid HAI.out.status
          clear hap hbi hfin
          go_wp2_with fail
          refine HST.out.mono ?_
          rintro e w6 ⟨rfl, hb6⟩
          have HB7 := Lib.hid (HBI.out.trans (hb6.mono HBI.out.size))
          clear hb6 HST
          have HE7 := Lib.hid (HEW.out.kept (HB7.out.block _ HEW.out.lt))
          have HS7 := Lib.hid (HSW.out.kept (HB7.out.block _ HSW.out.lt))
          have HBW := Lib.hid (bell_up HBL.out HB7.out)
          have p0 := HE7.out.cell 0
          have p1 := HE7.out.cell 1
          have p2 := HE7.out.cell 2
          have p3 := HE7.out.cell 3
          have f0 := HE7.out.free 0
          have f1 := HE7.out.free 1
          have f2 := HE7.out.free 2
          have f3 := HE7.out.free 3
          clear hcell
          have hl2 : (j = 0 ∧ Ls = la) ∨ (j = 1 ∧ Ls = lb) := by
            rcases (show j = 0 ∨ j = 1 by omega) with h | h
            · exact .inl ⟨h, HL.out.1 h⟩
            · exact .inr ⟨h, HL.out.2 h⟩
          rcases hl2 with ⟨rfl, rfl⟩ | ⟨rfl, rfl⟩
          · go_wp2_with fail
            go_roundw
            case rel => exact ⟨1, _, _, _, _, by omega, rfl, below_set (below_set HBW.out HLE.out 0 _) HLE.out 1 _, whole_far (whole_far HS7.out _ _ (by have := HS.out; omega) _) _ _ (by have := HS.out; omega) _, whole_one HE7.out _ _, fun _ => ⟨rfl, rfl⟩, fun h => by omega⟩
            case measure => simp [intOf]
          · go_wp2_with fail
            go_roundw
            case rel => exact ⟨2, _, _, _, _, by omega, rfl, below_set (below_set HBW.out HLE.out 2 _) HLE.out 3 _, whole_far (whole_far HS7.out _ _ (by have := HS.out; omega) _) _ _ (by have := HS.out; omega) _, whole_two HE7.out _ _, fun _ => HQ1.out (by omega), fun _ => ⟨rfl, rfl⟩⟩
            case measure => simp [intOf]
    · obtain rfl : j = 2 := by omega
      obtain ⟨rfl, rfl⟩ := hq1 (by omega)
      obtain ⟨rfl, rfl⟩ := hq2 (by omega)
      have HNW := Lib.hid (Dk.new_good wr.heap.size 1048576 wr (by decide) (Nat.le_refl _))
      clear hbl hsw hew hq1 hq2
      go_wp2_with fail
      refine HNW.out.mono ?_
      rintro e w3 ⟨rfl, hd3, hb3⟩
      have HB4 := Lib.hid hb3
      have HO := Lib.hid (opened_two (w := w3) hd3 hb3.size (fun k hk => by rcases hk with h | h; exact (by rw [h]; exact Nat.le_refl _); cases h))
      clear hd3 hb3 HNW
      go_wp2_with fail
      refine HO.out.mono ?_
      rintro e w4 ⟨gc, rfl, hbt, hb4⟩
      have HB5 := Lib.hid (HB4.out.trans hb4)
      have HBX := Lib.hid (begin_x hbt)
      clear hbt hb4 HO
      by_cases h400 : (na : Int) + (nb : Int) > 400
      · have hd4 : decide ((na : Int) + (nb : Int) > 400) = true := decide_eq_true h400
        go_wp2_with fail
        go_ret
        exact ⟨rfl, bell_up HBL.out HB5.out⟩
      have hd4 : decide ((na : Int) + (nb : Int) > 400) = false := decide_eq_false h400
      go_wp2_with fail
      refine HBX.out.mono ?_
      rintro e w5 ⟨rfl, hbt, hb5⟩
      have HB6 := Lib.hid (HB5.out.trans hb5)
      have HBY := Lib.hid (begin_y hbt)
      clear hbt hb5 HBX
      go_wp2_with fail
      refine HBY.out.mono ?_
      rintro e w6 ⟨rfl, hbt, hb6⟩
      have HB7 := Lib.hid (HB6.out.trans hb6)
      have HAP := Lib.hid hbt.two
      clear hbt hb6 HBY
      have hne : (idx == idy) = false := by have := p_ne; simpa using this
      go_wp2_with fail
      have HWR0 := Lib.hid HBL.out
      go_loopw [28, 29, 30] (fun iv kv nv wx => ∃ i k n : Nat, i ≤ na ∧ k ≤ nb ∧ n = i + k ∧ iv = .int .i64 (i : Int) ∧ kv = .int .i64 (k : Int) ∧ nv = .int .i64 (n : Int) ∧ Ap wx wr.heap.size gc idx idy (fin V0 (la.take i)) (fin V0 (lb.take k)) ∧ Below wr.heap.size wr wx) (fun iv kv _ _ => na + nb - (intOf iv).toNat - (intOf kv).toNat)
      case atStart => exact ⟨0, 0, 0, by omega, by omega, rfl, rfl, rfl, rfl, HAP.out, HB7.out⟩
      case round =>
        obtain ⟨i, k, n, hi, hk, hn, rfl, rfl, rfl, hap, hbi⟩ := hrel
        have HAI := Lib.hid hap
        have HBI := Lib.hid hbi
        have HWR := Lib.hid (bell_up HWR0.out hbi)
        have HN := Lib.hid hn
        have hnn : n ≤ 281474976710656 := by omega
        clear hap hbi hn
        by_cases hil : i < na
        · obtain ⟨b0, off, rfl, hb0, hcc⟩ := HA.out.2.resolve_left (by omega)
          obtain ⟨d, hd⟩ : ∃ d, la[i]? = some d := ⟨_, List.getElem?_eq_getElem (by have := HA.out.1; omega)⟩
          obtain ⟨c0, c1, c2, c3, c4, c5, g1, g2, g3⟩ := hcc i d hd
          have k0 := (HWR.out.cell (p := ⟨b0, _, none⟩) hb0).trans c0
          have k1 := (HWR.out.cell (p := ⟨b0, _, none⟩) hb0).trans c1
          have k2 := (HWR.out.cell (p := ⟨b0, _, none⟩) hb0).trans c2
          have k3 := (HWR.out.cell (p := ⟨b0, _, none⟩) hb0).trans c3
          have k4 := (HWR.out.cell (p := ⟨b0, _, none⟩) hb0).trans c4
          have k5 := (HWR.out.cell (p := ⟨b0, _, none⟩) hb0).trans c5
          have HD := Lib.hid (And.intro hd (And.intro g1 (And.intro g2 g3)))
          have hij2 : (0:Int) ≤ (i:Int) ∧ (i:Int) < (na:Int) := by omega
          clear hcc hd c0 c1 c2 c3 c4 c5 g1 g2 g3
          by_cases hkb : k = nb
          · have hkq : ((k:Int) == (nb:Int)) = true := by rw [hkb]; simp
            have HKB := Lib.hid hkb
            clear hkb
            go_wp2_with fail
            refine (HAI.out.lead d.k d.t d.n d.rev d.yes d.na d.nn d.nc HD.out.2.2.1 HD.out.2.2.2).mono ?_
            rintro e w8 ⟨rfl, hap, hb8⟩
            rw [← fin_step _ _ _ _ HD.out.1] at hap
            have HA9 := Lib.hid hap
            have HB9 := Lib.hid (HBI.out.trans hb8)
            clear hap hb8
            go_wp2_with fail
            go_roundw
            case rel => exact ⟨i + 1, k, n + 1, by omega, by omega, by have := HN.out; omega, by go_num, by first | rfl | rw [HKB.out], by go_num, HA9.out, HB9.out⟩
            case measure => simp [intOf]; omega
          · have hkq : ((k:Int) == (nb:Int)) = false := by
              have : (k:Int) ≠ (nb:Int) := by omega
              simpa using this
            have hkb2 := hkb
            by_cases hlt : n < nt
            · obtain ⟨b2, off2, rfl, hb2, hct⟩ := HT.out.2.resolve_left (by omega)
              obtain ⟨t, ht⟩ : ∃ t, lt[n]? = some t := ⟨_, List.getElem?_eq_getElem (by have := HT.out.1; omega)⟩
              have kt := (HWR.out.cell (p := ⟨b2, _, none⟩) hb2).trans (hct n t ht)
              have hnj : (0:Int) ≤ (n:Int) ∧ (n:Int) < (nt:Int) := by omega
              clear hct ht
              cases t
              · skip
                obtain ⟨b1, off1, rfl, hb1, hcb⟩ := HB.out.2.resolve_left (by omega)
                obtain ⟨d', hd'⟩ : ∃ d, lb[k]? = some d := ⟨_, List.getElem?_eq_getElem (by have := HB.out.1; omega)⟩
                obtain ⟨e0, e1, e2, e3, e4, e5, g1', g2', g3'⟩ := hcb k d' hd'
                have m0 := (HWR.out.cell (p := ⟨b1, _, none⟩) hb1).trans e0
                have m1 := (HWR.out.cell (p := ⟨b1, _, none⟩) hb1).trans e1
                have m2 := (HWR.out.cell (p := ⟨b1, _, none⟩) hb1).trans e2
                have m3 := (HWR.out.cell (p := ⟨b1, _, none⟩) hb1).trans e3
                have m4 := (HWR.out.cell (p := ⟨b1, _, none⟩) hb1).trans e4
                have m5 := (HWR.out.cell (p := ⟨b1, _, none⟩) hb1).trans e5
                have HD' := Lib.hid (And.intro hd' (And.intro g1' (And.intro g2' g3')))
                have hkj : (0:Int) ≤ (k:Int) ∧ (k:Int) < (nb:Int) := by omega
                clear hcb hd' e0 e1 e2 e3 e4 e5 g1' g2' g3'
                go_wp2_with fail
                refine (HAI.out.swap.lead d'.k d'.t d'.n d'.rev d'.yes d'.na d'.nn d'.nc HD'.out.2.2.1 HD'.out.2.2.2).mono ?_
                rintro e w8 ⟨rfl, hap, hb8⟩
                rw [← fin_step _ _ _ _ HD'.out.1] at hap
                have HA9 := Lib.hid hap.swap
                have HB9 := Lib.hid (HBI.out.trans hb8)
                clear hap hb8
                go_wp2_with fail
                go_roundw
                case rel => exact ⟨i, k + 1, n + 1, by omega, by omega, by have := HN.out; omega, rfl, by go_num, by go_num, HA9.out, HB9.out⟩
                case measure => simp [intOf]; omega
              · skip
                go_wp2_with fail
                refine (HAI.out.lead d.k d.t d.n d.rev d.yes d.na d.nn d.nc HD.out.2.2.1 HD.out.2.2.2).mono ?_
                rintro e w8 ⟨rfl, hap, hb8⟩
                rw [← fin_step _ _ _ _ HD.out.1] at hap
                have HA9 := Lib.hid hap
                have HB9 := Lib.hid (HBI.out.trans hb8)
                clear hap hb8
                go_wp2_with fail
                go_roundw
                case rel => exact ⟨i + 1, k, n + 1, by omega, by omega, by have := HN.out; omega, by go_num, by first | rfl | rw [HKB.out], by go_num, HA9.out, HB9.out⟩
                case measure => simp [intOf]; omega
            · have hnl : ¬ (n:Int) < (nt:Int) := by omega
              obtain ⟨b1, off1, rfl, hb1, hcb⟩ := HB.out.2.resolve_left (by omega)
              obtain ⟨d', hd'⟩ : ∃ d, lb[k]? = some d := ⟨_, List.getElem?_eq_getElem (by have := HB.out.1; omega)⟩
              obtain ⟨e0, e1, e2, e3, e4, e5, g1', g2', g3'⟩ := hcb k d' hd'
              have m0 := (HWR.out.cell (p := ⟨b1, _, none⟩) hb1).trans e0
              have m1 := (HWR.out.cell (p := ⟨b1, _, none⟩) hb1).trans e1
              have m2 := (HWR.out.cell (p := ⟨b1, _, none⟩) hb1).trans e2
              have m3 := (HWR.out.cell (p := ⟨b1, _, none⟩) hb1).trans e3
              have m4 := (HWR.out.cell (p := ⟨b1, _, none⟩) hb1).trans e4
              have m5 := (HWR.out.cell (p := ⟨b1, _, none⟩) hb1).trans e5
              have HD' := Lib.hid (And.intro hd' (And.intro g1' (And.intro g2' g3')))
              have hkj : (0:Int) ≤ (k:Int) ∧ (k:Int) < (nb:Int) := by omega
              clear hcb hd' e0 e1 e2 e3 e4 e5 g1' g2' g3'
              go_wp2_with fail
              refine (HAI.out.swap.lead d'.k d'.t d'.n d'.rev d'.yes d'.na d'.nn d'.nc HD'.out.2.2.1 HD'.out.2.2.2).mono ?_
              rintro e w8 ⟨rfl, hap, hb8⟩
              rw [← fin_step _ _ _ _ HD'.out.1] at hap
              have HA9 := Lib.hid hap.swap
              have HB9 := Lib.hid (HBI.out.trans hb8)
              clear hap hb8
              go_wp2_with fail
              go_roundw
              case rel => exact ⟨i, k + 1, n + 1, by omega, by omega, by have := HN.out; omega, rfl, by go_num, by go_num, HA9.out, HB9.out⟩
              case measure => simp [intOf]; omega
        · obtain rfl : i = na := by omega
          by_cases hkl : k < nb
          · skip
            obtain ⟨b1, off1, rfl, hb1, hcb⟩ := HB.out.2.resolve_left (by omega)
            obtain ⟨d', hd'⟩ : ∃ d, lb[k]? = some d := ⟨_, List.getElem?_eq_getElem (by have := HB.out.1; omega)⟩
            obtain ⟨e0, e1, e2, e3, e4, e5, g1', g2', g3'⟩ := hcb k d' hd'
            have m0 := (HWR.out.cell (p := ⟨b1, _, none⟩) hb1).trans e0
            have m1 := (HWR.out.cell (p := ⟨b1, _, none⟩) hb1).trans e1
            have m2 := (HWR.out.cell (p := ⟨b1, _, none⟩) hb1).trans e2
            have m3 := (HWR.out.cell (p := ⟨b1, _, none⟩) hb1).trans e3
            have m4 := (HWR.out.cell (p := ⟨b1, _, none⟩) hb1).trans e4
            have m5 := (HWR.out.cell (p := ⟨b1, _, none⟩) hb1).trans e5
            have HD' := Lib.hid (And.intro hd' (And.intro g1' (And.intro g2' g3')))
            have hkj : (0:Int) ≤ (k:Int) ∧ (k:Int) < (nb:Int) := by omega
            clear hcb hd' e0 e1 e2 e3 e4 e5 g1' g2' g3'
            go_wp2_with fail
            refine (HAI.out.swap.lead d'.k d'.t d'.n d'.rev d'.yes d'.na d'.nn d'.nc HD'.out.2.2.1 HD'.out.2.2.2).mono ?_
            rintro e w8 ⟨rfl, hap, hb8⟩
            rw [← fin_step _ _ _ _ HD'.out.1] at hap
            have HA9 := Lib.hid hap.swap
            have HB9 := Lib.hid (HBI.out.trans hb8)
            clear hap hb8
            go_wp2_with fail
            go_roundw
            case rel => exact ⟨i, k + 1, n + 1, by omega, by omega, by have := HN.out; omega, rfl, by go_num, by go_num, HA9.out, HB9.out⟩
            case measure => simp [intOf]; omega
          · obtain rfl : k = nb := by omega
            have hfa : la.take i = la := List.take_of_length_le (by have := HA.out.1; omega)
            have hfb : lb.take k = lb := List.take_of_length_le (by have := HB.out.1; omega)
            rw [hfa, hfb] at HAI
            have HSX := Lib.hid HAI.out.status
            clear hfa hfb
            go_wp2_with fail
            refine HSX.out.mono ?_
            rintro e w8 ⟨rfl, hb8⟩
            have HA9 := Lib.hid (HAI.out.below hb8)
            have HB9 := Lib.hid (HBI.out.trans (hb8.mono HBI.out.size))
            have HSY := Lib.hid HA9.out.swap.status
            clear hb8 HSX
            go_wp2_with fail
            refine HSY.out.mono ?_
            rintro e w9 ⟨rfl, hb9⟩
            have HBA := Lib.hid (HB9.out.trans (hb9.mono HB9.out.size))
            have HE7 := Lib.hid (HEW.out.kept (HBA.out.block _ HEW.out.lt))
            have HBW := Lib.hid (bell_up HWR0.out HBA.out)
            clear hb9 HSY
            have p0 := HE7.out.cell 0
            have p1 := HE7.out.cell 1
            have p2 := HE7.out.cell 2
            have p3 := HE7.out.cell 3
            have s1 := svw_in (fin_ok la V0 v0_ok)
            have s2 := svw_in (fin_ok lb V0 v0_ok)
            have heq1 := eq_end _ _ s1.1 s1.2 w9
            have heq2 := eq_end _ _ s2.1 s2.2 w9
            clear s1 s2
            go_wp2_with fail
            go_ret
            exact ⟨rfl, HBW.out⟩
end Go.Proofs.YtcbpgkkkfkkkmaaGreat
