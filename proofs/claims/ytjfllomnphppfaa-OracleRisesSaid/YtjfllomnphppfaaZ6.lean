/- OracleFull. -/
import Derived.Test.YtjfllomnphppfaaZ5
namespace Go.Proofs.Ytjfllomnphppfaa
open Go.RowKit

theorem rwrong_any (r : Int) (w : World) : Calls Try.prog 7 #[.int .i64 r] w fun e w' => e = .returned (.int .i64 (if r < 0 ∨ 1048576 < r then 1 else 0)) ∧ w = w' := by
  by_cases h : r < 0
  · go_enter Try.func7, Try.ntmps7
    go_wp2
    go_ret
    exact ⟨rfl, rfl⟩
  · by_cases h2 : 1048576 < r
    · go_enter Try.func7, Try.ntmps7
      go_wp2
      go_ret
      exact ⟨rfl, rfl⟩
    · go_enter Try.func7, Try.ntmps7
      go_wp2
      go_ret
      exact ⟨rfl, rfl⟩
def IntsL (w : World) (a : Option Addr) (n : Nat) (l : List Int) : Prop := l.length = n ∧ (n = 0 ∨ ∃ b off, a = some ⟨b, off, none⟩ ∧ b < w.heap.size ∧ ∀ i z, l[i]? = some z → w.cell? ⟨b, off + i, none⟩ = some (.int .i64 z)) ∧ ∀ x ∈ l, InI x
section
variable {w w' : World} {B go gl mb g o r : Nat} {v row : Value} {L : List Iss} {ms : List MsgD}
/-- All revisions are from one on. -/
def Own (L : List Iss) : Prop := lastR L = (L.length : Int)
theorem Own.nil : Own [] := rfl
theorem Own.issue {k f : Int} (h : Own L) (hj : idx L k = none) : rstep L (oD 1 f k (lastR L + 1)) = L ++ [⟨lastR L + 1, k, f, false⟩] ∧ Own (L ++ [⟨lastR L + 1, k, f, false⟩]) := by
  have h1 : rstep L (oD 1 f k (lastR L + 1)) = L ++ [⟨lastR L + 1, k, f, false⟩] := rstep_new rfl hj (by show lastR L < lastR L + 1; omega)
  refine ⟨h1, ?_⟩
  unfold Own at h ⊢
  rw [lastR_push, List.length_append]
  simp
  omega
theorem idx_new {k f q : Int} (hj : idx L k = none) : idx (L ++ [⟨q, k, f, false⟩]) k = some L.length ∧ (L ++ [(⟨q, k, f, false⟩ : Iss)])[L.length]? = some ⟨q, k, f, false⟩ := by
  refine ⟨?_, by simp⟩
  rw [idx_push, if_neg (idx_none_iff.1 hj), if_pos rfl]
/-- How far OracleFull has come. -/
def StF (w wr : World) (go gl mb g : Nat) (v row : Value) (ms : List MsgD) (r : Nat) : Prop := OS wr w.heap.size go gl mb g v row ms r ∧ Below w.heap.size w wr ∧ Own (rep ms)
theorem StF.below {wr wx : World} (h : StF w wr go gl mb g v row ms r) (hb : Below wr.heap.size wr wx) : StF w wx go gl mb g v row ms r := ⟨h.1.below hb, bell_up h.2.1 hb, h.2.2⟩
/-- What the law's first Issue comes to: the answer's cases. -/
theorem StF.issue {wr : World} (h : StF w wr go gl mb g v row ms r) (k f : Int) (hk : InI k) (hf : InI f) :
    Calls Try.prog 9 #[.pointer (some ⟨go, 0, none⟩), .int .i64 k, .int .i64 f] wr fun e w' => ∃ q c : Int, e = .returned (.tuple #[.int .i64 q, .int .i64 c]) ∧
      ((c = 0 ∧ 1 ≤ q ∧ q ≤ lastR (rep ms) + 1 ∧ ∃ v' row' ms', StF w w' go gl mb g v' row' ms' r ∧ Chg wr w' (SB go gl mb g v row) ∧ lastR (rep ms') ≤ lastR (rep ms) + 1 ∧ ∃ j x, idx (rep ms') k = some j ∧ (rep ms')[j]? = some x ∧ x.rev = q) ∨
       (c = 3 ∧ q = 0 ∧ StF w w' go gl mb g v row ms r ∧ Below wr.heap.size wr w')) := by
  have hr := h.1.ora.rise
  have hlr := hr.last_rng
  have hfew := h.1.few
  cases hj : idx (rep ms) k with
  | some j =>
    obtain ⟨j', x, h1, hx, _⟩ := idx_some (L := rep ms) (k := k) (by
      by_cases hn : k ∈ (rep ms).map (·.id)
      · exact hn
      · rw [idx_none hn] at hj; cases hj)
    rw [hj] at h1
    injection h1 with h1
    subst h1
    refine (issue_old wr h.1 k f hk j x hj hx).mono ?_
    rintro e w' ⟨rfl, rfl⟩
    have hp := hr.pos x (List.mem_of_getElem? hx)
    have hp2 := hr.le_last (List.mem_of_getElem? hx)
    exact ⟨x.rev, 0, rfl, .inl ⟨rfl, hp.1, by omega, v, row, ms, h, Chg.refl _ _, by omega, j, x, hj, hx, rfl⟩⟩
  | none =>
    have hown : lastR (rep ms) = ((rep ms).length : Int) := h.2.2
    refine (issue_new wr h.1 h.2.1.size k f hk hf hj (by omega)).mono ?_
    rintro e w' ⟨c, rfl, ⟨rfl, _, v', row', h1, h2⟩ | ⟨rfl, _, h1, h2⟩⟩
    · obtain ⟨e1, e2⟩ := h.2.2.issue (f := f) hj
      obtain ⟨e3, e4⟩ := idx_new (L := rep ms) (f := f) (q := lastR (rep ms) + 1) hj
      have e5 : rep (ms ++ [oD 1 f k (lastR (rep ms) + 1)]) = rep ms ++ [⟨lastR (rep ms) + 1, k, f, false⟩] := by rw [rep_snoc, e1]
      refine ⟨lastR (rep ms) + 1, 0, rfl, .inl ⟨rfl, by omega, Int.le_refl _, v', row', _, ⟨h1, h.2.1.trans (h.1.sb_ge h2 h.2.1.size), by rw [e5]; exact e2⟩, h2, by rw [e5, lastR_push]; exact Int.le_refl _, (rep ms).length, ⟨lastR (rep ms) + 1, k, f, false⟩, by rw [e5]; exact e3, by rw [e5]; exact e4, rfl⟩⟩
    · exact ⟨0, 3, rfl, .inr ⟨rfl, rfl, ⟨h1, bell_up h.2.1 h2, h.2.2⟩, h2⟩⟩
set_option maxRecDepth 100000 in
set_option maxHeartbeats 4000000 in
theorem full_bad (a : Option Addr) (n c : Nat) (q : Int) (w : World) (h : q < 0 ∨ 1048576 < q) :
    Calls Try.prog 4 #[.slice a n c, .int .i64 q] w fun e w' => e = .returned (.bool true) ∧ Below w.heap.size w w' := by
  have HW := Lib.hid (fun w => rwrong_any q w)
  simp only [if_pos h] at HW
  have H := Lib.hid h
  clear h
  go_enter Try.func4, Try.ntmps4
  go_wp2_with fail
  refine (awake_any _).mono ?_
  rintro e w1 ⟨rfl, hb⟩
  have HB := Lib.hid hb
  have HN := Lib.hid (Dk.new_bad q w1 H.out)
  clear hb
  go_wp2_with fail
  refine HN.out.mono ?_
  rintro e w2 ⟨rfl, rfl⟩
  go_wp2_with fail
  refine (HW.out _).mono ?_
  rintro e w3 ⟨rfl, rfl⟩
  go_wp2
  go_ret
  exact ⟨rfl, HB.out⟩
set_option maxRecDepth 100000 in
set_option maxHeartbeats 8000000 in
theorem full_good (a : Option Addr) (n c : Nat) (l : List Int) (q : Nat) (w : World) (hx : IntsL w a n l) (hn : n ≤ 9223372036854775807) (hq : q ≤ 1048576) :
    Calls Try.prog 4 #[.slice a n c, .int .i64 (q : Int)] w fun e w' => e = .returned (.bool true) ∧ Below w.heap.size w w' := by
  have HX := Lib.hid hx
  have HQ := Lib.hid hq
  clear hx hq
  go_enter Try.func4, Try.ntmps4
  go_wp2_with fail
  refine (awake_any _).mono ?_
  rintro e w1 ⟨rfl, hb1⟩
  have HN := Lib.hid (Dk.new_good w.heap.size q w1 HQ.out hb1.size)
  have HB1 := Lib.hid hb1
  clear hb1
  go_wp2_with fail
  refine HN.out.mono ?_
  rintro e w2 ⟨rfl, hd2, hb2⟩
  have HB2 := Lib.hid (bell_up HB1.out hb2)
  have HGE := Lib.hid HB1.out.size
  have HO2 := Lib.hid (opened_any (ms := []) w2 0 hd2 (by simp) HB2.out.size)
  clear hd2 hb2 HN
  generalize w1.heap.size = g at *
  go_wp2_with fail
  refine HO2.out.mono ?_
  rintro e w3 ⟨go, gl, mb, v3, row3, rfl, hos, hch, _⟩
  have HS3 := Lib.hid (show StF w w3 go gl mb g v3 row3 [] q from ⟨hos, HB2.out.trans (hch.below (fun k hk => by rw [hk]; exact HGE.out) HB2.out.size), Own.nil⟩)
  clear hos hch HO2
  go_wp2_with fail
  go_loopw [35] (fun iv wr => ∃ (i : Nat) (v row : Value) (ms : List MsgD), i ≤ n ∧ iv = .int .i64 i ∧ StF w wr go gl mb g v row ms q) (fun iv _ => n - (intOf iv).toNat)
  case atStart => exact ⟨0, v3, row3, [], by omega, rfl, HS3.out⟩
  case round =>
    obtain ⟨i, v, row, ms, hin, rfl, hst⟩ := hrel
    have HST := Lib.hid hst
    clear hst
    by_cases hil : i < n
    · obtain ⟨b, off, rfl, hbl, hcc⟩ := HX.out.2.1.resolve_left (by omega)
      obtain ⟨z, hz⟩ : ∃ z, l[i]? = some z := ⟨_, List.getElem?_eq_getElem (by have := HX.out.1; omega)⟩
      have p0 := (HST.out.2.1.cell (p := ⟨b, off + i, none⟩) hbl).trans (hcc i z hz)
      have hzi := HX.out.2.2 z (List.mem_of_getElem? hz)
      have hij : (0:Int) ≤ (i:Int) ∧ (i:Int) < (n:Int) := by omega
      have hlr := HST.out.1.ora.rise.last_rng
      have hlo : lastR (rep ms) ≤ 52429 := by have h1 : lastR (rep ms) = ((rep ms).length : Int) := HST.out.2.2; have h2 := HST.out.1.few; omega
      have HLA := Lib.hid (fun W (hb : Below wr.heap.size wr W) => last_any W (HST.out.1.ora.below hb))
      have HSZ := Lib.hid (show Dk.DAt wr w.heap.size g v (cat ms) (cat ms).length q from HST.out.1.log.disk)
      have HIS := Lib.hid (fun W (hb : Below wr.heap.size wr W) => (HST.out.below hb).issue z 0 hzi (in_small (by omega)))
      have HZI := Lib.hid hzi
      have HLO := Lib.hid (And.intro hlr.1 hlo)
      clear hcc hz hlr hlo hzi
      generalize hla : lastR (rep ms) = la at *
      go_wp2_with fail
      go_quiet ((first | (go_at_call 13; exact Calls.quiet_of (HLA.out _ (below_drewN _ _))) | (go_at_call 15; exact Calls.quiet_of (Dk.size_q _ HSZ.out _))))
      have HB4 := Lib.hid (below_drewN wr nq)
      have HLE := Lib.hid hla
      clear hla
      generalize wr.drewN nq = wq at *
      go_wp2_with fail
      refine (HIS.out _ HB4.out).mono ?_
      rintro e w4 ⟨q1, c1, rfl, ⟨rfl, h1, h2, v4, row4, ms4, hst4, hch4, hl4, j, x, hj, hx, hxr⟩ | ⟨rfl, rfl, hst4, hb4⟩⟩
      · have HST4 := Lib.hid hst4
        have HSZ4 := Lib.hid (show Dk.DAt w4 w.heap.size g v4 (cat ms4) (cat ms4).length q from hst4.1.log.disk)
        have e1 : decide (q1 < 1) = false := by simp; omega
        have hlo := HLO.out
        have hwr : IntKind.i64.wrap (la + 1) = la + 1 := IntWalk.i64_in _ (by omega)
        have e2 : decide (q1 > la + 1) = false := by simp; omega
        have HOLD := Lib.hid (fun W (hb : Below w4.heap.size w4 W) => issue_old W (hst4.1.below hb) z 3 HZI.out j x hj hx)
        rw [hxr] at HOLD
        clear hst4 hch4 hl4 hj hx hxr h1 h2
        obtain ⟨N4, hN4⟩ : ∃ N4, N4 = (cat ms4).length := ⟨_, rfl⟩
        rw [← hN4] at HSZ4
        have HN4 := Lib.hid hN4
        clear hN4
        go_wp2_with fail
        go_quiet ((first | (go_at_call 16; exact Calls.quiet_of (Dk.durable_q _ HSZ4.out _)) | (go_at_call 15; exact Calls.quiet_of (by have := Dk.size_q _ HSZ4.out; rw [← HN4.out] at this; exact this _))))
        have HB5 := Lib.hid (below_drewN w4 nq)
        generalize w4.drewN nq = w5 at *
        go_wp2_with fail
        refine (HOLD.out _ HB5.out).mono ?_
        rintro e w6 ⟨rfl, rfl⟩
        go_wp2_with fail
        exact ⟨⟨i + 1, v4, row4, ms4, by omega, by go_num, HST4.out.below HB5.out⟩, by simp [intOf]; omega⟩
      · have HST4 := Lib.hid hst4
        have HSZ4 := Lib.hid (show Dk.DAt w4 w.heap.size g v (cat ms) (cat ms).length q from hst4.1.log.disk)
        have HLA4 := Lib.hid (fun W (hb : Below w4.heap.size w4 W) => last_any W (hst4.1.ora.below hb))
        rw [HLE.out] at HLA4
        have HIS4 := Lib.hid (fun W (hb : Below w4.heap.size w4 W) => (hst4.below hb).issue z 3 HZI.out (in_small (by omega)))
        clear hst4 hb4
        go_wp2_with fail
        go_quiet ((first | (go_at_call 13; exact Calls.quiet_of (HLA4.out _ (below_drewN _ _))) | (go_at_call 15; exact Calls.quiet_of (Dk.size_q _ HSZ4.out _))))
        have HB5 := Lib.hid (below_drewN w4 nq)
        generalize w4.drewN nq = w5 at *
        go_wp2_with fail
        refine (HIS4.out _ HB5.out).mono ?_
        rintro e w6 ⟨q2, c2, rfl, hc⟩
        have HC := Lib.hid (show ∃ v' row' ms', StF w w6 go gl mb g v' row' ms' q from by
          rcases hc with ⟨_, _, _, v', row', ms', h, _⟩ | ⟨_, _, h, _⟩
          · exact ⟨v', row', ms', h⟩
          · exact ⟨v, row, ms, h⟩)
        clear hc
        go_wp2_with fail
        obtain ⟨v', row', ms', h⟩ := HC.out
        exact ⟨⟨i + 1, v', row', ms', by omega, by go_num, h⟩, by simp [intOf]; omega⟩
    · obtain rfl : i = n := by omega
      have HOP := Lib.hid (opened_any (ms := ms) wr _ (show Dk.DAt wr w.heap.size g v (cat ms) (cat ms).length q from HST.out.1.log.disk) HST.out.1.fine HST.out.2.1.size)
      go_wp2_with fail
      refine HOP.out.mono ?_
      rintro e w4 ⟨go4, gl4, mb4, v4, row4, rfl, hos, hch, _⟩
      have hng : ¬ OB go mb row g := HST.out.1.ora.other (show Whole wr g 54 _ from HST.out.1.log.disk.blk) (by decide) (by decide)
      have ho4 : OrAt w4 w.heap.size go gl mb row (rep ms) (leadN (rep ms)) := HST.out.1.ora.kept fun k hk => hch.block k (HST.out.1.ora.lt hk) (fun e => hng (by rw [← e]; exact hk))
      have HB4 := Lib.hid (show Below w.heap.size w w4 from HST.out.2.1.trans (hch.below (fun k hk => by rw [hk]; exact HGE.out) HST.out.2.1.size))
      have HP4 := Lib.hid hos.ora
      have HO4 := Lib.hid ho4
      clear hos hch hng ho4 HOP
      have HFEW := Lib.hid HST.out.1.few
      generalize rep ms = L at *
      go_wp2_with fail
      refine (last_any w4 HP4.out).mono ?_
      rintro e w5 ⟨rfl, n5, hw5⟩
      have hb5 : Below w4.heap.size w4 w5 := by rw [hw5]; exact below_drewN _ _
      have HP5 := Lib.hid (HP4.out.below hb5)
      have HO5 := Lib.hid (HO4.out.below hb5)
      have HB5 := Lib.hid (bell_up HB4.out hb5)
      clear hw5 hb5
      go_wp2_with fail
      refine (last_any w5 HO5.out).mono ?_
      rintro e w6 ⟨rfl, n6, hw6⟩
      have hb6 : Below w5.heap.size w5 w6 := by rw [hw6]; exact below_drewN _ _
      have HP6 := Lib.hid (HP5.out.below hb6)
      have HO6 := Lib.hid (HO5.out.below hb6)
      have HB6 := Lib.hid (bell_up HB5.out hb6)
      clear hw6 hb6
      generalize lastR L = la at *
      go_wp2_with fail
      refine (closed_any w6 HP6.out).mono ?_
      rintro e w7 ⟨rfl, n7, hw7⟩
      have hb7 : Below w6.heap.size w6 w7 := by rw [hw7]; exact below_drewN _ _
      have HP7 := Lib.hid (HP6.out.below hb7)
      have HO7 := Lib.hid (HO6.out.below hb7)
      have HB7 := Lib.hid (bell_up HB6.out hb7)
      clear hw7 hb7
      go_wp2_with fail
      refine (closed_any w7 HO7.out).mono ?_
      rintro e w8 ⟨rfl, n8, hw8⟩
      have hb8 : Below w7.heap.size w7 w8 := by rw [hw8]; exact below_drewN _ _
      have HP8 := Lib.hid (HP7.out.below hb8)
      have HO8 := Lib.hid (HO7.out.below hb8)
      have HB8 := Lib.hid (bell_up HB7.out hb8)
      clear hw8 hb8
      generalize closedR L = cl at *
      go_wp2_with fail
      refine (pending_any w8 HP8.out).mono ?_
      rintro e w9 ⟨pa, pc, rfl, hall, hb9⟩
      have HM9 := Lib.hid (hall.msgs hb9.size)
      have HO9 := Lib.hid (HO8.out.below hb9)
      have HB9 := Lib.hid (bell_up HB8.out hb9)
      clear hall hb9
      go_wp2_with fail
      refine (pending_any w9 HO9.out).mono ?_
      rintro e w10 ⟨pa2, pc2, rfl, hall, hb10⟩
      have HMA := Lib.hid (hall.msgs hb10.size)
      have HMB := Lib.hid (HM9.out.below hb10)
      have HB10 := Lib.hid (bell_up HB9.out hb10)
      have hpl := pend_le L
      have HPL := Lib.hid (show (pend L).length ≤ 52429 by have := HFEW.out; omega)
      clear hall hb10 hpl
      go_wp2_with fail
      refine (same_msgs pa (pend L).length pc (pend L) pa2 (pend L).length pc2 (pend L) w10 HMB.out HMA.out (by have := HPL.out; omega) (by have := HPL.out; omega)).mono ?_
      rintro e w11 ⟨res, rfl, hres, hb11⟩
      obtain rfl : res = true := hres.2 rfl
      have HB11 := Lib.hid (bell_up HB10.out hb11)
      clear hres hb11
      go_wp2
      go_ret
      exact ⟨rfl, HB11.out⟩
end
end Go.Proofs.Ytjfllomnphppfaa
