/- The oracle is opened; its open ones. -/
import Derived.Test.YtjfllomnphppfaaZ3
namespace Go.Proofs.Ytjfllomnphppfaa
open Go.RowKit
open Go.Maps (Keyed)

section
variable {w w' : World} {B go gl mb g o r : Nat} {v row : Value} {L : List Iss} {ms : List MsgD}
theorem rep_take_succ {i : Nat} {m : MsgD} (h : ms[i]? = some m) : rep (ms.take (i + 1)) = rstep (rep (ms.take i)) m := by
  rw [List.take_succ_eq_append_getElem (List.getElem?_eq_some_iff.1 h).1, rep_snoc, (List.getElem?_eq_some_iff.1 h).2]
theorem rep_take_len (i : Nat) : (rep (ms.take i)).length ≤ ms.length := by
  have h1 := rep_len (ms.take i)
  have h2 := List.length_take_le i ms
  have h3 : (ms.take i).length ≤ ms.length := List.length_take_le' i ms
  omega
/-- How far the records are read. -/
def StO (w wr : World) (go gl mb : Nat) (row : Value) (L : List Iss) : Prop := OrAt wr w.heap.size go gl mb row L (leadN L) ∧ Below w.heap.size w wr
theorem OrAt.made (w : World) (gl : Nat) : OrAt ((w.alloc (.map #[] 0)).alloc (.cells #[.pointer (some ⟨gl, 0, none⟩), .slice none 0 0, .map (some w.heap.size), .int .i64 0] 65)) w.heap.size (w.heap.size + 1) gl w.heap.size (.slice none 0 0) [] 0 := by
  have hs : (w.alloc (.map #[] 0)).heap.size = w.heap.size + 1 := by simp
  have h1 := heap_alloc_new (w.alloc (.map #[] 0)) (.cells #[.pointer (some ⟨gl, 0, none⟩), .slice none 0 0, .map (some w.heap.size), .int .i64 0] 65)
  rw [hs] at h1
  refine ⟨h1, ⟨rfl, .inl ⟨rfl, rfl⟩⟩, ⟨_, (MapAt.made w Try.prog 2).below (below_alloc _ _), fun k _ => rfl⟩, Rise.nil, by simp, by omega, Nat.le_refl _⟩
set_option maxRecDepth 100000 in
set_option maxHeartbeats 8000000 in
theorem oopen_any (w : World) (gl : Nat) (a : Option Addr) (n c : Nat) (hx : MsgsIn w a n ms) (hn : n ≤ 1048575) :
    Calls Try.prog 19 #[.pointer (some ⟨gl, 0, none⟩), .slice a n c] w fun e w' => ∃ go mb row, e = .returned (.pointer (some ⟨go, 0, none⟩)) ∧ OrAt w' w.heap.size go gl mb row (rep ms) (leadN (rep ms)) ∧ Below w.heap.size w w' := by
  have HX := Lib.hid hx
  have HN := Lib.hid (show n = ms.length from hx.1.symm)
  have HML := Lib.hid (rep_take_len (ms := ms))
  have HMD := Lib.hid (OrAt.made w gl)
  have hmm := @run_makeMap Try.prog
  clear hx
  go_enter Try.func19, Try.ntmps19
  go_wp2_with fail
  have HS0 := Lib.hid (show StO w ((w.alloc (.map #[] 0)).alloc (.cells #[.pointer (some ⟨gl, 0, none⟩), .slice none 0 0, .map (some w.heap.size), .int .i64 0] 65)) (w.heap.size + 1) gl w.heap.size (.slice none 0 0) [] from ⟨HMD.out, (below_alloc w _).trans ((below_alloc _ _).mono (by simp))⟩)
  go_loopw [14] (fun iv wr => ∃ (i : Nat) (row : Value), i ≤ n ∧ iv = .int .i64 i ∧ StO w wr (w.heap.size + 1) gl w.heap.size row (rep (ms.take i))) (fun iv _ => n - (intOf iv).toNat)
  case atStart => exact ⟨0, _, by omega, rfl, HS0.out⟩
  case round =>
    obtain ⟨i, row, hin, rfl, hst⟩ := hrel
    have HST := Lib.hid hst
    clear hst
    by_cases hil : i < n
    · obtain ⟨b, off, rfl, hbl, hcc⟩ := HX.out.2.resolve_left (by omega)
      obtain ⟨m, hmi⟩ := get_some HX.out.1 hil
      have HTS := Lib.hid (rep_take_succ hmi)
      obtain ⟨s8, s9, s10, s11, hbx, hmin⟩ := (hcc i m hmi)
      obtain ⟨q0, q1, q2, q3, q4, q5, q6, q7, q8, q9, q10, q11⟩ := hbx
      have p0 := (HST.out.2.cell (p := ⟨b, off + i * 12, none⟩) hbl).trans q0
      have p1 := (HST.out.2.cell (p := ⟨b, off + i * 12 + 1, none⟩) hbl).trans q1
      have p2 := (HST.out.2.cell (p := ⟨b, off + i * 12 + 2, none⟩) hbl).trans q2
      have p3 := (HST.out.2.cell (p := ⟨b, off + i * 12 + 3, none⟩) hbl).trans q3
      have p4 := (HST.out.2.cell (p := ⟨b, off + i * 12 + 4, none⟩) hbl).trans q4
      have p5 := (HST.out.2.cell (p := ⟨b, off + i * 12 + 5, none⟩) hbl).trans q5
      have p6 := (HST.out.2.cell (p := ⟨b, off + i * 12 + 6, none⟩) hbl).trans q6
      have p7 := (HST.out.2.cell (p := ⟨b, off + i * 12 + 7, none⟩) hbl).trans q7
      have p8 := (HST.out.2.cell (p := ⟨b, off + i * 12 + 8, none⟩) hbl).trans q8
      have p9 := (HST.out.2.cell (p := ⟨b, off + i * 12 + 9, none⟩) hbl).trans q9
      have p10 := (HST.out.2.cell (p := ⟨b, off + i * 12 + 10, none⟩) hbl).trans q10
      have p11 := (HST.out.2.cell (p := ⟨b, off + i * 12 + 11, none⟩) hbl).trans q11
      have HMB := Lib.hid (fun w' (hb : Below w.heap.size w w') => (show MsgB w' w.heap.size (.agg #[.int .i64 m.kind, .int .i64 m.from_, .int .i64 m.«to», .int .i64 m.id, .int .i64 m.rev, .int .i64 m.epoch, .int .i64 m.slot, .bool m.flag, s8, s9, s10, s11]) m from MsgB.below hmin hb))
      have hshape : ∃ a8 n8 c8 a9 n9 c9 a10 n10 c10 a11 n11 c11, s8 = .slice a8 n8 c8 ∧ s9 = .slice a9 n9 c9 ∧ s10 = .slice a10 n10 c10 ∧ s11 = .slice a11 n11 c11 := by
        obtain ⟨na, ma, pa, ra, nn, nc, mn, mc, pn, pc, rn, rc, h⟩ := hmin
        have hv := h.val
        injection hv with hv
        injection hv with hv
        simp only [List.cons.injEq, and_true] at hv
        obtain ⟨_, _, _, _, _, _, _, _, rfl, rfl, rfl, rfl⟩ := hv
        exact ⟨_, _, _, _, _, _, _, _, _, _, _, _, rfl, rfl, rfl, rfl⟩
      obtain ⟨a8, n8, c8, a9, n9, c9, a10, n10, c10, a11, n11, c11, rfl, rfl, rfl, rfl⟩ := hshape
      clear hcc hmi hmin q0 q1 q2 q3 q4 q5 q6 q7 q8 q9 q10 q11
      obtain ⟨X, hX, hwx, hbx⟩ := alloc_box wr #[.int .i64 m.kind, .int .i64 m.from_, .int .i64 m.«to», .int .i64 m.id, .int .i64 m.rev, .int .i64 m.epoch, .int .i64 m.slot, .bool m.flag, .slice a8 n8 c8, .slice a9 n9 c9, .slice a10 n10 c10, .slice a11 n11 c11]
      have hbX : Below w.heap.size w X := HST.out.2.trans (hbx.mono HST.out.2.size)
      have HTK := Lib.hid (take_any X (.agg #[.int .i64 m.kind, .int .i64 m.from_, .int .i64 m.«to», .int .i64 m.id, .int .i64 m.rev, .int .i64 m.epoch, .int .i64 m.slot, .bool m.flag, .slice a8 n8 c8, .slice a9 n9 c9, .slice a10 n10 c10, .slice a11 n11 c11]) m ((HMB.out X hbX).msg hbX.size) (HST.out.1.below hbx) (by have := HML.out i; have := HN.out; omega) hbX.size)
      have HOX := Lib.hid (HST.out.1.below hbx)
      have HBX := Lib.hid hbX
      have hij : (0:Int) ≤ (i:Int) ∧ (i:Int) < (n:Int) := by omega
      go_upto_region 5 with fail
      rw [← hX]
      have k0 := hwx.cell 0
      have k1 := hwx.cell 1
      have k2 := hwx.cell 2
      have k3 := hwx.cell 3
      have k4 := hwx.cell 4
      have k5 := hwx.cell 5
      have k6 := hwx.cell 6
      have k7 := hwx.cell 7
      have k8 := hwx.cell 8
      have k9 := hwx.cell 9
      have k10 := hwx.cell 10
      have k11 := hwx.cell 11
      clear hX hwx hbx hbX p0 p1 p2 p3 p4 p5 p6 p7 p8 p9 p10 p11
      go_wp2_with fail
      refine HTK.out.mono ?_
      rintro e w4 ⟨rfl, row', hO4, hC4, hr4⟩
      have HS4 := Lib.hid (show StO w w4 (w.heap.size + 1) gl w.heap.size row' (rep (ms.take (i + 1))) from ⟨by rw [HTS.out]; exact hO4, HBX.out.trans (hC4.below (fun k hk => HOX.out.ge hk) HBX.out.size)⟩)
      clear hO4 hC4 hr4
      go_wp2_with fail
      exact ⟨⟨i + 1, row', by omega, by go_num, HS4.out⟩, by simp [intOf]; omega⟩
    · obtain rfl : i = n := by omega
      have HE := Lib.hid (show ms.take i = ms by rw [HN.out, List.take_length])
      go_wp2
      go_ret
      exact ⟨_, _, row, rfl, by have := HST.out.1; rwa [HE.out] at this, HST.out.2⟩
theorem OrAt.lies (h : OrAt w B go gl mb row L o) : ∃ a c, row = .slice a L.length c ∧ Lies w 67 4 B a L.length c (iscs L) := Lies.owned h.row
theorem iscs_drop (L : List Iss) (k : Nat) : (iscs L).drop (k * 4) = iscs (L.drop k) := fm_drop isc_len L k
theorem one12 (x : Iss) : ∀ u ∈ ([.int .i64 1, .int .i64 x.fr, .int .i64 0, .int .i64 x.id, .int .i64 x.rev, .int .i64 0, .int .i64 0, .bool false, .slice none 0 0, .slice none 0 0, .slice none 0 0, .slice none 0 0] : List Value), u.oneCell' = true := by
  intro u hu
  simp only [List.mem_cons, List.not_mem_nil, or_false] at hu
  rcases hu with rfl | rfl | rfl | rfl | rfl | rfl | rfl | rfl | rfl | rfl | rfl | rfl <;> rfl
/-- How far the open ones are gathered. -/
def StG (w wr : World) (M : List Iss) (v : Value) : Prop := AllAt wr w.heap.size v (pend M) ∧ Below w.heap.size w wr
theorem StG.nil (w wr : World) (hb : Below w.heap.size w wr) : StG w wr [] (.slice none 0 0) := ⟨AllAt.nil _ _, hb⟩
theorem pend_rng {M N : List Iss} (h : M <+: N) (hl : N.length ≤ 1048576) : (pend M).length ≤ 1048576 := Nat.le_trans (pend_le M) (Nat.le_trans h.length_le hl)
theorem take_succ_snoc {M : List Iss} {i : Nat} {x : Iss} (h : M[i]? = some x) : M.take (i + 1) = M.take i ++ [x] := by
  rw [List.take_succ_eq_append_getElem (List.getElem?_eq_some_iff.1 h).1, (List.getElem?_eq_some_iff.1 h).2]
set_option maxRecDepth 100000 in
set_option maxHeartbeats 8000000 in
theorem pending_any (w : World) (h : OrAt w B go gl mb row L (leadN L)) :
    Calls Try.prog 14 #[.pointer (some ⟨go, 0, none⟩)] w fun e w' => ∃ a c, e = .returned (.slice a (pend L).length c) ∧ AllAt w' w.heap.size (.slice a (pend L).length c) (pend L) ∧ Below w.heap.size w w' := by
  obtain ⟨i0, hi0, hz0, hz1, hz2⟩ := info_parts Try.infoG
  obtain ⟨_, c1, _, c3, _, _⟩ := h.cells
  have hle := leadN_le L
  have hlen := h.len
  obtain ⟨a, c, hrow, hL⟩ := h.lies
  subst hrow
  have hT := hL.tail hle
  rw [iscs_drop] at hT
  have hsl := fun w => slice_tailK (P := Try.prog) (t := 62) (e := 67) (k := 4) rfl rfl a L.length c (leadN L) hle w (by kernel_rfl)
  have HPL := Lib.hid (pend_lead L)
  have HRNG := Lib.hid h.rise.rng
  have HPOS := Lib.hid h.rise.pos
  have HMEM := Lib.hid (fun (x : Iss) (i : Nat) (hx : (L.drop (leadN L))[i]? = some x) => (List.drop_sublist (leadN L) L).subset (List.mem_of_getElem? hx))
  have HT := Lib.hid hT
  have hml : (L.drop (leadN L)).length = L.length - leadN L := List.length_drop
  have HML := Lib.hid hml
  have HLEN := Lib.hid hlen
  clear h hL hT hml
  generalize L.drop (leadN L) = M at *
  generalize tailK 4 a c (leadN L) = ta at *
  generalize leadN L = ld at *
  generalize hn : L.length = n at *
  generalize hkk : n - ld = k at *
  generalize c - ld = tc at *
  have HPE := Lib.hid (fun v w' (h : StG w w' M v) => (show ∃ a c, v = .slice a (pend L).length c ∧ AllAt w' w.heap.size (.slice a (pend L).length c) (pend L) ∧ Below w.heap.size w w' from by
    obtain ⟨h1, h2⟩ := h
    obtain ⟨a', c', rfl, _⟩ := h1.slice
    rw [HPL.out] at h1 ⊢
    exact ⟨a', c', rfl, h1, h2⟩))
  have HKN := Lib.hid (show k ≤ 1048576 by omega)
  clear hkk hn
  go_enter Try.func14, Try.ntmps14
  go_wp2_with fail
  go_quiet (fail)
  have hbq := below_drewN w nq
  generalize w.drewN nq = wq at *
  have HS0 := Lib.hid (StG.nil w wq hbq)
  clear hbq
  go_wp2_with fail
  go_loopw [3, 16] (fun av iv wr => ∃ (i : Nat) (ra : Option Addr) (rc : Nat), i ≤ k ∧ iv = .int .i64 i ∧ av = .slice ra (pend (M.take i)).length rc ∧ StG w wr (M.take i) (.slice ra (pend (M.take i)).length rc)) (fun _ iv _ => k - (intOf iv).toNat)
  case atStart => exact ⟨0, none, 0, by omega, rfl, rfl, HS0.out⟩
  case round =>
    obtain ⟨i, ra, rc, hin, rfl, rfl, hst⟩ := hrel
    have HST := Lib.hid hst
    clear hst
    by_cases hil : i < k
    · obtain ⟨b, off, rfl, hbl, _⟩ := HT.out.addr (by omega)
      obtain ⟨x, hx⟩ : ∃ x, M[i]? = some x := ⟨_, List.getElem?_eq_getElem (by have := HML.out; omega)⟩
      obtain ⟨q0, q1, q2, q3⟩ := iscs_at hx
      have hoff : off + i * 4 = off + i * 4 := rfl
      have p0 := (HST.out.2.cell (p := ⟨b, off + i * 4, none⟩) hbl).trans (HT.out.cell q0)
      have p1 := (HST.out.2.cell (p := ⟨b, off + i * 4 + 1, none⟩) hbl).trans (HT.out.cell q1)
      have p2 := (HST.out.2.cell (p := ⟨b, off + i * 4 + 2, none⟩) hbl).trans (HT.out.cell q2)
      have p3 := (HST.out.2.cell (p := ⟨b, off + i * 4 + 3, none⟩) hbl).trans (HT.out.cell q3)
      have hr := HRNG.out x (HMEM.out x i hx)
      have hp := HPOS.out x (HMEM.out x i hx)
      have HXX := Lib.hid (take_succ_snoc hx)
      have HPS := Lib.hid (pend_snoc (M.take i) x)
      have HMI := Lib.hid (fun W => od_in W (show InI 1 by unfold InI; omega) hr.2 hr.1 (show InI x.rev by unfold InI; omega))
      have hij : (0:Int) ≤ (i:Int) ∧ (i:Int) < (k:Int) := by omega
      have hkn := HKN.out
      have hpl : (pend (M.take i)).length ≤ 1048576 := by have := pend_le (M.take i); have h1 := List.length_take_le i M; have := HKN.out; omega
      clear q0 q1 q2 q3 hx hoff hr hp
      obtain ⟨X, hX, hwx, hbx⟩ : ∃ X, X = wr.alloc (.cells #[.int .i64 x.rev, .int .i64 x.id, .int .i64 x.fr, .bool x.done] 67) ∧ Whole X wr.heap.size 67 #[.int .i64 x.rev, .int .i64 x.id, .int .i64 x.fr, .bool x.done] ∧ Below wr.heap.size wr X := ⟨_, rfl, heap_alloc_new _ _, below_alloc _ _⟩
      have HX2 := Lib.hid (show StG w X (M.take i) (.slice ra (pend (M.take i)).length rc) from ⟨HST.out.1.below hbx HST.out.2.size, HST.out.2.trans (hbx.mono HST.out.2.size)⟩)
      go_upto_region 5 with fail
      rw [← hX]
      have k0 := hwx.cell 0
      have k1 := hwx.cell 1
      have k2 := hwx.cell 2
      have k3 := hwx.cell 3
      clear hX hwx hbx p0 p1 p2 p3
      cases hd : x.done
      · rw [hd] at HPS k3
        simp only [Bool.false_eq_true, if_false] at HPS
        obtain ⟨ss, hss, hrow, hall⟩ := HX2.out.1
        have HROW := Lib.hid hrow
        have HSZ := Lib.hid HX2.out.2.size
        clear hd hss hrow hall
        go_wp2_with (at_builtin; refine wpList_append_at_any _ rfl _ _ 45 rfl w.heap.size 37 i0 (.agg MsgZ) 12 160 Try.underlying45 hi0 hz0 hz1 hz2 rfl (by decide) _ (pend (M.take i)).length _ rfl (HROW.out.alloc _) (some ⟨X.heap.size, 0, none⟩) 1 1 [.int .i64 1, .int .i64 x.fr, .int .i64 0, .int .i64 x.id, .int .i64 x.rev, .int .i64 0, .int .i64 0, .bool false, .slice none 0 0, .slice none 0 0, .slice none 0 0, .slice none 0 0] rfl rfl (by intro h; cases h) (by rintro ad he; injection he with he; subst he; exact cells_new _ [.int .i64 1, .int .i64 x.fr, .int .i64 0, .int .i64 x.id, .int .i64 x.rev, .int .i64 0, .int .i64 0, .bool false, .slice none 0 0, .slice none 0 0, .slice none 0 0, .slice none 0 0] _) (one12 x) (by unfold maxLen; omega) (by omega) (by have := HSZ.out; simp; omega) ?_; intro v2 w5 hown5 hgrow5 hat5)
        have hbe := below_alloc X (.cells #[.int .i64 1, .int .i64 x.fr, .int .i64 0, .int .i64 x.id, .int .i64 x.rev, .int .i64 0, .int .i64 0, .bool false, .slice none 0 0, .slice none 0 0, .slice none 0 0, .slice none 0 0] 37)
        have hA5 := (HX2.out.1.below hbe HSZ.out).step (w' := w5) (v' := v2) (m := oD 1 x.fr x.id x.rev) (s := (.slice none 0 0, .slice none 0 0, .slice none 0 0, .slice none 0 0)) (Nat.le_trans HSZ.out hbe.size) (MsgB.below (B := w.heap.size) (HMI.out w) (HX2.out.2.trans (hbe.mono HSZ.out))) (fun l hl => by rw [row_one hl (HROW.out.alloc _)]; exact hown5) hgrow5
        obtain ⟨ra5, rc5, rfl, _, _⟩ := owned_some hown5
        have hEQ : pend (M.take (i + 1)) = pend (M.take i) ++ [oD 1 x.fr x.id x.rev] := by rw [HXX.out, HPS.out]
        have hl5 : (pend (M.take i)).length + 1 = (pend (M.take (i + 1))).length := by rw [hEQ]; simp
        rw [← hEQ, hl5] at hA5
        have HS5 := Lib.hid (show StG w w5 (M.take (i + 1)) (.slice ra5 (pend (M.take (i + 1))).length rc5) from ⟨hA5.1, (HX2.out.2.trans (hbe.mono HSZ.out)).trans hA5.2⟩)
        rw [hl5]
        clear hown5 hgrow5 hat5 hbe hA5 hEQ hl5 k0 k1 k2 k3 HPS
        exact ⟨⟨i + 1, ra5, rc5, by omega, by go_num, rfl, HS5.out⟩, by simp [intOf]; omega⟩
      · rw [hd] at HPS k3
        simp only [if_true, List.append_nil] at HPS
        have hEQ : pend (M.take (i + 1)) = pend (M.take i) := by rw [HXX.out, HPS.out]
        have HS5 := Lib.hid (show StG w X (M.take (i + 1)) (.slice ra (pend (M.take (i + 1))).length rc) from by unfold StG; rw [hEQ]; exact HX2.out)
        have HEQ := Lib.hid hEQ
        clear hd hEQ HPS
        go_wp2_with fail
        exact ⟨⟨i + 1, ra, rc, by omega, by go_num, by rw [HEQ.out], HS5.out⟩, by simp [intOf]; omega⟩
    · obtain rfl : i = k := by omega
      have HE := Lib.hid (show M.take i = M by rw [← HML.out, List.take_length])
      go_wp2
      go_ret
      have := HST.out
      rw [HE.out] at this
      obtain ⟨a', c', he, h2⟩ := HPE.out _ _ this
      exact ⟨a', c', by rw [HE.out, he]; rfl, h2⟩
end
end Go.Proofs.Ytjfllomnphppfaa
