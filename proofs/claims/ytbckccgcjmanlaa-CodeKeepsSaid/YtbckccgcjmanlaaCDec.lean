/- Decode of any bytes, also of none at an address of whatever kind. -/
import Derived.Test.YtbckccgcjmanlaaCOwn
namespace Go.Proofs.Ytbckccgcjmanlaa
open Go.RowKit

set_option maxRecDepth 100000 in
set_option maxHeartbeats 1000000 in
theorem decode_of (a : Option Addr) (n c : Nat) (w : World) (xs : List Int) (hn : xs.length = n) (hl : ¬ 16384 < n) (hM : Calls Try.prog 27 #[.pointer (some ⟨w.heap.size + 1 + 1, 0, none⟩)] (decW w (.slice a n c)) (MDone (decW w (.slice a n c)) w.heap.size (w.heap.size + 1 + 1) (rmsg xs))) :
    Calls Try.prog 17 #[.slice a n c] w (DDone w (dec xs)) := by
  have hmf : ∀ (fn : Fn) (first cap : Array Value) (w : World), (Instr.makeFunc fn first cap).run Try.prog w = .ok (.func fn first cap) w := fun _ _ _ _ => rfl
  have HM := Lib.hid hM
  clear hM
  have hd : dec xs = match rmsg xs with
    | .error c => .error c
    | .ok (m, ys) => if ys = [] then .ok m else .error 21 := by rw [dec, if_neg (by omega)]; rfl
  have HD := Lib.hid hd
  clear hd
  go_enter_defers Try.func17, Try.ntmps17
  go_wp2_with fail
  refine (show Calls Try.prog 27 #[.pointer (some ⟨w.heap.size + 1 + 1, 0, none⟩)] (decW w (.slice a n c)) _ from HM.out).mono ?_
  rintro e w1 (⟨m, ys, u, v8, v9, v10, v11, hr, rfl, hO, hA, hF⟩ | ⟨cd, hr, rfl, hF⟩)
  · obtain ⟨p8, q8, rfl, _, _⟩ := owned_any hO.nodes
    obtain ⟨p9, q9, rfl, _, _⟩ := owned_some hO.muts
    obtain ⟨p10, q10, rfl, _, _⟩ := owned_some hO.pre
    obtain ⟨p11, q11, rfl, _, _⟩ := owned_some hO.rows
    obtain ⟨hp, hq, _⟩ := decW_at w (.slice a n c)
    have hp1 := hF.whole hp (by omega)
    have hq1 := hF.whole hq (by omega)
    have k0 : w1.cell? ⟨w.heap.size, 0, none⟩ = some (.int .i64 0) := by rw [hp1.cell]; rfl
    have z0 : w1.frozen? ⟨w.heap.size, 0, none⟩ = false := hp1.free 0
    have k1 : w1.cell? ⟨w.heap.size, 1, none⟩ = some (.int .i64 0) := by rw [hp1.cell]; rfl
    have z1 : w1.frozen? ⟨w.heap.size, 1, none⟩ = false := hp1.free 1
    have k2 : w1.cell? ⟨w.heap.size, 2, none⟩ = some (.int .i64 0) := by rw [hp1.cell]; rfl
    have z2 : w1.frozen? ⟨w.heap.size, 2, none⟩ = false := hp1.free 2
    have k3 : w1.cell? ⟨w.heap.size, 3, none⟩ = some (.int .i64 0) := by rw [hp1.cell]; rfl
    have z3 : w1.frozen? ⟨w.heap.size, 3, none⟩ = false := hp1.free 3
    have k4 : w1.cell? ⟨w.heap.size, 4, none⟩ = some (.int .i64 0) := by rw [hp1.cell]; rfl
    have z4 : w1.frozen? ⟨w.heap.size, 4, none⟩ = false := hp1.free 4
    have k5 : w1.cell? ⟨w.heap.size, 5, none⟩ = some (.int .i64 0) := by rw [hp1.cell]; rfl
    have z5 : w1.frozen? ⟨w.heap.size, 5, none⟩ = false := hp1.free 5
    have k6 : w1.cell? ⟨w.heap.size, 6, none⟩ = some (.int .i64 0) := by rw [hp1.cell]; rfl
    have z6 : w1.frozen? ⟨w.heap.size, 6, none⟩ = false := hp1.free 6
    have k7 : w1.cell? ⟨w.heap.size, 7, none⟩ = some (.bool false) := by rw [hp1.cell]; rfl
    have z7 : w1.frozen? ⟨w.heap.size, 7, none⟩ = false := hp1.free 7
    have k8 : w1.cell? ⟨w.heap.size, 8, none⟩ = some (.slice none 0 0) := by rw [hp1.cell]; rfl
    have z8 : w1.frozen? ⟨w.heap.size, 8, none⟩ = false := hp1.free 8
    have k9 : w1.cell? ⟨w.heap.size, 9, none⟩ = some (.slice none 0 0) := by rw [hp1.cell]; rfl
    have z9 : w1.frozen? ⟨w.heap.size, 9, none⟩ = false := hp1.free 9
    have k10 : w1.cell? ⟨w.heap.size, 10, none⟩ = some (.slice none 0 0) := by rw [hp1.cell]; rfl
    have z10 : w1.frozen? ⟨w.heap.size, 10, none⟩ = false := hp1.free 10
    have k11 : w1.cell? ⟨w.heap.size, 11, none⟩ = some (.slice none 0 0) := by rw [hp1.cell]; rfl
    have z11 : w1.frozen? ⟨w.heap.size, 11, none⟩ = false := hp1.free 11
    have hP := twelve_store hp1 (.int .i64 m.kind) (.int .i64 m.frm) (.int .i64 m.too) (.int .i64 m.id) (.int .i64 m.rev) (.int .i64 m.epoch) (.int .i64 m.slot) (.bool m.flag) (.slice p8 m.nodes.length q8) (.slice p9 m.muts.length q9) (.slice p10 m.pre.length q10) (.slice p11 m.rows.length q11)
    have hQ := twelve_whole hq1 (show w.heap.size + 1 ≠ w.heap.size by omega) (.int .i64 m.kind) (.int .i64 m.frm) (.int .i64 m.too) (.int .i64 m.id) (.int .i64 m.rev) (.int .i64 m.epoch) (.int .i64 m.slot) (.bool m.flag) (.slice p8 m.nodes.length q8) (.slice p9 m.muts.length q9) (.slice p10 m.pre.length q10) (.slice p11 m.rows.length q11)
    have hR := twelve_whole hA.blk (show w.heap.size + 1 + 1 ≠ w.heap.size by omega) (.int .i64 m.kind) (.int .i64 m.frm) (.int .i64 m.too) (.int .i64 m.id) (.int .i64 m.rev) (.int .i64 m.epoch) (.int .i64 m.slot) (.bool m.flag) (.slice p8 m.nodes.length q8) (.slice p9 m.muts.length q9) (.slice p10 m.pre.length q10) (.slice p11 m.rows.length q11)
    have hB := twelve_below (decW_rf hF) (Nat.le_refl _) (.int .i64 m.kind) (.int .i64 m.frm) (.int .i64 m.too) (.int .i64 m.id) (.int .i64 m.rev) (.int .i64 m.epoch) (.int .i64 m.slot) (.bool m.flag) (.slice p8 m.nodes.length q8) (.slice p9 m.muts.length q9) (.slice p10 m.pre.length q10) (.slice p11 m.rows.length q11)
    have hsz : w.heap.size < (decW w (.slice a n c)).heap.size := by rw [decW_size]; omega
    have hsq : w.heap.size + 1 < (decW w (.slice a n c)).heap.size := by rw [decW_size]; omega
    have hO8 := twelve_owns hO.nodes hsz (.int .i64 m.kind) (.int .i64 m.frm) (.int .i64 m.too) (.int .i64 m.id) (.int .i64 m.rev) (.int .i64 m.epoch) (.int .i64 m.slot) (.bool m.flag) (.slice p8 m.nodes.length q8) (.slice p9 m.muts.length q9) (.slice p10 m.pre.length q10) (.slice p11 m.rows.length q11)
    have hO9 := twelve_owns hO.muts hsz (.int .i64 m.kind) (.int .i64 m.frm) (.int .i64 m.too) (.int .i64 m.id) (.int .i64 m.rev) (.int .i64 m.epoch) (.int .i64 m.slot) (.bool m.flag) (.slice p8 m.nodes.length q8) (.slice p9 m.muts.length q9) (.slice p10 m.pre.length q10) (.slice p11 m.rows.length q11)
    have hO10 := twelve_owns hO.pre hsz (.int .i64 m.kind) (.int .i64 m.frm) (.int .i64 m.too) (.int .i64 m.id) (.int .i64 m.rev) (.int .i64 m.epoch) (.int .i64 m.slot) (.bool m.flag) (.slice p8 m.nodes.length q8) (.slice p9 m.muts.length q9) (.slice p10 m.pre.length q10) (.slice p11 m.rows.length q11)
    have hO11 := twelve_owns hO.rows hsz (.int .i64 m.kind) (.int .i64 m.frm) (.int .i64 m.too) (.int .i64 m.id) (.int .i64 m.rev) (.int .i64 m.epoch) (.int .i64 m.slot) (.bool m.flag) (.slice p8 m.nodes.length q8) (.slice p9 m.muts.length q9) (.slice p10 m.pre.length q10) (.slice p11 m.rows.length q11)
    have hlie := hA.lies
    have HSQ := Lib.hid hsq
    have HSZ := Lib.hid hsz
    have HR := Lib.hid hr
    clear hp hq hp1 hq1 hA hO hF hsz hsq hr HM
    unfold msgC
    go_upto_region 6 with fail
    clear k0 z0 k1 z1 k2 z2 k3 z3 k4 z4 k5 z5 k6 z6 k7 z7 k8 z8 k9 z9 k10 z10 k11 z11
    generalize ((((((((((((w1.setCell ⟨w.heap.size, 0, none⟩ (.int .i64 m.kind)).setCell ⟨w.heap.size, 1, none⟩ (.int .i64 m.frm)).setCell ⟨w.heap.size, 2, none⟩ (.int .i64 m.too)).setCell ⟨w.heap.size, 3, none⟩ (.int .i64 m.id)).setCell ⟨w.heap.size, 4, none⟩ (.int .i64 m.rev)).setCell ⟨w.heap.size, 5, none⟩ (.int .i64 m.epoch)).setCell ⟨w.heap.size, 6, none⟩ (.int .i64 m.slot)).setCell ⟨w.heap.size, 7, none⟩ (.bool m.flag)).setCell ⟨w.heap.size, 8, none⟩ (.slice p8 m.nodes.length q8)).setCell ⟨w.heap.size, 9, none⟩ (.slice p9 m.muts.length q9)).setCell ⟨w.heap.size, 10, none⟩ (.slice p10 m.pre.length q10)).setCell ⟨w.heap.size, 11, none⟩ (.slice p11 m.rows.length q11)) = W2 at *
    have kb : W2.cell? ⟨w.heap.size + 1 + 1, 0, none⟩ = some u := by rw [hR.cell]; rfl
    have k0 : W2.cell? ⟨w.heap.size, 0, none⟩ = some (.int .i64 m.kind) := by rw [hP.cell]; rfl
    have z0 : W2.frozen? ⟨w.heap.size, 0, none⟩ = false := hP.free 0
    have k1 : W2.cell? ⟨w.heap.size, 1, none⟩ = some (.int .i64 m.frm) := by rw [hP.cell]; rfl
    have z1 : W2.frozen? ⟨w.heap.size, 1, none⟩ = false := hP.free 1
    have k2 : W2.cell? ⟨w.heap.size, 2, none⟩ = some (.int .i64 m.too) := by rw [hP.cell]; rfl
    have z2 : W2.frozen? ⟨w.heap.size, 2, none⟩ = false := hP.free 2
    have k3 : W2.cell? ⟨w.heap.size, 3, none⟩ = some (.int .i64 m.id) := by rw [hP.cell]; rfl
    have z3 : W2.frozen? ⟨w.heap.size, 3, none⟩ = false := hP.free 3
    have k4 : W2.cell? ⟨w.heap.size, 4, none⟩ = some (.int .i64 m.rev) := by rw [hP.cell]; rfl
    have z4 : W2.frozen? ⟨w.heap.size, 4, none⟩ = false := hP.free 4
    have k5 : W2.cell? ⟨w.heap.size, 5, none⟩ = some (.int .i64 m.epoch) := by rw [hP.cell]; rfl
    have z5 : W2.frozen? ⟨w.heap.size, 5, none⟩ = false := hP.free 5
    have k6 : W2.cell? ⟨w.heap.size, 6, none⟩ = some (.int .i64 m.slot) := by rw [hP.cell]; rfl
    have z6 : W2.frozen? ⟨w.heap.size, 6, none⟩ = false := hP.free 6
    have k7 : W2.cell? ⟨w.heap.size, 7, none⟩ = some (.bool m.flag) := by rw [hP.cell]; rfl
    have z7 : W2.frozen? ⟨w.heap.size, 7, none⟩ = false := hP.free 7
    have k8 : W2.cell? ⟨w.heap.size, 8, none⟩ = some (.slice p8 m.nodes.length q8) := by rw [hP.cell]; rfl
    have z8 : W2.frozen? ⟨w.heap.size, 8, none⟩ = false := hP.free 8
    have k9 : W2.cell? ⟨w.heap.size, 9, none⟩ = some (.slice p9 m.muts.length q9) := by rw [hP.cell]; rfl
    have z9 : W2.frozen? ⟨w.heap.size, 9, none⟩ = false := hP.free 9
    have k10 : W2.cell? ⟨w.heap.size, 10, none⟩ = some (.slice p10 m.pre.length q10) := by rw [hP.cell]; rfl
    have z10 : W2.frozen? ⟨w.heap.size, 10, none⟩ = false := hP.free 10
    have k11 : W2.cell? ⟨w.heap.size, 11, none⟩ = some (.slice p11 m.rows.length q11) := by rw [hP.cell]; rfl
    have z11 : W2.frozen? ⟨w.heap.size, 11, none⟩ = false := hP.free 11
    have kq : W2.cell? ⟨w.heap.size + 1, 0, none⟩ = some (.int .i64 0) := by rw [hQ.cell]; rfl
    have zq : W2.frozen? ⟨w.heap.size + 1, 0, none⟩ = false := hQ.free 0
    have HP := Lib.hid hP
    have HQ := Lib.hid hQ
    have HB := Lib.hid hB
    have HO8 := Lib.hid hO8
    have HO9 := Lib.hid hO9
    have HO10 := Lib.hid hO10
    have HO11 := Lib.hid hO11
    clear hP hQ hR hB hO8 hO9 hO10 hO11
    by_cases hys : ys = []
    · have hul : ∃ pa ca, u = .slice pa 0 ca := by
        rcases hlie with ⟨h1, _⟩ | ⟨b1, o1, c1, h1, _⟩
        · exact ⟨_, _, h1⟩
        · exact ⟨_, _, by rw [h1, hys]; rfl⟩
      obtain ⟨pa, ca, rfl⟩ := hul
      have HE := Lib.hid (show dec xs = .ok m by rw [HD.out, HR.out]; simp only []; rw [if_pos hys])
      clear hlie hys HD HR
      go_wp2
      refine leaves_cons (f := 26) (args := #[.pointer (some ⟨w.heap.size, 0, none⟩), .pointer (some ⟨w.heap.size + 1, 0, none⟩)]) (by simp) (by simp [go_sem]) ?_
      refine (dcatch_idle _ _ _).mono ?_
      rintro e u' w'' ⟨rfl, rfl, rfl⟩
      have hP := (twelve_store HP.out (.int .i64 m.kind) (.int .i64 m.frm) (.int .i64 m.too) (.int .i64 m.id) (.int .i64 m.rev) (.int .i64 m.epoch) (.int .i64 m.slot) (.bool m.flag) (.slice p8 m.nodes.length q8) (.slice p9 m.muts.length q9) (.slice p10 m.pre.length q10) (.slice p11 m.rows.length q11)).far (w.heap.size + 1) 0 (by omega) (.int .i64 0)
      have hQ : Whole _ (w.heap.size + 1) 25 #[.int .i64 0] := (twelve_whole HQ.out (show w.heap.size + 1 ≠ w.heap.size by omega) (.int .i64 m.kind) (.int .i64 m.frm) (.int .i64 m.too) (.int .i64 m.id) (.int .i64 m.rev) (.int .i64 m.epoch) (.int .i64 m.slot) (.bool m.flag) (.slice p8 m.nodes.length q8) (.slice p9 m.muts.length q9) (.slice p10 m.pre.length q10) (.slice p11 m.rows.length q11)).store 0 (.int .i64 0)
      have hB := (twelve_below HB.out (Nat.le_refl _) (.int .i64 m.kind) (.int .i64 m.frm) (.int .i64 m.too) (.int .i64 m.id) (.int .i64 m.rev) (.int .i64 m.epoch) (.int .i64 m.slot) (.bool m.flag) (.slice p8 m.nodes.length q8) (.slice p9 m.muts.length q9) (.slice p10 m.pre.length q10) (.slice p11 m.rows.length q11)).setCell (p := ⟨w.heap.size + 1, 0, none⟩) (by simp) (.int .i64 0)
      have hO8 := owns_fars (twelve_owns HO8.out HSZ.out (.int .i64 m.kind) (.int .i64 m.frm) (.int .i64 m.too) (.int .i64 m.id) (.int .i64 m.rev) (.int .i64 m.epoch) (.int .i64 m.slot) (.bool m.flag) (.slice p8 m.nodes.length q8) (.slice p9 m.muts.length q9) (.slice p10 m.pre.length q10) (.slice p11 m.rows.length q11)) (w.heap.size + 1) 0 HSQ.out (.int .i64 0)
      have hO9 := owns_fars (twelve_owns HO9.out HSZ.out (.int .i64 m.kind) (.int .i64 m.frm) (.int .i64 m.too) (.int .i64 m.id) (.int .i64 m.rev) (.int .i64 m.epoch) (.int .i64 m.slot) (.bool m.flag) (.slice p8 m.nodes.length q8) (.slice p9 m.muts.length q9) (.slice p10 m.pre.length q10) (.slice p11 m.rows.length q11)) (w.heap.size + 1) 0 HSQ.out (.int .i64 0)
      have hO10 := owns_fars (twelve_owns HO10.out HSZ.out (.int .i64 m.kind) (.int .i64 m.frm) (.int .i64 m.too) (.int .i64 m.id) (.int .i64 m.rev) (.int .i64 m.epoch) (.int .i64 m.slot) (.bool m.flag) (.slice p8 m.nodes.length q8) (.slice p9 m.muts.length q9) (.slice p10 m.pre.length q10) (.slice p11 m.rows.length q11)) (w.heap.size + 1) 0 HSQ.out (.int .i64 0)
      have hO11 := owns_fars (twelve_owns HO11.out HSZ.out (.int .i64 m.kind) (.int .i64 m.frm) (.int .i64 m.too) (.int .i64 m.id) (.int .i64 m.rev) (.int .i64 m.epoch) (.int .i64 m.slot) (.bool m.flag) (.slice p8 m.nodes.length q8) (.slice p9 m.muts.length q9) (.slice p10 m.pre.length q10) (.slice p11 m.rows.length q11)) (w.heap.size + 1) 0 HSQ.out (.int .i64 0)
      generalize (((((((((((((W2.setCell ⟨w.heap.size, 0, none⟩ (.int .i64 m.kind)).setCell ⟨w.heap.size, 1, none⟩ (.int .i64 m.frm)).setCell ⟨w.heap.size, 2, none⟩ (.int .i64 m.too)).setCell ⟨w.heap.size, 3, none⟩ (.int .i64 m.id)).setCell ⟨w.heap.size, 4, none⟩ (.int .i64 m.rev)).setCell ⟨w.heap.size, 5, none⟩ (.int .i64 m.epoch)).setCell ⟨w.heap.size, 6, none⟩ (.int .i64 m.slot)).setCell ⟨w.heap.size, 7, none⟩ (.bool m.flag)).setCell ⟨w.heap.size, 8, none⟩ (.slice p8 m.nodes.length q8)).setCell ⟨w.heap.size, 9, none⟩ (.slice p9 m.muts.length q9)).setCell ⟨w.heap.size, 10, none⟩ (.slice p10 m.pre.length q10)).setCell ⟨w.heap.size, 11, none⟩ (.slice p11 m.rows.length q11)).setCell ⟨w.heap.size + 1, 0, none⟩ (.int .i64 0)) = X at *
      exact ⟨_, results_row_cell rfl _ X w.heap.size _ _ _ _ rfl hP Try.underlying37 rfl (by kernel_rfl) ⟨w.heap.size + 1, 0, none⟩ _ rfl (load_errno X _ _ hQ), .inl ⟨m, .slice p8 m.nodes.length q8, .slice p9 m.muts.length q9, .slice p10 m.pre.length q10, .slice p11 m.rows.length q11, HE.out, rfl, ⟨owns_lower hO8 (by rw [decW_size]; omega), owns_lower hO9 (by rw [decW_size]; omega), owns_lower hO10 (by rw [decW_size]; omega), owns_lower hO11 (by rw [decW_size]; omega)⟩, hB⟩⟩
    · have hul : ∃ pa k ca, u = .slice pa (k + 1) ca := by
        rcases hlie with ⟨_, h1⟩ | ⟨b1, o1, c1, h1, _⟩
        · exact absurd h1 hys
        · have hl : ys.length ≠ 0 := fun h0 => hys (List.eq_nil_of_length_eq_zero h0)
          exact ⟨_, ys.length - 1, _, by rw [h1]; congr 1; omega⟩
      obtain ⟨pa, kl, ca, rfl⟩ := hul
      have HE := Lib.hid (show dec xs = .error 21 by rw [HD.out, HR.out]; simp only []; rw [if_neg hys])
      clear hlie hys HD HR
      go_wp2
      refine leaves_cons (f := 26) (args := #[.pointer (some ⟨w.heap.size, 0, none⟩), .pointer (some ⟨w.heap.size + 1, 0, none⟩)]) (by simp) (by simp [go_sem]) ?_
      refine (dcatch_idle _ _ _).mono ?_
      rintro e u' w'' ⟨rfl, rfl, rfl⟩
      have hP := (twelve_store HP.out (.int .i64 0) (.int .i64 0) (.int .i64 0) (.int .i64 0) (.int .i64 0) (.int .i64 0) (.int .i64 0) (.bool false) (.slice none 0 0) (.slice none 0 0) (.slice none 0 0) (.slice none 0 0)).far (w.heap.size + 1) 0 (by omega) (.int .i64 21)
      have hQ : Whole _ (w.heap.size + 1) 25 #[.int .i64 21] := (twelve_whole HQ.out (show w.heap.size + 1 ≠ w.heap.size by omega) (.int .i64 0) (.int .i64 0) (.int .i64 0) (.int .i64 0) (.int .i64 0) (.int .i64 0) (.int .i64 0) (.bool false) (.slice none 0 0) (.slice none 0 0) (.slice none 0 0) (.slice none 0 0)).store 0 (.int .i64 21)
      have hB := (twelve_below HB.out (Nat.le_refl _) (.int .i64 0) (.int .i64 0) (.int .i64 0) (.int .i64 0) (.int .i64 0) (.int .i64 0) (.int .i64 0) (.bool false) (.slice none 0 0) (.slice none 0 0) (.slice none 0 0) (.slice none 0 0)).setCell (p := ⟨w.heap.size + 1, 0, none⟩) (by simp) (.int .i64 21)
      generalize (((((((((((((W2.setCell ⟨w.heap.size, 0, none⟩ (.int .i64 0)).setCell ⟨w.heap.size, 1, none⟩ (.int .i64 0)).setCell ⟨w.heap.size, 2, none⟩ (.int .i64 0)).setCell ⟨w.heap.size, 3, none⟩ (.int .i64 0)).setCell ⟨w.heap.size, 4, none⟩ (.int .i64 0)).setCell ⟨w.heap.size, 5, none⟩ (.int .i64 0)).setCell ⟨w.heap.size, 6, none⟩ (.int .i64 0)).setCell ⟨w.heap.size, 7, none⟩ (.bool false)).setCell ⟨w.heap.size, 8, none⟩ (.slice none 0 0)).setCell ⟨w.heap.size, 9, none⟩ (.slice none 0 0)).setCell ⟨w.heap.size, 10, none⟩ (.slice none 0 0)).setCell ⟨w.heap.size, 11, none⟩ (.slice none 0 0)).setCell ⟨w.heap.size + 1, 0, none⟩ (.int .i64 21)) = X at *
      exact ⟨_, results_row_cell rfl _ X w.heap.size _ _ _ _ rfl hP Try.underlying37 rfl (by kernel_rfl) ⟨w.heap.size + 1, 0, none⟩ _ rfl (load_errno X _ _ hQ), .inr ⟨21, HE.out, rfl, hB⟩⟩
  · go_wp2
    refine leaves_cons (f := 26) (args := #[.pointer (some ⟨w.heap.size, 0, none⟩), .pointer (some ⟨w.heap.size + 1, 0, none⟩)]) (by simp) (by simp [go_sem]) ?_
    obtain ⟨hp, hq, _⟩ := decW_at w (.slice a n c)
    refine (dcatch_panicking w.heap.size (w.heap.size + 1) (by omega) cd 0 _ _ _ _ _ _ _ _ _ _ _ _ w1 (hF.whole hp (by omega)) (hF.whole hq (by omega))).mono ?_
    rintro e u' w'' ⟨rfl, rfl, rfl⟩
    have hW := twelve_store (hF.whole hp (by omega)) (.int .i64 0) (.int .i64 0) (.int .i64 0) (.int .i64 0) (.int .i64 0) (.int .i64 0) (.int .i64 0) (.bool false) (.slice none 0 0) (.slice none 0 0) (.slice none 0 0) (.slice none 0 0)
    have hQ := twelve_whole (hF.whole hq (by omega)) (show w.heap.size + 1 ≠ w.heap.size by omega) (.int .i64 0) (.int .i64 0) (.int .i64 0) (.int .i64 0) (.int .i64 0) (.int .i64 0) (.int .i64 0) (.bool false) (.slice none 0 0) (.slice none 0 0) (.slice none 0 0) (.slice none 0 0)
    have hW2 := hW.far (w.heap.size + 1) 0 (by omega) (.int .i64 cd)
    have hQ2 : Whole _ (w.heap.size + 1) 25 #[.int .i64 cd] := hQ.store 0 (.int .i64 cd)
    have hB := twelve_below (decW_rf hF) (Nat.le_refl _) (.int .i64 0) (.int .i64 0) (.int .i64 0) (.int .i64 0) (.int .i64 0) (.int .i64 0) (.int .i64 0) (.bool false) (.slice none 0 0) (.slice none 0 0) (.slice none 0 0) (.slice none 0 0)
    have hB2 := hB.setCell (p := ⟨w.heap.size + 1, 0, none⟩) (by simp) (.int .i64 cd)
    have hE : dec xs = .error cd := by rw [HD.out, hr]
    clear hW hQ hB hp hq hF hr HD HM
    generalize (((((((((((((w1.setCell ⟨w.heap.size, 0, none⟩ (.int .i64 0)).setCell ⟨w.heap.size, 1, none⟩ (.int .i64 0)).setCell ⟨w.heap.size, 2, none⟩ (.int .i64 0)).setCell ⟨w.heap.size, 3, none⟩ (.int .i64 0)).setCell ⟨w.heap.size, 4, none⟩ (.int .i64 0)).setCell ⟨w.heap.size, 5, none⟩ (.int .i64 0)).setCell ⟨w.heap.size, 6, none⟩ (.int .i64 0)).setCell ⟨w.heap.size, 7, none⟩ (.bool false)).setCell ⟨w.heap.size, 8, none⟩ (.slice none 0 0)).setCell ⟨w.heap.size, 9, none⟩ (.slice none 0 0)).setCell ⟨w.heap.size, 10, none⟩ (.slice none 0 0)).setCell ⟨w.heap.size, 11, none⟩ (.slice none 0 0)).setCell ⟨w.heap.size + 1, 0, none⟩ (.int .i64 cd)) = X at *
    exact ⟨_, results_row_cell rfl _ X.drew w.heap.size _ _ _ _ rfl (show X.drew.heap[w.heap.size]? = _ from hW2) Try.underlying37 rfl (by kernel_rfl) ⟨w.heap.size + 1, 0, none⟩ _ rfl (load_errno X.drew _ _ hQ2), .inr ⟨cd, hE, rfl, hB2.trans (show Below w.heap.size X X.drew from ⟨rfl, rfl, rfl, Nat.le_refl _, fun _ _ => rfl⟩)⟩⟩

set_option maxRecDepth 100000 in
theorem rnumber_empty (g : Nat) (a : Option Addr) (c : Nat) (w : World) (h : Whole w g 70 #[.slice a 0 c]) :
    Calls Try.prog 43 #[.pointer (some ⟨g, 0, none⟩)] w (fun e w' => e = Bad 10 ∧ w = w') := by
  have k0 : w.cell? ⟨g, 0, none⟩ = some (.slice a 0 c) := by rw [h.cell]; rfl
  clear h
  go_enter Try.func43, Try.ntmps43
  go_wp2_with fail
  refine (getint_any w.heap.size a 0 c [] w ⟨rfl, .inl rfl⟩ (by omega)).mono ?_
  rintro e w1 ⟨rfl, rfl⟩
  simp only [Vi.get]
  go_wp2
  exact ⟨rfl, rfl, rfl⟩
set_option maxRecDepth 100000 in
set_option maxHeartbeats 1000000 in
theorem rmessage_empty (B g : Nat) (a : Option Addr) (c : Nat) (w : World) (h : Whole w g 70 #[.slice a 0 c]) :
    Calls Try.prog 27 #[.pointer (some ⟨g, 0, none⟩)] w (MDone w B g (rmsg [])) := by
  obtain ⟨W, hW⟩ : ∃ W, W = ((w.alloc (.cells #[.pointer (some ⟨g, 0, none⟩)] 68)).alloc (.cells MsgZ 37)).alloc (.cells MsgZ 37) := ⟨_, rfl⟩
  have hb : Below w.heap.size w W := by rw [hW]; exact (((Below.refl _ _).alloc (Nat.le_refl _) _).alloc (by simp) _).alloc (by simp; omega) _
  have HN := Lib.hid (rnumber_empty g a c W (h.kept (hb.block _ h.lt)))
  have HB := Lib.hid hb
  have HWW := Lib.hid hW
  clear hb hW h
  go_enter Try.func27, Try.ntmps27
  go_wp2_with fail
  rw [← HWW.out]
  refine HN.out.mono ?_
  rintro e w1 ⟨rfl, rfl⟩
  go_wp2
  exact ⟨rfl, .inr ⟨10, rfl, rfl, ⟨HB.out.os, HB.out.tape, HB.out.output, HB.out.size, fun k hk _ => HB.out.block k hk⟩⟩⟩
theorem decode_isb {a : Option Addr} {n c : Nat} {w : World} {xs : List Int} (h : IsB w a n xs) (hnc : n ≤ c) (hc : c ≤ maxLen) :
    Calls Try.prog 17 #[.slice a n c] w (DMsg w (dec xs)) := by
  have hf : ∀ m, dec xs = .ok m → m.fine := fun m hm => (dec_inv h.2.1 hm).2.1
  by_cases hk : 16384 < n
  · exact (decode_long a n c w xs h.1 hk).mono fun e w' hd => dmsg_of hd hf
  · rcases Nat.eq_zero_or_pos n with rfl | h0
    · obtain rfl : xs = [] := List.eq_nil_of_length_eq_zero h.1
      refine (decode_of a 0 c w [] rfl hk ?_).mono fun e w' hd => dmsg_of hd hf
      exact rmessage_empty _ _ a c _ (decW_at w (.slice a 0 c)).2.2
    · obtain ⟨b, off, rfl, hcell⟩ := h.2.2.resolve_left (by omega)
      refine (decode_short _ n c w xs h.1 hk (.inr ⟨b, off, c, by rw [h.1], by rw [h.1]; exact hnc, hc, World.block_lt_of_cell? w ⟨b, off + 0, none⟩ (hcell 0 h0), fun i x hx => ⟨?_, h.2.1 x (List.mem_of_getElem? hx)⟩⟩)).mono fun e w' hd => dmsg_of hd hf
      have hil : i < n := by have := (List.getElem?_eq_some_iff.1 hx).1; have := h.1; omega
      have e : xs.getD i 0 = x := by rw [List.getD_eq_getElem?_getD, hx]; rfl
      have := hcell i hil
      rwa [e] at this
/-- Decode of bytes of the call's own. -/
theorem decode_row {w : World} {base n : Nat} {v : Value} {xs : List Int} (h : w.ownsRow base 5 1 v n (xs.map (Value.int .u8))) (hb : Byt xs) :
    Calls Try.prog 17 #[v] w (DMsg w (dec xs)) := by
  obtain ⟨a, c, rfl, h1, h2⟩ := owned_any h
  exact (decode_own h hb).mono fun e w' hd => dmsg_of hd fun m hm => (dec_inv hb hm).2.1
end Go.Proofs.Ytbckccgcjmanlaa
