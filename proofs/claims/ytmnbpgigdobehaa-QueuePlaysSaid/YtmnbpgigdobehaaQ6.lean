/- QueuePours: both sizes right. -/
import Derived.Test.YtmnbpgigdobehaaQ5
namespace Go.Proofs.Ytmnbpgigdobehaa
open Go.RowKit Go.Conc

theorem Below2.up {w a b : World} {g c g2 c2 : Nat} (h : Below w.heap.size w a) (ht : QI.Below2 a b g c g2 c2) (h1 : w.heap.size ≤ g) (h2 : w.heap.size ≤ c) (h3 : w.heap.size ≤ g2) (h4 : w.heap.size ≤ c2) : Below w.heap.size w b :=
  h.trans (ht.below h1 h2 h3 h4 h.size)

theorem QI.QAt.still {w w' : World} {B g c cap : Nat} {lost : Int} {row : Option Nat} (h : QI.QAt w B g c cap lost [] []) (hg : w.grownBy w' row) (h1 : ∀ q, row = some q → g < q) (h2 : ∀ q, row = some q → c < q) : QI.QAt w' B g c cap lost [] [] :=
  ⟨h.blk.kept (hg.block g h.blk.lt (fun e => by have := h1 g e.symm; omega)), h.ch.kept (hg.block c h.ch.lt (fun e => by have := h2 c e.symm; omega)), trivial, h.room, h.lo, h.hi, h.geg, h.gec⟩
theorem min_run {P : Program} (ts : Array TypeId) (t : TypeId) (w : World) (a b : Nat) : (Builtin.min_ ts t #[.int .i64 (a : Int), .int .i64 (b : Int)]).run P w = .ok (.int .i64 ((min a b : Nat) : Int)) w := by
  have h : (if (b : Int) < (a : Int) then (b : Int) else (a : Int)) = ((min a b : Nat) : Int) := by
    split <;> omega
  rw [run_min_int2, h]
set_option maxRecDepth 100000 in
set_option maxHeartbeats 40000000 in
theorem pours_good (a : Option Addr) (n k : Nat) (l : List Int) (s0 s1 : Nat) (w : World) (hl : Ints w a n l) (hn : n ≤ 9223372036854775806) (h0 : 1 ≤ s0) (h0' : s0 ≤ 4096) (h1 : 1 ≤ s1) (h1' : s1 ≤ 4096) :
    Calls Try.prog 4 #[.slice a n k, .agg #[.int .i64 (s0 : Int), .int .i64 (s1 : Int)]] w fun e w' => e = .returned (.bool true) ∧ Below w.heap.size w w' := by
  obtain ⟨i0, hi, hz0, hz1, hz2⟩ := QI.info_of QI.Try.infoE
  have HL := Lib.hid hl
  clear hl
  go_enter Try.func4, Try.ntmps4
  go_wp2_with fail
  refine (awake_any _).mono ?_
  rintro e w1 ⟨rfl, hb⟩
  have c0 := (hb.cell (p := ⟨w.heap.size, 0, none⟩) (by simp)).trans (new_cell w #[.int .i64 (s0 : Int), .int .i64 (s1 : Int)] _ _ 0)
  have c1 := (hb.cell (p := ⟨w.heap.size, 1, none⟩) (by simp)).trans (new_cell w #[.int .i64 (s0 : Int), .int .i64 (s1 : Int)] _ _ 1)
  have hb1 := (below_alloc w (.cells #[.int .i64 (s0 : Int), .int .i64 (s1 : Int)] 22)).trans (hb.mono (by simp))
  have hlt := hb.size
  simp at c0 c1 hlt
  have HN0 := Lib.hid (QI.new_good (w.heap.size + 1) s0 w1 h0 h0' (by omega))
  have HB1 := Lib.hid hb1
  clear hb hb1
  go_wp2_with fail
  refine HN0.out.mono ?_
  rintro e w2 ⟨rfl, hq, hb⟩
  have d1 := (hb.cell (p := ⟨w.heap.size, 1, none⟩) (by simp; omega)).trans c1
  have hgl := hq.blk.lt
  have hcl := hq.ch.lt
  have HQ := Lib.hid hq
  have HB2 := Lib.hid (HB1.out.trans (hb.mono (by omega)))
  have HN1 := Lib.hid (QI.new_good (w.heap.size + 1) s1 w2 h1 h1' (by have := hb.size; omega))
  have hle := hb.size
  clear hq hb c0 c1
  go_wp2_with fail
  refine HN1.out.mono ?_
  rintro e w3 ⟨rfl, hq1, hb⟩
  have e1 := (hb.cell (p := ⟨w.heap.size, 1, none⟩) (by simp; omega)).trans d1
  have HQ0 := Lib.hid (HQ.out.below hb)
  have HQ1 := Lib.hid hq1
  have HB3 := Lib.hid (HB2.out.trans (hb.mono (by omega)))
  have hlt3 : w.heap.size < w3.heap.size := by have := hb.size; omega
  generalize hg0 : w1.heap.size + 1 = g0 at *
  generalize hc0 : w1.heap.size = c0 at *
  generalize hg1 : w2.heap.size + 1 = g1 at *
  generalize hc1 : w2.heap.size = c1 at *
  have HG0 := Lib.hid (show w.heap.size + 1 ≤ g0 by omega)
  have HC0 := Lib.hid (show w.heap.size + 1 ≤ c0 by omega)
  have HG1 := Lib.hid (show w.heap.size + 1 ≤ g1 by omega)
  have HC1 := Lib.hid (show w.heap.size + 1 ≤ c1 by omega)
  have HGG := Lib.hid (show g0 ≠ g1 by omega)
  have HCC := Lib.hid (show c0 ≠ c1 by omega)
  clear hq1 hb d1 hgl hcl hle hlt hg0 hc0 hg1 hc1
  have HPUT := Lib.hid (put_fresh a n k l w3 HQ0.out (HL.out.row HB3.out (Nat.le_of_succ_le HG0.out) (Nat.le_of_succ_le HC0.out)) hn)
  go_wp2_with fail
  refine HPUT.out.mono ?_
  rintro e w4 ⟨rfl, ⟨lost, ps, hq⟩, ht⟩
  have f1 : w4.cell? ⟨w.heap.size, 1, none⟩ = some (.int .i64 (s1 : Int)) := (QI.Turned.at ht hlt3 (by have := HG0.out; omega) (by have := HC0.out; omega) 1).trans e1
  have HQ4 := Lib.hid hq
  have HQ5 := Lib.hid (HQ1.out.other HQ0.out HGG.out.symm HCC.out.symm ht)
  have HB4 := Lib.hid (Turned.up HB3.out ht (Nat.le_of_succ_le HG0.out) (by rintro k ⟨⟩; exact Nat.le_of_succ_le HC0.out))
  have hlt4 : w.heap.size < w4.heap.size := Nat.lt_of_lt_of_le hlt3 ht.size
  obtain ⟨M, hM⟩ : ∃ M, M = l.take s0 := ⟨_, rfl⟩
  have hMl : M.length = min n s0 := by rw [hM, List.length_take, HL.out.1, Nat.min_comm]
  have hMi : ∀ (i : Nat) (x : Int), M[i]? = some x → l[i]? = some x := by
    intro i x hx
    rw [hM, List.getElem?_take] at hx
    split at hx
    · exact hx
    · cases hx
  rw [← hM] at HQ4
  have HML := Lib.hid hMl
  have HMI := Lib.hid hMi
  clear hq ht e1 hM hMl hMi
  generalize hN : min n s0 = N at *
  have hNs : N ≤ 4096 := by omega
  have hNn : N ≤ n := by omega
  have HN := Lib.hid hN
  clear hN
  have HPOUR := Lib.hid (pour_fresh w4 HQ4.out HQ5.out HGG.out HCC.out)
  rw [HML.out] at HPOUR
  have hmin : ∀ (ts : Array TypeId) (t : TypeId) (w : World), (Builtin.min_ ts t #[.int .i64 (N : Int), .int .i64 (s1 : Int)]).run Try.prog w = .ok (.int .i64 ((min N s1 : Nat) : Int)) w := fun ts t w => min_run ts t w N s1
  have hKN : min N s1 ≤ N := Nat.min_le_left _ _
  generalize hK : min N s1 = K at *
  have HK := Lib.hid hK
  have HMIN := Lib.hid hmin
  clear hK hmin
  go_wp2_with fail
  refine HPOUR.out.mono ?_
  rintro e w5 ⟨rfl, ⟨p1, hq1⟩, ⟨p2, hq2⟩, ht⟩
  have g1c : w5.cell? ⟨w.heap.size, 1, none⟩ = some (.int .i64 (s1 : Int)) := by
    have hb := ht.block w.heap.size hlt4 (by have := HG0.out; omega) (by have := HC0.out; omega) (by have := HG1.out; omega) (by have := HC1.out; omega)
    have h2 := f1
    simp only [World.cell?, hb] at h2 ⊢
    exact h2
  have HB5 := Lib.hid (Below2.up HB4.out ht (Nat.le_of_succ_le HG0.out) (Nat.le_of_succ_le HC0.out) (Nat.le_of_succ_le HG1.out) (Nat.le_of_succ_le HC1.out))
  obtain ⟨A, hA⟩ : ∃ A, A = M.drop s1 := ⟨_, rfl⟩
  obtain ⟨C, hC⟩ : ∃ C, C = M.take s1 := ⟨_, rfl⟩
  have hCA : C ++ A = M := by rw [hA, hC, List.take_append_drop]
  have hCl : C.length = K := by rw [hC, List.length_take, HML.out, Nat.min_comm, HK.out]
  have hAl : A.length = N - K := by rw [hA, List.length_drop, HML.out, ← HK.out]; omega
  rw [← hA] at hq1
  rw [← hC] at hq2
  have HQ6 := Lib.hid hq1
  have HQ7 := Lib.hid hq2
  have HCA := Lib.hid hCA
  have HLB := Lib.hid (QI.len_any w5 hq2)
  have HLA := Lib.hid (QI.len_any w5 hq1)
  have HOB := Lib.hid (QI.lost_any w5 hq2)
  rw [hCl] at HLB
  rw [hAl] at HLA
  have HCL := Lib.hid hCl
  have HAL := Lib.hid hAl
  have HALLB := Lib.hid (QI.All_any w5 hq2)
  clear hq1 hq2 ht f1 hA hC hCA hCl hAl
  have hmin := HMIN.out
  have hsub : (N : Int) - (K : Int) = ((N - K : Nat) : Int) := by omega
  have hsub2 : IntKind.i64.wrap ((N : Int) - (K : Int)) = ((N - K : Nat) : Int) := by rw [IntWalk.i64_in _ (by omega)]; omega
  have HQ8 := Lib.hid (HB5.out.size)
  go_wp2_with fail
  refine HLB.out.mono ?_
  rintro e w6 ⟨rfl, rfl⟩
  go_wp2_with fail
  refine HLA.out.mono ?_
  rintro e w6 ⟨rfl, rfl⟩
  go_wp2_with fail
  refine HOB.out.mono ?_
  rintro e w6 ⟨rfl, rfl⟩
  go_wp2_with fail
  refine HALLB.out.mono ?_
  rintro e w6 ⟨v1, rfl, ho1, hq2, ht⟩
  have HR1 := Lib.hid ho1
  have HQ9 := Lib.hid (HQ6.out.other HQ7.out HGG.out HCC.out ht)
  have HQ10 := Lib.hid hq2
  have HB6 := Lib.hid (Turned.up HB5.out ht (Nat.le_of_succ_le HG1.out) (by rintro k ⟨⟩; exact Nat.le_of_succ_le HC1.out))
  have HALLA := Lib.hid (QI.All_any w6 HQ9.out)
  have HZ5 := Lib.hid (show w5.heap.size ≤ w6.heap.size from ht.size)
  clear ho1 hq2 ht g1c hmin
  go_wp2_with fail
  refine HALLA.out.mono ?_
  rintro e w7 ⟨v2, rfl, ho2, hq1, ht⟩
  have hr1 := QI.owns_turned HR1.out ht HQ6.out.blk.lt HQ6.out.ch.lt
  have HQ11 := Lib.hid hq1
  have HQ12 := Lib.hid (HQ10.out.other HQ9.out HGG.out.symm HCC.out.symm ht)
  have HB7 := Lib.hid (Turned.up HB6.out ht (Nat.le_of_succ_le HG0.out) (by rintro k ⟨⟩; exact Nat.le_of_succ_le HC0.out))
  have hz7 : w5.heap.size ≤ w7.heap.size := Nat.le_trans HZ5.out ht.size
  obtain ⟨a2, k2, rfl, hn2, hc2⟩ := owned_cells ho2
  obtain ⟨a1, k1, rfl, hkk, hkm⟩ := owned_any hr1
  have HR2 := Lib.hid hr1
  have HN2 := Lib.hid hn2
  have HC2 := Lib.hid (fun ad had => (hc2 ad had).2.2.2.2)
  have HCL2 : C.length ≤ 4096 := by rw [HCL.out]; omega
  have HAL2 : A.length ≤ 4096 := by rw [HAL.out]; omega
  clear hr1 hq1 ht ho2 hn2 hc2
  go_wp2_with (at_builtin; refine wpList_append_at_any _ rfl _ _ 51 rfl w5.heap.size 3 i0 (.int .i64 0) 1 8 Try.underlying51 hi hz0 hz1 hz2 rfl (by decide) _ C.length _ rfl HR2.out a2 A.length k2 (A.map (Value.int .i64)) rfl (by simp) HN2.out HC2.out (by intro u hu; obtain ⟨x, _, rfl⟩ := List.mem_map.1 hu; rfl) (by unfold maxLen; omega) (by omega) hz7 ?_; intro v3 w8 hown hgrow _)
  have hq1 := HQ11.out.still hgrow (fun q hq => by have := (HR2.out.lt q hq).1; have := HQ6.out.blk.lt; omega) (fun q hq => by have := (HR2.out.lt q hq).1; have := HQ6.out.ch.lt; omega)
  have hq2 := HQ12.out.still hgrow (fun q hq => by have := (HR2.out.lt q hq).1; have := HQ7.out.blk.lt; omega) (fun q hq => by have := (HR2.out.lt q hq).1; have := HQ7.out.ch.lt; omega)
  rw [← List.map_append, HCA.out, show C.length + A.length = N by rw [HCL.out, HAL.out]; omega] at hown
  have hb8 := HB7.out.grown hgrow HB7.out.size (fun q hq => by have := (HR2.out.lt q hq).1; have := HB5.out.size; omega)
  obtain ⟨a3, k3, rfl, hn3, hc3⟩ := owned_cells hown
  have HLA3 := Lib.hid (QI.len_any w8 hq1)
  have HLB3 := Lib.hid (QI.len_any w8 hq2)
  have HQ13 := Lib.hid hq1
  have HQ14 := Lib.hid hq2
  have HB8 := Lib.hid hb8
  have HC3 := Lib.hid hc3
  have HN3 := Lib.hid hn3
  clear hq1 hq2 hown hgrow hb8 hn3 hc3 HCL2 HAL2 hsub hsub2 hz7 hkk hkm hi hz0 hz1 hz2
  have hlen := fun (ty : TypeId) (w : World) => run_len_slice (P := Try.prog) (w := w) 51 ty a3 N k3 (by rfl)
  go_wp2_with fail
  rw [hlen]
  go_wp2_with fail
  refine HLA3.out.mono ?_
  rintro e w9 ⟨rfl, rfl⟩
  go_wp2_with fail
  refine HLB3.out.mono ?_
  rintro e w9 ⟨rfl, rfl⟩
  go_wp2_with fail
  go_loopw [91] (fun iv wr => ∃ i q : Nat, i ≤ N ∧ iv = .int .i64 i ∧ wr = w8.drewN q) (fun iv _ => N - (intOf iv).toNat)
  case atStart => exact ⟨0, 0, by omega, rfl, rfl⟩
  case round =>
    obtain ⟨i, q, hiN, rfl, rfl⟩ := hrel
    by_cases hil : i < N
    · obtain ⟨x, hx⟩ : ∃ x, M[i]? = some x := ⟨_, List.getElem?_eq_getElem (show i < M.length by rw [HML.out]; exact hil)⟩
      obtain ⟨b, off, rfl, hbl, hcell⟩ := HL.out.2.resolve_left (by omega)
      have hx2 := hcell i x (HMI.out i x hx)
      have hx3 : w8.cell? ⟨b, off + i, none⟩ = some (.int .i64 x) := (HB8.out.cell (p := ⟨b, _, none⟩) hbl).trans hx2
      obtain ⟨⟨b3, o3, s3⟩, rfl⟩ : ∃ ad, a3 = some ad := by
        cases a3 with
        | none => have := (HN3.out rfl).1; omega
        | some ad => exact ⟨ad, rfl⟩
      obtain ⟨ho3, hs3, _, _, hcc⟩ := HC3.out _ rfl
      simp at ho3 hs3
      subst ho3 hs3
      have hx4 := hcc i (.int .i64 x) (by simp [hx])
      rw [add_plain, Nat.zero_add] at hx4
      have hin : (i : Int) < (n : Int) := by omega
      clear hx hcell hx2 hcc
      go_wp2
      go_quiet (fail)
      go_wp2
      go_roundw
      case rel => exact ⟨i + 1, _, by omega, by go_num, rfl⟩
      case measure => simp [intOf]; omega
    · obtain rfl : i = N := by omega
      have HP := Lib.hid (QI.Pour_any _ (HQ13.out.drewN q) (HQ14.out.drewN q) HGG.out HCC.out)
      go_wp2_with fail
      refine HP.out.mono ?_
      rintro e w9 ⟨rfl, _, _, ht⟩
      have HB9 := Lib.hid (Below2.up (HB8.out.trans ((below_drewN w8 q).mono HB8.out.size)) ht (Nat.le_of_succ_le HG0.out) (Nat.le_of_succ_le HC0.out) (Nat.le_of_succ_le HG1.out) (Nat.le_of_succ_le HC1.out))
      clear ht
      go_wp2
      go_ret
      exact ⟨rfl, HB9.out⟩
end Go.Proofs.Ytmnbpgigdobehaa
