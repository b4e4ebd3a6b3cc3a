/- RingMoves: the tables that are made. -/
import Derived.Test.YtobehjlejlaeeaaDoorRMoves
namespace Go.Proofs.YtobehjlejlaeeaaDoor
open Go.RowKit

/-- A load under a guard that is met. -/
theorem wpList_load_want {P : Program} {ops : Array Oper} {rest : List Oper} {o : Oper} {a : Act} {w : World} {Q : Exit → Act → World → Prop} (hw : Region.wanted o (yielded ops a.tmps) = true) (ty : TypeId) (x : Operand) (ho : o.op = .load ty x)
    (g : Nat) (hx : a.eval x = .pointer (some ⟨g, 0, none⟩)) (t : TypeId) (cs : Array Value) (fr : Nat × Nat) (d : TypeDesc) (hg : w.heap[g]? = some (.cells cs t fr))
    (hu : P.underlying ty = some d) (hd : (match d with | .struct _ | .array _ _ => true | _ => false) = true) (hi : (P.info? ty).map (·.size) = some cs.size)
    (h : wpList P ops Q rest (a.put o.dst (.agg cs)) w) : wpList P ops Q (o :: rest) a w :=
  Go.BigFrame.wpList_want hw fun _ hK => wp_load_row ty x ho g hx t cs fr d hg hu hd hi (hK _ _ h)
/-- Numbers that lie in memory. -/
theorem nums_at {w : World} {B n c : Nat} {a : Option Addr} {l : List Nat} (h : Lies w 3 1 B a n c (l.map (fun s : Nat => Value.int .i64 (s : Int)))) {i s : Nat} (hs : l[i]? = some s) : ∃ b off, a = some ⟨b, off, none⟩ ∧ b < w.heap.size ∧ w.cell? ⟨b, off + i, none⟩ = some (.int .i64 (s : Int)) := by
  have hl := h.len
  have hi := (List.getElem?_eq_some_iff.1 hs).1
  rw [List.length_map] at hl
  obtain ⟨b, off, rfl, hb, _⟩ := h.addr (by omega)
  exact ⟨b, off, rfl, hb, h.cell (by rw [List.getElem?_map, hs]; rfl)⟩

set_option maxRecDepth 100000 in
set_option maxHeartbeats 16000000 in
theorem moves_good (nodes points : Nat) (w : World) (h1 : 1 ≤ nodes) (h2 : nodes ≤ 7) (h3 : 1 ≤ points) (h4 : points ≤ 64) :
    Calls Tryd.prog 5 #[.int .i64 nodes, .int .i64 points] w fun e w' => e = .returned (.bool true) ∧ Below w.heap.size w w' := by
  have HNA := Lib.hid (fun w : World => new_good nodes points w h1 (by omega) h3 h4)
  have HNB := Lib.hid (show ∀ w : World, Calls Tryd.prog 12 #[.int .i64 ((nodes : Int) + 1), .int .i64 points] w _ from fun w : World => new_good (nodes + 1) points w (by omega) (by omega) h3 h4)
  have HMV := Lib.hid (fun s (hs : s < 16) => Mt.moved (nodes := nodes) (points := points) (s := s) h1 h3 hs)
  have HCG := Lib.hid (show Mt.check 0 (Mt.owns (nodes + 1) points) ((nodes : Int) + 1) = 0 from Mt.check_good (nodes := nodes + 1) (points := points) (by omega) h3)
  have HCN := Lib.hid (Mt.check_none (nodes + 1) points)
  have HIN := Lib.hid (fun s (hs : s < 16) => Mt.owns_in (nodes := nodes + 1) (points := points) (by omega) h3 s hs)
  have hla := Mt.owns_len nodes points
  have hlb := Mt.owns_len (nodes + 1) points
  generalize Mt.owns nodes points = oa at *
  generalize Mt.owns (nodes + 1) points = ob at *
  have HTA := Lib.hid (TabC.mk' 0 oa hla)
  have HTB := Lib.hid (TabC.mk' 0 ob hlb)
  have d64 : decide ((points : Int) ≤ 64) = true := by simp; omega
  clear hla hlb
  go_enter Tryd.func5, Tryd.ntmps5
  go_wp2_with (first
    | (go_at_call 8; refine (awake_any _).mono ?_; rintro e w1 ⟨rfl, hb1⟩; have HB1 := Lib.hid hb1; clear hb1)
    | (go_at_call 12; first
       | (with_reducible refine (HNA.out _).mono ?_; rintro e w2 ⟨rfl, hb2⟩; have HB2 := Lib.hid (HB1.out.trans (hb2.mono HB1.out.size)); clear hb2)
       | (with_reducible refine (HNB.out _).mono ?_; rintro e w4 ⟨rfl, hb4⟩; have HB4 := Lib.hid (HB3.out.trans (hb4.mono HB3.out.size)); have HT4 := Lib.hid (HT3.out.kept (hb4.block _ HT3.out.lt)); clear hb4))
    | (refine wpList_store_rowTo rfl 32 (.tmp 5) (.tmp 28) rfl rfl w2.heap.size (tcs 0 oa) rfl rfl 32 _ (heap_alloc_new w2 _) HTA.out.info (by rw [HTA.out.size]; rfl) HTA.out.one ?_
       rw [setRow_new]
       have HB3 := Lib.hid (HB2.out.alloc HB2.out.size (.cells (tcs 0 oa) 32))
       have HT3 := Lib.hid (show Whole (w2.alloc (.cells (tcs 0 oa) 32)) w2.heap.size 32 (tcs 0 oa) from heap_alloc_new _ _)
       generalize w2.alloc (.cells (tcs 0 oa) 32) = w3 at *
       generalize w2.heap.size = g2 at *)
    | (refine wpList_store_rowTo rfl 32 (.tmp 7) (.tmp 35) rfl rfl w4.heap.size (tcs 0 ob) rfl rfl 32 _ (heap_alloc_new w4 _) HTB.out.info (by rw [HTB.out.size]; rfl) HTB.out.one ?_
       rw [setRow_new]
       have HB5 := Lib.hid (HB4.out.alloc HB4.out.size (.cells (tcs 0 ob) 32))
       have HT5 := Lib.hid (HT4.out.kept ((below_alloc w4 (.cells (tcs 0 ob) 32)).block _ HT4.out.lt))
       have HU5 := Lib.hid (show Whole (w4.alloc (.cells (tcs 0 ob) 32)) w4.heap.size 32 (tcs 0 ob) from heap_alloc_new _ _)
       generalize w4.alloc (.cells (tcs 0 ob) 32) = w5 at *
       generalize w4.heap.size = g4 at *)
    | (refine wpList_load_row rfl 32 (.tmp 5) rfl g2 rfl 32 (tcs 0 oa) (0, 0) _ HT5.out Tryd.underlying32 rfl HTA.out.info ?_)
    | (refine wpList_load_row rfl 32 (.tmp 7) rfl g4 rfl 32 (tcs 0 ob) (0, 0) _ HU5.out Tryd.underlying32 rfl HTB.out.info ?_)
    | (go_at_call 20; refine (diff_any _ HTA.out HTB.out).mono ?_; rintro e w6 ⟨⟨v, rfl, hv⟩, hb6⟩; obtain ⟨a6, c6, rfl, hl6⟩ := Lies.owned hv
       have HL6 := Lib.hid hl6
       have HU6 := Lib.hid (HU5.out.kept (hb6.block _ HU5.out.lt))
       have HB6 := Lib.hid (HB5.out.trans (hb6.mono HB5.out.size)); clear hb6 hv hl6))
  have HM0 := Lib.hid (fun (i s : Nat) (h : (Mt.ups (Mt.other oa ob) 16)[i]? = some s) => Mt.ups_mem h)
  have hN := Mt.ups_len (Mt.other oa ob) 16
  generalize Mt.ups (Mt.other oa ob) 16 = l6 at *
  have HLL := Lib.hid (show ∀ i, i < l6.length → ∃ s, l6[i]? = some s from fun i hi => ⟨_, List.getElem?_eq_getElem hi⟩)
  generalize l6.length = N at *
  go_loop [57] (fun iv => ∃ i : Nat, i ≤ N ∧ iv = .int .i64 i) (fun iv => N - (intOf iv).toNat)
  case atStart => exact ⟨0, by omega, rfl⟩
  case round =>
    obtain ⟨i, hi, rfl⟩ := hrel
    by_cases hlt : i < N
    · obtain ⟨s, hs⟩ := HLL.out i hlt
      obtain ⟨hs16, hso⟩ := HM0.out i s hs
      obtain ⟨b, off, rfl, _, c1⟩ := nums_at HL6.out hs
      have c2 : w6.cell? ⟨g4, 1 + s, none⟩ = some (.int .i64 (nodes : Int)) := by rw [HU6.out.cell, HTB.out.cs s hs16, HMV.out s hs16 hso]
      clear hs hso
      go_wp2
      go_round
      case rel => exact ⟨i + 1, by omega, by go_num⟩
      case measure => simp [intOf]; omega
    · obtain rfl : i = N := by omega
      have HZ0 := Lib.hid (Mt.below_none ob (fun s hs => (HIN.out s hs).1))
      have HZA := Lib.hid (Mt.below_all ob (nodes + 1) (fun s hs => by have := (HIN.out s hs).2; omega))
      go_wp2
      go_loopw [11, 12] (fun av nv wr => (∃ n : Nat, n ≤ nodes + 1 ∧ nv = .int .i64 n ∧ av = .int .i64 ((Mt.ups (Mt.below ob n) 16).length : Nat)) ∧ Whole wr g4 32 (tcs 0 ob) ∧ Below w.heap.size w wr) (fun _ nv _ => nodes + 1 - (intOf nv).toNat)
      case atStart => exact ⟨⟨0, by omega, rfl, by rw [HZ0.out]; rfl⟩, HU6.out, HB6.out⟩
      case round =>
        obtain ⟨⟨n, hn, rfl, rfl⟩, hu, hb⟩ := hrel
        have HU := Lib.hid hu; have HB := Lib.hid hb
        clear hu hb
        by_cases hnl : n ≤ nodes
        · have HSU := Lib.hid (Mt.below_succ ob n)
          have hcn := Mt.ups_len (Mt.below ob n) 16
          generalize (Mt.ups (Mt.below ob n) 16).length = K at *
          go_wp2_with (first
            | (refine wpList_load_row rfl 32 (.tmp 7) rfl g4 rfl 32 (tcs 0 ob) (0, 0) _ HU.out Tryd.underlying32 rfl HTB.out.info ?_)
            | (go_at_call 21; refine (slots_any _ _ HTB.out).mono ?_; rintro e w7 ⟨⟨v, rfl, hv⟩, hb7⟩; obtain ⟨a7, c7, rfl, hl7⟩ := Lies.owned hv
               have HL7 := Lib.hid hl7
               have HU7 := Lib.hid (HU.out.kept (hb7.block _ HU.out.lt))
               have HB7 := Lib.hid (HB.out.trans (hb7.mono HB.out.size)); clear hb7 hv hl7))
          have HM7 := Lib.hid (fun (i s : Nat) (h : (Mt.ups (Mt.is ob n) 16)[i]? = some s) => Mt.ups_mem h)
          have HR7 := Lib.hid (fun (i a b : Nat) (h : (Mt.ups (Mt.is ob n) 16)[i]? = some a) (h' : (Mt.ups (Mt.is ob n) 16)[i + 1]? = some b) => Mt.ups_rise h h')
          have hN7 := Mt.ups_len (Mt.is ob n) 16
          generalize Mt.ups (Mt.is ob n) 16 = l7 at *
          have HLL7 := Lib.hid (show ∀ i, i < l7.length → ∃ s, l7[i]? = some s from fun i hi => ⟨_, List.getElem?_eq_getElem hi⟩)
          generalize hM : l7.length = M at *
          have HM := Lib.hid hM
          clear hM
          go_loop [11, 13, 77] (fun av sv iv => ∃ (i : Nat) (last : Int), i ≤ M ∧ iv = .int .i64 i ∧ av = .int .i64 ((K + i : Nat) : Int) ∧ sv = .int .i64 last ∧ -1 ≤ last ∧ (∀ s, l7[i]? = some s → last < (s : Int))) (fun _ _ iv => M - (intOf iv).toNat)
          case atStart => exact ⟨0, -1, by omega, rfl, rfl, rfl, by omega, fun s _ => by omega⟩
          case round =>
            obtain ⟨j, last, hj, rfl, rfl, rfl, hlo, hla⟩ := hrel
            by_cases hjl : j < M
            · obtain ⟨s, hs⟩ := HLL7.out j hjl
              obtain ⟨hs16, hso⟩ := HM7.out j s hs
              have hls := hla s hs
              obtain ⟨b, off, rfl, _, c1⟩ := nums_at HL7.out hs
              have c2 : w7.cell? ⟨g4, 1 + s, none⟩ = some (.int .i64 (n : Int)) := by
                rw [HU7.out.cell, HTB.out.cs s hs16]
                unfold Mt.is at hso
                rw [show ob.getD s 0 = (n : Int) by simpa using hso]
              have HNX := Lib.hid (fun b hb => HR7.out j s b hs hb)
              clear hs hso hla
              go_wp2
              go_round
              case rel => exact ⟨j + 1, (s : Int), by omega, by go_num, by go_num, rfl, by omega, fun b hb => by have := HNX.out b hb; omega⟩
              case measure => simp [intOf]; omega
            · obtain rfl : j = M := by omega
              clear hla
              go_wp2
              go_roundw
              case rel => exact ⟨⟨n + 1, by omega, by go_num, by rw [HSU.out]⟩, HU7.out, HB7.out⟩
              case measure => simp [intOf]; omega
        · obtain rfl : n = nodes + 1 := by omega
          rw [HZA.out]
          go_wp2_with (first
            | (refine wpList_load_want (by kernel_rfl) 32 (.tmp 7) rfl g4 rfl 32 (tcs 0 ob) (0, 0) _ HU.out Tryd.underlying32 rfl HTB.out.info ?_)
            | (go_at_call 17; refine (check_any _ _ HTB.out).mono ?_; rintro e w8 ⟨rfl, hb8⟩; rw [HCG.out]
               have HU := Lib.hid (HU.out.kept (hb8.block _ HU.out.lt)); have HB := Lib.hid (HB.out.trans (hb8.mono HB.out.size)); clear hb8)
            | (go_at_call 17; refine (check_any _ _ HTB.out).mono ?_; rintro e w8 ⟨rfl, hb8⟩; rw [HCN.out]
               have HB := Lib.hid (HB.out.trans (hb8.mono HB.out.size)); clear hb8))
          go_ret
          exact ⟨rfl, HB.out⟩

theorem moves_walk (nodes points : Int) (w : World) : Calls Tryd.prog 5 #[.int .i64 nodes, .int .i64 points] w fun e w' => e = .returned (.bool true) ∧ Below w.heap.size w w' := by
  by_cases h : nodes < 1 ∨ 7 < nodes
  · exact moves_out nodes points w h
  · by_cases h2 : points < 1 ∨ 64 < points
    · exact moves_bad nodes points w (by omega) (by omega) h2
    · obtain ⟨n, rfl⟩ : ∃ n : Nat, nodes = n := ⟨nodes.toNat, by omega⟩
      obtain ⟨p, rfl⟩ : ∃ p : Nat, points = p := ⟨points.toNat, by omega⟩
      exact moves_good n p w (by omega) (by omega) (by omega) (by omega)
end Go.Proofs.YtobehjlejlaeeaaDoor
