/- The outbox of string,int: Put together; slices.Index and slices.Delete of its row; Ack. -/
import Derived.Test.YtefllbmopaiojaaO4SI
import Derived.Test.YtefllbmopaiojaaOD
namespace Go.Proofs.Ytefllbmopaiojaa.OI
open Go.RowKit Go.Proofs.Ytefllbmopaiojaa
open Go.Maps (Keyed)

theorem put_any {B g b period size : Nat} {row : Value} {es : List En} (k : ByteArray) (v : Int) (w : World) (h : OAt w B g b period size row es) (hk : k.size ≤ 9223372036854775807) (hB : B ≤ w.heap.size) :
    Calls Try.prog 11 #[.pointer (some ⟨g, 0, none⟩), .string k, Value.int .i64 v] w fun x w' => PutPost w B g b period size k v row es x w' := by
  by_cases hn : k ∈ es.map (·.k)
  · obtain ⟨e1, y, e2, rfl, rfl⟩ := split_of hn
    exact put_there v w h
  · have := h.len
    by_cases hf : es.length = size
    · exact put_full k v w h hk hn hf
    · exact put_new k v w h hk hn (by omega) hB
theorem ptr_sameIn (d a : Nat) (w : World) : (Op.equalIn (d + 1) 68 (.pointer (some ⟨a, 0, none⟩)) (.pointer (some ⟨a, 0, none⟩))).run Try.prog w = .ok true w := by
  have hs : (sizeOf 71).run Try.prog w = .ok 3 w := by kernel_rfl
  simp [Op.equalIn, run_underlying Try.underlying68, hs, run_sameAddr_same]
theorem ptr_same (a : Nat) (w : World) : (binOp .eql 68 (.pointer (some ⟨a, 0, none⟩)) (.pointer (some ⟨a, 0, none⟩))).run Try.prog w = .ok (.bool true) w := by
  have h1 := ptr_sameIn 9999 a w
  simp only [binOp]
  simp [Op.equal, show Op.maxDepth = 9999 + 1 from rfl, h1]
theorem ptr_otherIn (d : Nat) {a b : Nat} {w : World} {ta tb : TypeId} {ca cb : Array Value} (ha : Whole w a ta ca) (hb : Whole w b tb cb) (hne : a ≠ b) : (Op.equalIn (d + 1) 68 (.pointer (some ⟨a, 0, none⟩)) (.pointer (some ⟨b, 0, none⟩))).run Try.prog w = .ok false w := by
  have hs : (sizeOf 71).run Try.prog w = .ok 3 w := by kernel_rfl
  have h0 := run_sameAddr_other (P := Try.prog) w (a := ⟨a, 0, none⟩) (b := ⟨b, 0, none⟩) (by intro e; injection e with e; exact hne e) ha hb
  simp [Op.equalIn, run_underlying Try.underlying68, hs, h0]
theorem ptr_other {a b : Nat} {w : World} {ta tb : TypeId} {ca cb : Array Value} (ha : Whole w a ta ca) (hb : Whole w b tb cb) (hne : a ≠ b) : (binOp .eql 68 (.pointer (some ⟨a, 0, none⟩)) (.pointer (some ⟨b, 0, none⟩))).run Try.prog w = .ok (.bool false) w := by
  have h1 := ptr_otherIn 9999 ha hb hne
  simp only [binOp]
  simp [Op.equal, show Op.maxDepth = 9999 + 1 from rfl, h1]
set_option maxRecDepth 100000 in
set_option maxHeartbeats 4000000 in
theorem index_any {B n c i p : Nat} {a : Option Addr} {ps : List Nat} (w : World) (h : w.ownsRow B 68 1 (.slice a n c) n (ps.map at_)) (hi : ps[i]? = some p) (hnd : ps.Nodup) (hn : n ≤ 4096) (hW : ∀ q ∈ ps, ∃ cs, Whole w q 71 cs) :
    Calls Try.prog 28 #[.slice a n c, .pointer (some ⟨p, 0, none⟩)] w fun e w' => e = .returned (.int .i64 (i : Int)) ∧ w = w' := by
  have hl : ps.length = n := by have := h.1; simpa using this
  have hil : i < n := by rw [← hl]; exact (List.getElem?_eq_some_iff.1 hi).1
  have HH := Lib.hid h
  have HI := Lib.hid hi
  have HND := Lib.hid hnd
  have HW := Lib.hid hW
  have HL := Lib.hid hl
  clear h hi hnd hW hl
  go_enter Try.func28, Try.ntmps28
  go_wp2_with fail
  go_loop [8] (fun t8 => ∃ j : Nat, j ≤ i ∧ t8 = .int .i64 j) (fun t8 => i - (intOf t8).toNat)
  case atStart => exact ⟨0, by omega, rfl⟩
  case round =>
    obtain ⟨j, hj, rfl⟩ := hrel
    have hjn : j < n := by omega
    obtain ⟨q, hq⟩ : ∃ q, ps[j]? = some q := ⟨_, List.getElem?_eq_getElem (by rw [HL.out]; omega)⟩
    obtain ⟨be, rfl, hbl, hbb, ce0⟩ := owned_at (i := j) (u := at_ q) HH.out (by simp [hq])
    unfold at_ at ce0
    by_cases hji : j = i
    · subst hji
      obtain rfl : p = q := by have := HI.out; rw [hq] at this; injection this with this; exact this.symm
      have hcmp := ptr_same p w
      clear hq
      go_wp2
      go_ret
      exact ⟨rfl, rfl⟩
    · have hpq : p ≠ q := by
        rintro rfl
        have h1 := (List.getElem?_inj (i := j) (j := i) (by rw [HL.out]; omega) HND.out).1 (by rw [hq, HI.out])
        exact hji h1
      obtain ⟨c1, hw1⟩ := HW.out p (List.mem_of_getElem? HI.out)
      obtain ⟨c2, hw2⟩ := HW.out q (List.mem_of_getElem? hq)
      have hcmp := ptr_other hw1 hw2 hpq
      clear hq hw1 hw2 hpq
      have hlt : j < i := by omega
      clear hji
      go_wp2
      go_round
      case rel => exact ⟨j + 1, by omega, by go_num⟩
      case measure => simp [intOf]; omega
theorem run_clear_one (w : World) (ty : TypeId) {q o c : Nat} {cur : Array Value} (hW : Whole w q 68 cur) (h : o + 1 ≤ cur.size) :
    ∃ cur', (Builtin.clear_ #[65] ty #[.slice (some ⟨q, o, none⟩) 1 c]).run Try.prog w = .ok (.tuple #[]) (w.setRow q cur') ∧ cur'.size = cur.size ∧ cur'.toList.take o = cur.toList.take o := by
  have hsz : (Builtin.zeroCells #[.pointer none] 1).toList.length = 1 := by
    rw [Array.length_toList, size_zeroCells]; rfl
  have hone : ∀ u ∈ (Builtin.zeroCells #[.pointer none] 1).toList, u.oneCell' = true := by
    intro u hu
    simp [Builtin.zeroCells] at hu
    subst hu
    rfl
  have hst := run_storeCells_at Try.prog q o 68 (Builtin.zeroCells #[.pointer none] 1).toList 0 cur w hW (by rw [hsz]; simpa using h) hone
  simp only [Nat.add_zero] at hst
  refine ⟨(cur.toList.take o ++ (Builtin.zeroCells #[.pointer none] 1).toList ++ cur.toList.drop (o + (Builtin.zeroCells #[.pointer none] 1).toList.length)).toArray, ?_, ?_, ?_⟩
  · simp [Builtin.clear_, run_underlying Try.underlying65, Value.cells, hst]
  · simp only [List.size_toArray, List.length_append, List.length_take, List.length_drop, Array.length_toList, hsz]
    omega
  · simp only [List.append_assoc]
    rw [List.take_append_of_le_length (by rw [List.length_take, Array.length_toList]; omega), List.take_take, Nat.min_self]
set_option maxRecDepth 100000 in
set_option maxHeartbeats 4000000 in
theorem delete_any {B i m c : Nat} {a : Option Addr} {ps : List Nat} (w : World) (h : w.ownsRow B 68 1 (.slice a (i + m + 1) c) (i + m + 1) (ps.map at_)) (hn : i + m + 1 ≤ 4096) :
    Calls Try.prog 29 #[.slice a (i + m + 1) c, .int .i64 (i : Int), .int .i64 ((i : Int) + 1)] w fun e w' => e = .returned (.slice a (i + m) c) ∧ w'.ownsRow B 68 1 (.slice a (i + m) c) (i + m) ((ps.eraseIdx i).map at_) ∧ Chg w w' (fun k => (Value.slice a (i + m + 1) c).ownBlock = some k) := by
  obtain ⟨i0, hi0, hz0, hz1, hz2⟩ := info_of Try.infoP
  have hl := h.1
  rcases h.2 with ⟨_, h0⟩ | ⟨d, cap, cur, hv, hBd, hW, hcn, hcm, hsz, htk⟩
  · omega
  injection hv with e1 e2 e3
  subst e1 e3
  simp only [Nat.mul_one] at hl hsz htk
  have hW : Whole w d 68 cur := hW
  obtain ⟨mv, hmv⟩ : ∃ mv, mv = (ps.map at_).drop (i + 1) := ⟨_, rfl⟩
  have hml : mv.length = m := by rw [hmv, List.length_drop, hl]; omega
  have hcell : ∀ j u, (ps.map at_)[j]? = some u → w.cell? ⟨d, j, none⟩ = some u := by
    intro j u hu
    rw [hW.cell]
    rw [← htk, List.getElem?_take] at hu
    split at hu
    · simpa using hu
    · cases hu
  obtain ⟨A, hA, hnews⟩ : ∃ A : Addr, (if c = i + 1 then some (⟨d, 0, none⟩ : Addr) else some ⟨d, i + 1, none⟩) = some A ∧ Hid (∀ j u, mv[j]? = some u → w.drew.cell? (A.add j) = some u) := by
    by_cases hc : c = i + 1
    · refine ⟨⟨d, 0, none⟩, by simp [hc], Lib.hid fun j u hu => ?_⟩
      have h0 : mv.length = 0 := by omega
      rw [List.length_eq_zero_iff.1 h0] at hu
      simp at hu
    · refine ⟨⟨d, i + 1, none⟩, by simp [hc], Lib.hid fun j u hu => ?_⟩
      rw [add_plain]
      refine (hcell (i + 1 + j) u ?_)
      rw [hmv, List.getElem?_drop] at hu
      exact hu
  have s1 : Hid (mv.length = m * 1) := Lib.hid (by omega)
  have s2 : Hid (∀ u ∈ mv, u.oneCell' = true) := Lib.hid (by
    intro u hu
    rw [hmv] at hu
    obtain ⟨x, _, rfl⟩ := List.mem_map.1 (List.mem_of_mem_drop hu)
    rfl)
  have s3 : Hid (∀ j, j < mv.length → (w.drew.cell? ⟨d, 0 + i * 1 + j, none⟩).isSome = true ∧ w.drew.frozen? ⟨d, 0 + i * 1 + j, none⟩ = false) := Lib.hid (by
    intro j hj
    rw [Nat.mul_one, Nat.zero_add]
    refine ⟨?_, hW.free _⟩
    have : (ps.map at_)[i + j]? = some ((ps.map at_)[i + j]'(by omega)) := List.getElem?_eq_getElem _
    show (w.cell? _).isSome = true
    rw [hcell _ _ this]
    rfl)
  obtain ⟨cs, q1, q2, q3⟩ := Whole.stores mv i w.drew cur hW (by omega)
  obtain ⟨cur', r1, r2, r3⟩ := run_clear_one (w.drew.setCells d i mv) 0 (o := i + m) (c := c - (i + m)) q1 (by omega)
  have HOUT := Lib.hid (show ((w.drew.setCells d i mv).setRow d cur').ownsRow B 68 1 (.slice (some ⟨d, 0, none⟩) (i + m) c) (i + m) ((ps.eraseIdx i).map at_) by
    refine ⟨?_, .inr ⟨d, c, cur', rfl, hBd, setRow_heap _ d cs cur' _ _ q1, by omega, hcm, by omega, ?_⟩⟩
    · rw [List.length_map, List.length_eraseIdx]
      rw [List.length_map] at hl
      split <;> omega
    · rw [Nat.mul_one]
      have := erase_take (n := i + m + 1) (i := i) (cs := cs) (cur' := cur') htk hl (by omega) (by rw [← hmv]; exact q3) (by simpa using r3)
      rw [show i + m + 1 - 1 = i + m by omega] at this
      rw [this, eraseIdx_map])
  have HC := Lib.hid (show Chg w ((w.drew.setCells d i mv).setRow d cur') (fun k => (Value.slice (some ⟨d, 0, none⟩) (i + m + 1) c).ownBlock = some k) from
    ⟨by rw [setRow_os, World.os_setCells]; rfl, (setCells_facts d mv i w.drew).1, by rw [setRow_output, World.output_setCells]; rfl, by simp [World.setRow, (setCells_facts d mv i w.drew).2], fun k hk hn => by
      have hkd : k ≠ d := by rintro rfl; exact hn rfl
      rw [setRow_other _ d k _ hkd, World.heap_setCells_other w.drew d i mv hk hkd]
      rfl⟩)
  have hic : i ≤ c := by omega
  have hwr : IntKind.i64.wrap ((i : Int) + 1) = (i : Int) + 1 := IntWalk.i64_in _ (by omega)
  have hp0 : (0 : Int) ≤ (i : Int) + 1 := by omega
  have hp1 : (i : Int) + 1 ≤ ((i + m + 1 : Nat) : Int) := by omega
  have hp2 : ((i : Int) + 1).toNat = i + 1 := by omega
  have hne : ¬ (i : Int) = (i : Int) + 1 := by omega
  have hp3 : (i : Int) ≤ (i : Int) + (m : Int) := by omega
  clear hW hcell hsz htk hl q1 q2 q3 r2 r3 h hmv
  go_enter Try.func29, Try.ntmps29
  go_wp2_with fail
  go_region_law (refine step_append_room rfl (.tmp 22) (.tmp 25) 65 rfl 68 i0 1 Try.underlying65 hi0 hz1 d 0 i c (by simp [Act.eval, Act.put]) A m (c - (i + 1)) mv (by simp [Act.eval, Act.put]) s1.out hnews.out s2.out (by omega) s3.out ?_)
  go_wp2_with fail
  go_ret
  exact ⟨rfl, HOUT.out, HC.out⟩
end Go.Proofs.Ytefllbmopaiojaa.OI
