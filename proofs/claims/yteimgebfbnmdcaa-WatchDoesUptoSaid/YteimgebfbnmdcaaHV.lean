/- The laws' own words: the same tuples, rows, mutations, changes. -/
import Derived.Test.YteimgebfbnmdcaaHU
namespace Go.Proofs.Yteimgebfbnmdcaa
open Go.RowKit Go.Shelf
open Go.Maps (Keyed)

set_option maxRecDepth 100000 in
set_option maxHeartbeats 4000000 in
theorem tuples_eq {w : World} {a b : Option Addr} {n ca cb Ba Bb : Nat} {l : List Tp} (ha : Lies w 47 3 Ba a n ca (l.flatMap tc)) (hb : Lies w 47 3 Bb b n cb (l.flatMap tc)) (hln : l.length = n) (hn : n ≤ 1099511627776) :
    Calls Try.prog 12 #[.slice a n ca, .slice b n cb] w fun e w' => e = .returned (.bool true) ∧ Below w.heap.size w w' := by
  have HA := Lib.hid ha
  have HB := Lib.hid hb
  have HLN := Lib.hid hln
  clear ha hb hln
  go_enter Try.func12, Try.ntmps12
  go_wp2_with fail
  go_loopw [13] (fun iv wr => ∃ i : Nat, i ≤ n ∧ iv = .int .i64 i ∧ Below w.heap.size w wr) (fun iv _ => n - (intOf iv).toNat)
  case atStart => exact ⟨0, by omega, rfl, Below.refl _ _⟩
  case round =>
    obtain ⟨i, hin, rfl, hbl⟩ := hrel
    by_cases hil : i < n
    · obtain ⟨r, hr⟩ : ∃ r, l[i]? = some r := ⟨_, List.getElem?_eq_getElem (show i < l.length by rw [HLN.out]; exact hil)⟩
      obtain ⟨ab, ao, rfl, hab, habc⟩ := lies_cells tc_len (by decide) HA.out hr
      obtain ⟨bb, bo, rfl, hbb, hbbc⟩ := lies_cells tc_len (by decide) HB.out hr
      have x0 : wr.drew.cell? ⟨ab, ao + i * 3, none⟩ = some (.string r.o) := (hbl.cell (p := ⟨ab, ao + i * 3, none⟩) hab).trans (habc 0 _ rfl)
      have x1 : wr.drew.cell? ⟨ab, ao + i * 3 + 1, none⟩ = some (.string r.r) := (hbl.cell (p := ⟨ab, ao + i * 3 + 1, none⟩) hab).trans (habc 1 _ rfl)
      have x2 : wr.drew.cell? ⟨ab, ao + i * 3 + 2, none⟩ = some (.string r.u) := (hbl.cell (p := ⟨ab, ao + i * 3 + 2, none⟩) hab).trans (habc 2 _ rfl)
      have y0 : wr.drew.cell? ⟨bb, bo + i * 3, none⟩ = some (.string r.o) := (hbl.cell (p := ⟨bb, bo + i * 3, none⟩) hbb).trans (hbbc 0 _ rfl)
      have y1 : wr.drew.cell? ⟨bb, bo + i * 3 + 1, none⟩ = some (.string r.r) := (hbl.cell (p := ⟨bb, bo + i * 3 + 1, none⟩) hbb).trans (hbbc 1 _ rfl)
      have y2 : wr.drew.cell? ⟨bb, bo + i * 3 + 2, none⟩ = some (.string r.u) := (hbl.cell (p := ⟨bb, bo + i * 3 + 2, none⟩) hbb).trans (hbbc 2 _ rfl)
      have hil2 : (i : Int) < (n : Int) := by omega
      have HBL := Lib.hid (bell_up hbl (below_drew1 wr))
      clear habc hbbc hab hbb hr hbl
      go_upto_region 6 with fail
      go_region
      go_wp2
      go_roundw
      case rel => exact ⟨i + 1, by omega, by go_num, HBL.out⟩
      case measure => simp [intOf]; omega
    · obtain rfl : i = n := by omega
      have HBL := Lib.hid hbl
      clear hbl
      go_wp2
      go_ret
      exact ⟨rfl, HBL.out⟩

set_option maxRecDepth 100000 in
set_option maxHeartbeats 4000000 in
theorem rows_eq {w : World} {a b : Option Addr} {n ca cb Ba Bb : Nat} {l : List Rw} (ha : Lies w 49 5 Ba a n ca (l.flatMap rw1)) (hb : Lies w 49 5 Bb b n cb (l.flatMap rw1)) (hln : l.length = n) (hn : n ≤ 1099511627776) :
    Calls Try.prog 18 #[.slice a n ca, .slice b n cb] w fun e w' => e = .returned (.bool true) ∧ Below w.heap.size w w' := by
  have HA := Lib.hid ha
  have HB := Lib.hid hb
  have HLN := Lib.hid hln
  clear ha hb hln
  go_enter Try.func18, Try.ntmps18
  go_wp2_with fail
  go_loopw [5] (fun iv wr => ∃ i : Nat, i ≤ n ∧ iv = .int .i64 i ∧ Below w.heap.size w wr) (fun iv _ => n - (intOf iv).toNat)
  case atStart => exact ⟨0, by omega, rfl, Below.refl _ _⟩
  case round =>
    obtain ⟨i, hin, rfl, hbl⟩ := hrel
    by_cases hil : i < n
    · obtain ⟨r, hr⟩ : ∃ r, l[i]? = some r := ⟨_, List.getElem?_eq_getElem (show i < l.length by rw [HLN.out]; exact hil)⟩
      obtain ⟨ab, ao, rfl, hab, habc⟩ := lies_cells rw1_len (by decide) HA.out hr
      obtain ⟨bb, bo, rfl, hbb, hbbc⟩ := lies_cells rw1_len (by decide) HB.out hr
      have x0 : wr.drew.cell? ⟨ab, ao + i * 5, none⟩ = some (.string r.t.o) := (hbl.cell (p := ⟨ab, ao + i * 5, none⟩) hab).trans (habc 0 _ rfl)
      have x1 : wr.drew.cell? ⟨ab, ao + i * 5 + 1, none⟩ = some (.string r.t.r) := (hbl.cell (p := ⟨ab, ao + i * 5 + 1, none⟩) hab).trans (habc 1 _ rfl)
      have x2 : wr.drew.cell? ⟨ab, ao + i * 5 + 2, none⟩ = some (.string r.t.u) := (hbl.cell (p := ⟨ab, ao + i * 5 + 2, none⟩) hab).trans (habc 2 _ rfl)
      have x3 : wr.drew.cell? ⟨ab, ao + i * 5 + 3, none⟩ = some (.int .i64 r.s) := (hbl.cell (p := ⟨ab, ao + i * 5 + 3, none⟩) hab).trans (habc 3 _ rfl)
      have x4 : wr.drew.cell? ⟨ab, ao + i * 5 + 4, none⟩ = some (.int .i64 r.u) := (hbl.cell (p := ⟨ab, ao + i * 5 + 4, none⟩) hab).trans (habc 4 _ rfl)
      have y0 : wr.drew.cell? ⟨bb, bo + i * 5, none⟩ = some (.string r.t.o) := (hbl.cell (p := ⟨bb, bo + i * 5, none⟩) hbb).trans (hbbc 0 _ rfl)
      have y1 : wr.drew.cell? ⟨bb, bo + i * 5 + 1, none⟩ = some (.string r.t.r) := (hbl.cell (p := ⟨bb, bo + i * 5 + 1, none⟩) hbb).trans (hbbc 1 _ rfl)
      have y2 : wr.drew.cell? ⟨bb, bo + i * 5 + 2, none⟩ = some (.string r.t.u) := (hbl.cell (p := ⟨bb, bo + i * 5 + 2, none⟩) hbb).trans (hbbc 2 _ rfl)
      have y3 : wr.drew.cell? ⟨bb, bo + i * 5 + 3, none⟩ = some (.int .i64 r.s) := (hbl.cell (p := ⟨bb, bo + i * 5 + 3, none⟩) hbb).trans (hbbc 3 _ rfl)
      have y4 : wr.drew.cell? ⟨bb, bo + i * 5 + 4, none⟩ = some (.int .i64 r.u) := (hbl.cell (p := ⟨bb, bo + i * 5 + 4, none⟩) hbb).trans (hbbc 4 _ rfl)
      have hil2 : (i : Int) < (n : Int) := by omega
      have HBL := Lib.hid (bell_up hbl (below_drew1 wr))
      clear habc hbbc hab hbb hr hbl
      go_upto_region 6 with fail
      go_region
      go_wp2
      go_roundw
      case rel => exact ⟨i + 1, by omega, by go_num, HBL.out⟩
      case measure => simp [intOf]; omega
    · obtain rfl : i = n := by omega
      have HBL := Lib.hid hbl
      clear hbl
      go_wp2
      go_ret
      exact ⟨rfl, HBL.out⟩

set_option maxRecDepth 100000 in
set_option maxHeartbeats 4000000 in
theorem muts_eq {w : World} {a b : Option Addr} {n ca cb Ba Bb : Nat} {l : List Mu} (ha : Lies w 51 4 Ba a n ca (l.flatMap muc)) (hb : Lies w 51 4 Bb b n cb (l.flatMap muc)) (hln : l.length = n) (hn : n ≤ 1099511627776) :
    Calls Try.prog 21 #[.slice a n ca, .slice b n cb] w fun e w' => e = .returned (.bool true) ∧ Below w.heap.size w w' := by
  have HA := Lib.hid ha
  have HB := Lib.hid hb
  have HLN := Lib.hid hln
  clear ha hb hln
  go_enter Try.func21, Try.ntmps21
  go_wp2_with fail
  go_loopw [13] (fun iv wr => ∃ i : Nat, i ≤ n ∧ iv = .int .i64 i ∧ Below w.heap.size w wr) (fun iv _ => n - (intOf iv).toNat)
  case atStart => exact ⟨0, by omega, rfl, Below.refl _ _⟩
  case round =>
    obtain ⟨i, hin, rfl, hbl⟩ := hrel
    by_cases hil : i < n
    · obtain ⟨r, hr⟩ : ∃ r, l[i]? = some r := ⟨_, List.getElem?_eq_getElem (show i < l.length by rw [HLN.out]; exact hil)⟩
      obtain ⟨ab, ao, rfl, hab, habc⟩ := lies_cells muc_len (by decide) HA.out hr
      obtain ⟨bb, bo, rfl, hbb, hbbc⟩ := lies_cells muc_len (by decide) HB.out hr
      have x0 : wr.drew.cell? ⟨ab, ao + i * 4, none⟩ = some (.bool r.d) := (hbl.cell (p := ⟨ab, ao + i * 4, none⟩) hab).trans (habc 0 _ rfl)
      have x1 : wr.drew.cell? ⟨ab, ao + i * 4 + 1, none⟩ = some (.string r.t.o) := (hbl.cell (p := ⟨ab, ao + i * 4 + 1, none⟩) hab).trans (habc 1 _ rfl)
      have x2 : wr.drew.cell? ⟨ab, ao + i * 4 + 2, none⟩ = some (.string r.t.r) := (hbl.cell (p := ⟨ab, ao + i * 4 + 2, none⟩) hab).trans (habc 2 _ rfl)
      have x3 : wr.drew.cell? ⟨ab, ao + i * 4 + 3, none⟩ = some (.string r.t.u) := (hbl.cell (p := ⟨ab, ao + i * 4 + 3, none⟩) hab).trans (habc 3 _ rfl)
      have y0 : wr.drew.cell? ⟨bb, bo + i * 4, none⟩ = some (.bool r.d) := (hbl.cell (p := ⟨bb, bo + i * 4, none⟩) hbb).trans (hbbc 0 _ rfl)
      have y1 : wr.drew.cell? ⟨bb, bo + i * 4 + 1, none⟩ = some (.string r.t.o) := (hbl.cell (p := ⟨bb, bo + i * 4 + 1, none⟩) hbb).trans (hbbc 1 _ rfl)
      have y2 : wr.drew.cell? ⟨bb, bo + i * 4 + 2, none⟩ = some (.string r.t.r) := (hbl.cell (p := ⟨bb, bo + i * 4 + 2, none⟩) hbb).trans (hbbc 2 _ rfl)
      have y3 : wr.drew.cell? ⟨bb, bo + i * 4 + 3, none⟩ = some (.string r.t.u) := (hbl.cell (p := ⟨bb, bo + i * 4 + 3, none⟩) hbb).trans (hbbc 3 _ rfl)
      have hil2 : (i : Int) < (n : Int) := by omega
      have HBL := Lib.hid (bell_up hbl (below_drew1 wr))
      clear habc hbbc hab hbb hr hbl
      go_upto_region 6 with fail
      go_region
      go_wp2
      go_roundw
      case rel => exact ⟨i + 1, by omega, by go_num, HBL.out⟩
      case measure => simp [intOf]; omega
    · obtain rfl : i = n := by omega
      have HBL := Lib.hid hbl
      clear hbl
      go_wp2
      go_ret
      exact ⟨rfl, HBL.out⟩

theorem infoRC : (Try.prog.info? 59).map (fun i => (i.zero, i.size, i.bytes)) = some (some (.agg #[.int .i64 0, .bool false, .string ⟨#[]⟩, .string ⟨#[]⟩, .string ⟨#[]⟩]), 5, 64) := by kernel_rfl
set_option maxRecDepth 100000 in
set_option maxHeartbeats 4000000 in
theorem plain_any {w : World} {a : Option Addr} {n c B : Nat} {l : List Ch} (hl : Lies w 53 5 B a n c (l.flatMap chc)) (hln : l.length = n) (hn : n ≤ 1099511627776) :
    Calls Try.prog 17 #[.slice a n c] w fun e w' => ∃ v, e = .returned v ∧ OutE 59 5 chc w w' v l := by
  obtain ⟨j0, hj0, jz0, jz1, jz2⟩ := info_parts infoRC
  have HL := Lib.hid hl
  have HLN := Lib.hid hln
  have HU1 := Lib.hid (show OutE 59 5 chc w w (.slice none 0 0) (l.take 0) from ⟨Below.refl _ _, World.ownsRow_nil _ _ _ _⟩)
  clear hl hln
  go_enter Try.func17, Try.ntmps17
  go_wp2_with fail
  go_loopw [3, 8] (fun v iv wr => ∃ i : Nat, i ≤ n ∧ iv = .int .i64 i ∧ OutE 59 5 chc w wr v (l.take i)) (fun _ iv _ => n - (intOf iv).toNat)
  case atStart => exact ⟨0, by omega, rfl, HU1.out⟩
  case round =>
    clear HU1
    obtain ⟨i, hin, rfl, hS⟩ := hrel
    obtain ⟨va, vc, rfl, _, _⟩ := owned_anyE hS.row
    by_cases hil : i < n
    · obtain ⟨r, hti⟩ : ∃ r, l[i]? = some r := ⟨_, List.getElem?_eq_getElem (show i < l.length by rw [HLN.out]; exact hil)⟩
      obtain ⟨bb, off, rfl, hbb, hcc⟩ := lies_cells chc_len (by decide) HL.out hti
      have c0 := (hS.below.cell (p := ⟨bb, off + i * 5, none⟩) hbb).trans (hcc 0 _ rfl)
      have c1 := (hS.below.cell (p := ⟨bb, off + i * 5 + 1, none⟩) hbb).trans (hcc 1 _ rfl)
      have c2 := (hS.below.cell (p := ⟨bb, off + i * 5 + 2, none⟩) hbb).trans (hcc 2 _ rfl)
      have c3 := (hS.below.cell (p := ⟨bb, off + i * 5 + 3, none⟩) hbb).trans (hcc 3 _ rfl)
      have c4 := (hS.below.cell (p := ⟨bb, off + i * 5 + 4, none⟩) hbb).trans (hcc 4 _ rfl)
      have hil2 : (i : Int) < (n : Int) := by omega
      have htk : l.take (i + 1) = l.take i ++ [r] := by rw [List.take_add_one, hti]; rfl
      have HTK := Lib.hid htk
      have hlen : (l.take i).length ≤ n := by rw [List.length_take]; omega
      obtain ⟨L, hL⟩ : ∃ L, L = l.take i := ⟨_, rfl⟩
      rw [← hL] at hS hlen ⊢
      have HLE := Lib.hid hL
      obtain ⟨q, hq⟩ : ∃ q, q = wr.heap.size := ⟨_, rfl⟩
      obtain ⟨W3, hW3⟩ : ∃ W3, W3 = wr.alloc (.cells (chc r).toArray 53) := ⟨_, rfl⟩
      have hb3 : Below wr.heap.size wr W3 := by rw [hW3]; exact below_alloc _ _
      have hX : Whole W3 q 53 (chc r).toArray := by rw [hW3, hq]; exact heap_alloc_new _ _
      have e0 : W3.cell? ⟨q, 0, none⟩ = some (.int .i64 r.rev) := hX.cell 0
      have e1 : W3.cell? ⟨q, 1, none⟩ = some (.bool r.del) := hX.cell 1
      have e2 : W3.cell? ⟨q, 2, none⟩ = some (.string r.t.o) := hX.cell 2
      have e3 : W3.cell? ⟨q, 3, none⟩ = some (.string r.t.r) := hX.cell 3
      have e4 : W3.cell? ⟨q, 4, none⟩ = some (.string r.t.u) := hX.cell 4
      have HS3 := Lib.hid (hS.up hb3)
      have HBS := Lib.hid (show w.heap.size ≤ W3.heap.size from Nat.le_trans hS.below.size hb3.size)
      have hn1 : L.length + 1 ≤ maxLen := by unfold maxLen; omega
      have hn2 : (L.length + 1) * 64 ≤ 140737488355328 := by omega
      unfold chc at hW3
      clear hcc hbb hb3 hX hS hti hL htk hlen
      go_upto_region 5 with fail
      rw [← hq, ← hW3]
      clear hq hW3 c0 c1 c2 c3 c4
      go_wp2_with (at_builtin; refine wpList_append_own_at _ rfl (.tmp 12) (.tmp 22) 27 rfl w.heap.size 59 j0 (.agg #[.int .i64 0, .bool false, .string ⟨#[]⟩, .string ⟨#[]⟩, .string ⟨#[]⟩]) 5 64 Try.underlying27 hj0 jz0 jz1 jz2 rfl (by decide) (.slice va L.length vc) L.length (L.flatMap chc) rfl (HS3.out.row.alloc _) ⟨W3.heap.size, 0, none⟩ 1 1 [.int .i64 r.rev, .bool r.del, .string r.t.o, .string r.t.r, .string r.t.u] rfl rfl (fiveE_new W3 _ _ _ _ _ 59) (by simp [Value.oneCell']) hn1 hn2 (by have := HBS.out; simp; omega) ?_; intro v' w6 hown6 hgr6 _ hat6
                   have HN := Lib.hid (show OutE 59 5 chc w w6 v' (l.take (i + 1)) from by
                     rw [HTK.out, ← HLE.out]
                     exact (HS3.out.up (below_alloc _ _)).next r hgr6 hown6)
                   clear hown6 hgr6 hat6)
      go_roundw
      case rel => exact ⟨i + 1, by omega, by go_num, HN.out⟩
      case measure => simp [intOf]; omega
    · obtain rfl : i = n := by omega
      rw [List.take_of_length_le (by rw [HLN.out]; exact Nat.le_refl _)] at hS ⊢
      have HE := Lib.hid hS
      clear hS
      go_wp2
      go_ret
      exact ⟨_, rfl, HE.out⟩

set_option maxRecDepth 100000 in
set_option maxHeartbeats 4000000 in
theorem same_eq {w : World} {a b : Option Addr} {n ca cb Ba Bb : Nat} {l : List Ch} (ha : Lies w 53 5 Ba a n ca (l.flatMap chc)) (hb : Lies w 59 5 Bb b n cb (l.flatMap chc)) (hln : l.length = n) (hn : n ≤ 1099511627776) :
    Calls Try.prog 9 #[.slice a n ca, .slice b n cb] w fun e w' => e = .returned (.bool true) ∧ Below w.heap.size w w' := by
  have HP := Lib.hid (plain_any ha hln hn)
  have HB := Lib.hid hb
  have HLN := Lib.hid hln
  clear ha hb hln
  go_enter Try.func9, Try.ntmps9
  go_wp2_with fail
  refine HP.out.mono ?_
  rintro _ w1 ⟨pv, rfl, hO⟩
  have HO := Lib.hid hO
  obtain ⟨pa, pc, rfl, _, _⟩ := owned_anyE hO.row
  obtain ⟨a', c', he', hLI⟩ := Lies.owned hO.row
  injection he' with he1 _ he2
  subst he1
  subst he2
  rw [HLN.out] at hLI ⊢
  have HA := Lib.hid hLI
  clear hO hLI HP
  go_wp2_with fail
  go_loopw [16] (fun iv wr => ∃ i : Nat, i ≤ n ∧ iv = .int .i64 i ∧ Below w.heap.size w wr ∧ Below w1.heap.size w1 wr) (fun iv _ => n - (intOf iv).toNat)
  case atStart => exact ⟨0, by omega, rfl, HO.out.below, Below.refl _ _⟩
  case round =>
    obtain ⟨i, hin, rfl, hbl, hbl1⟩ := hrel
    by_cases hil : i < n
    · obtain ⟨r, hr⟩ : ∃ r, l[i]? = some r := ⟨_, List.getElem?_eq_getElem (show i < l.length by rw [HLN.out]; exact hil)⟩
      obtain ⟨ab, ao, rfl, hab, habc⟩ := lies_cells chc_len (by decide) HA.out hr
      obtain ⟨bb, bo, rfl, hbb, hbbc⟩ := lies_cells chc_len (by decide) HB.out hr
      have x0 : wr.drew.cell? ⟨ab, ao + i * 5, none⟩ = some (.int .i64 r.rev) := (hbl1.cell (p := ⟨ab, ao + i * 5, none⟩) hab).trans (habc 0 _ rfl)
      have x1 : wr.drew.cell? ⟨ab, ao + i * 5 + 1, none⟩ = some (.bool r.del) := (hbl1.cell (p := ⟨ab, ao + i * 5 + 1, none⟩) hab).trans (habc 1 _ rfl)
      have x2 : wr.drew.cell? ⟨ab, ao + i * 5 + 2, none⟩ = some (.string r.t.o) := (hbl1.cell (p := ⟨ab, ao + i * 5 + 2, none⟩) hab).trans (habc 2 _ rfl)
      have x3 : wr.drew.cell? ⟨ab, ao + i * 5 + 3, none⟩ = some (.string r.t.r) := (hbl1.cell (p := ⟨ab, ao + i * 5 + 3, none⟩) hab).trans (habc 3 _ rfl)
      have x4 : wr.drew.cell? ⟨ab, ao + i * 5 + 4, none⟩ = some (.string r.t.u) := (hbl1.cell (p := ⟨ab, ao + i * 5 + 4, none⟩) hab).trans (habc 4 _ rfl)
      have y0 : wr.drew.cell? ⟨bb, bo + i * 5, none⟩ = some (.int .i64 r.rev) := (hbl.cell (p := ⟨bb, bo + i * 5, none⟩) hbb).trans (hbbc 0 _ rfl)
      have y1 : wr.drew.cell? ⟨bb, bo + i * 5 + 1, none⟩ = some (.bool r.del) := (hbl.cell (p := ⟨bb, bo + i * 5 + 1, none⟩) hbb).trans (hbbc 1 _ rfl)
      have y2 : wr.drew.cell? ⟨bb, bo + i * 5 + 2, none⟩ = some (.string r.t.o) := (hbl.cell (p := ⟨bb, bo + i * 5 + 2, none⟩) hbb).trans (hbbc 2 _ rfl)
      have y3 : wr.drew.cell? ⟨bb, bo + i * 5 + 3, none⟩ = some (.string r.t.r) := (hbl.cell (p := ⟨bb, bo + i * 5 + 3, none⟩) hbb).trans (hbbc 3 _ rfl)
      have y4 : wr.drew.cell? ⟨bb, bo + i * 5 + 4, none⟩ = some (.string r.t.u) := (hbl.cell (p := ⟨bb, bo + i * 5 + 4, none⟩) hbb).trans (hbbc 4 _ rfl)
      have hil2 : (i : Int) < (n : Int) := by omega
      have HBL := Lib.hid (bell_up hbl (below_drew1 wr))
      have HBL1 := Lib.hid (bell_up hbl1 (below_drew1 wr))
      clear habc hbbc hab hbb hr hbl hbl1
      go_upto_region 7 with fail
      go_region
      go_wp2
      go_roundw
      case rel => exact ⟨i + 1, by omega, by go_num, HBL.out, HBL1.out⟩
      case measure => simp [intOf]; omega
    · obtain rfl : i = n := by omega
      have HBL := Lib.hid hbl
      clear hbl hbl1
      go_wp2
      go_ret
      exact ⟨rfl, HBL.out⟩
end Go.Proofs.Yteimgebfbnmdcaa
