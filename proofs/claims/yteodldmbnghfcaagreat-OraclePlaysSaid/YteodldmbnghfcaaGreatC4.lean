/- The writer's closures: one item each. -/
import Derived.Test.YteodldmbnghfcaaGreatC3
namespace Go.Proofs.YteodldmbnghfcaaGreat
open Go.RowKit

/-- A truth and a tuple, written. -/
def flagged (d : Bool) (a b c : ByteArray) : List Int := bit d :: tup a b c

set_option maxHeartbeats 2000000 in
theorem cint_any (B g gv : Nat) (v : Value) (xs : List Int) (n : Int) (w : World) (h : WAt w B g v xs) (hv : Whole w gv 155 #[.pointer (some ⟨g, 0, none⟩)]) (hn1 : -9223372036854775808 ≤ n) (hn2 : n ≤ 9223372036854775807) (hB : B ≤ w.heap.size) (hl : xs.length ≤ 1073600000) :
    Calls Tryz.prog 93 #[.int .i64 n, .pointer (some ⟨gv, 0, none⟩)] w (WDone w B g (xs ++ Vi.int n)) := by
  have cv0 : w.cell? ⟨gv, 0, none⟩ = some (.pointer (some ⟨g, 0, none⟩)) := by rw [hv.cell]; rfl
  have HN := Lib.hid (wnumber_any B g v xs n w h hn1 hn2 hB (by omega))
  clear h hv hn1 hn2
  go_enter Tryz.func93, Tryz.ntmps93
  go_wp2_with fail
  refine HN.out.mono ?_
  rintro e w1 ⟨rfl, h1⟩
  have H1 := Lib.hid h1
  clear h1 cv0
  go_wp2
  go_end0
  exact ⟨rfl, H1.out⟩

set_option maxRecDepth 100000 in
set_option maxHeartbeats 4000000 in
theorem cmut_fits (B g gv : Nat) (v : Value) (xs : List Int) (d : Bool) (a b c : ByteArray) (w : World) (h : WAt w B g v xs) (hv : Whole w gv 155 #[.pointer (some ⟨g, 0, none⟩)]) (ha : a.size ≤ 128) (hb : b.size ≤ 128) (hc : c.size ≤ 128) (hB : B ≤ w.heap.size) (hl : xs.length ≤ 1073600000) :
    Calls Tryz.prog 95 #[.agg #[.bool d, .string a, .string b, .string c], .pointer (some ⟨gv, 0, none⟩)] w (WDone w B g (xs ++ flagged d a b c)) := by
  have hq : xs ++ flagged d a b c = (xs ++ [bit d]) ++ tup a b c := by rw [flagged, List.append_assoc]; rfl
  rw [hq]
  have h0 := h.alloc (.cells #[.bool d, .string a, .string b, .string c] 116)
  have hw0 : Whole (w.alloc (.cells #[.bool d, .string a, .string b, .string c] 116)) w.heap.size 116 #[.bool d, .string a, .string b, .string c] := heap_alloc_new w _
  have hv0 := hv.kept (Below.heap_alloc w (.cells #[.bool d, .string a, .string b, .string c] 116) gv hv.lt)
  have hne := h0.typed hw0 (by decide)
  have hnv := h0.typed hv0 (by decide)
  have cv0 : w.cell? ⟨gv, 0, none⟩ = some (.pointer (some ⟨g, 0, none⟩)) := by rw [hv.cell]; rfl
  have hgl := hv.lt
  have H0 := Lib.hid h0
  have HW := Lib.hid hw0
  have HV := Lib.hid hv0
  have HNE := Lib.hid hne
  have HNV := Lib.hid hnv
  clear h h0 hw0 hne hq hv hv0 hnv
  go_enter Tryz.func95, Tryz.ntmps95
  go_wp2_with fail
  refine (wtruth_any B g v xs d _ H0.out (by simp; omega) (by omega)).mono ?_
  rintro e w1 ⟨rfl, v1, h1, hf1, hB1⟩
  have kw := hf1.whole HW.out (by decide) HNE.out
  have k1 : w1.cell? ⟨w.heap.size, 1, none⟩ = some (.string a) := by rw [kw.cell]; rfl
  have k2 : w1.cell? ⟨w.heap.size, 2, none⟩ = some (.string b) := by rw [kw.cell]; rfl
  have k3 : w1.cell? ⟨w.heap.size, 3, none⟩ = some (.string c) := by rw [kw.cell]; rfl
  have kv : w1.cell? ⟨gv, 0, none⟩ = some (.pointer (some ⟨g, 0, none⟩)) := by rw [(hf1.whole HV.out (by decide) HNV.out).cell]; rfl
  have HF1 := Lib.hid hf1
  have H1 := Lib.hid h1
  clear hf1 h1 kw cv0
  go_wp2_with fail
  refine (wtuple_fits B g v1 _ a b c _ H1.out ha hb hc hB1 (by rw [List.length_append, List.length_singleton]; omega)).mono ?_
  rintro e w2 ⟨rfl, v2, h2, hf2, hB2⟩
  have H2 := Lib.hid h2
  have HF2 := Lib.hid ((((WF.refl B g w).alloc hB _).trans HF1.out).trans hf2)
  clear h2 hf2 k1 k2 k3 kv
  go_wp2
  go_end0
  exact ⟨rfl, v2, H2.out, HF2.out, hB2⟩

set_option maxRecDepth 100000 in
set_option maxHeartbeats 4000000 in
theorem cmut_long (B g gv : Nat) (v : Value) (xs : List Int) (d : Bool) (a b c : ByteArray) (w : World) (h : WAt w B g v xs) (hv : Whole w gv 155 #[.pointer (some ⟨g, 0, none⟩)]) (hlong : 128 < a.size ∨ 128 < b.size ∨ 128 < c.size) (hB : B ≤ w.heap.size) (hl : xs.length ≤ 1073600000)
    (ha' : a.size ≤ 9223372036854775807) (hb' : b.size ≤ 9223372036854775807) (hc' : c.size ≤ 9223372036854775807) :
    Calls Tryz.prog 95 #[.agg #[.bool d, .string a, .string b, .string c], .pointer (some ⟨gv, 0, none⟩)] w (WLong w B g) := by
  have h0 := h.alloc (.cells #[.bool d, .string a, .string b, .string c] 116)
  have hw0 : Whole (w.alloc (.cells #[.bool d, .string a, .string b, .string c] 116)) w.heap.size 116 #[.bool d, .string a, .string b, .string c] := heap_alloc_new w _
  have hv0 := hv.kept (Below.heap_alloc w (.cells #[.bool d, .string a, .string b, .string c] 116) gv hv.lt)
  have hne := h0.typed hw0 (by decide)
  have hnv := h0.typed hv0 (by decide)
  have cv0 : w.cell? ⟨gv, 0, none⟩ = some (.pointer (some ⟨g, 0, none⟩)) := by rw [hv.cell]; rfl
  have hgl := hv.lt
  have H0 := Lib.hid h0
  have HW := Lib.hid hw0
  have HV := Lib.hid hv0
  have HNE := Lib.hid hne
  have HNV := Lib.hid hnv
  have HLO := Lib.hid hlong
  have HA' := Lib.hid ha'
  have HB' := Lib.hid hb'
  have HC' := Lib.hid hc'
  clear h h0 hw0 hne hv hv0 hnv hlong ha' hb' hc'
  go_enter Tryz.func95, Tryz.ntmps95
  go_wp2_with fail
  refine (wtruth_any B g v xs d _ H0.out (by simp; omega) (by omega)).mono ?_
  rintro e w1 ⟨rfl, v1, h1, hf1, hB1⟩
  have kw := hf1.whole HW.out (by decide) HNE.out
  have k1 : w1.cell? ⟨w.heap.size, 1, none⟩ = some (.string a) := by rw [kw.cell]; rfl
  have k2 : w1.cell? ⟨w.heap.size, 2, none⟩ = some (.string b) := by rw [kw.cell]; rfl
  have k3 : w1.cell? ⟨w.heap.size, 3, none⟩ = some (.string c) := by rw [kw.cell]; rfl
  have kv : w1.cell? ⟨gv, 0, none⟩ = some (.pointer (some ⟨g, 0, none⟩)) := by rw [(hf1.whole HV.out (by decide) HNV.out).cell]; rfl
  have HF1 := Lib.hid hf1
  have H1 := Lib.hid h1
  clear hf1 h1 kw cv0
  go_wp2_with fail
  refine (wtuple_long B g v1 _ a b c _ H1.out HLO.out hB1 (by rw [List.length_append, List.length_singleton]; omega) HA'.out HB'.out HC'.out).mono ?_
  rintro e w2 ⟨rfl, hb2, hB2, ho2⟩
  have HF2 := Lib.hid ((((WF.refl B g w).alloc hB _).trans HF1.out).trans (WF.mk hb2 ho2))
  clear hb2 ho2 k1 k2 k3 kv
  go_wp2
  exact ⟨rfl, HF2.out.long hB2⟩

set_option maxRecDepth 100000 in
set_option maxHeartbeats 4000000 in
theorem ccon_fits (B g gv : Nat) (v : Value) (xs : List Int) (d : Bool) (a b c : ByteArray) (w : World) (h : WAt w B g v xs) (hv : Whole w gv 155 #[.pointer (some ⟨g, 0, none⟩)]) (ha : a.size ≤ 128) (hb : b.size ≤ 128) (hc : c.size ≤ 128) (hB : B ≤ w.heap.size) (hl : xs.length ≤ 1073600000) :
    Calls Tryz.prog 98 #[.agg #[.bool d, .string a, .string b, .string c], .pointer (some ⟨gv, 0, none⟩)] w (WDone w B g (xs ++ flagged d a b c)) := by
  have hq : xs ++ flagged d a b c = (xs ++ [bit d]) ++ tup a b c := by rw [flagged, List.append_assoc]; rfl
  rw [hq]
  have h0 := h.alloc (.cells #[.bool d, .string a, .string b, .string c] 119)
  have hw0 : Whole (w.alloc (.cells #[.bool d, .string a, .string b, .string c] 119)) w.heap.size 119 #[.bool d, .string a, .string b, .string c] := heap_alloc_new w _
  have hv0 := hv.kept (Below.heap_alloc w (.cells #[.bool d, .string a, .string b, .string c] 119) gv hv.lt)
  have hne := h0.typed hw0 (by decide)
  have hnv := h0.typed hv0 (by decide)
  have cv0 : w.cell? ⟨gv, 0, none⟩ = some (.pointer (some ⟨g, 0, none⟩)) := by rw [hv.cell]; rfl
  have hgl := hv.lt
  have H0 := Lib.hid h0
  have HW := Lib.hid hw0
  have HV := Lib.hid hv0
  have HNE := Lib.hid hne
  have HNV := Lib.hid hnv
  clear h h0 hw0 hne hq hv hv0 hnv
  go_enter Tryz.func98, Tryz.ntmps98
  go_wp2_with fail
  refine (wtruth_any B g v xs d _ H0.out (by simp; omega) (by omega)).mono ?_
  rintro e w1 ⟨rfl, v1, h1, hf1, hB1⟩
  have kw := hf1.whole HW.out (by decide) HNE.out
  have k1 : w1.cell? ⟨w.heap.size, 1, none⟩ = some (.string a) := by rw [kw.cell]; rfl
  have k2 : w1.cell? ⟨w.heap.size, 2, none⟩ = some (.string b) := by rw [kw.cell]; rfl
  have k3 : w1.cell? ⟨w.heap.size, 3, none⟩ = some (.string c) := by rw [kw.cell]; rfl
  have kv : w1.cell? ⟨gv, 0, none⟩ = some (.pointer (some ⟨g, 0, none⟩)) := by rw [(hf1.whole HV.out (by decide) HNV.out).cell]; rfl
  have HF1 := Lib.hid hf1
  have H1 := Lib.hid h1
  clear hf1 h1 kw cv0
  go_wp2_with fail
  refine (wtuple_fits B g v1 _ a b c _ H1.out ha hb hc hB1 (by rw [List.length_append, List.length_singleton]; omega)).mono ?_
  rintro e w2 ⟨rfl, v2, h2, hf2, hB2⟩
  have H2 := Lib.hid h2
  have HF2 := Lib.hid ((((WF.refl B g w).alloc hB _).trans HF1.out).trans hf2)
  clear h2 hf2 k1 k2 k3 kv
  go_wp2
  go_end0
  exact ⟨rfl, v2, H2.out, HF2.out, hB2⟩

set_option maxRecDepth 100000 in
set_option maxHeartbeats 4000000 in
theorem ccon_long (B g gv : Nat) (v : Value) (xs : List Int) (d : Bool) (a b c : ByteArray) (w : World) (h : WAt w B g v xs) (hv : Whole w gv 155 #[.pointer (some ⟨g, 0, none⟩)]) (hlong : 128 < a.size ∨ 128 < b.size ∨ 128 < c.size) (hB : B ≤ w.heap.size) (hl : xs.length ≤ 1073600000)
    (ha' : a.size ≤ 9223372036854775807) (hb' : b.size ≤ 9223372036854775807) (hc' : c.size ≤ 9223372036854775807) :
    Calls Tryz.prog 98 #[.agg #[.bool d, .string a, .string b, .string c], .pointer (some ⟨gv, 0, none⟩)] w (WLong w B g) := by
  have h0 := h.alloc (.cells #[.bool d, .string a, .string b, .string c] 119)
  have hw0 : Whole (w.alloc (.cells #[.bool d, .string a, .string b, .string c] 119)) w.heap.size 119 #[.bool d, .string a, .string b, .string c] := heap_alloc_new w _
  have hv0 := hv.kept (Below.heap_alloc w (.cells #[.bool d, .string a, .string b, .string c] 119) gv hv.lt)
  have hne := h0.typed hw0 (by decide)
  have hnv := h0.typed hv0 (by decide)
  have cv0 : w.cell? ⟨gv, 0, none⟩ = some (.pointer (some ⟨g, 0, none⟩)) := by rw [hv.cell]; rfl
  have hgl := hv.lt
  have H0 := Lib.hid h0
  have HW := Lib.hid hw0
  have HV := Lib.hid hv0
  have HNE := Lib.hid hne
  have HNV := Lib.hid hnv
  have HLO := Lib.hid hlong
  have HA' := Lib.hid ha'
  have HB' := Lib.hid hb'
  have HC' := Lib.hid hc'
  clear h h0 hw0 hne hv hv0 hnv hlong ha' hb' hc'
  go_enter Tryz.func98, Tryz.ntmps98
  go_wp2_with fail
  refine (wtruth_any B g v xs d _ H0.out (by simp; omega) (by omega)).mono ?_
  rintro e w1 ⟨rfl, v1, h1, hf1, hB1⟩
  have kw := hf1.whole HW.out (by decide) HNE.out
  have k1 : w1.cell? ⟨w.heap.size, 1, none⟩ = some (.string a) := by rw [kw.cell]; rfl
  have k2 : w1.cell? ⟨w.heap.size, 2, none⟩ = some (.string b) := by rw [kw.cell]; rfl
  have k3 : w1.cell? ⟨w.heap.size, 3, none⟩ = some (.string c) := by rw [kw.cell]; rfl
  have kv : w1.cell? ⟨gv, 0, none⟩ = some (.pointer (some ⟨g, 0, none⟩)) := by rw [(hf1.whole HV.out (by decide) HNV.out).cell]; rfl
  have HF1 := Lib.hid hf1
  have H1 := Lib.hid h1
  clear hf1 h1 kw cv0
  go_wp2_with fail
  refine (wtuple_long B g v1 _ a b c _ H1.out HLO.out hB1 (by rw [List.length_append, List.length_singleton]; omega) HA'.out HB'.out HC'.out).mono ?_
  rintro e w2 ⟨rfl, hb2, hB2, ho2⟩
  have HF2 := Lib.hid ((((WF.refl B g w).alloc hB _).trans HF1.out).trans (WF.mk hb2 ho2))
  clear hb2 ho2 k1 k2 k3 kv
  go_wp2
  exact ⟨rfl, HF2.out.long hB2⟩

/-- A row, written. -/
def rowB (a b c : ByteArray) (s u : Int) : List Int := tup a b c ++ (Vi.int s ++ Vi.int u)

set_option maxRecDepth 100000 in
set_option maxHeartbeats 4000000 in
theorem crow_fits (B g gv : Nat) (v : Value) (xs : List Int) (a b c : ByteArray) (s u : Int) (w : World) (h : WAt w B g v xs) (hv : Whole w gv 155 #[.pointer (some ⟨g, 0, none⟩)]) (ha : a.size ≤ 128) (hb : b.size ≤ 128) (hc : c.size ≤ 128)
    (hs1 : -9223372036854775808 ≤ s) (hs2 : s ≤ 9223372036854775807) (hu1 : -9223372036854775808 ≤ u) (hu2 : u ≤ 9223372036854775807) (hB : B ≤ w.heap.size) (hl : xs.length ≤ 1073600000) :
    Calls Tryz.prog 100 #[.agg #[.string a, .string b, .string c, .int .i64 s, .int .i64 u], .pointer (some ⟨gv, 0, none⟩)] w (WDone w B g (xs ++ rowB a b c s u)) := by
  have hq : xs ++ rowB a b c s u = ((xs ++ tup a b c) ++ Vi.int s) ++ Vi.int u := by simp [rowB]
  have htl : (tup a b c).length ≤ 414 := by
    have := tx_length a ha
    have := tx_length b hb
    have := tx_length c hc
    rw [tup, List.length_append, List.length_append]
    omega
  have hsl := Vi.int_length s hs1 hs2
  rw [hq]
  have h0 := h.alloc (.cells #[.string a, .string b, .string c, .int .i64 s, .int .i64 u] 121)
  have hw0 : Whole (w.alloc (.cells #[.string a, .string b, .string c, .int .i64 s, .int .i64 u] 121)) w.heap.size 121 #[.string a, .string b, .string c, .int .i64 s, .int .i64 u] := heap_alloc_new w _
  have hv0 := hv.kept (Below.heap_alloc w (.cells #[.string a, .string b, .string c, .int .i64 s, .int .i64 u] 121) gv hv.lt)
  have hne := h0.typed hw0 (by decide)
  have hnv := h0.typed hv0 (by decide)
  have cv0 : w.cell? ⟨gv, 0, none⟩ = some (.pointer (some ⟨g, 0, none⟩)) := by rw [hv.cell]; rfl
  have hgl := hv.lt
  have H0 := Lib.hid h0
  have HW := Lib.hid hw0
  have HV := Lib.hid hv0
  have HNE := Lib.hid hne
  have HNV := Lib.hid hnv
  clear h h0 hw0 hne hq hv hv0 hnv
  go_enter Tryz.func100, Tryz.ntmps100
  go_wp2_with fail
  refine (wtuple_fits B g v xs a b c _ H0.out ha hb hc (by simp; omega) (by omega)).mono ?_
  rintro e w1 ⟨rfl, v1, h1, hf1, hB1⟩
  have k3 : w1.cell? ⟨w.heap.size, 3, none⟩ = some (.int .i64 s) := by rw [(hf1.whole HW.out (by decide) HNE.out).cell]; rfl
  have kv : w1.cell? ⟨gv, 0, none⟩ = some (.pointer (some ⟨g, 0, none⟩)) := by rw [(hf1.whole HV.out (by decide) HNV.out).cell]; rfl
  have HF1 := Lib.hid hf1
  have H1 := Lib.hid h1
  clear hf1 h1 cv0
  go_wp2_with fail
  refine (wnumber_any B g v1 _ s _ H1.out hs1 hs2 hB1 (by rw [List.length_append]; omega)).mono ?_
  rintro e w2 ⟨rfl, v2, h2, hf2, hB2⟩
  have k4 : w2.cell? ⟨w.heap.size, 4, none⟩ = some (.int .i64 u) := by rw [((HF1.out.trans hf2).whole HW.out (by decide) HNE.out).cell]; rfl
  have kv2 : w2.cell? ⟨gv, 0, none⟩ = some (.pointer (some ⟨g, 0, none⟩)) := by rw [((HF1.out.trans hf2).whole HV.out (by decide) HNV.out).cell]; rfl
  have HF2 := Lib.hid (HF1.out.trans hf2)
  have H2 := Lib.hid h2
  clear hf2 h2 k3 kv
  go_wp2_with fail
  refine (wnumber_any B g v2 _ u _ H2.out hu1 hu2 hB2 (by rw [List.length_append, List.length_append]; omega)).mono ?_
  rintro e w3 ⟨rfl, v3, h3, hf3, hB3⟩
  have H3 := Lib.hid h3
  have HF3 := Lib.hid ((((WF.refl B g w).alloc hB _).trans HF2.out).trans hf3)
  clear h3 hf3 k4 kv2
  go_wp2
  go_end0
  exact ⟨rfl, v3, H3.out, HF3.out, hB3⟩

set_option maxRecDepth 100000 in
set_option maxHeartbeats 4000000 in
theorem crow_long (B g gv : Nat) (v : Value) (xs : List Int) (a b c : ByteArray) (s u : Int) (w : World) (h : WAt w B g v xs) (hv : Whole w gv 155 #[.pointer (some ⟨g, 0, none⟩)]) (hlong : 128 < a.size ∨ 128 < b.size ∨ 128 < c.size) (hB : B ≤ w.heap.size) (hl : xs.length ≤ 1073600000)
    (ha' : a.size ≤ 9223372036854775807) (hb' : b.size ≤ 9223372036854775807) (hc' : c.size ≤ 9223372036854775807) :
    Calls Tryz.prog 100 #[.agg #[.string a, .string b, .string c, .int .i64 s, .int .i64 u], .pointer (some ⟨gv, 0, none⟩)] w (WLong w B g) := by
  have h0 := h.alloc (.cells #[.string a, .string b, .string c, .int .i64 s, .int .i64 u] 121)
  have cv0 : w.cell? ⟨gv, 0, none⟩ = some (.pointer (some ⟨g, 0, none⟩)) := by rw [hv.cell]; rfl
  have hgl := hv.lt
  have H0 := Lib.hid h0
  have HLO := Lib.hid hlong
  have HA' := Lib.hid ha'
  have HB' := Lib.hid hb'
  have HC' := Lib.hid hc'
  clear h h0 hv hlong ha' hb' hc'
  go_enter Tryz.func100, Tryz.ntmps100
  go_wp2_with fail
  refine (wtuple_long B g v xs a b c _ H0.out HLO.out (by simp; omega) (by omega) HA'.out HB'.out HC'.out).mono ?_
  rintro e w2 ⟨rfl, hb2, hB2, ho2⟩
  have HF2 := Lib.hid (((WF.refl B g w).alloc hB _).trans (WF.mk hb2 ho2))
  clear hb2 ho2 cv0
  go_wp2
  exact ⟨rfl, HF2.out.long hB2⟩
end Go.Proofs.YteodldmbnghfcaaGreat
