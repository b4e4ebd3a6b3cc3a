/- The writer: texts and tuples. -/
import Derived.Test.YteodldmbnghfcaaGreatC2
namespace Go.Proofs.YteodldmbnghfcaaGreat
open Go.RowKit

/-- A text, written. -/
def tx (S : ByteArray) : List Int := Vi.int S.size ++ bl S
theorem tx_byte (S : ByteArray) : ∀ x ∈ tx S, 0 ≤ x ∧ x < 256 := byte_app (Vi.int_byte _) (bl_byte S)

set_option maxHeartbeats 2000000 in
theorem wtext_long (g : Nat) (S : ByteArray) (w : World) (h : 128 < S.size) (hm : S.size ≤ 9223372036854775807) :
    Calls Tryz.prog 105 #[.pointer (some ⟨g, 0, none⟩), .string S] w fun e w' => e = .panicked [{ v := .iface 25 (.int .i64 2), recovered := false }] ∧ w = w' := by
  go_enter Tryz.func105, Tryz.ntmps105
  go_wp2
  exact ⟨rfl, rfl, rfl⟩

set_option maxRecDepth 100000 in
set_option maxHeartbeats 2000000 in
theorem wtext_fits (B g : Nat) (v : Value) (xs : List Int) (S : ByteArray) (w : World) (h : WAt w B g v xs) (hs : S.size ≤ 128) (hB : B ≤ w.heap.size) (hl : xs.length ≤ 1073741824) :
    Calls Tryz.prog 105 #[.pointer (some ⟨g, 0, none⟩), .string S] w (WDone w B g (xs ++ tx S)) := by
  obtain ⟨i0, hi, hz0, hz1, hz2⟩ := info_parts Tryz.infoB
  have HN := Lib.hid (wnumber_any B g v xs (S.size : Int) w h (by omega) (by omega) hB (by omega))
  have hil := Vi.int_length (S.size : Int) (by omega) (by omega)
  obtain ⟨ms, hms⟩ : ∃ ms, ms = xs ++ Vi.int S.size := ⟨_, rfl⟩
  rw [← hms] at HN
  have hml : ms.length ≤ 1073741834 := by rw [hms, List.length_append]; omega
  have hys : xs ++ tx S = ms ++ bl S := by rw [hms, tx, List.append_assoc]
  rw [hys]
  clear h hys hms hil
  go_enter Tryz.func105, Tryz.ntmps105
  go_wp2_with fail
  refine HN.out.mono ?_
  rintro e w1 ⟨rfl, v1, h1, hf1, hB1⟩
  have c0 : w1.cell? ⟨g, 0, none⟩ = some v1 := by rw [h1.blk.cell]; rfl
  obtain ⟨a1, k1, rfl, _, _⟩ := owned_any h1.own
  have hby := byte_app h1.byte (bl_byte S)
  have hmap : ms.map (Value.int .u8) ++ Lib.strCells S = (ms ++ bl S).map (Value.int .u8) := by rw [strCells_bl, List.map_append]
  have hlen : ms.length + S.size = (ms ++ bl S).length := by rw [List.length_append, bl_length]
  obtain ⟨ys, hys⟩ : ∃ ys, ys = ms ++ bl S := ⟨_, rfl⟩
  rw [← hys] at hby hmap hlen
  have HYS := Lib.hid hys
  have H1 := Lib.hid h1
  have HF := Lib.hid hf1
  have HBY := Lib.hid hby
  have HMAP := Lib.hid hmap
  have HLEN := Lib.hid hlen
  clear h1 hf1 hby hmap hlen hys
  go_wp2_with (at_builtin; refine Lib.wpList_append_own_string _ rfl (.tmp 16) (.tmp 17) 68 9 rfl B 5 i0 Tryz.underlying68 Tryz.underlying9 hi hz0 hz1 hz2 _ ms.length _ rfl H1.out.own S rfl (by unfold maxLen; omega) (by omega) hB1 ?_; intro v2 w2 ho hg _; rw [HMAP.out, HLEN.out] at ho; obtain ⟨p1, p2, p3, p4⟩ := H1.out.put ho HBY.out hg hB1; obtain ⟨a2, c2, rfl, _, _⟩ := owned_any ho; have P1 := Lib.hid p1; have P2 := Lib.hid (HF.out.trans p2); have hz := hg.size; clear p1 p2 ho hg)
  go_end0
  exact ⟨rfl, _, by rw [← HYS.out]; exact P1.out, P2.out, by simp [World.setCell]; omega⟩

/-- A tuple as it lies in memory. -/
def TupV (a b c : ByteArray) : Value := .agg #[.string a, .string b, .string c]
def tup (a b c : ByteArray) : List Int := tx a ++ (tx b ++ tx c)
/-- The panic with which the writer gives up. -/
abbrev Long : Ending := .panicked [{ v := .iface 25 (.int .i64 2), recovered := false }]

theorem tx_length (S : ByteArray) (h : S.size ≤ 128) : (tx S).length ≤ 138 := by
  have := Vi.int_length (S.size : Int) (by omega) (by omega)
  rw [tx, List.length_append, bl_length]
  omega

set_option maxRecDepth 100000 in
set_option maxHeartbeats 4000000 in
theorem wtuple_fits (B g : Nat) (v : Value) (xs : List Int) (a b c : ByteArray) (w : World) (h : WAt w B g v xs) (ha : a.size ≤ 128) (hb : b.size ≤ 128) (hc : c.size ≤ 128) (hB : B ≤ w.heap.size) (hl : xs.length ≤ 1073700000) :
    Calls Tryz.prog 96 #[.pointer (some ⟨g, 0, none⟩), TupV a b c] w (WDone w B g (xs ++ tup a b c)) := by
  have hla := tx_length a ha
  have hlb := tx_length b hb
  have hq : xs ++ tup a b c = ((xs ++ tx a) ++ tx b) ++ tx c := by simp [tup]
  rw [hq]
  unfold TupV
  have h0 := h.alloc (.cells #[.string a, .string b, .string c] 114)
  have hw0 : Whole (w.alloc (.cells #[.string a, .string b, .string c] 114)) w.heap.size 114 #[.string a, .string b, .string c] := heap_alloc_new w _
  have hne := h0.typed hw0 (by decide)
  have H0 := Lib.hid h0
  have HW := Lib.hid hw0
  have HNE := Lib.hid hne
  clear h h0 hw0 hne hq
  go_enter Tryz.func96, Tryz.ntmps96
  go_wp2_with fail
  refine (wtext_fits B g v xs a _ H0.out ha (by simp; omega) (by omega)).mono ?_
  rintro e w1 ⟨rfl, v1, h1, hf1, hB1⟩
  have k1 : w1.cell? ⟨w.heap.size, 1, none⟩ = some (.string b) := by rw [(hf1.whole HW.out (by decide) HNE.out).cell]; rfl
  have HF1 := Lib.hid hf1
  have H1 := Lib.hid h1
  clear hf1 h1
  go_wp2_with fail
  refine (wtext_fits B g v1 _ b _ H1.out hb hB1 (by rw [List.length_append]; omega)).mono ?_
  rintro e w2 ⟨rfl, v2, h2, hf2, hB2⟩
  have k2 : w2.cell? ⟨w.heap.size, 2, none⟩ = some (.string c) := by rw [((HF1.out.trans hf2).whole HW.out (by decide) HNE.out).cell]; rfl
  have HF2 := Lib.hid hf2
  have H2 := Lib.hid h2
  clear hf2 h2 k1
  go_wp2_with fail
  refine (wtext_fits B g v2 _ c _ H2.out hc hB2 (by rw [List.length_append, List.length_append]; omega)).mono ?_
  rintro e w3 ⟨rfl, v3, h3, hf3, hB3⟩
  have H3 := Lib.hid h3
  have HF3 := Lib.hid ((((WF.refl B g w).alloc hB _).trans HF1.out).trans (HF2.out.trans hf3))
  clear h3 hf3 k2
  go_wp2
  go_end0
  exact ⟨rfl, v3, H3.out, HF3.out, hB3⟩

/-- What a call of the writer that gives up comes to. -/
def WLong (w : World) (B g : Nat) (e : Ending) (w' : World) : Prop := e = Long ∧ Below B w w' ∧ B ≤ w'.heap.size ∧ ∀ k cs t fr, t ≠ 5 → k ≠ g → w.heap[k]? = some (.cells cs t fr) → w'.heap[k]? = some (.cells cs t fr)
theorem WF.long {B g : Nat} {w w' : World} (h : WF B g w w') (hB : B ≤ w'.heap.size) : WLong w B g Long w' := ⟨rfl, h.below, hB, h.other⟩

set_option maxRecDepth 100000 in
set_option maxHeartbeats 4000000 in
theorem wtuple_long (B g : Nat) (v : Value) (xs : List Int) (a b c : ByteArray) (w : World) (h : WAt w B g v xs) (hlong : 128 < a.size ∨ 128 < b.size ∨ 128 < c.size) (hB : B ≤ w.heap.size) (hl : xs.length ≤ 1073700000)
    (ha' : a.size ≤ 9223372036854775807) (hb' : b.size ≤ 9223372036854775807) (hc' : c.size ≤ 9223372036854775807) :
    Calls Tryz.prog 96 #[.pointer (some ⟨g, 0, none⟩), TupV a b c] w (WLong w B g) := by
  unfold TupV
  have h0 := h.alloc (.cells #[.string a, .string b, .string c] 114)
  have hw0 : Whole (w.alloc (.cells #[.string a, .string b, .string c] 114)) w.heap.size 114 #[.string a, .string b, .string c] := heap_alloc_new w _
  have hne := h0.typed hw0 (by decide)
  have hf0 := (WF.refl B g w).alloc hB (.cells #[.string a, .string b, .string c] 114)
  have H0 := Lib.hid h0
  have HW := Lib.hid hw0
  have HNE := Lib.hid hne
  have HF0 := Lib.hid hf0
  have HLB := Lib.hid hb'
  have HLC := Lib.hid hc'
  have HLA := Lib.hid ha'
  clear h h0 hw0 hne hf0 ha' hb' hc'
  by_cases ha : 128 < a.size
  · go_enter Tryz.func96, Tryz.ntmps96
    go_wp2_with fail
    refine (wtext_long g a _ ha HLA.out).mono ?_
    rintro e w1 ⟨rfl, rfl⟩
    go_wp2
    exact ⟨rfl, HF0.out.long (by simp; omega)⟩
  · have ha2 : a.size ≤ 128 := by omega
    have hla := tx_length a ha2
    go_enter Tryz.func96, Tryz.ntmps96
    go_wp2_with fail
    refine (wtext_fits B g v xs a _ H0.out ha2 (by simp; omega) (by omega)).mono ?_
    rintro e w1 ⟨rfl, v1, h1, hf1, hB1⟩
    have k1 : w1.cell? ⟨w.heap.size, 1, none⟩ = some (.string b) := by rw [(hf1.whole HW.out (by decide) HNE.out).cell]; rfl
    have HF1 := Lib.hid (HF0.out.trans hf1)
    have HF1' := Lib.hid hf1
    have H1 := Lib.hid h1
    clear hf1 h1
    by_cases hb : 128 < b.size
    · go_wp2_with fail
      refine (wtext_long g b _ hb HLB.out).mono ?_
      rintro e w2 ⟨rfl, rfl⟩
      go_wp2
      exact ⟨rfl, HF1.out.long hB1⟩
    · have hb2 : b.size ≤ 128 := by omega
      go_wp2_with fail
      refine (wtext_fits B g v1 _ b _ H1.out hb2 hB1 (by rw [List.length_append]; omega)).mono ?_
      rintro e w2 ⟨rfl, v2, h2, hf2, hB2⟩
      have k2 : w2.cell? ⟨w.heap.size, 2, none⟩ = some (.string c) := by rw [((HF1'.out.trans hf2).whole HW.out (by decide) HNE.out).cell]; rfl
      have HF2 := Lib.hid (HF1.out.trans hf2)
      clear hf2 h2 k1
      have hc : 128 < c.size := by omega
      go_wp2_with fail
      refine (wtext_long g c _ hc HLC.out).mono ?_
      rintro e w3 ⟨rfl, rfl⟩
      go_wp2
      exact ⟨rfl, HF2.out.long hB2⟩
end Go.Proofs.YteodldmbnghfcaaGreat
