/- The document's cache: without. -/
import Derived.Test.YtfhflijlgejknaaKR0
namespace Go.Proofs.Ytfhflijlgejknaa
open Go.RowKit

theorem Try.infoQ : (Try.prog.info? 40).map (fun i => (i.zero, i.size, i.bytes)) = some (some (.agg #[.string ⟨#[]⟩, .int .i64 0]), 2, 24) := by kernel_rfl
/-- Where a slice's rest begins. -/
def tail2 (a : Option Addr) (c m : Nat) : Option Addr := if c = m then a else a.map (·.add (m * 2))
theorem slice_tail (a : Option Addr) (n c m : Nat) (hm : m ≤ n) (w : World) :
    (Instr.slice 29 (.slice a n c) (some (.int .i64 (m : Int))) none none).run Try.prog w = .ok (.slice (tail2 a c m) (n - m) (c - m)) w := by
  rw [run_slice_l w _ _ _ _ (by kernel_rfl) .i64 (m : Int) (by omega) (by omega), show Try.prog.elem 29 = 40 by kernel_rfl, show (sizeOf 40).run Try.prog w = .ok 2 w by kernel_rfl]
  simp [Result.andThen, sliced, tail2]
theorem slice_head (a : Option Addr) (n c m : Nat) (hm : m ≤ c) (w : World) :
    (Instr.slice 29 (.slice a n c) none (some (.int .i64 (m : Int))) none).run Try.prog w = .ok (.slice a m c) w := by
  rw [run_slice_h w _ _ _ _ (by kernel_rfl) .i64 (m : Int) (by omega) (by omega), show Try.prog.elem 29 = 40 by kernel_rfl, show (sizeOf 40).run Try.prog w = .ok 2 w by kernel_rfl]
  simp [Result.andThen, sliced]
  intro hc
  cases a <;> simp [Addr.add]
theorem Pairs.head {w : World} {B n c m : Nat} {a : Option Addr} {l : List Pr} (h : Pairs w B a n c l) (hm : m ≤ n) : Pairs w B a m c (l.take m) := by
  refine ⟨by rw [List.length_take, h.len]; omega, fun ha => by have := h.nil ha; omega, by have := h.room; omega, h.big, fun ad ha => ?_⟩
  obtain ⟨h1, h2, h3, h4, h5⟩ := h.at_ ad ha
  refine ⟨h1, h2, h3, h4, fun j u hu => h5 j u ?_⟩
  rw [← flat_take, List.getElem?_take] at hu
  split at hu
  · exact hu
  · cases hu
theorem Pairs.tail {w : World} {B n c m : Nat} {a : Option Addr} {l : List Pr} (h : Pairs w B a n c l) (hm : m ≤ n) : Pairs w B (tail2 a c m) (n - m) (c - m) (l.drop m) := by
  have hroom := h.room
  refine ⟨by rw [List.length_drop, h.len], fun ha => ?_, by omega, by have := h.big; omega, fun ad ha => ?_⟩
  · unfold tail2 at ha
    split at ha
    · have := h.nil ha; omega
    · cases a with
      | none => have := h.nil rfl; omega
      | some ad => simp at ha
  · unfold tail2 at ha
    by_cases hc : c = m
    · rw [if_pos hc] at ha
      obtain ⟨h1, h2, h3, h4, h5⟩ := h.at_ ad ha
      refine ⟨h1, h2, h3, h4, fun j u hu => ?_⟩
      rw [List.drop_eq_nil_of_le (by rw [h.len]; omega)] at hu
      simp [flat_nil] at hu
    · rw [if_neg hc] at ha
      cases a with
      | none => simp at ha
      | some ad0 =>
        simp only [Option.map_some, Option.some.injEq] at ha
        subst ha
        obtain ⟨h1, h2, h3, h4, h5⟩ := h.at_ ad0 rfl
        obtain ⟨b, off, spot⟩ := ad0
        simp only at h1
        subst h1
        rw [add_plain]
        refine ⟨rfl, h2, h3, h4, fun j u hu => ?_⟩
        rw [← flat_drop, List.getElem?_drop] at hu
        have := h5 _ _ hu
        rw [add_plain] at this ⊢
        rw [← this]
        congr 2
        omega
theorem empty_row (w : World) : (Instr.buildSlice 29 0 #[]).run Try.prog w = .ok (.slice (some ⟨w.heap.size, 0, none⟩) 0 0) (w.alloc (.cells #[] 40)) := by
  obtain ⟨i0, hi0, hz0, hz1, hz2⟩ := KS.info_of Try.infoQ
  simp [Instr.buildSlice, run_underlying Try.underlying29, sizeOf, typeInfo, hi0, Instr.fill, newRow]
  rw [Array.eq_empty_of_size_eq_zero (show (Array.map (fun _ => default) (Array.range 0) : Array Value).size = 0 by simp)]

theorem Pairs.mono {w : World} {B B' n c : Nat} {a : Option Addr} {l : List Pr} (h : Pairs w B a n c l) (hb : B' ≤ B) : Pairs w B' a n c l := ⟨h.len, h.nil, h.room, h.big, fun ad ha => by obtain ⟨h1, h2, h3, h4⟩ := h.at_ ad ha; exact ⟨h1, h2, by omega, h4⟩⟩
theorem Pairs.news {w : World} {B n c : Nat} {a : Option Addr} {l : List Pr} (h : Pairs w B a n c l) : ∀ ad, a = some ad → ∀ (j : Nat) u, (flat l)[j]? = some u → w.cell? (ad.add j) = some u := fun ad ha => (h.at_ ad ha).2.2.2.2

set_option maxRecDepth 100000 in
set_option maxHeartbeats 4000000 in
theorem rwithout_any {B n c i : Nat} {a : Option Addr} {l : List Pr} (x y z : Int) (w : World) (h : Pairs w B a n c l) (hn : n ≤ 4096) (hi : i < n) :
    Calls Try.prog 45 #[.agg #[.slice a n c, .int .i64 x, .int .i64 y, .int .i64 z], .int .i64 (i : Int)] w fun e w' => (∃ a' c', e = .returned (.slice a' (n - 1) c') ∧ Pairs w' w.heap.size a' (n - 1) c' (l.take i ++ l.drop (i + 1))) ∧ Below w.heap.size w w' := by
  obtain ⟨i0, hi0, hz0, hz1, hz2⟩ := KS.info_of Try.infoQ
  have hroom := h.room
  obtain ⟨b, off, rfl⟩ : ∃ b off, a = some ⟨b, off, none⟩ := by
    cases a with
    | none => have := h.nil rfl; omega
    | some ad =>
      obtain ⟨b, off, spot⟩ := ad
      have h1 := (h.at_ _ rfl).1
      simp only at h1
      subst h1
      exact ⟨b, off, rfl⟩
  have hbs := empty_row
  have hsh : ∀ w : World, (Instr.slice 29 (.slice (some ⟨b, off, none⟩) n c) none (some (.int .i64 (i : Int))) none).run Try.prog w = .ok (.slice (some ⟨b, off, none⟩) i c) w := slice_head _ n c i (by omega)
  have hst : ∀ w : World, (Instr.slice 29 (.slice (some ⟨b, off, none⟩) n c) (some (.int .i64 ((i : Int) + 1))) none none).run Try.prog w = .ok (.slice (tail2 (some ⟨b, off, none⟩) c (i + 1)) (n - (i + 1)) (c - (i + 1))) w := slice_tail _ n c (i + 1) (by omega)
  obtain ⟨w0, hw0⟩ : ∃ w0, w0 = w.alloc (.cells #[.slice (some ⟨b, off, none⟩) n c, .int .i64 x, .int .i64 y, .int .i64 z] 31) := ⟨_, rfl⟩
  have hb0 : Below w.heap.size w w0 := by rw [hw0]; exact below_alloc _ _
  have hx0 : Whole w0 w.heap.size 31 #[.slice (some ⟨b, off, none⟩) n c, .int .i64 x, .int .i64 y, .int .i64 z] := by rw [hw0]; exact heap_alloc_new _ _
  have hs0 : w0.heap.size = w.heap.size + 1 := by rw [hw0]; simp
  have c0 : w0.cell? ⟨w.heap.size, 0, none⟩ = some (.slice (some ⟨b, off, none⟩) n c) := by rw [hx0.cell]; rfl
  have HH := Lib.hid (((h.below hb0).head (m := i) (by omega)).below (below_alloc w0 (.cells #[] 40)))
  have HT := Lib.hid ((h.below hb0).tail (m := i + 1) (by omega))
  have HB := Lib.hid hb0
  have HL := Lib.hid h.len
  have HR := Lib.hid (show (w0.alloc (.cells #[] 40)).ownsRow (w.heap.size + 1) 40 2 (.slice (some ⟨w.heap.size + 1, 0, none⟩) 0 0) 0 [] by
    have h := World.ownsRow_made (base := w.heap.size + 1) (size := 2) (e := 40) w0 #[] 0 (by omega) (by simp [maxLen]) rfl
    rwa [hs0] at h)
  have HBA := Lib.hid (show Below (w.heap.size + 1) w0 (w0.alloc (.cells #[] 40)) by rw [← hs0]; exact below_alloc _ _)
  have hs1 : (w0.alloc (.cells #[] 40)).heap.size = w.heap.size + 2 := by simp [hs0]
  have hni : i + (n - (i + 1)) = n - 1 := by omega
  have hml : n - (i + 1) ≤ n := by omega
  clear h hb0 hx0
  generalize tail2 (some ⟨b, off, none⟩) c (i + 1) = a' at *
  generalize n - (i + 1) = m at *
  generalize c - (i + 1) = c' at *
  go_enter Try.func45, Try.ntmps45
  go_wp2_with (first
    | (at_builtin; rw [← hw0]; (refine wpList_append_at_any _ rfl (.tmp 6) (.tmp 10) 29 rfl (w.heap.size + 1) 40 i0 (.agg #[.string ⟨#[]⟩, .int .i64 0]) 2 24 Try.underlying29 hi0 hz0 hz1 hz2 rfl (by decide) _ 0 [] rfl HR.out (some ⟨b, off, none⟩) i c (flat (l.take i)) rfl (by rw [flat_length, HH.out.len]) HH.out.nil HH.out.news (flat_one _) (by unfold maxLen; omega) (by omega) (by omega) ?_); intro v2 w2 hown2 hgrow2 hat2
       have hown2' : w2.ownsRow (w.heap.size + 1) 40 2 v2 i (flat (l.take i)) := by simpa using hown2
       have hB2 : Below (w.heap.size + 1) w0 w2 := HBA.out.grown hgrow2 (by omega) (by rintro q ⟨⟩; exact Nat.le_refl _)
       have c2 := (hB2.cell (p := ⟨w.heap.size, 0, none⟩) (by simp)).trans c0
       have HT2 := Lib.hid (HT.out.below (hs0 ▸ hB2))
       have hz2' := hB2.size
       have HO2 := Lib.hid hown2'; have HB2 := Lib.hid hB2; clear hown2 hgrow2 hat2 hown2' hB2 c0)
    | (at_builtin; (refine wpList_append_at_any _ rfl (.tmp 12) (.tmp 17) 29 rfl (w.heap.size + 1) 40 i0 (.agg #[.string ⟨#[]⟩, .int .i64 0]) 2 24 Try.underlying29 hi0 hz0 hz1 hz2 rfl (by decide) _ i _ rfl HO2.out a' m c' (flat (l.drop (i + 1))) rfl (by rw [flat_length, HT2.out.len]) HT2.out.nil HT2.out.news (flat_one _) (by unfold maxLen; omega) (by omega) (by omega) ?_); intro v3 w3 hown3 hgrow3 hat3
       have hB3 : Below (w.heap.size + 1) w0 w3 := HB2.out.grown hgrow3 (by omega) (fun q hq => (HO2.out.lt q hq).1)))
  rw [← flat_append, hni] at hown3
  obtain ⟨a3, c3, rfl, hp⟩ := Pairs.owned hown3
  have HP := Lib.hid hp
  have HB3 := Lib.hid hB3
  clear hp hB3 hown3 hgrow3 hat3
  go_ret
  exact ⟨⟨a3, c3, rfl, HP.out.mono (Nat.le_succ _)⟩, HB.out.trans (HB3.out.mono (Nat.le_succ _))⟩

theorem first_same {l1 l2 m1 m2 : List Pr} {k : ByteArray} {v v' : Int} (h : l1 ++ (k, v) :: l2 = m1 ++ (k, v') :: m2) (h1 : k ∉ l1.map (·.1)) (h2 : k ∉ m1.map (·.1)) : m1.length = l1.length := by
  induction l1 generalizing m1 with
  | nil =>
    cases m1 with
    | nil => rfl
    | cons x m1 =>
      simp at h
      rw [← h.1] at h2
      simp at h2
  | cons y l1 ih =>
    cases m1 with
    | nil =>
      simp at h
      rw [h.1] at h1
      simp at h1
    | cons x m1 =>
      simp at h h1 h2
      have := ih h.2 (by simpa using h1.2) (by simpa using h2.2)
      simp [this]
theorem four_of {W : World} {gw : Nat} {t : TypeId} {a b c d : Value} (h : Whole W gw t #[a, b, c, d]) : W.cell? ⟨gw, 0, none⟩ = some a ∧ W.cell? ⟨gw, 1, none⟩ = some b ∧ W.cell? ⟨gw, 2, none⟩ = some c ∧ W.cell? ⟨gw, 3, none⟩ = some d ∧ W.frozen? ⟨gw, 0, none⟩ = false ∧ W.frozen? ⟨gw, 1, none⟩ = false ∧ W.frozen? ⟨gw, 2, none⟩ = false ∧ W.frozen? ⟨gw, 3, none⟩ = false :=
  ⟨by rw [h.cell]; rfl, by rw [h.cell]; rfl, by rw [h.cell]; rfl, by rw [h.cell]; rfl, h.free 0, h.free 1, h.free 2, h.free 3⟩
theorem two_boxes {w w0 w1 : World} {t : TypeId} {c1 c2 : Array Value} (h : w0 = (w.alloc (.cells c1 t)).alloc (.cells c2 t)) (hb : Below w0.heap.size w0 w1) : Whole w1 w.heap.size t c1 ∧ Whole w1 (w.heap.size + 1) t c2 ∧ Below w.heap.size w w1 := by
  subst h
  have hz : (w.alloc (.cells c1 t)).heap.size = w.heap.size + 1 := by simp
  have h0 : Whole (w.alloc (.cells c1 t)) w.heap.size t c1 := heap_alloc_new w _
  have h1 : Whole ((w.alloc (.cells c1 t)).alloc (.cells c2 t)) (w.heap.size + 1) t c2 := by rw [← hz]; exact heap_alloc_new _ _
  have h2 : Whole ((w.alloc (.cells c1 t)).alloc (.cells c2 t)) w.heap.size t c1 := h0.kept ((below_alloc _ _).block _ h0.lt)
  exact ⟨h2.kept (hb.block _ h2.lt), h1.kept (hb.block _ h1.lt), ((below_alloc w _).trans ((below_alloc _ _).mono (by simp))).trans (hb.mono (by simp; omega))⟩
/-- How many cells a document's cache is, as it lies. -/
def CV (a : Option Addr) (n c : Nat) (s h m : Int) : Value := .agg #[.slice a n c, .int .i64 s, .int .i64 h, .int .i64 m]
set_option maxRecDepth 100000 in
set_option maxHeartbeats 4000000 in
theorem rget_none {B n c : Nat} {a : Option Addr} {l : List Pr} (s h m : Int) (k : ByteArray) (w : World) (hp : Pairs w B a n c l) (hn : n ≤ 4096) (hm : 0 ≤ m) (hm2 : m < 4611686018427387904) (hk : k ∉ l.map (·.1)) :
    Calls Try.prog 10 #[.agg #[.slice a n c, .int .i64 s, .int .i64 h, .int .i64 m], .string k] w fun e w' => e = .returned (.tuple #[.agg #[.slice a n c, .int .i64 s, .int .i64 h, .int .i64 (m + 1)], .int .i64 0, .bool false]) ∧ Below w.heap.size w w' := by
  obtain ⟨w0, hw0⟩ : ∃ w0, w0 = (w.alloc (.cells #[.slice a n c, .int .i64 s, .int .i64 h, .int .i64 m] 31)).alloc (.cells #[.slice none 0 0, .int .i64 0, .int .i64 0, .int .i64 0] 31) := ⟨_, rfl⟩
  have HF := Lib.hid (rfind_any s h m k w0 (hp.below (by rw [hw0]; exact (below_alloc w _).trans ((below_alloc _ _).mono (by simp)))) hn)
  clear hp
  go_enter Try.func10, Try.ntmps10
  go_wp2_with fail
  rw [← hw0]
  refine HF.out.mono ?_
  rintro e w1 ⟨⟨r, rfl, hr⟩, hb⟩
  obtain rfl : r = -1 := by
    rcases hr with ⟨l1, v, l2, rfl, _, _⟩ | ⟨_, h⟩
    · exact absurd (by simp) hk
    · exact h
  obtain ⟨h1, h2, hb1⟩ := two_boxes hw0 hb
  obtain ⟨a0, a1, a2, a3, f0, f1, f2, f3⟩ := four_of h1
  obtain ⟨b0, b1, b2, b3, g0, g1, g2, g3⟩ := four_of h2
  have HB1 := Lib.hid hb1
  have hlt1 := h1.lt
  have hlt2 := h2.lt
  clear hr hb hw0 HF h1 h2 hb1
  go_wp2
  refine bodyPost_ret (v := .tuple #[.agg #[.slice a n c, .int .i64 s, .int .i64 h, .int .i64 (m + 1)], .int .i64 0, .bool false]) (by simp [results, Try.results10, go_sem, b0, b1, b2, b3]) rfl ⟨rfl, ?_⟩
  exact ((((HB1.out.setCell (p := ⟨w.heap.size, 3, none⟩) (Nat.le_refl _) _).setCell (p := ⟨w.heap.size + 1, 0, none⟩) (Nat.le_succ _) _).setCell (p := ⟨w.heap.size + 1, 1, none⟩) (Nat.le_succ _) _).setCell (p := ⟨w.heap.size + 1, 2, none⟩) (Nat.le_succ _) _).setCell (p := ⟨w.heap.size + 1, 3, none⟩) (Nat.le_succ _) _
end Go.Proofs.Ytfhflijlgejknaa
