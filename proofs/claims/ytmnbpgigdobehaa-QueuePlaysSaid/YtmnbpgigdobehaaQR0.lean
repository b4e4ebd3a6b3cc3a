/- The document's queue: words, Wrong, Take, texts. -/
import Derived.Test.YtmnbpgigdobehaaQ6
namespace Go.Proofs.Ytmnbpgigdobehaa
open Go.RowKit Go.Conc

/-- A block that neither a queue nor the law's tables are. -/
def Loc (w : World) (B b : Nat) : Prop := b < B ∨ ∃ cs fr, w.heap[b]? = some (.cells cs 9 fr)
/-- Texts that lie in memory. -/
def Strs (w : World) (B : Nat) (a : Option Addr) (n : Nat) (l : List ByteArray) : Prop :=
  l.length = n ∧ (n = 0 ∨ ∃ b off, a = some ⟨b, off, none⟩ ∧ b < w.heap.size ∧ Loc w B b ∧ ∀ (i : Nat) x, l[i]? = some x → w.cell? ⟨b, off + i, none⟩ = some (.string x))
theorem Strs.nil (w : World) (B : Nat) (a : Option Addr) : Strs w B a 0 [] := ⟨rfl, .inl rfl⟩
theorem Strs.keep {w w' : World} {B n : Nat} {a : Option Addr} {l : List ByteArray} (h : Strs w B a n l) (hs : w.heap.size ≤ w'.heap.size) (hk : ∀ b, b < w.heap.size → Loc w B b → w'.heap[b]? = w.heap[b]?) : Strs w' B a n l := by
  refine ⟨h.1, h.2.imp_right ?_⟩
  rintro ⟨b, off, rfl, hl, hloc, hc⟩
  have hb := hk b hl hloc
  exact ⟨b, off, rfl, Nat.lt_of_lt_of_le hl hs, hloc.imp_right (fun ⟨cs, fr, h⟩ => ⟨cs, fr, hb.trans h⟩), fun i x hx => by have := hc i x hx; simp only [World.cell?, hb] at this ⊢; exact this⟩
theorem Strs.below {w w' : World} {B n : Nat} {a : Option Addr} {l : List ByteArray} (h : Strs w B a n l) (hb : Below w.heap.size w w') : Strs w' B a n l := h.keep hb.size (fun b hl _ => hb.block b hl)
theorem Loc.ne {w : World} {B b g : Nat} {t : TypeId} {cs : Array Value} (h : Loc w B b) (hw : Whole w g t cs) (ht : t ≠ 9) (hg : B ≤ g) : b ≠ g := by
  rintro rfl
  rcases h with h | ⟨cs, fr, h⟩
  · omega
  · unfold Whole at hw
    rw [h] at hw
    injection hw with hw
    injection hw with _ hw
    exact ht hw.symm
theorem Loc.neChan {w : World} {B b c cap : Nat} {ps : List Nat} (h : Loc w B b) (hw : Chan w c cap ps) (hc : B ≤ c) : b ≠ c := by
  rintro rfl
  rcases h with h | ⟨cs, fr, h⟩
  · omega
  · obtain ⟨s, r, hw⟩ := hw
    rw [h] at hw
    cases hw
theorem Strs.turned {w w' : World} {B n g c cap : Nat} {lost : Int} {ps : List Nat} {xs : List ByteArray} {a : Option Addr} {l : List ByteArray} (h : Strs w B a n l) (hq : QS.QAt w B g c cap lost ps xs) (ht : Turned w w' g (some c)) : Strs w' B a n l :=
  h.keep ht.size (fun b hl hloc => ht.block b hl (hloc.ne hq.blk (by decide) hq.geg) (by have := hloc.neChan hq.ch hq.gec; simpa using this))
theorem Strs.row {w : World} {B n g c cap : Nat} {lost : Int} {ps : List Nat} {xs : List ByteArray} {a : Option Addr} {l : List ByteArray} (h : Strs w B a n l) (hq : QS.QAt w B g c cap lost ps xs) : QS.Row w g c a n l := by
  refine ⟨h.1, h.2.imp_right ?_⟩
  rintro ⟨b, off, rfl, hl, hloc, hc⟩
  exact ⟨b, off, rfl, hl, hloc.ne hq.blk (by decide) hq.geg, hloc.neChan hq.ch hq.gec, hc⟩
theorem Strs.setCell {w : World} {B n g : Nat} {t : TypeId} {cs : Array Value} {a : Option Addr} {l : List ByteArray} (h : Strs w B a n l) (hw : Whole w g t cs) (ht : t ≠ 9) (hg : B ≤ g) (i : Nat) (u : Value) : Strs (w.setCell ⟨g, i, none⟩ u) B a n l :=
  h.keep (by simp [World.setCell]) (fun b _ hloc => Below.heap_setCell w ⟨g, i, none⟩ u b (hloc.ne hw ht hg))
theorem Strs.news {w : World} {B n : Nat} {a : Option Addr} {l : List ByteArray} (h : Strs w B a n l) : ∀ ad, a = some ad → ∀ (j : Nat) u, (l.map Value.string)[j]? = some u → w.cell? (ad.add j) = some u := by
  intro ad ha j u hu
  rw [List.getElem?_map] at hu
  obtain ⟨x, hx, rfl⟩ := Option.map_eq_some_iff.1 hu
  have hj := (List.getElem?_eq_some_iff.1 hx).1
  rcases h.2 with h0 | ⟨b, off, rfl, _, _, hc⟩
  · have := h.1; omega
  · injection ha with ha
    subst ha
    rw [add_plain]
    exact hc j x hx
theorem Strs.owned {w : World} {B base n : Nat} {v : Value} {l : List ByteArray} (h : w.ownsRow base 9 1 v n (l.map Value.string)) : ∃ a c, v = .slice a n c ∧ Strs w B a n l ∧ (a = none → n = 0 ∧ c = 0) ∧ n ≤ c ∧ c ≤ maxLen := by
  have hl : l.length = n := by simpa using h.1
  have hown := h
  rcases h.2 with ⟨rfl, h0⟩ | ⟨g, cap, cur, rfl, hb, hh, hnc, hcm, hsz, ht⟩
  · subst h0
    exact ⟨none, 0, rfl, ⟨hl, .inl rfl⟩, fun _ => ⟨rfl, rfl⟩, by omega, by simp [maxLen]⟩
  · obtain ⟨a, c, hv, _, hcc⟩ := owned_cells hown
    injection hv with h1 h2 h3
    subst h1 h3
    refine ⟨_, _, rfl, ⟨hl, .inr ⟨g, 0, rfl, (hown.lt g rfl).2, .inr ⟨_, _, hh⟩, fun i x hx => ?_⟩⟩, (by intro e; cases e), hnc, hcm⟩
    have := (hcc _ rfl).2.2.2.2 i (.string x) (by simp [hx])
    rwa [add_plain] at this
theorem oneCell_strs (l : List ByteArray) : ∀ u ∈ l.map Value.string, u.oneCell' = true := by
  intro u hu
  obtain ⟨x, _, rfl⟩ := List.mem_map.1 hu
  rfl

theorem wrong_any (r : Int) (w : World) : Calls Try.prog 8 #[.int .i64 r] w fun e w' => e = .returned (.int .i64 (if r < 1 ∨ 4096 < r then 1 else 0)) ∧ w = w' := by
  by_cases h : r < 1
  · go_enter Try.func8, Try.ntmps8
    go_wp2
    go_ret
    exact ⟨rfl, rfl⟩
  · by_cases h2 : 4096 < r
    · go_enter Try.func8, Try.ntmps8
      go_wp2
      go_ret
      exact ⟨rfl, rfl⟩
    · go_enter Try.func8, Try.ntmps8
      go_wp2
      go_ret
      exact ⟨rfl, rfl⟩

set_option maxHeartbeats 1000000 in
theorem rtake_none (a : Option Addr) (c : Nat) (cap L : Int) (w : World) :
    Calls Try.prog 11 #[.agg #[.slice a 0 c, .int .i64 cap, .int .i64 L]] w fun e w' => e = .returned (.tuple #[.agg #[.slice a 0 c, .int .i64 cap, .int .i64 L], .string ⟨#[]⟩, .bool false]) ∧ Below w.heap.size w w' := by
  go_enter Try.func11, Try.ntmps11
  go_wp2
  refine bodyPost_ret (v := .tuple #[.agg #[.slice a 0 c, .int .i64 cap, .int .i64 L], .string ⟨#[]⟩, .bool false]) (by simp [results, Try.results11, go_sem]) rfl ⟨rfl, ?_⟩
  exact ((Below.refl _ _).alloc (Nat.le_refl _) _).alloc (by simp) _
/-- Where a slice's rest begins. -/
def tailAt (a : Option Addr) (c m : Nat) : Option Addr := if c = m then a else a.map (·.add m)
theorem slice_tail (a : Option Addr) (n c m : Nat) (hm : m ≤ n) (w : World) :
    (Instr.slice 27 (.slice a n c) (some (.int .i64 (m : Int))) none none).run Try.prog w = .ok (.slice (tailAt a c m) (n - m) (c - m)) w := by
  rw [run_slice_l w _ _ _ _ (by kernel_rfl) .i64 (m : Int) (by omega) (by omega), show Try.prog.elem 27 = 9 by kernel_rfl, show (sizeOf 9).run Try.prog w = .ok 1 w by kernel_rfl]
  simp [Result.andThen, sliced, tailAt]
theorem slice_head (a : Option Addr) (n c m : Nat) (hm : m ≤ c) (w : World) :
    (Instr.slice 27 (.slice a n c) none (some (.int .i64 (m : Int))) none).run Try.prog w = .ok (.slice a m c) w := by
  rw [run_slice_h w _ _ _ _ (by kernel_rfl) .i64 (m : Int) (by omega) (by omega), show Try.prog.elem 27 = 9 by kernel_rfl, show (sizeOf 9).run Try.prog w = .ok 1 w by kernel_rfl]
  simp [Result.andThen, sliced]
  intro hc
  cases a <;> simp [Addr.add]
theorem Strs.tail {w : World} {B n c m : Nat} {a : Option Addr} {l : List ByteArray} (h : Strs w B a n l) (hm : m ≤ n) (hnc : n ≤ c) : Strs w B (tailAt a c m) (n - m) (l.drop m) := by
  refine ⟨by rw [List.length_drop, h.1], ?_⟩
  rcases Nat.eq_zero_or_pos (n - m) with h0 | h0
  · exact .inl h0
  · obtain ⟨b, off, rfl, hl, hloc, hc⟩ := h.2.resolve_left (by omega)
    have e : tailAt (some ⟨b, off, none⟩) c m = some ⟨b, off + m, none⟩ := by
      unfold tailAt
      rw [if_neg (by omega)]
      simp only [Option.map_some, add_plain]
    refine .inr ⟨b, off + m, e, hl, hloc, fun i x hx => ?_⟩
    rw [List.getElem?_drop] at hx
    have := hc (m + i) x hx
    rwa [← Nat.add_assoc] at this
theorem Strs.head {w : World} {B n m : Nat} {a : Option Addr} {l : List ByteArray} (h : Strs w B a n l) (hm : m ≤ n) : Strs w B a m (l.take m) := by
  refine ⟨by rw [List.length_take, h.1]; omega, ?_⟩
  rcases Nat.eq_zero_or_pos m with h0 | h0
  · exact .inl h0
  · obtain ⟨b, off, rfl, hl, hloc, hc⟩ := h.2.resolve_left (by omega)
    refine .inr ⟨b, off, rfl, hl, hloc, fun i x hx => ?_⟩
    rw [List.getElem?_take] at hx
    split at hx
    · exact hc i x hx
    · cases hx
theorem tailAt_none {a : Option Addr} {c m n : Nat} (h : a = none → n = 0 ∧ c = 0) : tailAt a c m = none → n - m = 0 ∧ c - m = 0 := by
  unfold tailAt
  intro hh
  cases a with
  | none => have := h rfl; omega
  | some ad => split at hh <;> simp at hh

set_option maxHeartbeats 1000000 in
theorem rtake_some {B : Nat} (a : Option Addr) (n c : Nat) (cap L : Int) (x : ByteArray) (xs : List ByteArray) (w : World) (h : Strs w B a n (x :: xs)) (hn : n ≤ 4096) :
    Calls Try.prog 11 #[.agg #[.slice a n c, .int .i64 cap, .int .i64 L]] w fun e w' => e = .returned (.tuple #[.agg #[.slice (tailAt a c 1) (n - 1) (c - 1), .int .i64 cap, .int .i64 L], .string x, .bool true]) ∧ Below w.heap.size w w' := by
  have hn1 : 1 ≤ n := by have := h.1; simp at this; omega
  have hst : ∀ w : World, (Instr.slice 27 (.slice a n c) (some (.int .i64 1)) none none).run Try.prog w = .ok (.slice (tailAt a c 1) (n - 1) (c - 1)) w := fun w => slice_tail a n c 1 hn1 w
  obtain ⟨b, off, rfl, hl, _, hc⟩ := h.2.resolve_left (by omega)
  have c0 := hc 0 x rfl
  simp only [Nat.add_zero] at c0
  have hpos : 0 < n := hn1
  generalize tailAt (some ⟨b, off, none⟩) c 1 = a' at *
  generalize n - 1 = m at *
  generalize c - 1 = c' at *
  have hn0 : ¬ (n : Int) = 0 := by omega
  clear h hc
  go_enter Try.func11, Try.ntmps11
  go_wp2
  refine bodyPost_ret (v := .tuple #[.agg #[.slice a' m c', .int .i64 cap, .int .i64 L], .string x, .bool true]) (by simp [results, Try.results11, go_sem]) rfl ⟨rfl, ?_⟩
  repeat (refine Below.setCell ?_ (by simp) _)
  exact ((Below.refl _ _).alloc (Nat.le_refl _) _).alloc (by simp) _

set_option maxRecDepth 100000 in
set_option maxHeartbeats 4000000 in
theorem texts_any {B B2 : Nat} (a : Option Addr) (n c : Nat) (l : List ByteArray) (a2 : Option Addr) (n2 c2 : Nat) (w : World) (h : Strs w B a n l) (h2 : Strs w B2 a2 n2 l) (hn : n ≤ 9223372036854775806) :
    Calls Try.prog 13 #[.slice a n c, .slice a2 n2 c2] w fun e w' => e = .returned (.bool true) ∧ Below w.heap.size w w' := by
  obtain rfl : n = n2 := by rw [← h.1, ← h2.1]
  have H1 := Lib.hid h
  have H2 := Lib.hid h2
  clear h h2
  go_enter Try.func13, Try.ntmps13
  go_wp2
  go_loopw [13] (fun iv wr => ∃ i q : Nat, i ≤ n ∧ iv = .int .i64 i ∧ wr = w.drewN q) (fun iv _ => n - (intOf iv).toNat)
  case atStart => exact ⟨0, 0, by omega, rfl, rfl⟩
  case round =>
    obtain ⟨i, q, hin, rfl, rfl⟩ := hrel
    by_cases hil : i < n
    · obtain ⟨x, hx⟩ : ∃ x, l[i]? = some x := ⟨_, List.getElem?_eq_getElem (show i < l.length by rw [H1.out.1]; exact hil)⟩
      obtain ⟨b, off, rfl, _, _, hc⟩ := H1.out.2.resolve_left (by omega)
      obtain ⟨b2, off2, rfl, _, _, hc2⟩ := H2.out.2.resolve_left (by omega)
      have c0 := hc i x hx
      have d0 := hc2 i x hx
      clear hc hc2 hx
      go_wp2
      go_quiet (fail)
      go_wp2
      go_roundw
      case rel => exact ⟨i + 1, _, by omega, by go_num, rfl⟩
      case measure => simp [intOf]; omega
    · obtain rfl : i = n := by omega
      go_wp2
      go_ret
      exact ⟨rfl, below_drewN _ _⟩
end Go.Proofs.Ytmnbpgigdobehaa
