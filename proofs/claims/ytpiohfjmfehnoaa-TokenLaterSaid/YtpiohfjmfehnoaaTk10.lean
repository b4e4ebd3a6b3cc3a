/- Layer 23: the later token. -/
import Derived.Test.YtpiohfjmfehnoaaTk9
namespace Go.Proofs.Ytpiohfjmfehnoaa
open Go.RowKit

/-- Is t later than b? -/
def better (t b : Tk) : Prop := b.2 < t.2 ∨ (t.2 = b.2 ∧ t.1 < b.1)
instance (t b : Tk) : Decidable (better t b) := by unfold better; infer_instance
def later (b : Tk) : List Tk → Tk
  | [] => b
  | t :: l => later (if better t b then t else b) l
theorem later_append (b : Tk) (l m : List Tk) : later b (l ++ m) = later (later b l) m := by
  induction l generalizing b with
  | nil => rfl
  | cons t l ih => exact ih _
theorem better_irr {a : Tk} : ¬ better a a := by unfold better; omega
theorem better_not {a b c : Tk} (h : ¬ better a b) (h2 : better c b) : ¬ better a c := by unfold better at *; omega
theorem better_mid {a b c : Tk} (h : ¬ better a b) (h2 : ¬ better b c) : ¬ better a c := by unfold better at *; omega
theorem better_eq {a b : Tk} (h : ¬ better a b) (h2 : ¬ better b a) : a = b := by
  unfold better at *
  apply Prod.ext <;> omega
/-- The later one is one of them, and none is later. -/
theorem later_best (b : Tk) (l : List Tk) : (later b l = b ∨ later b l ∈ l) ∧ ¬ better b (later b l) ∧ ∀ t ∈ l, ¬ better t (later b l) := by
  induction l generalizing b with
  | nil => exact ⟨.inl rfl, better_irr, by intro t ht; cases ht⟩
  | cons x l ih =>
    obtain ⟨h1, h2, h3⟩ := ih (if better x b then x else b)
    rw [later]
    by_cases hx : better x b
    · rw [if_pos hx] at h1 h2 h3 ⊢
      refine ⟨.inr (by rcases h1 with h | h; · rw [h]; simp
                       · simp [h]), ?_, ?_⟩
      · have hbx : ¬ better b x := by unfold better at *; omega
        exact better_mid hbx h2
      · intro t ht
        rcases List.mem_cons.1 ht with rfl | ht
        · exact h2
        · exact h3 t ht
    · rw [if_neg hx] at h1 h2 h3 ⊢
      refine ⟨by rcases h1 with h | h; · exact .inl h
                 · exact .inr (by simp [h]), h2, ?_⟩
      intro t ht
      rcases List.mem_cons.1 ht with rfl | ht
      · exact better_mid hx h2
      · exact h3 t ht
/-- Their order doesn't matter. -/
theorem later_same (b c : Tk) (l m : List Tk) (h : ∀ t, (t = b ∨ t ∈ l) ↔ (t = c ∨ t ∈ m)) : later b l = later c m := by
  obtain ⟨h1, h2, h3⟩ := later_best b l
  obtain ⟨k1, k2, k3⟩ := later_best c m
  apply better_eq
  · rcases (h (later b l)).1 h1 with hh | hh
    · rw [hh]; exact k2
    · exact k3 _ hh
  · rcases (h (later c m)).2 k1 with hh | hh
    · rw [hh]; exact h2
    · exact h3 _ hh

/-- A row of tokens as it lies in memory. -/
def ToksAt (w : World) (a : Option Addr) (n : Nat) (ts : List Tk) : Prop :=
  ts.length = n ∧ (n = 0 ∨ ∃ b off, a = some ⟨b, off, none⟩ ∧ b < w.heap.size ∧ ∀ i (t : Tk), ts[i]? = some t →
    w.cell? ⟨b, off + i * 2, none⟩ = some (.int .i64 t.1) ∧ w.cell? ⟨b, off + i * 2 + 1, none⟩ = some (.int .i64 t.2))
theorem ToksAt.below {w w' : World} {a : Option Addr} {n : Nat} {ts : List Tk} (h : ToksAt w a n ts) (hb : Below w.heap.size w w') : ToksAt w' a n ts := by
  obtain ⟨h1, h3⟩ := h
  refine ⟨h1, h3.imp_right ?_⟩
  rintro ⟨b, off, rfl, hlt, hc⟩
  refine ⟨b, off, rfl, Nat.lt_of_lt_of_le hlt hb.size, fun i t ht => ?_⟩
  obtain ⟨c0, c1⟩ := hc i t ht
  exact ⟨(hb.cell (p := ⟨b, _, none⟩) hlt).trans c0, (hb.cell (p := ⟨b, _, none⟩) hlt).trans c1⟩
theorem drop_get {α : Type} {l : List α} {i : Nat} {x : α} (h : l[i]? = some x) : l.drop i = x :: l.drop (i + 1) := by
  obtain ⟨hi, rfl⟩ := List.getElem?_eq_some_iff.1 h
  exact List.drop_eq_getElem_cons hi

theorem res_one {P : Program} {fn : Func} {p : Tmp} {ty : TypeId} (h : fn.results = #[.cell p ty]) (tmps : Array Value) (w : World) (g : Nat) (t : TypeId) (cs : Array Value) (d : TypeDesc)
    (hp : tmps.getD p undef = .pointer (some ⟨g, 0, none⟩)) (hg : Whole w g t cs)
    (hu : P.underlying ty = some d) (hd : (match d with | .struct _ | .array _ _ => true | _ => false) = true) (hi : (P.info? ty).map (·.size) = some cs.size) :
    (results fn tmps).run P w = .ok (.agg cs) w := by
  have hp' : tmps[p]?.getD undef = .pointer (some ⟨g, 0, none⟩) := by simpa using hp
  simp [results, h, hp', asAddr, run_loadVar_row w g t ty cs (0, 0) d hg hu hd hi]

set_option maxRecDepth 100000 in
set_option maxHeartbeats 4000000 in
theorem later_any (f : Tk) (a : Option Addr) (n c : Nat) (ts : List Tk) (w : World) (h : ToksAt w a n ts) (hn : n ≤ 9223372036854775806) :
    Calls Try.prog 13 #[f.v, .slice a n c] w fun e w' => e = .returned (later f ts).v ∧ Below w.heap.size w w' := by
  obtain ⟨hlen, hcell⟩ := h
  have HL := Lib.hid hlen
  have HC := Lib.hid hcell
  clear hlen hcell
  generalize ht : later f ts = te
  have HT := Lib.hid ht
  clear ht
  obtain ⟨f1, f2⟩ := f
  have hw1 : Whole (((w.alloc (.cells (TokC f1 f2) 23)).alloc (.cells (TokC 0 0) 23)).alloc (.cells (TokC f1 f2) 23)) (w.heap.size + 2) 23 (TokC f1 f2) := by
    have h := heap_alloc_new ((w.alloc (.cells (TokC f1 f2) 23)).alloc (.cells (TokC 0 0) 23)) (.cells (TokC f1 f2) 23)
    rw [alloc_size1, alloc_size1] at h
    exact h
  have hw0 : Whole (((w.alloc (.cells (TokC f1 f2) 23)).alloc (.cells (TokC 0 0) 23)).alloc (.cells (TokC f1 f2) 23)) (w.heap.size + 1) 23 (TokC 0 0) := by
    have h := heap_alloc_new (w.alloc (.cells (TokC f1 f2) 23)) (.cells (TokC 0 0) 23)
    rw [alloc_size1] at h
    exact Whole.kept h ((below_alloc _ _).block _ (by rw [alloc_size1, alloc_size1]; omega))
  have hb0 : Below w.heap.size w (((w.alloc (.cells (TokC f1 f2) 23)).alloc (.cells (TokC 0 0) 23)).alloc (.cells (TokC f1 f2) 23)) :=
    (((below_alloc w _).alloc (by rw [alloc_size1]; omega) _).alloc (by rw [alloc_size1, alloc_size1]; omega) _)
  have HW1 := Lib.hid hw1
  have HW0 := Lib.hid hw0
  have HB0 := Lib.hid hb0
  clear hw1 hw0 hb0
  go_enter Try.func13, Try.ntmps13
  go_wp2
  go_loopw [11] (fun iv wr => ∃ (i : Nat) (b : Tk), i ≤ n ∧ iv = .int .i64 i ∧ later b (ts.drop i) = te ∧ Whole wr (w.heap.size + 2) 23 (TokC b.1 b.2) ∧ Whole wr (w.heap.size + 1) 23 (TokC 0 0) ∧ Below w.heap.size w wr) (fun iv _ => n - (intOf iv).toNat)
  case atStart => exact ⟨0, (f1, f2), by omega, rfl, HT.out, HW1.out, HW0.out, HB0.out⟩
  case round =>
    obtain ⟨i, b, hin, rfl, hte, hwb, hwr, hbl⟩ := hrel
    obtain ⟨b1, b2⟩ := b
    have hwb : Whole wr (w.heap.size + 2) 23 (TokC b1 b2) := hwb
    by_cases hil : i < n
    · obtain ⟨g, off, rfl, hbB, hcc⟩ := HC.out.resolve_left (by omega)
      obtain ⟨t, hti⟩ : ∃ t, ts[i]? = some t := ⟨_, List.getElem?_eq_getElem (show i < ts.length by rw [HL.out]; exact hil)⟩
      obtain ⟨z0, z1⟩ := hcc i t hti
      have c0 := (hbl.cell (p := ⟨g, off + i * 2, none⟩) hbB).trans z0
      have c1 := (hbl.cell (p := ⟨g, off + i * 2 + 1, none⟩) hbB).trans z1
      rw [drop_get hti, later] at hte
      obtain ⟨t1, t2⟩ := t
      simp only at c0 c1
      have hb5 : Below w.heap.size w (wr.alloc (.cells (TokC t1 t2) 23)) := hbl.alloc hbl.size _
      have hw5 : Whole (wr.alloc (.cells (TokC t1 t2) 23)) (w.heap.size + 2) 23 (TokC b1 b2) := hwb.kept ((below_alloc wr _).block _ hwb.lt)
      have hw6 : Whole (wr.alloc (.cells (TokC t1 t2) 23)) (w.heap.size + 1) 23 (TokC 0 0) := hwr.kept ((below_alloc wr _).block _ hwr.lt)
      have d0 : (wr.alloc (.cells (TokC t1 t2) 23)).cell? ⟨w.heap.size + 2, 0, none⟩ = some (.int .i64 b1) := hw5.cell 0
      have d1 : (wr.alloc (.cells (TokC t1 t2) 23)).cell? ⟨w.heap.size + 2, 1, none⟩ = some (.int .i64 b2) := hw5.cell 1
      have e0 : (wr.alloc (.cells (TokC t1 t2) 23)).frozen? ⟨w.heap.size + 2, 0, none⟩ = false := hw5.free 0
      have e1 : (wr.alloc (.cells (TokC t1 t2) 23)).frozen? ⟨w.heap.size + 2, 1, none⟩ = false := hw5.free 1
      have hsz := hbl.size
      have HB5 := Lib.hid hb5
      have HW5 := Lib.hid hw5
      have HW6 := Lib.hid hw6
      have h0 : b2 < t2 ∨ (t2 = b2 ∧ t1 < b1) ∨ (t2 = b2 ∧ b1 ≤ t1) ∨ t2 < b2 := by omega
      have hbt : better (t1, t2) (b1, b2) ↔ b2 < t2 ∨ (t2 = b2 ∧ t1 < b1) := Iff.rfl
      clear hcc z0 z1 hbl hti hb5 hw5 hw6 hwb hwr
      rcases h0 with h | ⟨rfl, h⟩ | ⟨rfl, h⟩ | h
      · rw [if_pos (hbt.2 (by omega))] at hte
        have HTE := Lib.hid hte
        clear hte hbt
        go_wp2
        go_roundw
        case rel =>
          refine ⟨i + 1, (t1, t2), by omega, by go_num, HTE.out, two_whole HW5.out _ _, ?_, two_set HB5.out (by omega) _ _⟩
          exact (HW6.out.kept (Below.heap_setCell _ ⟨w.heap.size + 1 + 1, 0, none⟩ _ _ (by show w.heap.size + 1 ≠ w.heap.size + 1 + 1; omega))).kept (Below.heap_setCell _ ⟨w.heap.size + 1 + 1, 1, none⟩ _ _ (by show w.heap.size + 1 ≠ w.heap.size + 1 + 1; omega))
        case measure => simp [intOf]; omega
      · rw [if_pos (hbt.2 (by omega))] at hte
        have HTE := Lib.hid hte
        clear hte hbt
        go_wp2
        go_roundw
        case rel =>
          refine ⟨i + 1, (t1, _), by omega, by go_num, HTE.out, two_whole HW5.out _ _, ?_, two_set HB5.out (by omega) _ _⟩
          exact (HW6.out.kept (Below.heap_setCell _ ⟨w.heap.size + 1 + 1, 0, none⟩ _ _ (by show w.heap.size + 1 ≠ w.heap.size + 1 + 1; omega))).kept (Below.heap_setCell _ ⟨w.heap.size + 1 + 1, 1, none⟩ _ _ (by show w.heap.size + 1 ≠ w.heap.size + 1 + 1; omega))
        case measure => simp [intOf]; omega
      all_goals
        rw [if_neg (fun hh => by have := hbt.1 hh; omega)] at hte
        have HTE := Lib.hid hte
        clear hte hbt
        go_wp2
        go_roundw
        case rel => exact ⟨i + 1, (b1, _), by omega, by go_num, HTE.out, HW5.out, HW6.out, HB5.out⟩
        case measure => simp [intOf]; omega
    · have hin' : i = n := by omega
      have h0 : te = (b1, b2) := by rw [← hte, hin', List.drop_of_length_le (by rw [HL.out]; exact Nat.le_refl _)]; rfl
      subst h0
      have c0 : wr.cell? ⟨w.heap.size + 2, 0, none⟩ = some (.int .i64 b1) := hwb.cell 0
      have c1 : wr.cell? ⟨w.heap.size + 2, 1, none⟩ = some (.int .i64 b2) := hwb.cell 1
      have d0 : wr.cell? ⟨w.heap.size + 1, 0, none⟩ = some (.int .i64 0) := hwr.cell 0
      have d1 : wr.cell? ⟨w.heap.size + 1, 1, none⟩ = some (.int .i64 0) := hwr.cell 1
      have e0 : wr.frozen? ⟨w.heap.size + 1, 0, none⟩ = false := hwr.free 0
      have e1 : wr.frozen? ⟨w.heap.size + 1, 1, none⟩ = false := hwr.free 1
      have HBL := Lib.hid hbl
      have HWR := Lib.hid hwr
      clear hte hbl hwb hwr
      go_wp2
      refine bodyPost_ret (v := TokV b1 b2) (res_one Try.results13 _ _ (w.heap.size + 1) 23 (TokC b1 b2) _ rfl (two_whole HWR.out _ _) Try.underlying23 rfl (by kernel_rfl)) rfl ⟨rfl, two_set HBL.out (by omega) _ _⟩
end Go.Proofs.Ytpiohfjmfehnoaa
