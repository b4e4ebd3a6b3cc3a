/- Keys. -/
import Derived.Test.YtmjdngomjjhhiaaGreatE18
import Derived.Test.YtmjdngomjjhhiaaGreatTOrd
namespace Go.Proofs.YtmjdngomjjhhiaaGreat
open Go.RowKit
open Go.Maps (Keyed)

theorem keyS_of {s : ByteArray} (h : s.size ≤ 1000000000000000000) : keyOf Tryz.prog 9 (.string s) = some (kS s) := by
  have h : s.size ≤ maxLen := by unfold maxLen; omega
  unfold keyOf
  rw [Tryz.underlying9]
  simp [mapKey, Tryz.underlying9, h, kS]
theorem formT (t : Tp) : (tpV t).formed Tryz.prog 32 = true := by kernel_rfl
theorem typeT : Tryz.prog.keyType 32 = true := by kernel_rfl
theorem typeP : Tryz.prog.keyType 68 = true := by kernel_rfl
theorem formP (o r : ByteArray) : (Value.agg #[.string o, .string r]).formed Tryz.prog 68 = true := by kernel_rfl
theorem litS (d : Nat) {s : ByteArray} (h : s.size ≤ 1000000000000000000) : Tryz.prog.keyLits (d + 1) 9 [.string s] = some [.string s.data.toList] := by
  have h : s.size ≤ maxLen := by unfold maxLen; omega
  unfold Program.keyLits
  rw [Tryz.underlying9]
  simp [h]
theorem cellsS : Tryz.prog.cellsOf 9 = 1 := by kernel_rfl
theorem cellsT : Tryz.prog.cellsOf 32 = 3 := by kernel_rfl
theorem cellsP : Tryz.prog.cellsOf 68 = 2 := by kernel_rfl
theorem sizeP : ∃ d, Tryz.prog.types.size = d + 1 := ⟨Tryz.prog.types.size - 1, by kernel_rfl⟩
theorem keyT_of {t : Tp} (h : t.fits) : keyOf Tryz.prog 32 (tpV t) = some (kT t) := by
  obtain ⟨h1, h2, h3⟩ := h
  obtain ⟨d, hd⟩ := sizeP
  unfold keyOf
  rw [Tryz.underlying32]
  dsimp only
  rw [formT, typeT]
  unfold Program.keyLits
  rw [Tryz.underlying32]
  have e1 : (tpV t).cells.toList = [.string t.o, .string t.r, .string t.u] := rfl
  rw [e1, hd]
  simp [cellsS, cellsT, litS d h1, litS d h2, litS d h3, kT]
theorem keyP_of {o r : ByteArray} (h1 : o.size ≤ 1000000000000000000) (h2 : r.size ≤ 1000000000000000000) : keyOf Tryz.prog 68 (.agg #[.string o, .string r]) = some (kP o r) := by
  obtain ⟨d, hd⟩ := sizeP
  unfold keyOf
  rw [Tryz.underlying68]
  dsimp only
  rw [formP, typeP]
  unfold Program.keyLits
  rw [Tryz.underlying68]
  have e1 : (Value.agg #[.string o, .string r]).cells.toList = [.string o, .string r] := rfl
  rw [e1, hd]
  simp [cellsS, cellsP, litS d h1, litS d h2, kP]
theorem kT_inj {a b : Tp} (ha : a.fits) (hb : b.fits) (h : kT a = kT b) : a = b := by
  have := keyT.inj (keyT_of ha) (by rw [h]; exact keyT_of hb)
  cases a; cases b
  simpa using this
theorem kP_inj {o r o' r' : ByteArray} (h1 : o.size ≤ 1000000000000000000) (h2 : r.size ≤ 1000000000000000000) (h1' : o'.size ≤ 1000000000000000000) (h2' : r'.size ≤ 1000000000000000000) (h : kP o r = kP o' r') : o = o' ∧ r = r' := by
  have := keyP.inj (keyP_of h1 h2) (by rw [h]; exact keyP_of h1' h2')
  simpa using this
theorem kS_inj {o o' : ByteArray} (h1 : o.size ≤ 1000000000000000000) (h1' : o'.size ≤ 1000000000000000000) (h : kS o = kS o') : o = o' := by
  have := keyS.inj (keyS_of h1) (by rw [h]; exact keyS_of h1')
  simpa using this
theorem zeroE (w : World) : (zeroValue 81).run Tryz.prog w = .ok (.pointer none) w := by kernel_rfl
theorem zeroL (w : World) : (zeroValue 80).run Tryz.prog w = .ok nilS w := by kernel_rfl
set_option maxRecDepth 100000 in
set_option maxHeartbeats 1000000 in
/-- The list of a key. -/
theorem listS_any {w : World} {b N : Nat} {m : Lit → Option Value} (h : MapAt w Tryz.prog 9 b m N) (k : Int) (f : FuncId) {s : ByteArray} (hs : s.size ≤ 1000000000000000000) :
    Calls Tryz.prog 40 #[.agg #[.int .i64 k, fnV f, .map (some b)], .string s] w fun e w' => e = .returned ((m (kS s)).getD nilS) ∧ Below w.heap.size w w' := by
  obtain ⟨w0, hw0⟩ : ∃ w0, w0 = w.alloc (.cells #[.int .i64 k, fnV f, .map (some b)] 60) := ⟨_, rfl⟩
  have hb0 : Below w.heap.size w w0 := by rw [hw0]; exact below_alloc _ _
  have hx0 : Whole w0 w.heap.size 60 #[.int .i64 k, fnV f, .map (some b)] := by rw [hw0]; exact heap_alloc_new _ _
  have hl := (h.below hb0).look keyS Tryz.underlying58 (zeroL _) false (keyS_of hs)
  have c2 : w0.cell? ⟨w.heap.size, 2, none⟩ = some (.map (some b)) := by rw [hx0.cell]; rfl
  simp only [Bool.false_eq_true, if_false] at hl
  generalize (m (kS s)).getD nilS = r at *
  have HB := Lib.hid hb0
  clear h hb0 hx0
  go_enter Tryz.func40, Tryz.ntmps40
  go_wp2_with fail
  rw [← hw0]
  clear hw0
  go_wp2
  rw [hl]
  go_wp2
  go_ret
  exact ⟨rfl, HB.out⟩
set_option maxRecDepth 100000 in
set_option maxHeartbeats 1000000 in
theorem listP_any {w : World} {b N : Nat} {m : Lit → Option Value} (h : MapAt w Tryz.prog 68 b m N) (k : Int) (f : FuncId) {o r : ByteArray} (ho : o.size ≤ 1000000000000000000) (hr : r.size ≤ 1000000000000000000) :
    Calls Tryz.prog 37 #[.agg #[.int .i64 k, fnV f, .map (some b)], .agg #[.string o, .string r]] w fun e w' => e = .returned ((m (kP o r)).getD nilS) ∧ Below w.heap.size w w' := by
  obtain ⟨w0, hw0⟩ : ∃ w0, w0 = (w.alloc (.cells #[.int .i64 k, fnV f, .map (some b)] 65)).alloc (.cells #[.string o, .string r] 68) := ⟨_, rfl⟩
  have hs1 : (w.alloc (.cells #[.int .i64 k, fnV f, .map (some b)] 65)).heap.size = w.heap.size + 1 := by simp
  have hb0 : Below w.heap.size w w0 := by rw [hw0]; exact (below_alloc _ _).trans ((below_alloc _ _).mono (by simp))
  have hx0 : Whole w0 w.heap.size 65 #[.int .i64 k, fnV f, .map (some b)] := by
    rw [hw0]
    exact (show Whole (w.alloc (.cells #[.int .i64 k, fnV f, .map (some b)] 65)) w.heap.size 65 _ from heap_alloc_new _ _).kept ((below_alloc _ _).block _ (by rw [hs1]; omega))
  have hx1 : Whole w0 (w.heap.size + 1) 68 #[.string o, .string r] := by rw [hw0, ← hs1]; exact heap_alloc_new _ _
  have hl := (h.below hb0).look keyP Tryz.underlying63 (zeroL _) false (keyP_of ho hr)
  have c2 : w0.cell? ⟨w.heap.size, 2, none⟩ = some (.map (some b)) := by rw [hx0.cell]; rfl
  have c3 : w0.cell? ⟨w.heap.size + 1, 0, none⟩ = some (.string o) := by rw [hx1.cell]; rfl
  have c4 : w0.cell? ⟨w.heap.size + 1, 1, none⟩ = some (.string r) := by rw [hx1.cell]; rfl
  simp only [Bool.false_eq_true, if_false] at hl
  generalize (m (kP o r)).getD nilS = r' at *
  have HB := Lib.hid hb0
  clear h hb0 hx0 hx1
  go_enter Tryz.func37, Tryz.ntmps37
  go_wp2_with fail
  rw [← hw0]
  clear hw0 hs1
  go_wp2
  rw [hl]
  go_wp2
  go_ret
  exact ⟨rfl, HB.out⟩
/-- The key functions. -/
theorem key1_any (t : Tp) (w : World) : Calls Tryz.prog 17 #[tpV t] w fun e w' => e = .returned (.string t.o) ∧ Below w.heap.size w w' := by
  go_enter Tryz.func17, Tryz.ntmps17
  go_wp2
  go_ret
  exact ⟨rfl, below_alloc _ _⟩
theorem key3_any (t : Tp) (w : World) : Calls Tryz.prog 20 #[tpV t] w fun e w' => e = .returned (.string t.u) ∧ Below w.heap.size w w' := by
  go_enter Tryz.func20, Tryz.ntmps20
  go_wp2
  go_ret
  exact ⟨rfl, below_alloc _ _⟩
theorem key2_any (t : Tp) (w : World) : Calls Tryz.prog 19 #[tpV t] w fun e w' => e = .returned (.agg #[.string t.o, .string t.r]) ∧ Below w.heap.size w w' := by
  go_enter Tryz.func19, Tryz.ntmps19
  go_wp2
  have hb : Below w.heap.size w ((w.alloc (.cells #[.string t.o, .string t.r, .string t.u] 32)).alloc (.cells #[.string t.o, .string t.r] 68)) := (below_alloc _ _).trans ((below_alloc _ _).mono (by simp))
  have hW : Whole ((w.alloc (.cells #[.string t.o, .string t.r, .string t.u] 32)).alloc (.cells #[.string t.o, .string t.r] 68)) (w.heap.size + 1) 68 #[.string t.o, .string t.r] := by
    have := heap_alloc_new (w.alloc (.cells #[.string t.o, .string t.r, .string t.u] 32)) (.cells #[.string t.o, .string t.r] 68)
    have hs : (w.alloc (.cells #[.string t.o, .string t.r, .string t.u] 32)).heap.size = w.heap.size + 1 := by simp
    rw [hs] at this
    exact this
  exact bodyPost_ret (v := .agg #[.string t.o, .string t.r]) (results_cell_row Tryz.results19 _ _ (w.heap.size + 1) 68 _ (0, 0) _ rfl hW Tryz.underlying68 rfl (by kernel_rfl)) rfl ⟨rfl, hb⟩
end Go.Proofs.YtmjdngomjjhhiaaGreat
