/- The queue of string: New, Len, Lost, room, Put, Take. -/
import Derived.Test.YtmnbpgigdobehaaQ1S
namespace Go.Proofs.Ytmnbpgigdobehaa.QS
open Go.RowKit Go.Conc Go.Proofs.Ytmnbpgigdobehaa

theorem mk (n : Nat) (h : n ≤ 4096) (w : World) : (Instr.makeChan 64 (.int .i64 (n : Int))).run Try.prog w = .ok (.chan (some w.heap.size)) (w.alloc (.chan n #[] false 0 0 false)) := by
  have hb : (Try.prog.info? 68).map (·.bytes) = some 8 := by kernel_rfl
  obtain ⟨i, hi, hb⟩ := Option.map_eq_some_iff.1 hb
  exact run_makeChan (P := Try.prog) (w := w) Try.underlying64 hi .i64 n (by omega) (by rw [hb]; omega)
set_option maxHeartbeats 1000000 in
theorem new_bad (r : Int) (w : World) (h : r < 1 ∨ 4096 < r) :
    Calls Try.prog 7 #[.int .i64 r] w fun e w' => e = .returned (.tuple #[.pointer none, .int .i64 1]) ∧ w = w' := by
  rcases h with h | h
  all_goals
    go_enter Try.func7, Try.ntmps7
    go_wp2
    go_ret2
    exact ⟨rfl, rfl⟩
set_option maxHeartbeats 1000000 in
theorem new_good (B n : Nat) (w : World) (h1 : 1 ≤ n) (h2 : n ≤ 4096) (hB : B ≤ w.heap.size) :
    Calls Try.prog 7 #[.int .i64 (n : Int)] w fun e w' => e = .returned (.tuple #[.pointer (some ⟨w.heap.size + 1, 0, none⟩), .int .i64 0]) ∧ QAt w' B (w.heap.size + 1) w.heap.size n 0 [] [] ∧ Below w.heap.size w w' := by
  have hmk := mk n h2
  have hn1 : ¬ (n : Int) < 1 := by omega
  have hn2 : ¬ 4096 < (n : Int) := by omega
  have HM := Lib.hid hmk
  clear hmk
  go_enter Try.func7, Try.ntmps7
  have hmk := HM.out
  go_wp2
  go_ret2
  have hb1 : Below w.heap.size w (w.alloc (.chan n #[] false 0 0 false)) := below_alloc _ _
  refine ⟨rfl, ⟨?_, ⟨0, 0, ?_⟩, trivial, Nat.zero_le _, h1, h2, by omega, hB⟩, hb1.alloc (by simp) _⟩
  · have := heap_alloc_new (w.alloc (.chan n #[] false 0 0 false)) (.cells #[.chan (some w.heap.size), .int .i64 0] 66)
    simpa [Whole] using this
  · rw [Below.heap_alloc _ _ _ (by simp)]
    exact heap_alloc_new w _
theorem lenq {B g c cap : Nat} {lost : Int} {ps : List Nat} {xs : List ByteArray} (w : World) (h : QAt w B g c cap lost ps xs) (ty : TypeId) :
    (Builtin.len_ #[64] ty #[.chan (some c)]).run Try.prog w = .ok (.int .i64 xs.length) w := by
  obtain ⟨s, r, hc⟩ := h.ch
  have := run_len_chan (P := Try.prog) 64 ty Try.underlying64 hc
  rw [Ptrs.size, h.th.len] at this
  exact this
theorem capq {B g c cap : Nat} {lost : Int} {ps : List Nat} {xs : List ByteArray} (w : World) (h : QAt w B g c cap lost ps xs) (ty : TypeId) :
    (Builtin.cap_ #[64] ty #[.chan (some c)]).run Try.prog w = .ok (.int .i64 cap) w := by
  obtain ⟨s, r, hc⟩ := h.ch
  exact run_cap_chan (P := Try.prog) 64 ty Try.underlying64 hc
theorem QAt.drewN {w : World} {B g c cap : Nat} {lost : Int} {ps : List Nat} {xs : List ByteArray} (h : QAt w B g c cap lost ps xs) (n : Nat) : QAt (w.drewN n) B g c cap lost ps xs :=
  h.below (below_drewN _ _)
set_option maxHeartbeats 1000000 in
theorem len_any {B g c cap : Nat} {lost : Int} {ps : List Nat} {xs : List ByteArray} (w : World) (h : QAt w B g c cap lost ps xs) :
    Calls Try.prog 17 #[.pointer (some ⟨g, 0, none⟩)] w fun e w' => e = .returned (.int .i64 xs.length) ∧ w = w' := by
  obtain ⟨c0, _, _⟩ := h.cells
  have hl := lenq w h
  clear h
  go_enter Try.func17, Try.ntmps17
  go_wp2
  go_ret
  exact ⟨rfl, rfl⟩
set_option maxHeartbeats 1000000 in
theorem lost_any {B g c cap : Nat} {lost : Int} {ps : List Nat} {xs : List ByteArray} (w : World) (h : QAt w B g c cap lost ps xs) :
    Calls Try.prog 18 #[.pointer (some ⟨g, 0, none⟩)] w fun e w' => e = .returned (.int .i64 lost) ∧ w = w' := by
  obtain ⟨_, c1, _⟩ := h.cells
  clear h
  go_enter Try.func18, Try.ntmps18
  go_wp2
  go_ret
  exact ⟨rfl, rfl⟩
set_option maxHeartbeats 1000000 in
theorem room_any {B g c cap : Nat} {lost : Int} {ps : List Nat} {xs : List ByteArray} (w : World) (h : QAt w B g c cap lost ps xs) :
    Calls Try.prog 28 #[.pointer (some ⟨g, 0, none⟩)] w fun e w' => e = .returned (.int .i64 ((cap - xs.length : Nat))) ∧ ∃ n, w' = w.drewN n := by
  obtain ⟨c0, _, _⟩ := h.cells
  have hl := fun n => lenq _ (h.drewN n)
  have hc := fun n => capq _ (h.drewN n)
  have h1 := h.room
  have h2 := h.hi
  have hs : IntKind.i64.wrap ((cap : Int) - (xs.length : Int)) = ((cap - xs.length : Nat) : Int) := by rw [IntWalk.i64_in _ (by omega)]; omega
  clear h h1 h2
  go_enter Try.func28, Try.ntmps28
  go_wp2
  go_quiet (fail)
  go_wp2
  go_ret
  exact ⟨rfl, _, rfl⟩

set_option maxHeartbeats 1000000 in
theorem Take_some {B g c cap : Nat} {lost : Int} {p : Nat} {ps : List Nat} {x : ByteArray} {xs : List ByteArray} (w : World) (h : QAt w B g c cap lost (p :: ps) (x :: xs)) :
    Calls Try.prog 12 #[.pointer (some ⟨g, 0, none⟩)] w fun e w' => e = .returned (.tuple #[Value.string x, .bool true]) ∧ QAt w' B g c cap lost ps xs ∧ Turned w w' g (some c) := by
  have HN := Lib.hid (take_some w h)
  clear h
  go_enter Try.func12, Try.ntmps12
  go_wp2_with fail
  refine HN.out.mono ?_
  rintro e w1 ⟨rfl, hq, hp, ht⟩
  have c0 := hp.cell 0
  have HQ := Lib.hid hq
  have HT := Lib.hid ht
  clear hq hp ht
  go_wp2
  go_ret2
  exact ⟨rfl, HQ.out, HT.out⟩
set_option maxHeartbeats 1000000 in
theorem Take_none {B g c cap : Nat} {lost : Int} (w : World) (h : QAt w B g c cap lost [] []) :
    Calls Try.prog 12 #[.pointer (some ⟨g, 0, none⟩)] w fun e w' => e = .returned (.tuple #[.string ⟨#[]⟩, .bool false]) ∧ QAt w' B g c cap lost [] [] ∧ Below w.heap.size w w' := by
  have HN := Lib.hid (take_none w h)
  have HQ := Lib.hid h
  clear h
  go_enter Try.func12, Try.ntmps12
  go_wp2_with fail
  refine HN.out.mono ?_
  rintro e w1 ⟨rfl, rfl⟩
  go_wp2
  go_ret2
  exact ⟨rfl, HQ.out.below (below_alloc _ _), below_alloc _ _⟩

/-- A row of things that lies apart from the queue's own blocks. -/
def Row (w : World) (g c : Nat) (a : Option Addr) (n : Nat) (l : List ByteArray) : Prop :=
  l.length = n ∧ (n = 0 ∨ ∃ b off, a = some ⟨b, off, none⟩ ∧ b < w.heap.size ∧ b ≠ g ∧ b ≠ c ∧ ∀ i x, l[i]? = some x → w.cell? ⟨b, off + i, none⟩ = some (Value.string x))
theorem Turned.at {w w' : World} {g c b : Nat} (ht : Turned w w' g (some c)) (hl : b < w.heap.size) (h1 : b ≠ g) (h2 : b ≠ c) (i : Nat) : w'.cell? ⟨b, i, none⟩ = w.cell? ⟨b, i, none⟩ := by
  have := ht.block b hl h1 (by simpa using h2)
  simp only [World.cell?, this]
theorem take_snoc' {α : Type} {l : List α} {i : Nat} {x : α} (h : l[i]? = some x) : l.take i ++ [x] = l.take (i + 1) := by
  obtain ⟨hi, rfl⟩ := List.getElem?_eq_some_iff.1 h
  exact List.take_append_getElem hi
theorem Turned.below_right {a b d : World} {g : Nat} {o : Option Nat} (h : Turned a b g o) (k : Below b.heap.size b d) : Turned a d g o := Turned.trans h (Turned.ofBelow _ _ k)

theorem QAt.lose {w : World} {B g c cap : Nat} {lost : Int} {ps : List Nat} {xs : List ByteArray} (h : QAt w B g c cap lost ps xs) (L' : Int) : QAt (w.setCell ⟨g, 1, none⟩ (.int .i64 L')) B g c cap L' ps xs := by
  have hT : Turned w (w.setCell ⟨g, 1, none⟩ (.int .i64 L')) g (some c) := (Turned.refl _ _ _).setCell 1 _
  exact ⟨by have := h.blk.store 1 (.int .i64 L'); simpa using this, h.ch.kept (Below.heap_setCell _ _ _ _ h.ne.symm), h.th.kept hT ⟨_, _, by decide, h.blk⟩ ⟨_, _, h.ch⟩, h.room, h.lo, h.hi, h.geg, h.gec⟩
set_option maxRecDepth 100000 in
set_option maxHeartbeats 4000000 in
theorem Put_any {B g c cap : Nat} {lost : Int} {ps : List Nat} {xs : List ByteArray} (a : Option Addr) (n k : Nat) (l : List ByteArray) (L' : Int) (w : World) (h : QAt w B g c cap lost ps xs) (hl : Row w g c a n l) (hn : n ≤ 9223372036854775806)
    (hL : IntKind.i64.wrap (lost + ((n : Int) - ((cap - xs.length : Nat) : Int))) = L') :
    Calls Try.prog 10 #[.pointer (some ⟨g, 0, none⟩), .slice a n k] w fun e w' => e = .returned (.int .i64 ((min n (cap - xs.length) : Nat) : Int)) ∧ (∃ ps', QAt w' B g c cap (if n ≤ cap - xs.length then lost else L') ps' (xs ++ l.take (cap - xs.length))) ∧ Turned w w' g (some c) := by
  have hroom := h.room
  have hhi := h.hi
  obtain ⟨c0, c1, cf⟩ := h.cells
  have HL := Lib.hid hL
  have HR := Lib.hid hl
  have HQ := Lib.hid h
  clear h hl hL c0 c1 cf
  go_enter Try.func10, Try.ntmps10
  go_wp2
  go_loopw [9] (fun iv wr => ∃ (i : Nat) (ps' : List Nat), i ≤ n ∧ i ≤ cap - xs.length ∧ iv = .int .i64 i ∧ QAt wr B g c cap lost ps' (xs ++ l.take i) ∧ Turned w wr g (some c)) (fun iv _ => n - (intOf iv).toNat)
  case atStart => exact ⟨0, ps, by omega, by omega, rfl, by simpa using HQ.out, Turned.refl _ _ _⟩
  case round =>
    obtain ⟨i, ps', hin, hic, rfl, hq, ht⟩ := hrel
    have hlenl : (xs ++ l.take i).length = xs.length + i := by rw [List.length_append, List.length_take, HR.out.1]; omega
    by_cases hil : i < n
    · obtain ⟨b, off, rfl, hbl, hbg, hbc, hcell⟩ := HR.out.2.resolve_left (by omega)
      obtain ⟨x, hx⟩ : ∃ x, l[i]? = some x := ⟨_, List.getElem?_eq_getElem (show i < l.length by rw [HR.out.1]; exact hil)⟩
      have cx := (Turned.at ht hbl hbg hbc (off + i)).trans (hcell i x hx)
      have HX := Lib.hid hx
      have HLE := Lib.hid hlenl
      have HQ2 := Lib.hid hq
      have HT := Lib.hid ht
      obtain ⟨q0, q1, qf⟩ := hq.cells
      clear hcell hx hlenl hq ht
      by_cases hroom2 : i < cap - xs.length
      · clear q0 q1 qf
        go_wp2_with fail
        have hwp : Whole (wr.alloc (.cells #[Value.string x] 9)) wr.heap.size 9 #[Value.string x] := heap_alloc_new _ _
        refine (put_room wr.heap.size x _ (HQ2.out.below (below_alloc _ _)) hwp (by rw [HLE.out]; omega)).mono ?_
        rintro e w2 ⟨rfl, hq2, ht2⟩
        have HQ3 := Lib.hid hq2
        have HT3 := Lib.hid (Turned.trans (Turned.below_right HT.out (below_alloc _ _)) ht2)
        clear hq2 ht2 hwp
        go_wp2
        go_roundw
        case rel => exact ⟨i + 1, _, by omega, by omega, by go_num, by have := HQ3.out; rwa [List.append_assoc, take_snoc' HX.out] at this, HT3.out⟩
        case measure => simp [intOf]; omega
      · obtain rfl : i = cap - xs.length := by omega
        have hsub : IntKind.i64.wrap ((n : Int) - ((cap - xs.length : Nat) : Int)) = (n : Int) - ((cap - xs.length : Nat) : Int) := IntWalk.i64_in _ (by omega)
        have hsum := HL.out
        go_wp2_with fail
        refine (put_full wr.heap.size _ (HQ2.out.below (below_alloc _ _)) (by rw [HLE.out]; omega)).mono ?_
        rintro e w2 ⟨rfl, hw⟩
        have hq2 := HQ2.out.below (below_alloc wr (.cells #[Value.string x] 9))
        have ht2 := Turned.below_right HT.out (below_alloc wr (.cells #[Value.string x] 9))
        rw [hw] at hq2 ht2
        obtain ⟨q0, q1, qf⟩ := hq2.cells
        have HQ3 := Lib.hid hq2
        have HT3 := Lib.hid ht2
        clear hq2 ht2 hw
        go_wp2
        refine bodyPost_ret (v := .int .i64 ((cap - xs.length : Nat) : Int)) (by simp [results, Try.results10, go_sem]) rfl ⟨?_, ⟨ps', ?_⟩, ?_⟩
        · rfl
        · exact HQ3.out.lose L'
        · exact HT3.out.setCell 1 _
    · obtain rfl : i = n := by omega
      have HQ2 := Lib.hid hq
      have HT := Lib.hid ht
      clear hq ht hlenl
      go_wp2
      go_ret
      refine ⟨rfl, ⟨ps', ?_⟩, HT.out⟩
      rw [List.take_of_length_le (by rw [HR.out.1]; omega)]
      have := HQ2.out
      rwa [List.take_of_length_le (by rw [HR.out.1]; omega)] at this
end Go.Proofs.Ytmnbpgigdobehaa.QS
