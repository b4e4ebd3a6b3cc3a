/- A message that came in, opened: its texts are small. -/
import Derived.Test.YtipdmfehpglliaaCRefEnc
import Derived.Test.YtipdmfehpglliaaCOpen
import Derived.Deep.Strs
import Derived.Deep.Slices
import Derived.ChangeSlices
import Derived.ChangeArms
import Derived.SizedLaws
namespace Go.Proofs.Ytipdmfehpglliaa
open Go.RowKit Go.ChangeShapes Go.WideShapes

theorem tup_openedW {H : Type} {enc : TypeId × Value → H} {W : World} {fuel : Nat} {v0 v1 v2 : Value} {x : DataW H × List MemPlace}
    (h : DataW.trod enc Try.prog W 0 (fun _ => true) true fuel 42 [v0, v1, v2] = some x) (hw : ∀ k ∈ x.1.weights Try.prog 42, k ≤ 140737488351232) :
    ∃ a b c, v0 = .string a ∧ v1 = .string b ∧ v2 = .string c ∧ a.size ≤ 9223372036854775807 ∧ b.size ≤ 9223372036854775807 ∧ c.size ≤ 9223372036854775807 ∧ small3 a b c := by
  obtain ⟨y0, y1, y2, n', hd, _, t0, t1, t2⟩ := Go.Deep.trod_struct3 Try.underlying42 h
  have k1 : Try.prog.cellsOf 9 = 1 := by kernel_rfl
  simp [k1] at t0 t1 t2
  obtain ⟨a, q0, p0, w0⟩ := DataW.trod_string Try.underlying9 t0
  obtain ⟨b, q1, p1, w1⟩ := DataW.trod_string Try.underlying9 t1
  obtain ⟨c, q2, p2, w2⟩ := DataW.trod_string Try.underlying9 t2
  simp at q0 q1 q2
  unfold maxLen at w0 w1 w2
  have hd1 := congrArg Prod.fst hd
  simp only at hd1
  rw [hd1, p0, p1, p2] at hw
  simp only [DataW.weights, Try.underlying42, List.map_cons, List.map_nil, DataW.weightsEach, List.mem_append, List.mem_cons, List.not_mem_nil, or_false] at hw
  have k0 := hw _ (.inl rfl)
  have k1 := hw _ (.inr (.inl rfl))
  have k2 := hw _ (.inr (.inr rfl))
  rw [← Lib.size_eq] at k0 k1 k2
  exact ⟨a, b, c, q0, q1, q2, by omega, by omega, by omega, k0, k1, k2⟩
set_option maxRecDepth 100000 in
set_option maxHeartbeats 1000000 in
theorem muts_openedW {H : Type} {enc : TypeId × Value → H} {W : World} {fuel : Nat} {v : Value} {x : DataW H × List MemPlace}
    (h : DataW.trod enc Try.prog W 0 (fun _ => true) true fuel 23 [v] = some x) (hw : ∀ k ∈ x.1.weights Try.prog 23, k ≤ 140737488351232) :
    ∃ a n c zs, v = .slice a n c ∧ MutsAt W W.heap.size a n zs ∧ n ≤ c ∧ c ≤ maxLen ∧ ∀ y ∈ zs, small3 y.a y.b y.c := by
  rcases Go.Deep.open_slice Try.underlying23 h with ⟨hcs, hx⟩ | ⟨ad, l, c, m, n, Dd, Pl, hcs, _, hl, hm, hmm, hx, hall⟩
  · simp at hcs
    subst hcs
    exact ⟨none, 0, 0, [], rfl, ⟨rfl, .inl rfl⟩, by omega, by simp [maxLen], by simp⟩
  · simp at hcs
    subst hcs
    have hcell : Try.prog.cellsOf 44 = 4 := by kernel_rfl
    rw [hcell] at hall
    simp only [if_true] at hmm
    rcases Nat.eq_zero_or_pos l with h0 | h0
    · subst h0
      exact ⟨some ad, 0, c, [], rfl, ⟨rfl, .inl rfl⟩, hl, hm, by simp⟩
    · obtain ⟨b, off, spot⟩ := ad
      have hs : spot = none := by
        obtain ⟨cs', hc, _⟩ := hall 0 (by omega)
        obtain ⟨_, hcl, hat⟩ := World.cells?_some hc
        have h1 := hat 0 (by omega)
        rw [List.getElem?_eq_getElem (by omega)] at h1
        simpa [Addr.add] using World.cell?_spot h1
      subst hs
      have key : ∀ i, i < l → ∃ m : Mut, W.cell? ⟨b, off + i * 4, none⟩ = some (.bool m.d) ∧ W.cell? ⟨b, off + i * 4 + 1, none⟩ = some (.string m.a) ∧ W.cell? ⟨b, off + i * 4 + 2, none⟩ = some (.string m.b) ∧ W.cell? ⟨b, off + i * 4 + 3, none⟩ = some (.string m.c) ∧ m.a.size ≤ 9223372036854775807 ∧ m.b.size ≤ 9223372036854775807 ∧ m.c.size ≤ 9223372036854775807 ∧ small3 m.a m.b m.c := by
        intro i hi
        obtain ⟨cs', hc, ht⟩ := hall i (by omega)
        obtain ⟨_, hcl, hat⟩ := World.cells?_some hc
        have hwi : ∀ k ∈ (Dd i).weights Try.prog 44, k ≤ 140737488351232 := fun k hk => hw k (by
          rw [hx]
          exact weights_slice Try.underlying23 (.inl (List.mem_map.2 ⟨i, List.mem_range.2 hi, rfl⟩)) hk)
        match cs', hcl with
        | [v0, v1, v2, v3], _ =>
          have e0 := hat 0 (by omega)
          have e1 := hat 1 (by omega)
          have e2 := hat 2 (by omega)
          have e3 := hat 3 (by omega)
          simp only [add_plain, Nat.add_zero, List.getElem?_cons_zero, List.getElem?_cons_succ] at e0 e1 e2 e3
          obtain ⟨xs, n', _, hd, _, hlen, hf⟩ := DataW.trod_struct Try.underlying44 ht
          match xs, hlen with
          | [y0, y1], _ =>
            have t0 := hf 0 _ rfl
            have t1 := hf 1 _ rfl
            have kb : Try.prog.cellsOf 4 = 1 := by kernel_rfl
            have kt : Try.prog.cellsOf 42 = 3 := by kernel_rfl
            simp [kb, kt] at t0 t1
            obtain ⟨d, hd0, _⟩ := DataW.trod_bool Try.underlying4 t0
            have hd1 := congrArg Prod.fst hd
            simp only at hd1
            obtain ⟨a, b', c', rfl, rfl, rfl, s1, s2, s3, s9⟩ := tup_openedW t1 (fun k hk => hwi k (by
              rw [hd1]
              simp only [DataW.weights, Try.underlying44]
              exact DataW.weights_mem_each (j := 1) rfl rfl k hk))
            simp at hd0
            subst hd0
            exact ⟨⟨d, a, b', c'⟩, e0, by rw [Nat.add_assoc]; exact e1, by rw [Nat.add_assoc]; exact e2, by rw [Nat.add_assoc]; exact e3, s1, s2, s3, s9⟩
      have hb : b < W.heap.size := by
        obtain ⟨m, c0, _⟩ := key 0 h0
        exact World.block_lt_of_cell? W ⟨b, off + 0 * 4, none⟩ c0
      refine ⟨_, l, c, (List.range l).map fun i => if h : i < l then (key i h).choose else ⟨false, ByteArray.empty, ByteArray.empty, ByteArray.empty⟩, rfl, ⟨by simp, .inr ⟨b, off, rfl, hb, ?_⟩⟩, hl, hm, ?_⟩
      rotate_left
      · intro y hy
        obtain ⟨i, hi⟩ := List.getElem?_of_mem hy
        have hil : i < l := by
          have := (List.getElem?_eq_some_iff.1 hi).1
          simpa using this
        rw [List.getElem?_map, List.getElem?_range hil] at hi
        simp only [Option.map_some, Option.some.injEq, dif_pos hil] at hi
        subst hi
        have hsp := (key i hil).choose_spec
        exact hsp.2.2.2.2.2.2.2
      intro i m hi
      have hil : i < l := by
        have := (List.getElem?_eq_some_iff.1 hi).1
        simpa using this
      rw [List.getElem?_map, List.getElem?_range hil] at hi
      simp only [Option.map_some, Option.some.injEq, dif_pos hil] at hi
      subst hi
      have hsp := (key i hil).choose_spec
      exact ⟨hsp.1, hsp.2.1, hsp.2.2.1, hsp.2.2.2.1, hsp.2.2.2.2.1, hsp.2.2.2.2.2.1, hsp.2.2.2.2.2.2.1⟩
set_option maxRecDepth 100000 in
set_option maxHeartbeats 1000000 in
theorem cons_openedW {H : Type} {enc : TypeId × Value → H} {W : World} {fuel : Nat} {v : Value} {x : DataW H × List MemPlace}
    (h : DataW.trod enc Try.prog W 0 (fun _ => true) true fuel 24 [v] = some x) (hw : ∀ k ∈ x.1.weights Try.prog 24, k ≤ 140737488351232) :
    ∃ a n c zs, v = .slice a n c ∧ MutsAt W W.heap.size a n zs ∧ n ≤ c ∧ c ≤ maxLen ∧ ∀ y ∈ zs, small3 y.a y.b y.c := by
  rcases Go.Deep.open_slice Try.underlying24 h with ⟨hcs, hx⟩ | ⟨ad, l, c, m, n, Dd, Pl, hcs, _, hl, hm, hmm, hx, hall⟩
  · simp at hcs
    subst hcs
    exact ⟨none, 0, 0, [], rfl, ⟨rfl, .inl rfl⟩, by omega, by simp [maxLen], by simp⟩
  · simp at hcs
    subst hcs
    have hcell : Try.prog.cellsOf 54 = 4 := by kernel_rfl
    rw [hcell] at hall
    simp only [if_true] at hmm
    rcases Nat.eq_zero_or_pos l with h0 | h0
    · subst h0
      exact ⟨some ad, 0, c, [], rfl, ⟨rfl, .inl rfl⟩, hl, hm, by simp⟩
    · obtain ⟨b, off, spot⟩ := ad
      have hs : spot = none := by
        obtain ⟨cs', hc, _⟩ := hall 0 (by omega)
        obtain ⟨_, hcl, hat⟩ := World.cells?_some hc
        have h1 := hat 0 (by omega)
        rw [List.getElem?_eq_getElem (by omega)] at h1
        simpa [Addr.add] using World.cell?_spot h1
      subst hs
      have key : ∀ i, i < l → ∃ m : Mut, W.cell? ⟨b, off + i * 4, none⟩ = some (.bool m.d) ∧ W.cell? ⟨b, off + i * 4 + 1, none⟩ = some (.string m.a) ∧ W.cell? ⟨b, off + i * 4 + 2, none⟩ = some (.string m.b) ∧ W.cell? ⟨b, off + i * 4 + 3, none⟩ = some (.string m.c) ∧ m.a.size ≤ 9223372036854775807 ∧ m.b.size ≤ 9223372036854775807 ∧ m.c.size ≤ 9223372036854775807 ∧ small3 m.a m.b m.c := by
        intro i hi
        obtain ⟨cs', hc, ht⟩ := hall i (by omega)
        obtain ⟨_, hcl, hat⟩ := World.cells?_some hc
        have hwi : ∀ k ∈ (Dd i).weights Try.prog 54, k ≤ 140737488351232 := fun k hk => hw k (by
          rw [hx]
          exact weights_slice Try.underlying24 (.inl (List.mem_map.2 ⟨i, List.mem_range.2 hi, rfl⟩)) hk)
        match cs', hcl with
        | [v0, v1, v2, v3], _ =>
          have e0 := hat 0 (by omega)
          have e1 := hat 1 (by omega)
          have e2 := hat 2 (by omega)
          have e3 := hat 3 (by omega)
          simp only [add_plain, Nat.add_zero, List.getElem?_cons_zero, List.getElem?_cons_succ] at e0 e1 e2 e3
          obtain ⟨xs, n', _, hd, _, hlen, hf⟩ := DataW.trod_struct Try.underlying54 ht
          match xs, hlen with
          | [y0, y1], _ =>
            have t0 := hf 0 _ rfl
            have t1 := hf 1 _ rfl
            have kb : Try.prog.cellsOf 4 = 1 := by kernel_rfl
            have kt : Try.prog.cellsOf 42 = 3 := by kernel_rfl
            simp [kb, kt] at t0 t1
            obtain ⟨d, hd0, _⟩ := DataW.trod_bool Try.underlying4 t0
            have hd1 := congrArg Prod.fst hd
            simp only at hd1
            obtain ⟨a, b', c', rfl, rfl, rfl, s1, s2, s3, s9⟩ := tup_openedW t1 (fun k hk => hwi k (by
              rw [hd1]
              simp only [DataW.weights, Try.underlying54]
              exact DataW.weights_mem_each (j := 1) rfl rfl k hk))
            simp at hd0
            subst hd0
            exact ⟨⟨d, a, b', c'⟩, e0, by rw [Nat.add_assoc]; exact e1, by rw [Nat.add_assoc]; exact e2, by rw [Nat.add_assoc]; exact e3, s1, s2, s3, s9⟩
      have hb : b < W.heap.size := by
        obtain ⟨m, c0, _⟩ := key 0 h0
        exact World.block_lt_of_cell? W ⟨b, off + 0 * 4, none⟩ c0
      refine ⟨_, l, c, (List.range l).map fun i => if h : i < l then (key i h).choose else ⟨false, ByteArray.empty, ByteArray.empty, ByteArray.empty⟩, rfl, ⟨by simp, .inr ⟨b, off, rfl, hb, ?_⟩⟩, hl, hm, ?_⟩
      rotate_left
      · intro y hy
        obtain ⟨i, hi⟩ := List.getElem?_of_mem hy
        have hil : i < l := by
          have := (List.getElem?_eq_some_iff.1 hi).1
          simpa using this
        rw [List.getElem?_map, List.getElem?_range hil] at hi
        simp only [Option.map_some, Option.some.injEq, dif_pos hil] at hi
        subst hi
        have hsp := (key i hil).choose_spec
        exact hsp.2.2.2.2.2.2.2
      intro i m hi
      have hil : i < l := by
        have := (List.getElem?_eq_some_iff.1 hi).1
        simpa using this
      rw [List.getElem?_map, List.getElem?_range hil] at hi
      simp only [Option.map_some, Option.some.injEq, dif_pos hil] at hi
      subst hi
      have hsp := (key i hil).choose_spec
      exact ⟨hsp.1, hsp.2.1, hsp.2.2.1, hsp.2.2.2.1, hsp.2.2.2.2.1, hsp.2.2.2.2.2.1, hsp.2.2.2.2.2.2.1⟩
set_option maxRecDepth 100000 in
set_option maxHeartbeats 1000000 in
theorem rows_openedW {H : Type} {enc : TypeId × Value → H} {W : World} {fuel : Nat} {v : Value} {x : DataW H × List MemPlace}
    (h : DataW.trod enc Try.prog W 0 (fun _ => true) true fuel 25 [v] = some x) (hw : ∀ k ∈ x.1.weights Try.prog 25, k ≤ 140737488351232) :
    ∃ a n c zs, v = .slice a n c ∧ RowsAt W W.heap.size a n zs ∧ n ≤ c ∧ c ≤ maxLen ∧ ∀ y ∈ zs, small3 y.a y.b y.c := by
  rcases Go.Deep.open_slice Try.underlying25 h with ⟨hcs, hx⟩ | ⟨ad, l, c, m, n, Dd, Pl, hcs, _, hl, hm, hmm, hx, hall⟩
  · simp at hcs
    subst hcs
    exact ⟨none, 0, 0, [], rfl, ⟨rfl, .inl rfl⟩, by omega, by simp [maxLen], by simp⟩
  · simp at hcs
    subst hcs
    have hcell : Try.prog.cellsOf 56 = 5 := by kernel_rfl
    rw [hcell] at hall
    simp only [if_true] at hmm
    rcases Nat.eq_zero_or_pos l with h0 | h0
    · subst h0
      exact ⟨some ad, 0, c, [], rfl, ⟨rfl, .inl rfl⟩, hl, hm, by simp⟩
    · obtain ⟨b, off, spot⟩ := ad
      have hs : spot = none := by
        obtain ⟨cs', hc, _⟩ := hall 0 (by omega)
        obtain ⟨_, hcl, hat⟩ := World.cells?_some hc
        have h1 := hat 0 (by omega)
        rw [List.getElem?_eq_getElem (by omega)] at h1
        simpa [Addr.add] using World.cell?_spot h1
      subst hs
      have key : ∀ i, i < l → ∃ m : RowD, W.cell? ⟨b, off + i * 5, none⟩ = some (.string m.a) ∧ W.cell? ⟨b, off + i * 5 + 1, none⟩ = some (.string m.b) ∧ W.cell? ⟨b, off + i * 5 + 2, none⟩ = some (.string m.c) ∧ W.cell? ⟨b, off + i * 5 + 3, none⟩ = some (.int .i64 m.s) ∧ W.cell? ⟨b, off + i * 5 + 4, none⟩ = some (.int .i64 m.u) ∧ m.a.size ≤ 9223372036854775807 ∧ m.b.size ≤ 9223372036854775807 ∧ m.c.size ≤ 9223372036854775807 ∧ (-9223372036854775808 ≤ m.s ∧ m.s ≤ 9223372036854775807) ∧ (-9223372036854775808 ≤ m.u ∧ m.u ≤ 9223372036854775807) ∧ small3 m.a m.b m.c := by
        intro i hi
        obtain ⟨cs', hc, ht⟩ := hall i (by omega)
        obtain ⟨_, hcl, hat⟩ := World.cells?_some hc
        have hwi : ∀ k ∈ (Dd i).weights Try.prog 56, k ≤ 140737488351232 := fun k hk => hw k (by
          rw [hx]
          exact weights_slice Try.underlying25 (.inl (List.mem_map.2 ⟨i, List.mem_range.2 hi, rfl⟩)) hk)
        match cs', hcl with
        | [v0, v1, v2, v3, v4], _ =>
          have e0 := hat 0 (by omega)
          have e1 := hat 1 (by omega)
          have e2 := hat 2 (by omega)
          have e3 := hat 3 (by omega)
          have e4 := hat 4 (by omega)
          simp only [add_plain, Nat.add_zero, List.getElem?_cons_zero, List.getElem?_cons_succ] at e0 e1 e2 e3 e4
          obtain ⟨xs, n', _, hd, _, hlen, hf⟩ := DataW.trod_struct Try.underlying56 ht
          match xs, hlen with
          | [y0, y1, y2], _ =>
            have t0 := hf 0 _ rfl
            have t1 := hf 1 _ rfl
            have t2 := hf 2 _ rfl
            have kb : Try.prog.cellsOf 2 = 1 := by kernel_rfl
            have kt : Try.prog.cellsOf 42 = 3 := by kernel_rfl
            simp [kb, kt] at t0 t1 t2
            have hd1 := congrArg Prod.fst hd
            simp only at hd1
            obtain ⟨a, b', c', rfl, rfl, rfl, s1, s2, s3, s9⟩ := tup_openedW t0 (fun k hk => hwi k (by
              rw [hd1]
              simp only [DataW.weights, Try.underlying56]
              exact DataW.weights_mem_each (j := 0) rfl rfl k hk))
            obtain ⟨s, hs0, _, ws⟩ := DataW.trod_int Try.underlying2 t1
            obtain ⟨u, hu0, _, wu⟩ := DataW.trod_int Try.underlying2 t2
            simp at hs0 hu0
            subst hs0 hu0
            exact ⟨⟨a, b', c', s, u⟩, e0, by rw [Nat.add_assoc]; exact e1, by rw [Nat.add_assoc]; exact e2, by rw [Nat.add_assoc]; exact e3, by rw [Nat.add_assoc]; exact e4, s1, s2, s3, wf_i64 ws, wf_i64 wu, s9⟩
      have hb : b < W.heap.size := by
        obtain ⟨m, c0, _⟩ := key 0 h0
        exact World.block_lt_of_cell? W ⟨b, off + 0 * 5, none⟩ c0
      refine ⟨_, l, c, (List.range l).map fun i => if h : i < l then (key i h).choose else ⟨ByteArray.empty, ByteArray.empty, ByteArray.empty, 0, 0⟩, rfl, ⟨by simp, .inr ⟨b, off, rfl, hb, ?_⟩⟩, hl, hm, ?_⟩
      rotate_left
      · intro y hy
        obtain ⟨i, hi⟩ := List.getElem?_of_mem hy
        have hil : i < l := by
          have := (List.getElem?_eq_some_iff.1 hi).1
          simpa using this
        rw [List.getElem?_map, List.getElem?_range hil] at hi
        simp only [Option.map_some, Option.some.injEq, dif_pos hil] at hi
        subst hi
        have hsp := (key i hil).choose_spec
        exact hsp.2.2.2.2.2.2.2.2.2.2
      intro i m hi
      have hil : i < l := by
        have := (List.getElem?_eq_some_iff.1 hi).1
        simpa using this
      rw [List.getElem?_map, List.getElem?_range hil] at hi
      simp only [Option.map_some, Option.some.injEq, dif_pos hil] at hi
      subst hi
      have hsp := (key i hil).choose_spec
      exact ⟨hsp.1, hsp.2.1, hsp.2.2.1, hsp.2.2.2.1, hsp.2.2.2.2.1, hsp.2.2.2.2.2.1, hsp.2.2.2.2.2.2.1, hsp.2.2.2.2.2.2.2.1, hsp.2.2.2.2.2.2.2.2.1, hsp.2.2.2.2.2.2.2.2.2.1⟩
set_option maxRecDepth 100000 in
set_option maxHeartbeats 1000000 in
theorem msg_openedW {H : Type} {enc : TypeId × Value → H} {W : World} {r : Reach} {b0 : Nat} {v : Value} {d : DataW H} {p : List MemPlace}
    (hv : Value.okWide Try.prog W r b0 27 v) (h : DataW.Trod enc Try.prog W 0 (fun _ => true) true 27 v d p) (hw : ∀ k ∈ d.weights Try.prog 27, k ≤ 140737488351232) :
    ∃ m, MsgIn W v m ∧ m.small := by
  have hu := Try.underlying27
  obtain ⟨cs, rfl, hsz⟩ := okWide_struct hu hv
  obtain ⟨fuel, hf⟩ := h
  obtain ⟨xs, n', _, hd, hl, hlen, hf⟩ := DataW.trod_struct hu hf
  have k12 : Try.prog.cellsOf 27 = 12 := by kernel_rfl
  have ki : Try.prog.cellsOf 3 = 1 := by kernel_rfl
  have kj : Try.prog.cellsOf 2 = 1 := by kernel_rfl
  have kb : Try.prog.cellsOf 4 = 1 := by kernel_rfl
  have kn : Try.prog.cellsOf 22 = 1 := by kernel_rfl
  have km : Try.prog.cellsOf 23 = 1 := by kernel_rfl
  have kc : Try.prog.cellsOf 24 = 1 := by kernel_rfl
  have kr : Try.prog.cellsOf 25 = 1 := by kernel_rfl
  rw [k12] at hsz
  obtain ⟨l⟩ := cs
  match l, hsz with
  | [c0, c1, c2, c3, c4, c5, c6, c7, c8, c9, c10, c11], _ =>
    match xs, hlen with
    | [y0, y1, y2, y3, y4, y5, y6, y7, y8, y9, y10, y11], _ =>
      have t0 := hf 0 _ rfl
      have t1 := hf 1 _ rfl
      have t2 := hf 2 _ rfl
      have t3 := hf 3 _ rfl
      have t4 := hf 4 _ rfl
      have t5 := hf 5 _ rfl
      have t6 := hf 6 _ rfl
      have t7 := hf 7 _ rfl
      have t8 := hf 8 _ rfl
      have t9 := hf 9 _ rfl
      have t10 := hf 10 _ rfl
      have t11 := hf 11 _ rfl
      simp [ki, kj, kb, kn, km, kc, kr, Value.cells] at t0 t1 t2 t3 t4 t5 t6 t7 t8 t9 t10 t11
      obtain ⟨q0, e0, _, w0⟩ := DataW.trod_int Try.underlying3 t0
      obtain ⟨q1, e1, _, w1⟩ := DataW.trod_int Try.underlying3 t1
      obtain ⟨q2, e2, _, w2⟩ := DataW.trod_int Try.underlying3 t2
      obtain ⟨q3, e3, _, w3⟩ := DataW.trod_int Try.underlying2 t3
      obtain ⟨q4, e4, _, w4⟩ := DataW.trod_int Try.underlying2 t4
      obtain ⟨q5, e5, _, w5⟩ := DataW.trod_int Try.underlying2 t5
      obtain ⟨q6, e6, _, w6⟩ := DataW.trod_int Try.underlying3 t6
      obtain ⟨q7, e7, _⟩ := DataW.trod_bool Try.underlying4 t7
      simp at e0 e1 e2 e3 e4 e5 e6 e7
      subst e0 e1 e2 e3 e4 e5 e6 e7
      have hd1 := congrArg Prod.fst hd
      simp only at hd1
      obtain ⟨a8, n8, k8, z8, rfl, l8, s8, r8⟩ := nodes_opened t8
      obtain ⟨a9, n9, k9, z9, rfl, l9, s9, r9, u9⟩ := muts_openedW t9 (fun k hk => hw k (by
        rw [hd1]
        simp only [DataW.weights, hu]
        exact DataW.weights_mem_each (j := 9) rfl rfl k hk))
      obtain ⟨a10, n10, k10, z10, rfl, l10, s10, r10, u10⟩ := cons_openedW t10 (fun k hk => hw k (by
        rw [hd1]
        simp only [DataW.weights, hu]
        exact DataW.weights_mem_each (j := 10) rfl rfl k hk))
      obtain ⟨a11, n11, k11, z11, rfl, l11, s11, r11, u11⟩ := rows_openedW t11 (fun k hk => hw k (by
        rw [hd1]
        simp only [DataW.weights, hu]
        exact DataW.weights_mem_each (j := 11) rfl rfl k hk))
      unfold maxLen at r8 r9 r10 r11
      exact ⟨⟨q0, q1, q2, q3, q4, q5, q6, q7, z8, z9, z10, z11⟩, ⟨a8, a9, a10, a11, n8, k8, n9, k9, n10, k10, n11, k11, ⟨rfl, wf_i64 w0, wf_i64 w1, wf_i64 w2, wf_i64 w3, wf_i64 w4, wf_i64 w5, wf_i64 w6, l8, l9, l10, l11, by omega, by omega, by omega, by omega⟩⟩, ⟨u9, u10, u11⟩⟩
end Go.Proofs.Ytipdmfehpglliaa
