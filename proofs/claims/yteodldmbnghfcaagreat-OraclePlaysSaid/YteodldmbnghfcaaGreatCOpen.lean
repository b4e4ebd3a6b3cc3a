/- A message that came in, opened. -/
import Derived.Test.YteodldmbnghfcaaGreatCRead
import Derived.Deep.Strs
import Derived.Deep.Slices
import Derived.ChangeSlices
import Derived.ChangeArms
import Derived.SizedLaws
namespace Go.Proofs.YteodldmbnghfcaaGreat
open Go.RowKit Go.ChangeShapes Go.WideShapes

theorem nodes_opened {H : Type} {enc : TypeId × Value → H} {W : World} {fuel : Nat} {v : Value} {x : DataW H × List MemPlace}
    (h : DataW.trod enc Tryz.prog W 0 (fun _ => true) true fuel 38 [v] = some x) :
    ∃ a n c zs, v = .slice a n c ∧ IntsAt W W.heap.size a n zs ∧ n ≤ c ∧ c ≤ maxLen := by
  rcases open_ints Tryz.underlying38 Tryz.underlying3 (by kernel_rfl) h with ⟨hcs, _⟩ | ⟨ad, l, c, zs, hcs, _, hl, hm, hz, hx, hcell, hwz⟩
  · simp at hcs
    subst hcs
    exact ⟨none, 0, 0, [], rfl, ⟨rfl, .inl rfl⟩, by omega, by simp [maxLen]⟩
  · simp at hcs
    subst hcs
    simp only [if_true] at hz
    refine ⟨some ad, l, c, zs.take l, rfl, ⟨by simp; omega, ?_⟩, hl, hm⟩
    rcases Nat.eq_zero_or_pos l with h0 | h0
    · exact .inl h0
    · obtain ⟨b, off, spot⟩ := ad
      have hs : spot = none := by simpa [Addr.add] using World.cell?_spot (hcell 0 (by omega))
      subst hs
      have hb := World.block_lt_of_cell? W _ (hcell 0 (by omega))
      rw [add_plain] at hb
      refine .inr ⟨b, off, rfl, hb, fun i z hi => ?_⟩
      have hil : i < l := by have := (List.getElem?_eq_some_iff.1 hi).1; simp at this; omega
      rw [List.getElem?_take, if_pos hil] at hi
      have := hcell i (by omega)
      rw [add_plain] at this
      have e : zs.getD i 0 = z := by rw [List.getD_eq_getElem?_getD, hi]; rfl
      rw [e] at this
      exact ⟨this, wf_i64 (hwz z (List.mem_of_getElem? hi))⟩
theorem tup_opened {H : Type} {enc : TypeId × Value → H} {W : World} {fuel : Nat} {v0 v1 v2 : Value} {x : DataW H × List MemPlace}
    (h : DataW.trod enc Tryz.prog W 0 (fun _ => true) true fuel 114 [v0, v1, v2] = some x) :
    ∃ a b c, v0 = .string a ∧ v1 = .string b ∧ v2 = .string c ∧ a.size ≤ 9223372036854775807 ∧ b.size ≤ 9223372036854775807 ∧ c.size ≤ 9223372036854775807 := by
  obtain ⟨y0, y1, y2, n', hd, _, t0, t1, t2⟩ := Go.Deep.trod_struct3 Tryz.underlying114 h
  have k1 : Tryz.prog.cellsOf 9 = 1 := by kernel_rfl
  simp [k1] at t0 t1 t2
  obtain ⟨a, q0, _, w0⟩ := DataW.trod_string Tryz.underlying9 t0
  obtain ⟨b, q1, _, w1⟩ := DataW.trod_string Tryz.underlying9 t1
  obtain ⟨c, q2, _, w2⟩ := DataW.trod_string Tryz.underlying9 t2
  simp at q0 q1 q2
  unfold maxLen at w0 w1 w2
  exact ⟨a, b, c, q0, q1, q2, by omega, by omega, by omega⟩

theorem muts_opened {H : Type} {enc : TypeId × Value → H} {W : World} {fuel : Nat} {v : Value} {x : DataW H × List MemPlace}
    (h : DataW.trod enc Tryz.prog W 0 (fun _ => true) true fuel 39 [v] = some x) :
    ∃ a n c zs, v = .slice a n c ∧ MutsAt W W.heap.size a n zs ∧ n ≤ c ∧ c ≤ maxLen := by
  rcases Go.Deep.open_slice Tryz.underlying39 h with ⟨hcs, hx⟩ | ⟨ad, l, c, m, n, Dd, Pl, hcs, _, hl, hm, hmm, hx, hall⟩
  · simp at hcs
    subst hcs
    exact ⟨none, 0, 0, [], rfl, ⟨rfl, .inl rfl⟩, by omega, by simp [maxLen]⟩
  · simp at hcs
    subst hcs
    have hcell : Tryz.prog.cellsOf 116 = 4 := by kernel_rfl
    rw [hcell] at hall
    simp only [if_true] at hmm
    rcases Nat.eq_zero_or_pos l with h0 | h0
    · subst h0
      exact ⟨some ad, 0, c, [], rfl, ⟨rfl, .inl rfl⟩, hl, hm⟩
    · obtain ⟨b, off, spot⟩ := ad
      have hs : spot = none := by
        obtain ⟨cs', hc, _⟩ := hall 0 (by omega)
        obtain ⟨_, hcl, hat⟩ := World.cells?_some hc
        have h1 := hat 0 (by omega)
        rw [List.getElem?_eq_getElem (by omega)] at h1
        simpa [Addr.add] using World.cell?_spot h1
      subst hs
      have key : ∀ i, i < l → ∃ m : Mut, W.cell? ⟨b, off + i * 4, none⟩ = some (.bool m.d) ∧ W.cell? ⟨b, off + i * 4 + 1, none⟩ = some (.string m.a) ∧ W.cell? ⟨b, off + i * 4 + 2, none⟩ = some (.string m.b) ∧ W.cell? ⟨b, off + i * 4 + 3, none⟩ = some (.string m.c) ∧ m.a.size ≤ 9223372036854775807 ∧ m.b.size ≤ 9223372036854775807 ∧ m.c.size ≤ 9223372036854775807 := by
        intro i hi
        obtain ⟨cs', hc, ht⟩ := hall i (by omega)
        obtain ⟨_, hcl, hat⟩ := World.cells?_some hc
        match cs', hcl with
        | [v0, v1, v2, v3], _ =>
          have e0 := hat 0 (by omega)
          have e1 := hat 1 (by omega)
          have e2 := hat 2 (by omega)
          have e3 := hat 3 (by omega)
          simp only [add_plain, Nat.add_zero, List.getElem?_cons_zero, List.getElem?_cons_succ] at e0 e1 e2 e3
          obtain ⟨xs, n', _, hd, _, hlen, hf⟩ := DataW.trod_struct Tryz.underlying116 ht
          match xs, hlen with
          | [y0, y1], _ =>
            have t0 := hf 0 _ rfl
            have t1 := hf 1 _ rfl
            have kb : Tryz.prog.cellsOf 4 = 1 := by kernel_rfl
            have kt : Tryz.prog.cellsOf 114 = 3 := by kernel_rfl
            simp [kb, kt] at t0 t1
            obtain ⟨d, hd0, _⟩ := DataW.trod_bool Tryz.underlying4 t0
            obtain ⟨a, b', c', rfl, rfl, rfl, s1, s2, s3⟩ := tup_opened t1
            simp at hd0
            subst hd0
            exact ⟨⟨d, a, b', c'⟩, e0, by rw [Nat.add_assoc]; exact e1, by rw [Nat.add_assoc]; exact e2, by rw [Nat.add_assoc]; exact e3, s1, s2, s3⟩
      have hb : b < W.heap.size := by
        obtain ⟨m, c0, _⟩ := key 0 h0
        exact World.block_lt_of_cell? W ⟨b, off + 0 * 4, none⟩ c0
      refine ⟨_, l, c, (List.range l).map fun i => if h : i < l then (key i h).choose else ⟨false, ByteArray.empty, ByteArray.empty, ByteArray.empty⟩, rfl, ⟨by simp, .inr ⟨b, off, rfl, hb, ?_⟩⟩, hl, hm⟩
      intro i m hi
      have hil : i < l := by
        have := (List.getElem?_eq_some_iff.1 hi).1
        simpa using this
      rw [List.getElem?_map, List.getElem?_range hil] at hi
      simp only [Option.map_some, Option.some.injEq, dif_pos hil] at hi
      subst hi
      exact (key i hil).choose_spec
theorem cons_opened {H : Type} {enc : TypeId × Value → H} {W : World} {fuel : Nat} {v : Value} {x : DataW H × List MemPlace}
    (h : DataW.trod enc Tryz.prog W 0 (fun _ => true) true fuel 40 [v] = some x) :
    ∃ a n c zs, v = .slice a n c ∧ MutsAt W W.heap.size a n zs ∧ n ≤ c ∧ c ≤ maxLen := by
  rcases Go.Deep.open_slice Tryz.underlying40 h with ⟨hcs, hx⟩ | ⟨ad, l, c, m, n, Dd, Pl, hcs, _, hl, hm, hmm, hx, hall⟩
  · simp at hcs
    subst hcs
    exact ⟨none, 0, 0, [], rfl, ⟨rfl, .inl rfl⟩, by omega, by simp [maxLen]⟩
  · simp at hcs
    subst hcs
    have hcell : Tryz.prog.cellsOf 119 = 4 := by kernel_rfl
    rw [hcell] at hall
    simp only [if_true] at hmm
    rcases Nat.eq_zero_or_pos l with h0 | h0
    · subst h0
      exact ⟨some ad, 0, c, [], rfl, ⟨rfl, .inl rfl⟩, hl, hm⟩
    · obtain ⟨b, off, spot⟩ := ad
      have hs : spot = none := by
        obtain ⟨cs', hc, _⟩ := hall 0 (by omega)
        obtain ⟨_, hcl, hat⟩ := World.cells?_some hc
        have h1 := hat 0 (by omega)
        rw [List.getElem?_eq_getElem (by omega)] at h1
        simpa [Addr.add] using World.cell?_spot h1
      subst hs
      have key : ∀ i, i < l → ∃ m : Mut, W.cell? ⟨b, off + i * 4, none⟩ = some (.bool m.d) ∧ W.cell? ⟨b, off + i * 4 + 1, none⟩ = some (.string m.a) ∧ W.cell? ⟨b, off + i * 4 + 2, none⟩ = some (.string m.b) ∧ W.cell? ⟨b, off + i * 4 + 3, none⟩ = some (.string m.c) ∧ m.a.size ≤ 9223372036854775807 ∧ m.b.size ≤ 9223372036854775807 ∧ m.c.size ≤ 9223372036854775807 := by
        intro i hi
        obtain ⟨cs', hc, ht⟩ := hall i (by omega)
        obtain ⟨_, hcl, hat⟩ := World.cells?_some hc
        match cs', hcl with
        | [v0, v1, v2, v3], _ =>
          have e0 := hat 0 (by omega)
          have e1 := hat 1 (by omega)
          have e2 := hat 2 (by omega)
          have e3 := hat 3 (by omega)
          simp only [add_plain, Nat.add_zero, List.getElem?_cons_zero, List.getElem?_cons_succ] at e0 e1 e2 e3
          obtain ⟨xs, n', _, hd, _, hlen, hf⟩ := DataW.trod_struct Tryz.underlying119 ht
          match xs, hlen with
          | [y0, y1], _ =>
            have t0 := hf 0 _ rfl
            have t1 := hf 1 _ rfl
            have kb : Tryz.prog.cellsOf 4 = 1 := by kernel_rfl
            have kt : Tryz.prog.cellsOf 114 = 3 := by kernel_rfl
            simp [kb, kt] at t0 t1
            obtain ⟨d, hd0, _⟩ := DataW.trod_bool Tryz.underlying4 t0
            obtain ⟨a, b', c', rfl, rfl, rfl, s1, s2, s3⟩ := tup_opened t1
            simp at hd0
            subst hd0
            exact ⟨⟨d, a, b', c'⟩, e0, by rw [Nat.add_assoc]; exact e1, by rw [Nat.add_assoc]; exact e2, by rw [Nat.add_assoc]; exact e3, s1, s2, s3⟩
      have hb : b < W.heap.size := by
        obtain ⟨m, c0, _⟩ := key 0 h0
        exact World.block_lt_of_cell? W ⟨b, off + 0 * 4, none⟩ c0
      refine ⟨_, l, c, (List.range l).map fun i => if h : i < l then (key i h).choose else ⟨false, ByteArray.empty, ByteArray.empty, ByteArray.empty⟩, rfl, ⟨by simp, .inr ⟨b, off, rfl, hb, ?_⟩⟩, hl, hm⟩
      intro i m hi
      have hil : i < l := by
        have := (List.getElem?_eq_some_iff.1 hi).1
        simpa using this
      rw [List.getElem?_map, List.getElem?_range hil] at hi
      simp only [Option.map_some, Option.some.injEq, dif_pos hil] at hi
      subst hi
      exact (key i hil).choose_spec
theorem rows_opened {H : Type} {enc : TypeId × Value → H} {W : World} {fuel : Nat} {v : Value} {x : DataW H × List MemPlace}
    (h : DataW.trod enc Tryz.prog W 0 (fun _ => true) true fuel 41 [v] = some x) :
    ∃ a n c zs, v = .slice a n c ∧ RowsAt W W.heap.size a n zs ∧ n ≤ c ∧ c ≤ maxLen := by
  rcases Go.Deep.open_slice Tryz.underlying41 h with ⟨hcs, hx⟩ | ⟨ad, l, c, m, n, Dd, Pl, hcs, _, hl, hm, hmm, hx, hall⟩
  · simp at hcs
    subst hcs
    exact ⟨none, 0, 0, [], rfl, ⟨rfl, .inl rfl⟩, by omega, by simp [maxLen]⟩
  · simp at hcs
    subst hcs
    have hcell : Tryz.prog.cellsOf 121 = 5 := by kernel_rfl
    rw [hcell] at hall
    simp only [if_true] at hmm
    rcases Nat.eq_zero_or_pos l with h0 | h0
    · subst h0
      exact ⟨some ad, 0, c, [], rfl, ⟨rfl, .inl rfl⟩, hl, hm⟩
    · obtain ⟨b, off, spot⟩ := ad
      have hs : spot = none := by
        obtain ⟨cs', hc, _⟩ := hall 0 (by omega)
        obtain ⟨_, hcl, hat⟩ := World.cells?_some hc
        have h1 := hat 0 (by omega)
        rw [List.getElem?_eq_getElem (by omega)] at h1
        simpa [Addr.add] using World.cell?_spot h1
      subst hs
      have key : ∀ i, i < l → ∃ m : RowD, W.cell? ⟨b, off + i * 5, none⟩ = some (.string m.a) ∧ W.cell? ⟨b, off + i * 5 + 1, none⟩ = some (.string m.b) ∧ W.cell? ⟨b, off + i * 5 + 2, none⟩ = some (.string m.c) ∧ W.cell? ⟨b, off + i * 5 + 3, none⟩ = some (.int .i64 m.s) ∧ W.cell? ⟨b, off + i * 5 + 4, none⟩ = some (.int .i64 m.u) ∧ m.a.size ≤ 9223372036854775807 ∧ m.b.size ≤ 9223372036854775807 ∧ m.c.size ≤ 9223372036854775807 ∧ (-9223372036854775808 ≤ m.s ∧ m.s ≤ 9223372036854775807) ∧ (-9223372036854775808 ≤ m.u ∧ m.u ≤ 9223372036854775807) := by
        intro i hi
        obtain ⟨cs', hc, ht⟩ := hall i (by omega)
        obtain ⟨_, hcl, hat⟩ := World.cells?_some hc
        match cs', hcl with
        | [v0, v1, v2, v3, v4], _ =>
          have e0 := hat 0 (by omega)
          have e1 := hat 1 (by omega)
          have e2 := hat 2 (by omega)
          have e3 := hat 3 (by omega)
          have e4 := hat 4 (by omega)
          simp only [add_plain, Nat.add_zero, List.getElem?_cons_zero, List.getElem?_cons_succ] at e0 e1 e2 e3 e4
          obtain ⟨xs, n', _, hd, _, hlen, hf⟩ := DataW.trod_struct Tryz.underlying121 ht
          match xs, hlen with
          | [y0, y1, y2], _ =>
            have t0 := hf 0 _ rfl
            have t1 := hf 1 _ rfl
            have t2 := hf 2 _ rfl
            have kb : Tryz.prog.cellsOf 2 = 1 := by kernel_rfl
            have kt : Tryz.prog.cellsOf 114 = 3 := by kernel_rfl
            simp [kb, kt] at t0 t1 t2
            obtain ⟨a, b', c', rfl, rfl, rfl, s1, s2, s3⟩ := tup_opened t0
            obtain ⟨s, hs0, _, ws⟩ := DataW.trod_int Tryz.underlying2 t1
            obtain ⟨u, hu0, _, wu⟩ := DataW.trod_int Tryz.underlying2 t2
            simp at hs0 hu0
            subst hs0 hu0
            exact ⟨⟨a, b', c', s, u⟩, e0, by rw [Nat.add_assoc]; exact e1, by rw [Nat.add_assoc]; exact e2, by rw [Nat.add_assoc]; exact e3, by rw [Nat.add_assoc]; exact e4, s1, s2, s3, wf_i64 ws, wf_i64 wu⟩
      have hb : b < W.heap.size := by
        obtain ⟨m, c0, _⟩ := key 0 h0
        exact World.block_lt_of_cell? W ⟨b, off + 0 * 5, none⟩ c0
      refine ⟨_, l, c, (List.range l).map fun i => if h : i < l then (key i h).choose else ⟨ByteArray.empty, ByteArray.empty, ByteArray.empty, 0, 0⟩, rfl, ⟨by simp, .inr ⟨b, off, rfl, hb, ?_⟩⟩, hl, hm⟩
      intro i m hi
      have hil : i < l := by
        have := (List.getElem?_eq_some_iff.1 hi).1
        simpa using this
      rw [List.getElem?_map, List.getElem?_range hil] at hi
      simp only [Option.map_some, Option.some.injEq, dif_pos hil] at hi
      subst hi
      exact (key i hil).choose_spec

/-- A message in some world. -/
def MsgIn (w : World) (V : Value) (m : MsgD) : Prop := ∃ na ma pa ra nn nc mn mc pn pc rn rc, MsgAt w w.heap.size V m na ma pa ra nn nc mn mc pn pc rn rc
set_option maxRecDepth 100000 in
set_option maxHeartbeats 1000000 in
theorem msg_opened {H : Type} {enc : TypeId × Value → H} {W : World} {r : Reach} {b0 : Nat} {v : Value} {d : DataW H} {p : List MemPlace}
    (hv : Value.okWide Tryz.prog W r b0 43 v) (h : DataW.Trod enc Tryz.prog W 0 (fun _ => true) true 43 v d p) :
    ∃ m, MsgIn W v m := by
  have hu := Tryz.underlying43
  obtain ⟨cs, rfl, hsz⟩ := okWide_struct hu hv
  obtain ⟨fuel, hf⟩ := h
  obtain ⟨xs, n', _, hd, hl, hlen, hf⟩ := DataW.trod_struct hu hf
  have k12 : Tryz.prog.cellsOf 43 = 12 := by kernel_rfl
  have ki : Tryz.prog.cellsOf 3 = 1 := by kernel_rfl
  have kj : Tryz.prog.cellsOf 2 = 1 := by kernel_rfl
  have kb : Tryz.prog.cellsOf 4 = 1 := by kernel_rfl
  have kn : Tryz.prog.cellsOf 38 = 1 := by kernel_rfl
  have km : Tryz.prog.cellsOf 39 = 1 := by kernel_rfl
  have kc : Tryz.prog.cellsOf 40 = 1 := by kernel_rfl
  have kr : Tryz.prog.cellsOf 41 = 1 := by kernel_rfl
  rw [k12] at hsz
  obtain ⟨l⟩ := cs
  match l, hsz with
  | [c0, c1, c2, c3, c4, c5, c6, c7, c8, c9, c10, c11], _ =>
    match xs, hlen with
    | [y0, y1, y2, y3, y4, y5, y6, y7, y8, y9, y10, y11], _ =>
      have t0 := hf 0 _ rfl
      have t1 := hf 1 _ rfl
      have t2 := hf 2 _ rfl
      have t3 := hf 3 _ rfl
      have t4 := hf 4 _ rfl
      have t5 := hf 5 _ rfl
      have t6 := hf 6 _ rfl
      have t7 := hf 7 _ rfl
      have t8 := hf 8 _ rfl
      have t9 := hf 9 _ rfl
      have t10 := hf 10 _ rfl
      have t11 := hf 11 _ rfl
      simp [ki, kj, kb, kn, km, kc, kr, Value.cells] at t0 t1 t2 t3 t4 t5 t6 t7 t8 t9 t10 t11
      obtain ⟨q0, e0, _, w0⟩ := DataW.trod_int Tryz.underlying3 t0
      obtain ⟨q1, e1, _, w1⟩ := DataW.trod_int Tryz.underlying3 t1
      obtain ⟨q2, e2, _, w2⟩ := DataW.trod_int Tryz.underlying3 t2
      obtain ⟨q3, e3, _, w3⟩ := DataW.trod_int Tryz.underlying2 t3
      obtain ⟨q4, e4, _, w4⟩ := DataW.trod_int Tryz.underlying2 t4
      obtain ⟨q5, e5, _, w5⟩ := DataW.trod_int Tryz.underlying2 t5
      obtain ⟨q6, e6, _, w6⟩ := DataW.trod_int Tryz.underlying3 t6
      obtain ⟨q7, e7, _⟩ := DataW.trod_bool Tryz.underlying4 t7
      simp at e0 e1 e2 e3 e4 e5 e6 e7
      subst e0 e1 e2 e3 e4 e5 e6 e7
      obtain ⟨a8, n8, k8, z8, rfl, l8, s8, r8⟩ := nodes_opened t8
      obtain ⟨a9, n9, k9, z9, rfl, l9, s9, r9⟩ := muts_opened t9
      obtain ⟨a10, n10, k10, z10, rfl, l10, s10, r10⟩ := cons_opened t10
      obtain ⟨a11, n11, k11, z11, rfl, l11, s11, r11⟩ := rows_opened t11
      unfold maxLen at r8 r9 r10 r11
      exact ⟨⟨q0, q1, q2, q3, q4, q5, q6, q7, z8, z9, z10, z11⟩, a8, a9, a10, a11, n8, k8, n9, k9, n10, k10, n11, k11, ⟨rfl, wf_i64 w0, wf_i64 w1, wf_i64 w2, wf_i64 w3, wf_i64 w4, wf_i64 w5, wf_i64 w6, l8, l9, l10, l11, by omega, by omega, by omega, by omega⟩⟩
theorem MsgAt.in64 {w : World} {B : Nat} {V : Value} {m : MsgD} {na ma pa ra : Option Addr} {nn nc mn mc pn pc rn rc : Nat} (h : MsgAt w B V m na ma pa ra nn nc mn mc pn pc rn rc) : m.in64 := by
  refine ⟨h.kind, h.from_, h.«to», h.id, h.rev, h.epoch, h.slot, fun x hx => ?_, fun x hx => ?_⟩
  · obtain ⟨i, hi⟩ := List.getElem?_of_mem hx
    rcases h.nodes.2 with h0 | ⟨b, off, _, _, hc⟩
    · have := h.nodes.1
      have := (List.getElem?_eq_some_iff.1 hi).1
      omega
    · exact (hc i x hi).2
  · obtain ⟨i, hi⟩ := List.getElem?_of_mem hx
    rcases h.rows.2 with h0 | ⟨b, off, _, _, hc⟩
    · have := h.rows.1
      have := (List.getElem?_eq_some_iff.1 hi).1
      omega
    · exact ⟨(hc i x hi).2.2.2.2.2.2.2.2.1, (hc i x hi).2.2.2.2.2.2.2.2.2⟩
end Go.Proofs.YteodldmbnghfcaaGreat
