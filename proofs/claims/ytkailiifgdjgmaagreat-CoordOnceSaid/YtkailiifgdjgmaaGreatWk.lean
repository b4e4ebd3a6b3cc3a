/- Scripts of one transaction that came in, opened. Scripts of transactions that came in, opened with the nodes of each. -/
import Derived.Test.YtkailiifgdjgmaaGreatWg
import Derived.Deep.Strs
import Derived.Deep.Slices
import Derived.ChangeSlices
import Derived.ChangeArms
import Derived.SizedLaws
import Derived.Test.YtkailiifgdjgmaaGreatCOpen
namespace Go.Proofs.YtkailiifgdjgmaaGreat
open Go.RowKit Go.ChangeShapes Go.WideShapes

/-- A step. -/
structure OpD where
  k : Int
  t : Int
  n : Int
  na : Option Addr
  nn : Nat
  nc : Nat
  yes : Bool
  rev : Int
/-- It lies here. -/
def OpAt (W : World) (b o : Nat) (d : OpD) : Prop := W.cell? ⟨b, o, none⟩ = some (.int .i64 d.k) ∧ W.cell? ⟨b, o + 1, none⟩ = some (.int .i64 d.t) ∧ W.cell? ⟨b, o + 2, none⟩ = some (.int .i64 d.n) ∧ W.cell? ⟨b, o + 3, none⟩ = some (.slice d.na d.nn d.nc) ∧ W.cell? ⟨b, o + 4, none⟩ = some (.bool d.yes) ∧ W.cell? ⟨b, o + 5, none⟩ = some (.int .i64 d.rev) ∧ InI d.k ∧ InI d.n ∧ InI d.rev
def CopsIn (W : World) (a : Option Addr) (n : Nat) : Prop := n = 0 ∨ ∃ b off, a = some ⟨b, off, none⟩ ∧ b < W.heap.size ∧ ∀ i, i < n → ∃ d, OpAt W b (off + i * 6) d
theorem list_of {α : Type} {P : Nat → α → Prop} : ∀ n : Nat, (∀ i, i < n → ∃ o, P i o) → ∃ L : List α, L.length = n ∧ ∀ i o, L[i]? = some o → P i o
  | 0, _ => ⟨[], rfl, fun i o h => by simp at h⟩
  | n + 1, h => by
    obtain ⟨L, h1, h2⟩ := list_of n (fun i hi => h i (by omega))
    obtain ⟨o, ho⟩ := h n (by omega)
    refine ⟨L ++ [o], by simp [h1], fun i x hx => ?_⟩
    rcases Nat.lt_or_ge i L.length with hi | hi
    · rw [List.getElem?_append_left hi] at hx
      exact h2 i x hx
    · rw [List.getElem?_append_right hi] at hx
      have : i - L.length = 0 := by
        rcases Nat.eq_zero_or_pos (i - L.length) with e | e
        · exact e
        · rw [List.getElem?_eq_none (by simp; omega)] at hx; cases hx
      rw [this] at hx
      simp at hx
      rw [← hx, show i = n by omega]
      exact ho
/-- The steps, as a list. -/
def CopsL (W : World) (a : Option Addr) (n : Nat) (L : List OpD) : Prop := L.length = n ∧ (n = 0 ∨ ∃ b off, a = some ⟨b, off, none⟩ ∧ b < W.heap.size ∧ ∀ i d, L[i]? = some d → OpAt W b (off + i * 6) d)
theorem CopsIn.list {W : World} {a : Option Addr} {n : Nat} (h : CopsIn W a n) : ∃ L, CopsL W a n L := by
  rcases h with rfl | ⟨b, off, h1, h2, h3⟩
  · exact ⟨[], rfl, .inl rfl⟩
  · obtain ⟨L, h4, h5⟩ := list_of n h3
    exact ⟨L, h4, .inr ⟨b, off, h1, h2, h5⟩⟩
theorem CopsL.below {W W' : World} {a : Option Addr} {n : Nat} {L : List OpD} (h : CopsL W a n L) (hb : Below W.heap.size W W') : CopsL W' a n L := by
  refine ⟨h.1, h.2.imp_right ?_⟩
  rintro ⟨b, off, h1, h2, h3⟩
  refine ⟨b, off, h1, Nat.lt_of_lt_of_le h2 hb.size, fun i d hd => ?_⟩
  obtain ⟨q0, q1, q2, q3, q4, q5, q6⟩ := h3 i d hd
  exact ⟨(hb.cell (p := ⟨b, _, none⟩) h2).trans q0, (hb.cell (p := ⟨b, _, none⟩) h2).trans q1, (hb.cell (p := ⟨b, _, none⟩) h2).trans q2, (hb.cell (p := ⟨b, _, none⟩) h2).trans q3, (hb.cell (p := ⟨b, _, none⟩) h2).trans q4, (hb.cell (p := ⟨b, _, none⟩) h2).trans q5, q6⟩
set_option maxRecDepth 100000 in
set_option maxHeartbeats 2000000 in
theorem cops_opened {H : Type} {enc : TypeId × Value → H} {W : World} {fuel : Nat} {a : Option Addr} {len cap : Nat} {x : DataW H × List MemPlace}
    (h : DataW.trod enc Tryz.prog W 0 (fun _ => true) true fuel 22 (Value.slice a len cap).cells.toList = some x) (hw : ∀ k ∈ x.1.weights Tryz.prog 22, k ≤ 140737488351232) : (∃ l, CopsL W a len l) ∧ len ≤ 140737488351232 := by
  have h' : DataW.trod enc Tryz.prog W 0 (fun _ => true) true fuel 22 [Value.slice a len cap] = some x := by simpa [Value.cells] using h
  rcases Go.Deep.open_slice Tryz.underlying22 h' with ⟨hcs, hx⟩ | ⟨ad, l, c, m, n, Dd, Pl, hcs, _, hl, hm, hmm, hx, hall⟩
  · simp at hcs
    obtain ⟨rfl, rfl, rfl⟩ := hcs
    exact ⟨⟨[], rfl, .inl rfl⟩, by omega⟩
  · simp at hcs
    obtain ⟨rfl, rfl, rfl⟩ := hcs
    have hcell : Tryz.prog.cellsOf 37 = 6 := by kernel_rfl
    rw [hcell] at hall
    simp only [if_true] at hmm
    have hlen : m * 64 ≤ 140737488351232 := by
      refine hw (m * 64) ?_
      rw [hx]
      simp only [DataW.weights, Tryz.underlying22, List.mem_cons]
      left
      rw [show Tryz.prog.bytesOf 37 = 64 by kernel_rfl]
      simp
      omega
    refine ⟨CopsIn.list ?_, by omega⟩
    rcases Nat.eq_zero_or_pos len with h0 | h0
    · exact .inl h0
    · obtain ⟨b, off, spot⟩ := ad
      have hs : spot = none := by
        obtain ⟨cs', hc, _⟩ := hall 0 (by omega)
        obtain ⟨_, hcl, hat⟩ := World.cells?_some hc
        have h1 := hat 0 (by omega)
        rw [List.getElem?_eq_getElem (by omega)] at h1
        simpa [Addr.add] using World.cell?_spot h1
      subst hs
      have hbl : b < W.heap.size := by
        obtain ⟨cs', hc, _⟩ := hall 0 (by omega)
        obtain ⟨_, hcl, hat⟩ := World.cells?_some hc
        have h1 := hat 0 (by omega)
        rw [List.getElem?_eq_getElem (by omega)] at h1
        have := World.block_lt_of_cell? W _ h1
        simpa [Addr.add] using this
      refine .inr ⟨b, off, rfl, hbl, fun i hi => ?_⟩
      obtain ⟨cs', hc, ht⟩ := hall i (by omega)
      obtain ⟨_, hcl, hat⟩ := World.cells?_some hc
      match cs', hcl with
      | [v0, v1, v2, v3, v4, v5], _ =>
        have e0 := hat 0 (by omega)
        have e1 := hat 1 (by omega)
        have e2 := hat 2 (by omega)
        have e3 := hat 3 (by omega)
        have e4 := hat 4 (by omega)
        have e5 := hat 5 (by omega)
        simp only [add_plain, Nat.add_zero, List.getElem?_cons_zero, List.getElem?_cons_succ] at e0 e1 e2 e3 e4 e5
        obtain ⟨xs, n', _, hd, _, hlen, hf⟩ := DataW.trod_struct Tryz.underlying37 ht
        match xs, hlen with
        | [y0, y1, y2, y3, y4, y5], _ =>
          have t0 := hf 0 _ rfl
          have t1 := hf 1 _ rfl
          have t2 := hf 2 _ rfl
          have t3 := hf 3 _ rfl
          have t4 := hf 4 _ rfl
          have t5 := hf 5 _ rfl
          have k1 : Tryz.prog.cellsOf 3 = 1 := by kernel_rfl
          have k2 : Tryz.prog.cellsOf 4 = 1 := by kernel_rfl
          have k3 : Tryz.prog.cellsOf 35 = 1 := by kernel_rfl
          have k4 : Tryz.prog.cellsOf 2 = 1 := by kernel_rfl
          simp [k1, k2, k3, k4] at t0 t1 t2 t3 t4 t5
          obtain ⟨q0, h0, _, w0⟩ := DataW.trod_int Tryz.underlying3 t0
          obtain ⟨q1, h1, _, w1⟩ := DataW.trod_int Tryz.underlying3 t1
          obtain ⟨q2, h2, _, w2⟩ := DataW.trod_int Tryz.underlying3 t2
          obtain ⟨q4, h4, _⟩ := DataW.trod_bool Tryz.underlying4 t4
          obtain ⟨q5, h5, _, w5⟩ := DataW.trod_int Tryz.underlying2 t5
          simp at h0 h1 h2 h4 h5
          subst h0 h1 h2 h4 h5
          obtain ⟨la, ln, lc, hv3⟩ : ∃ la ln lc, v3 = .slice la ln lc := by
            rcases open_ints Tryz.underlying35 Tryz.underlying3 (by kernel_rfl) t3 with ⟨hcs, _⟩ | ⟨ad, l, c, zs, hcs, _⟩
            · simp at hcs; exact ⟨_, _, _, hcs⟩
            · simp at hcs; exact ⟨_, _, _, hcs⟩
          subst hv3
          exact ⟨⟨q0, q1, q2, la, ln, lc, q4, q5⟩, e0, e1, e2, e3, e4, e5, wf_i64 w0, wf_i64 w2, wf_i64 w5⟩
def BoolsA (W : World) (a : Option Addr) (n : Nat) (l : List Bool) : Prop := l.length = n ∧ (n = 0 ∨ ∃ b off, a = some ⟨b, off, none⟩ ∧ b < W.heap.size ∧ ∀ i z, l[i]? = some z → W.cell? ⟨b, off + i, none⟩ = some (.bool z))
theorem boolsA_opened {H : Type} {enc : TypeId × Value → H} {W : World} {fuel : Nat} {a : Option Addr} {len cap : Nat} {x : DataW H × List MemPlace}
    (h : DataW.trod enc Tryz.prog W 0 (fun _ => true) true fuel 60 (Value.slice a len cap).cells.toList = some x) (hw : ∀ k ∈ x.1.weights Tryz.prog 60, k ≤ 140737488351232) :
    (∃ l, BoolsA W a len l) ∧ len ≤ 140737488351232 := by
  have h' : DataW.trod enc Tryz.prog W 0 (fun _ => true) true fuel 60 [Value.slice a len cap] = some x := by simpa [Value.cells] using h
  rcases Go.Deep.open_slice1 Tryz.underlying60 (by kernel_rfl) h' with ⟨hcs, _⟩ | ⟨ad, l, c, m, n, V, D, Pl, hcs, _, hl, hm, hmm, hx, hall⟩
  · simp at hcs
    obtain ⟨rfl, rfl, rfl⟩ := hcs
    exact ⟨⟨[], rfl, .inl rfl⟩, by omega⟩
  · simp at hcs
    obtain ⟨rfl, rfl, rfl⟩ := hcs
    simp only [if_true] at hmm
    have hlen : (len + (m - len)) * 1 ≤ 140737488351232 := by
      refine hw _ ?_
      rw [hx]
      simp only [DataW.weights, Tryz.underlying60, List.mem_cons]
      left
      rw [show Tryz.prog.bytesOf 4 = 1 by kernel_rfl]
      simp
    refine ⟨?_, by omega⟩
    have key : ∀ i, i < len → ∃ t : Bool, W.cell? (ad.add i) = some (.bool t) := by
      intro i hi
      obtain ⟨hc, ht⟩ := hall i (by omega)
      obtain ⟨t, q0, _⟩ := DataW.trod_bool Tryz.underlying4 ht
      simp at q0
      exact ⟨t, by rw [hc, q0]⟩
    refine ⟨(List.range len).map fun i => if h : i < len then (key i h).choose else false, by simp, ?_⟩
    rcases Nat.eq_zero_or_pos len with h0 | h0
    · exact .inl h0
    · obtain ⟨b, off, spot⟩ := ad
      obtain ⟨t0, hc0⟩ := key 0 h0
      have hs : spot = none := by simpa [Addr.add] using World.cell?_spot hc0
      subst hs
      have hb := World.block_lt_of_cell? W _ hc0
      rw [add_plain] at hb
      refine .inr ⟨b, off, rfl, hb, fun i t ht => ?_⟩
      have hi : i < len := by
        have := (List.getElem?_eq_some_iff.1 ht).1
        simpa using this
      rw [List.getElem?_map, List.getElem?_range hi] at ht
      simp only [Option.map_some, Option.some.injEq, dif_pos hi] at ht
      subst ht
      have h1 := (key i hi).choose_spec
      generalize (key i hi).choose = tt at h1 ⊢
      rwa [add_plain] at h1
end Go.Proofs.YtkailiifgdjgmaaGreat

namespace Go.Proofs.YtkailiifgdjgmaaGreat
open Go.RowKit Go.ChangeShapes Go.WideShapes

/-- A step. -/
structure OpE where
  k : Int
  t : Int
  n : Int
  na : Option Addr
  nn : Nat
  nc : Nat
  ns : List Int
  yes : Bool
  rev : Int
/-- It lies here. -/
def OpEAt (W : World) (B b o : Nat) (d : OpE) : Prop := W.cell? ⟨b, o, none⟩ = some (.int .i64 d.k) ∧ W.cell? ⟨b, o + 1, none⟩ = some (.int .i64 d.t) ∧ W.cell? ⟨b, o + 2, none⟩ = some (.int .i64 d.n) ∧ W.cell? ⟨b, o + 3, none⟩ = some (.slice d.na d.nn d.nc) ∧ W.cell? ⟨b, o + 4, none⟩ = some (.bool d.yes) ∧ W.cell? ⟨b, o + 5, none⟩ = some (.int .i64 d.rev) ∧ InI d.t ∧ InI d.n ∧ InI d.rev ∧ IntsAt W B d.na d.nn d.ns ∧ d.nn ≤ maxLen
def CepsIn (W : World) (B : Nat) (a : Option Addr) (n : Nat) : Prop := n = 0 ∨ ∃ b off, a = some ⟨b, off, none⟩ ∧ b < B ∧ ∀ i, i < n → ∃ d, OpEAt W B b (off + i * 6) d
/-- The steps, as a list. -/
def CepsL (W : World) (B : Nat) (a : Option Addr) (n : Nat) (L : List OpE) : Prop := L.length = n ∧ (n = 0 ∨ ∃ b off, a = some ⟨b, off, none⟩ ∧ b < B ∧ ∀ i d, L[i]? = some d → OpEAt W B b (off + i * 6) d)
theorem CepsIn.list {W : World} {B : Nat} {a : Option Addr} {n : Nat} (h : CepsIn W B a n) : ∃ L, CepsL W B a n L := by
  rcases h with rfl | ⟨b, off, h1, h2, h3⟩
  · exact ⟨[], rfl, .inl rfl⟩
  · obtain ⟨L, h4, h5⟩ := list_of n h3
    exact ⟨L, h4, .inr ⟨b, off, h1, h2, h5⟩⟩
theorem ints_kept {W W' : World} {B : Nat} {a : Option Addr} {n : Nat} {l : List Int} (h : IntsAt W B a n l) (hb : Below B W W') : IntsAt W' B a n l := by
  refine ⟨h.1, h.2.imp_right ?_⟩
  rintro ⟨b, off, h1, h2, h3⟩
  exact ⟨b, off, h1, h2, fun i z hz => ⟨(hb.cell (p := ⟨b, _, none⟩) h2).trans (h3 i z hz).1, (h3 i z hz).2⟩⟩
theorem CepsL.below {W W' : World} {B : Nat} {a : Option Addr} {n : Nat} {L : List OpE} (h : CepsL W B a n L) (hb : Below B W W') : CepsL W' B a n L := by
  refine ⟨h.1, h.2.imp_right ?_⟩
  rintro ⟨b, off, h1, h2, h3⟩
  refine ⟨b, off, h1, h2, fun i d hd => ?_⟩
  obtain ⟨q0, q1, q2, q3, q4, q5, q6, q7, q8, q9, q10⟩ := h3 i d hd
  exact ⟨(hb.cell (p := ⟨b, _, none⟩) h2).trans q0, (hb.cell (p := ⟨b, _, none⟩) h2).trans q1, (hb.cell (p := ⟨b, _, none⟩) h2).trans q2, (hb.cell (p := ⟨b, _, none⟩) h2).trans q3, (hb.cell (p := ⟨b, _, none⟩) h2).trans q4, (hb.cell (p := ⟨b, _, none⟩) h2).trans q5, q6, q7, q8, ints_kept q9 hb, q10⟩
set_option maxRecDepth 100000 in
set_option maxHeartbeats 2000000 in
theorem ceps_opened {H : Type} {enc : TypeId × Value → H} {W : World} {fuel : Nat} {a : Option Addr} {len cap : Nat} {x : DataW H × List MemPlace}
    (h : DataW.trod enc Tryz.prog W 0 (fun _ => true) true fuel 22 (Value.slice a len cap).cells.toList = some x) (hw : ∀ k ∈ x.1.weights Tryz.prog 22, k ≤ 140737488351232) : (∃ l, CepsL W W.heap.size a len l) ∧ len ≤ 2199023255552 := by
  have h' : DataW.trod enc Tryz.prog W 0 (fun _ => true) true fuel 22 [Value.slice a len cap] = some x := by simpa [Value.cells] using h
  rcases Go.Deep.open_slice Tryz.underlying22 h' with ⟨hcs, hx⟩ | ⟨ad, l, c, m, n, Dd, Pl, hcs, _, hl, hm, hmm, hx, hall⟩
  · simp at hcs
    obtain ⟨rfl, rfl, rfl⟩ := hcs
    exact ⟨⟨[], rfl, .inl rfl⟩, by omega⟩
  · simp at hcs
    obtain ⟨rfl, rfl, rfl⟩ := hcs
    have hcell : Tryz.prog.cellsOf 37 = 6 := by kernel_rfl
    rw [hcell] at hall
    simp only [if_true] at hmm
    have hlen : m * 64 ≤ 140737488351232 := by
      refine hw (m * 64) ?_
      rw [hx]
      simp only [DataW.weights, Tryz.underlying22, List.mem_cons]
      left
      rw [show Tryz.prog.bytesOf 37 = 64 by kernel_rfl]
      simp
      omega
    refine ⟨CepsIn.list ?_, by omega⟩
    rcases Nat.eq_zero_or_pos len with h0 | h0
    · exact .inl h0
    · obtain ⟨b, off, spot⟩ := ad
      have hs : spot = none := by
        obtain ⟨cs', hc, _⟩ := hall 0 (by omega)
        obtain ⟨_, hcl, hat⟩ := World.cells?_some hc
        have h1 := hat 0 (by omega)
        rw [List.getElem?_eq_getElem (by omega)] at h1
        simpa [Addr.add] using World.cell?_spot h1
      subst hs
      have hbl : b < W.heap.size := by
        obtain ⟨cs', hc, _⟩ := hall 0 (by omega)
        obtain ⟨_, hcl, hat⟩ := World.cells?_some hc
        have h1 := hat 0 (by omega)
        rw [List.getElem?_eq_getElem (by omega)] at h1
        have := World.block_lt_of_cell? W _ h1
        simpa [Addr.add] using this
      refine .inr ⟨b, off, rfl, hbl, fun i hi => ?_⟩
      obtain ⟨cs', hc, ht⟩ := hall i (by omega)
      obtain ⟨_, hcl, hat⟩ := World.cells?_some hc
      match cs', hcl with
      | [v0, v1, v2, v3, v4, v5], _ =>
        have e0 := hat 0 (by omega)
        have e1 := hat 1 (by omega)
        have e2 := hat 2 (by omega)
        have e3 := hat 3 (by omega)
        have e4 := hat 4 (by omega)
        have e5 := hat 5 (by omega)
        simp only [add_plain, Nat.add_zero, List.getElem?_cons_zero, List.getElem?_cons_succ] at e0 e1 e2 e3 e4 e5
        obtain ⟨xs, n', _, hd, _, hlen, hf⟩ := DataW.trod_struct Tryz.underlying37 ht
        match xs, hlen with
        | [y0, y1, y2, y3, y4, y5], _ =>
          have t0 := hf 0 _ rfl
          have t1 := hf 1 _ rfl
          have t2 := hf 2 _ rfl
          have t3 := hf 3 _ rfl
          have t4 := hf 4 _ rfl
          have t5 := hf 5 _ rfl
          have k1 : Tryz.prog.cellsOf 3 = 1 := by kernel_rfl
          have k2 : Tryz.prog.cellsOf 4 = 1 := by kernel_rfl
          have k3 : Tryz.prog.cellsOf 35 = 1 := by kernel_rfl
          have k4 : Tryz.prog.cellsOf 2 = 1 := by kernel_rfl
          simp [k1, k2, k3, k4] at t0 t1 t2 t3 t4 t5
          obtain ⟨q0, h0, _, w0⟩ := DataW.trod_int Tryz.underlying3 t0
          obtain ⟨q1, h1, _, w1⟩ := DataW.trod_int Tryz.underlying3 t1
          obtain ⟨q2, h2, _, w2⟩ := DataW.trod_int Tryz.underlying3 t2
          obtain ⟨q4, h4, _⟩ := DataW.trod_bool Tryz.underlying4 t4
          obtain ⟨q5, h5, _, w5⟩ := DataW.trod_int Tryz.underlying2 t5
          simp at h0 h1 h2 h4 h5
          subst h0 h1 h2 h4 h5
          obtain ⟨la, ln, lc, zs, rfl, hxs, hnc, hcm⟩ := nodes_opened t3
          exact ⟨⟨q0, q1, q2, la, ln, lc, zs, q4, q5⟩, e0, e1, e2, e3, e4, e5, wf_i64 w1, wf_i64 w2, wf_i64 w5, hxs, by show ln ≤ maxLen; omega⟩
end Go.Proofs.YtkailiifgdjgmaaGreat
