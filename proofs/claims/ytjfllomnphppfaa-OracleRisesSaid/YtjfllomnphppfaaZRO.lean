/- A script of an oracle that came in, opened. -/
import Derived.Test.YtjfllomnphppfaaZ6
import Derived.Deep.Strs
import Derived.Deep.Slices
import Derived.ChangeSlices
import Derived.ChangeArms
import Derived.SizedLaws
namespace Go.Proofs.Ytjfllomnphppfaa
open Go.RowKit Go.ChangeShapes Go.WideShapes

set_option maxRecDepth 100000 in
set_option maxHeartbeats 1000000 in
theorem msg_cells {H : Type} {enc : TypeId × Value → H} {W : World} {fuel : Nat} {c0 c1 c2 c3 c4 c5 c6 c7 c8 c9 c10 c11 : Value} {x : DataW H × List MemPlace}
    (h : DataW.trod enc Try.prog W 0 (fun _ => true) true fuel 37 [c0, c1, c2, c3, c4, c5, c6, c7, c8, c9, c10, c11] = some x) :
    ∃ (m : MsgD) (s8 s9 s10 s11 : Value), c0 = .int .i64 m.kind ∧ c1 = .int .i64 m.from_ ∧ c2 = .int .i64 m.«to» ∧ c3 = .int .i64 m.id ∧ c4 = .int .i64 m.rev ∧ c5 = .int .i64 m.epoch ∧ c6 = .int .i64 m.slot ∧ c7 = .bool m.flag ∧ c8 = s8 ∧ c9 = s9 ∧ c10 = s10 ∧ c11 = s11 ∧ MsgIn W (.agg #[.int .i64 m.kind, .int .i64 m.from_, .int .i64 m.«to», .int .i64 m.id, .int .i64 m.rev, .int .i64 m.epoch, .int .i64 m.slot, .bool m.flag, s8, s9, s10, s11]) m := by
  have hu := Try.underlying37
  obtain ⟨xs, n', _, hd, hl, hlen, hf⟩ := DataW.trod_struct hu h
  have ki : Try.prog.cellsOf 3 = 1 := by kernel_rfl
  have kj : Try.prog.cellsOf 2 = 1 := by kernel_rfl
  have kb : Try.prog.cellsOf 4 = 1 := by kernel_rfl
  have kn : Try.prog.cellsOf 32 = 1 := by kernel_rfl
  have km : Try.prog.cellsOf 33 = 1 := by kernel_rfl
  have kc : Try.prog.cellsOf 34 = 1 := by kernel_rfl
  have kr : Try.prog.cellsOf 35 = 1 := by kernel_rfl
  match xs, hlen with
  | [y0, y1, y2, y3, y4, y5, y6, y7, y8, y9, y10, y11], _ =>
    have t0 := hf 0 _ rfl
    have t1 := hf 1 _ rfl
    have t2 := hf 2 _ rfl
    have t3 := hf 3 _ rfl
    have t4 := hf 4 _ rfl
    have t5 := hf 5 _ rfl
    have t6 := hf 6 _ rfl
    have t7 := hf 7 _ rfl
    have t8 := hf 8 _ rfl
    have t9 := hf 9 _ rfl
    have t10 := hf 10 _ rfl
    have t11 := hf 11 _ rfl
    simp [ki, kj, kb, kn, km, kc, kr] at t0 t1 t2 t3 t4 t5 t6 t7 t8 t9 t10 t11
    obtain ⟨q0, e0, _, w0⟩ := DataW.trod_int Try.underlying3 t0
    obtain ⟨q1, e1, _, w1⟩ := DataW.trod_int Try.underlying3 t1
    obtain ⟨q2, e2, _, w2⟩ := DataW.trod_int Try.underlying3 t2
    obtain ⟨q3, e3, _, w3⟩ := DataW.trod_int Try.underlying2 t3
    obtain ⟨q4, e4, _, w4⟩ := DataW.trod_int Try.underlying2 t4
    obtain ⟨q5, e5, _, w5⟩ := DataW.trod_int Try.underlying2 t5
    obtain ⟨q6, e6, _, w6⟩ := DataW.trod_int Try.underlying3 t6
    obtain ⟨q7, e7, _⟩ := DataW.trod_bool Try.underlying4 t7
    simp at e0 e1 e2 e3 e4 e5 e6 e7
    subst e0 e1 e2 e3 e4 e5 e6 e7
    obtain ⟨a8, n8, k8, z8, rfl, l8, s8, r8⟩ := nodes_opened t8
    obtain ⟨a9, n9, k9, z9, rfl, l9, s9, r9⟩ := muts_opened t9
    obtain ⟨a10, n10, k10, z10, rfl, l10, s10, r10⟩ := cons_opened t10
    obtain ⟨a11, n11, k11, z11, rfl, l11, s11, r11⟩ := rows_opened t11
    unfold maxLen at r8 r9 r10 r11
    exact ⟨⟨q0, q1, q2, q3, q4, q5, q6, q7, z8, z9, z10, z11⟩, _, _, _, _, rfl, rfl, rfl, rfl, rfl, rfl, rfl, rfl, rfl, rfl, rfl, rfl, a8, a9, a10, a11, n8, k8, n9, k9, n10, k10, n11, k11, ⟨rfl, wf_i64 w0, wf_i64 w1, wf_i64 w2, wf_i64 w3, wf_i64 w4, wf_i64 w5, wf_i64 w6, l8, l9, l10, l11, by omega, by omega, by omega, by omega⟩⟩

/-- One call of a script. -/
def OpC (w : World) (b o : Nat) (kd fr id : Int) (m : MsgD) (s8 s9 s10 s11 : Value) : Prop := w.cell? ⟨b, o, none⟩ = some (.int .i64 kd) ∧ w.cell? ⟨b, o + 1, none⟩ = some (.int .i64 fr) ∧ w.cell? ⟨b, o + 2, none⟩ = some (.int .i64 id) ∧ w.cell? ⟨b, o + 3, none⟩ = some (.int .i64 m.kind) ∧ w.cell? ⟨b, o + 4, none⟩ = some (.int .i64 m.from_) ∧ w.cell? ⟨b, o + 5, none⟩ = some (.int .i64 m.«to») ∧ w.cell? ⟨b, o + 6, none⟩ = some (.int .i64 m.id) ∧ w.cell? ⟨b, o + 7, none⟩ = some (.int .i64 m.rev) ∧ w.cell? ⟨b, o + 8, none⟩ = some (.int .i64 m.epoch) ∧ w.cell? ⟨b, o + 9, none⟩ = some (.int .i64 m.slot) ∧ w.cell? ⟨b, o + 10, none⟩ = some (.bool m.flag) ∧ w.cell? ⟨b, o + 11, none⟩ = some (s8) ∧ w.cell? ⟨b, o + 12, none⟩ = some (s9) ∧ w.cell? ⟨b, o + 13, none⟩ = some (s10) ∧ w.cell? ⟨b, o + 14, none⟩ = some (s11)
def OpsR (w : World) (a : Option Addr) (n : Nat) : Prop := n = 0 ∨ ∃ b off, a = some ⟨b, off, none⟩ ∧ b < w.heap.size ∧ ∀ i, i < n → ∃ (kd fr id : Int) (m : MsgD) (s8 s9 s10 s11 : Value), OpC w b (off + i * 15) kd fr id m s8 s9 s10 s11 ∧ InI kd ∧ InI fr ∧ InI id ∧ MsgIn w (.agg #[.int .i64 m.kind, .int .i64 m.from_, .int .i64 m.«to», .int .i64 m.id, .int .i64 m.rev, .int .i64 m.epoch, .int .i64 m.slot, .bool m.flag, s8, s9, s10, s11]) m
theorem opsR_opened {H : Type} {enc : TypeId × Value → H} {W : World} {fuel : Nat} {a : Option Addr} {len cap : Nat} {x : DataW H × List MemPlace}
    (h : DataW.trod enc Try.prog W 0 (fun _ => true) true fuel 22 (Value.slice a len cap).cells.toList = some x) (hw : ∀ k ∈ x.1.weights Try.prog 22, k ≤ 140737488351232) : OpsR W a len ∧ len ≤ 140737488355328 := by
  have h' : DataW.trod enc Try.prog W 0 (fun _ => true) true fuel 22 [Value.slice a len cap] = some x := by simpa [Value.cells] using h
  rcases Go.Deep.open_slice Try.underlying22 h' with ⟨hcs, hx⟩ | ⟨ad, l, c, m, n, Dd, Pl, hcs, _, hl, hm, hmm, hx, hall⟩
  · simp at hcs
    obtain ⟨rfl, rfl, rfl⟩ := hcs
    exact ⟨.inl rfl, by omega⟩
  · simp at hcs
    obtain ⟨rfl, rfl, rfl⟩ := hcs
    have hcell : Try.prog.cellsOf 39 = 15 := by kernel_rfl
    rw [hcell] at hall
    simp only [if_true] at hmm
    have hlen : m * 184 ≤ 140737488351232 := by
      refine hw (m * 184) ?_
      rw [hx]
      simp only [DataW.weights, Try.underlying22, List.mem_cons]
      left
      rw [show Try.prog.bytesOf 39 = 184 by kernel_rfl]
      simp
      omega
    refine ⟨?_, by omega⟩
    rcases Nat.eq_zero_or_pos len with h0 | h0
    · exact .inl h0
    · obtain ⟨b, off, spot⟩ := ad
      have hs : spot = none := by
        obtain ⟨cs', hc, _⟩ := hall 0 (by omega)
        obtain ⟨_, hcl, hat⟩ := World.cells?_some hc
        have h1 := hat 0 (by omega)
        rw [List.getElem?_eq_getElem (by omega)] at h1
        simpa [Addr.add] using World.cell?_spot h1
      subst hs
      have hbl : b < W.heap.size := by
        obtain ⟨cs', hc, _⟩ := hall 0 (by omega)
        obtain ⟨_, hcl, hat⟩ := World.cells?_some hc
        have h1 := hat 0 (by omega)
        rw [List.getElem?_eq_getElem (by omega)] at h1
        have := World.block_lt_of_cell? W _ h1
        simpa [Addr.add] using this
      refine .inr ⟨b, off, rfl, hbl, fun i hi => ?_⟩
      obtain ⟨cs', hc, ht⟩ := hall i (by omega)
      obtain ⟨_, hcl, hat⟩ := World.cells?_some hc
      match cs', hcl with
      | [v0, v1, v2, v3, v4, v5, v6, v7, v8, v9, v10, v11, v12, v13, v14], _ =>
        have e0 := hat 0 (by omega)
        have e1 := hat 1 (by omega)
        have e2 := hat 2 (by omega)
        have e3 := hat 3 (by omega)
        have e4 := hat 4 (by omega)
        have e5 := hat 5 (by omega)
        have e6 := hat 6 (by omega)
        have e7 := hat 7 (by omega)
        have e8 := hat 8 (by omega)
        have e9 := hat 9 (by omega)
        have e10 := hat 10 (by omega)
        have e11 := hat 11 (by omega)
        have e12 := hat 12 (by omega)
        have e13 := hat 13 (by omega)
        have e14 := hat 14 (by omega)
        simp only [add_plain, Nat.add_zero, List.getElem?_cons_zero, List.getElem?_cons_succ] at e0 e1 e2 e3 e4 e5 e6 e7 e8 e9 e10 e11 e12 e13 e14
        obtain ⟨xs, n', _, hd, _, hlen, hf⟩ := DataW.trod_struct Try.underlying39 ht
        match xs, hlen with
        | [y0, y1, y2, y3], _ =>
          have t0 := hf 0 _ rfl
          have t1 := hf 1 _ rfl
          have t2 := hf 2 _ rfl
          have t3 := hf 3 _ rfl
          have k1 : Try.prog.cellsOf 3 = 1 := by kernel_rfl
          have k2 : Try.prog.cellsOf 2 = 1 := by kernel_rfl
          have k3 : Try.prog.cellsOf 37 = 12 := by kernel_rfl
          simp [k1, k2, k3] at t0 t1 t2 t3
          obtain ⟨q0, h0, _, w0⟩ := DataW.trod_int Try.underlying3 t0
          obtain ⟨q1, h1, _, w1⟩ := DataW.trod_int Try.underlying3 t1
          obtain ⟨q2, h2, _, w2⟩ := DataW.trod_int Try.underlying2 t2
          simp at h0 h1 h2
          subst h0 h1 h2
          obtain ⟨m, s8, s9, s10, s11, rfl, rfl, rfl, rfl, rfl, rfl, rfl, rfl, rfl, rfl, rfl, rfl, hin⟩ := msg_cells t3
          refine ⟨q0, q1, q2, m, _, _, _, _, ⟨e0, e1, e2, e3, e4, e5, e6, e7, e8, e9, e10, e11, e12, e13, e14⟩, wf_i64 w0, wf_i64 w1, wf_i64 w2, ?_⟩
          exact hin
end Go.Proofs.Ytjfllomnphppfaa
