/- What is read lies apart from what it was read of. -/
import Derived.Test.YtbckccgcjmanlaaCKeep0
namespace Go.Proofs.Ytbckccgcjmanlaa
open Go.RowKit

theorem keep_owns {w w' : World} {base n s : Nat} {v : Value} {e : TypeId} {l : List Value} (h : w.ownsRow base e s v n l) (hb : ∀ k, base ≤ k → k < w.heap.size → w'.heap[k]? = w.heap[k]?) : w'.ownsRow base e s v n l := by
  refine ⟨h.1, ?_⟩
  rcases h.2 with h2 | ⟨q, cap, cur, rfl, h3, h4, r⟩
  · exact .inl h2
  · exact .inr ⟨q, cap, cur, rfl, h3, (hb q h3 (h.lt q rfl).2).trans h4, r⟩
/-- What a call of Decode comes to; the message stays what it is in every world in which the new blocks are what they were. -/
def DKeep (w : World) (r : Except Int MsgR) (e : Ending) (w' : World) : Prop :=
  ∃ V d c, e = .returned (.tuple #[V, .int .i64 c]) ∧ MsgIn w' V d ∧ Below w.heap.size w w' ∧ ((∃ m, r = .ok m ∧ d = unR m ∧ c = 0) ∨ (r = .error c ∧ d = zeroD)) ∧
    ∀ W : World, (∀ k, w.heap.size ≤ k → k < w'.heap.size → W.heap[k]? = w'.heap[k]?) → MsgIn W V d
theorem dkeep_of {w : World} {r : Except Int MsgR} {e : Ending} {w' : World} (h : DDone w r e w') (hf : ∀ m, r = .ok m → m.fine) : DKeep w r e w' := by
  rcases h with ⟨m, v8, v9, v10, v11, hm, rfl, hO, hb⟩ | ⟨c, hm, rfl, hb⟩
  · exact ⟨_, _, _, rfl, own_in hO (hf m hm), hb, .inl ⟨m, hm, rfl, rfl⟩, fun W hW => own_in ⟨keep_owns hO.nodes hW, keep_owns hO.muts hW, keep_owns hO.pre hW, keep_owns hO.rows hW⟩ (hf m hm)⟩
  · exact ⟨_, _, _, rfl, zero_in _, hb, .inr ⟨hm, rfl⟩, fun W _ => zero_in W⟩
theorem decode_keep {w : World} {base n : Nat} {v : Value} {xs : List Int} (h : w.ownsRow base 5 1 v n (xs.map (Value.int .u8))) (hb : Byt xs) :
    Calls Try.prog 17 #[v] w (DKeep w (dec xs)) := by
  obtain ⟨a, c, rfl, h1, h2⟩ := owned_any h
  exact (decode_own h hb).mono fun e w' hd => dkeep_of hd fun m hm => (dec_inv hb hm).2.1
/-- Encode, whatever it comes to. -/
theorem encode_some {V : Value} {m : MsgD} {w : World} (hm : MsgIn w V m) :
    Calls Try.prog 15 #[V] w fun e w' => ∃ v c, e = .returned (.tuple #[v, .int .i64 c]) ∧ Below w.heap.size w w' := by
  obtain ⟨na, ma, pa, ra, nn, nc, mn, mc, pn, pc, rn, rc, hm⟩ := hm
  by_cases h : m.ok ∧ (enc m).length ≤ 16384
  · exact (encode_fits V m na ma pa ra nn nc mn mc pn pc rn rc w hm h.1 h.2).mono fun e w' ⟨v', he, _, hb⟩ => ⟨v', 0, he, hb⟩
  · exact (enc_no hm h).mono fun e w' ⟨he, hb⟩ => ⟨_, 2, he, hb⟩
/-- Only block g is another one. -/
structure Only (w w' : World) (g : Nat) : Prop where
  os : w'.os = w.os
  tape : w'.tape = w.tape
  output : w'.output = w.output
  size : w'.heap.size = w.heap.size
  block : ∀ k, k ≠ g → w'.heap[k]? = w.heap[k]?
theorem Only.refl (w : World) (g : Nat) : Only w w g := ⟨rfl, rfl, rfl, rfl, fun _ _ => rfl⟩
theorem Only.store {w w' : World} {g : Nat} (h : Only w w' g) (i : Nat) (u : Value) : Only w (w'.setCell ⟨g, i, none⟩ u) g :=
  ⟨h.os, h.tape, h.output, by simpa [World.setCell] using h.size, fun k hk => (Below.heap_setCell w' ⟨g, i, none⟩ u k hk).trans (h.block k hk)⟩
theorem Only.below {w w' : World} {g B : Nat} (h : Only w w' g) (hB : B ≤ g) : Below B w w' := ⟨h.os, h.tape, h.output, by rw [h.size]; exact Nat.le_refl _, fun k hk => h.block k (by omega)⟩
/-- A block of bytes. -/
def Bytes8 (w : World) (g n : Nat) : Prop := ∃ cur : Array Value, Whole w g 5 cur ∧ ∀ i, i < n → ∃ x : Int, cur[i]? = some (.int .u8 x) ∧ 0 ≤ x ∧ x < 256
theorem Bytes8.store {w : World} {g n j : Nat} {y : Int} (h : Bytes8 w g n) (hy : 0 ≤ y ∧ y < 256) : Bytes8 (w.setCell ⟨g, j, none⟩ (.int .u8 y)) g n := by
  obtain ⟨cur, h1, h2⟩ := h
  refine ⟨_, h1.store j (.int .u8 y), fun i hi => ?_⟩
  obtain ⟨x, hx, hr⟩ := h2 i hi
  rw [Array.getElem?_setIfInBounds]
  split
  · rename_i e
    subst e
    rw [if_pos (Array.getElem?_eq_some_iff.1 hx).1]
    exact ⟨y, rfl, hy⟩
  · exact ⟨x, hx, hr⟩
theorem bytes8_of {w : World} {base n : Nat} {g c : Nat} {xs : List Int} (h : w.ownsRow base 5 1 (.slice (some ⟨g, 0, none⟩) n c) n (xs.map (Value.int .u8))) (hb : Byt xs) : Bytes8 w g n := by
  rcases h.2 with ⟨e, _⟩ | ⟨q, cap, cur, e, _, h4, h5, h6, h7, h8⟩
  · cases e
  · injection e with e1 e2 e3
    injection e1 with e1
    injection e1 with e1 _ _
    subst e1
    refine ⟨cur, h4, fun i hi => ?_⟩
    have hl : xs.length = n := by have := h.1; simpa using this
    have h9 : (cur.toList.take (n * 1))[i]? = (xs.map (Value.int .u8))[i]? := by rw [h8]
    rw [List.getElem?_take, if_pos (by omega), List.getElem?_map, List.getElem?_eq_getElem (show i < xs.length by omega)] at h9
    refine ⟨xs[i], ?_, hb _ (List.getElem_mem _)⟩
    simpa using h9
theorem u8_wrap (y : Int) : 0 ≤ IntKind.u8.wrap y ∧ IntKind.u8.wrap y < 256 := by
  rw [IntKind.wrap_u8]
  omega
theorem msg_swap {w w' : World} {B B' : Nat} {V : Value} {m : MsgD} {na ma pa ra : Option Addr} {nn nc mn mc pn pc rn rc q cap : Nat} (h : MsgAt w B V m na ma pa ra nn nc mn mc pn pc rn rc) (hb : Below B w w') (hB : B ≤ B')
    (hq : q < B') (hc : ∀ i z, m.nodes[i]? = some z → w'.cell? ⟨q, i, none⟩ = some (.int .i64 z)) :
    MsgAt w' B' (.agg #[.int .i64 m.kind, .int .i64 m.from_, .int .i64 m.«to», .int .i64 m.id, .int .i64 m.rev, .int .i64 m.epoch, .int .i64 m.slot, .bool m.flag, .slice (some ⟨q, 0, none⟩) nn cap, .slice ma mn mc, .slice pa pn pc, .slice ra rn rc]) m (some ⟨q, 0, none⟩) ma pa ra nn cap mn mc pn pc rn rc := by
  have h2 := h.up hb hB
  have hi := h.in64
  refine ⟨rfl, h2.kind, h2.from_, h2.«to», h2.id, h2.rev, h2.epoch, h2.slot, ⟨h2.nodes.1, .inr ⟨q, 0, rfl, hq, fun i z hz => ⟨by rw [Nat.zero_add]; exact hc i z hz, hi.nodes z (List.mem_of_getElem? hz)⟩⟩⟩, h2.muts, h2.pre, h2.rows, h2.ln, h2.lm, h2.lp, h2.lr⟩
end Go.Proofs.Ytbckccgcjmanlaa
