/- A message that was read, as one that came in. -/
import Derived.Test.YtbckccgcjmanlaaCInv
import Derived.Test.YtbckccgcjmanlaaCApart
namespace Go.Proofs.Ytbckccgcjmanlaa
open Go.RowKit

theorem flat_at {α : Type} {f : α → List Value} {k : Nat} (hf : ∀ x, (f x).length = k) : ∀ (l : List α) (i j : Nat) (x : α), l[i]? = some x → j < k → (l.flatMap f)[i * k + j]? = (f x)[j]?
  | [], i, j, x, h, _ => by simp at h
  | y :: r, 0, j, x, h, hj => by
    obtain rfl : y = x := by simpa using h
    rw [List.flatMap_cons, Nat.zero_mul, Nat.zero_add, List.getElem?_append_left (by rw [hf]; exact hj)]
  | y :: r, i + 1, j, x, h, hj => by
    rw [List.flatMap_cons, List.getElem?_append_right (by rw [hf, Nat.succ_mul]; omega), hf, show (i + 1) * k + j - k = i * k + j by rw [Nat.succ_mul]; omega]
    exact flat_at hf r i j x (by simpa using h) hj
theorem own_cases {w : World} {base n s : Nat} {e : TypeId} {v : Value} {l : List Value} (h : w.ownsRow base e s v n l) : (v = .slice none 0 0 ∧ n = 0) ∨ ∃ g c, v = .slice (some ⟨g, 0, none⟩) n c ∧ c ≤ maxLen ∧ n ≤ c ∧ g < w.heap.size ∧ ∀ j u, l[j]? = some u → w.cell? ⟨g, j, none⟩ = some u := by
  rcases h.2 with h2 | ⟨g, cap, cur, rfl, h3, h4, h5, h6, _⟩
  · exact .inl h2
  · refine .inr ⟨g, cap, rfl, h6, h5, (h.lt g rfl).2, fun j u hu => ?_⟩
    have := h.cells (g := g) rfl j u hu
    rwa [add_plain, Nat.zero_add] at this
theorem own_ints {w : World} {base : Nat} {v : Value} {l : List Int} (h : w.ownsRow base 3 1 v l.length (l.map (Value.int .i64))) (hl : ∀ x ∈ l, In64 x) :
    ∃ a n c, v = .slice a n c ∧ IntsAt w w.heap.size a n l ∧ n ≤ 9223372036854775807 := by
  rcases own_cases h with ⟨rfl, h0⟩ | ⟨g, c, rfl, hc, hn, hg, hcell⟩
  · exact ⟨none, 0, 0, rfl, ⟨h0, .inl rfl⟩, by omega⟩
  · unfold maxLen at hc
    refine ⟨_, _, _, rfl, ⟨rfl, .inr ⟨g, 0, rfl, hg, fun i z hz => ⟨?_, hl z (List.mem_of_getElem? hz)⟩⟩⟩, by omega⟩
    rw [Nat.zero_add]
    exact hcell i _ (by rw [List.getElem?_map, hz]; rfl)
theorem own_muts {w : World} {base : Nat} {v : Value} {e : TypeId} {l : List (Bool × Tx)} (h : w.ownsRow base e 4 v l.length (l.flatMap flagC)) (hl : ∀ x ∈ l, TxOk x.2) :
    ∃ a n c, v = .slice a n c ∧ MutsAt w w.heap.size a n (l.map mutD) ∧ n ≤ 9223372036854775807 := by
  rcases own_cases h with ⟨rfl, h0⟩ | ⟨g, c, rfl, hc, hn, hg, hcell⟩
  · exact ⟨none, 0, 0, rfl, ⟨by simpa using h0, .inl rfl⟩, by omega⟩
  · unfold maxLen at hc
    refine ⟨_, _, _, rfl, ⟨by simp, .inr ⟨g, 0, rfl, hg, fun i z hz => ?_⟩⟩, by omega⟩
    rw [List.getElem?_map] at hz
    obtain ⟨q, hq, rfl⟩ := Option.map_eq_some_iff.1 hz
    have hf : ∀ j, j < 4 → (l.flatMap flagC)[i * 4 + j]? = (flagC q)[j]? := fun j hj => flat_at (f := flagC) (k := 4) (fun _ => rfl) l i j q hq hj
    obtain ⟨h1, h2, h3⟩ := tx_mut (hl q (List.mem_of_getElem? hq))
    rw [Nat.zero_add]
    exact ⟨hcell (i * 4) _ (hf 0 (by omega)), hcell (i * 4 + 1) _ (hf 1 (by omega)), hcell (i * 4 + 2) _ (hf 2 (by omega)), hcell (i * 4 + 3) _ (hf 3 (by omega)), by omega, by omega, by omega⟩
theorem own_rows {w : World} {base : Nat} {v : Value} {e : TypeId} {l : List (Tx × Int × Int)} (h : w.ownsRow base e 5 v l.length (l.flatMap rowC)) (hl : ∀ x ∈ l, TxOk x.1 ∧ In64 x.2.1 ∧ In64 x.2.2) :
    ∃ a n c, v = .slice a n c ∧ RowsAt w w.heap.size a n (l.map rowD) ∧ n ≤ 9223372036854775807 := by
  rcases own_cases h with ⟨rfl, h0⟩ | ⟨g, c, rfl, hc, hn, hg, hcell⟩
  · exact ⟨none, 0, 0, rfl, ⟨by simpa using h0, .inl rfl⟩, by omega⟩
  · unfold maxLen at hc
    refine ⟨_, _, _, rfl, ⟨by simp, .inr ⟨g, 0, rfl, hg, fun i z hz => ?_⟩⟩, by omega⟩
    rw [List.getElem?_map] at hz
    obtain ⟨q, hq, rfl⟩ := Option.map_eq_some_iff.1 hz
    have hf : ∀ j, j < 5 → (l.flatMap rowC)[i * 5 + j]? = (rowC q)[j]? := fun j hj => flat_at (f := rowC) (k := 5) (fun _ => rfl) l i j q hq hj
    have hq2 := hl q (List.mem_of_getElem? hq)
    obtain ⟨h1, h2, h3⟩ := tx_row hq2.1
    rw [Nat.zero_add]
    exact ⟨hcell (i * 5) _ (hf 0 (by omega)), hcell (i * 5 + 1) _ (hf 1 (by omega)), hcell (i * 5 + 2) _ (hf 2 (by omega)), hcell (i * 5 + 3) _ (hf 3 (by omega)), hcell (i * 5 + 4) _ (hf 4 (by omega)), by omega, by omega, by omega, hq2.2.1, hq2.2.2⟩
theorem own_in {w : World} {base : Nat} {m : MsgR} {v8 v9 v10 v11 : Value} (h : MOwn w base m v8 v9 v10 v11) (hf : m.fine) : MsgIn w (.agg (msgC m v8 v9 v10 v11)) (unR m) := by
  obtain ⟨a8, n8, c8, rfl, h8, l8⟩ := own_ints h.nodes hf.nodes.2
  obtain ⟨a9, n9, c9, rfl, h9, l9⟩ := own_muts h.muts hf.muts.2
  obtain ⟨a10, n10, c10, rfl, h10, l10⟩ := own_muts h.pre hf.pre.2
  obtain ⟨a11, n11, c11, rfl, h11, l11⟩ := own_rows h.rows hf.rows.2
  obtain ⟨p0, p1, p2, p3, p4, p5, p6⟩ := hf.nums
  exact ⟨a8, a9, a10, a11, n8, c8, n9, c9, n10, c10, n11, c11, ⟨rfl, p0, p1, p2, p3, p4, p5, p6, h8, h9, h10, h11, l8, l9, l10, l11⟩⟩
def zeroD : MsgD := ⟨0, 0, 0, 0, 0, 0, 0, false, [], [], [], []⟩
theorem in0 : In64 0 := ⟨by decide, by decide⟩
theorem zero_in (w : World) : MsgIn w (.agg MsgZ) zeroD :=
  ⟨none, none, none, none, 0, 0, 0, 0, 0, 0, 0, 0, ⟨rfl, in0, in0, in0, in0, in0, in0, in0, ⟨rfl, .inl rfl⟩, ⟨rfl, .inl rfl⟩, ⟨rfl, .inl rfl⟩, ⟨rfl, .inl rfl⟩, by omega, by omega, by omega, by omega⟩⟩
/-- What was written and is read again is the message. -/
theorem unR_toR {m : MsgD} : unR (toR m) = m := by
  have hs : ∀ a : ByteArray, strOfNums (bl a) = a := fun a => by
    apply bl_inj
    exact bl_nums (bl_byte a)
  obtain ⟨x0, x1, x2, x3, x4, x5, x6, x7, x8, x9, x10, x11⟩ := m
  have hm : ∀ l : List Mut, (l.map mutR).map mutD = l := fun l => by
    rw [List.map_map]
    conv => rhs; rw [← List.map_id l]
    refine List.map_congr_left fun x _ => ?_
    simp [mutR, mutD, txs, hs]
  have hr : ∀ l : List RowD, (l.map rowR).map rowD = l := fun l => by
    rw [List.map_map]
    conv => rhs; rw [← List.map_id l]
    refine List.map_congr_left fun x _ => ?_
    simp [rowR, rowD, txs, hs]
  simp only [unR, toR, hm, hr]
theorem toR_fine {m : MsgD} (ok : m.ok) (h : m.in64) : (toR m).fine := by
  have ht : ∀ a b c : ByteArray, a.size ≤ 128 → b.size ≤ 128 → c.size ≤ 128 → TxOk (txs a b c) := fun a b c h1 h2 h3 => ⟨⟨by rw [txs, bl_length]; exact h1, bl_byte a⟩, ⟨by rw [txs, bl_length]; exact h2, bl_byte b⟩, ⟨by rw [txs, bl_length]; exact h3, bl_byte c⟩⟩
  refine ⟨⟨h.kind, h.from_, h.too, h.id, h.rev, h.epoch, h.slot⟩, ⟨ok.nodes, h.nodes⟩, ⟨by simpa [toR] using ok.muts.1, ?_⟩, ⟨by simpa [toR] using ok.pre.1, ?_⟩, ⟨by simpa [toR] using ok.rows.1, ?_⟩⟩
  · intro x hx
    obtain ⟨q, hq, rfl⟩ := List.mem_map.1 hx
    obtain ⟨h1, h2, h3⟩ := ok.muts.2 q hq
    exact ht _ _ _ h1 h2 h3
  · intro x hx
    obtain ⟨q, hq, rfl⟩ := List.mem_map.1 hx
    obtain ⟨h1, h2, h3⟩ := ok.pre.2 q hq
    exact ht _ _ _ h1 h2 h3
  · intro x hx
    obtain ⟨q, hq, rfl⟩ := List.mem_map.1 hx
    obtain ⟨h1, h2, h3⟩ := ok.rows.2 q hq
    exact ⟨ht _ _ _ h1 h2 h3, (h.rows q hq).1, (h.rows q hq).2⟩
/-- What a call of Decode comes to, in one word: the message, as one that came in, or the error. -/
def DMsg (w : World) (r : Except Int MsgR) (e : Ending) (w' : World) : Prop :=
  ∃ V d c, e = .returned (.tuple #[V, .int .i64 c]) ∧ MsgIn w' V d ∧ Below w.heap.size w w' ∧ ((∃ m, r = .ok m ∧ d = unR m ∧ c = 0) ∨ (r = .error c ∧ d = zeroD))
theorem dmsg_of {w : World} {r : Except Int MsgR} {e : Ending} {w' : World} (h : DDone w r e w') (hf : ∀ m, r = .ok m → m.fine) : DMsg w r e w' := by
  rcases h with ⟨m, v8, v9, v10, v11, hm, rfl, hO, hb⟩ | ⟨c, hm, rfl, hb⟩
  · exact ⟨_, _, _, rfl, own_in hO (hf m hm), hb, .inl ⟨m, hm, rfl, rfl⟩⟩
  · exact ⟨_, _, _, rfl, zero_in _, hb, .inr ⟨hm, rfl⟩⟩
end Go.Proofs.Ytbckccgcjmanlaa
