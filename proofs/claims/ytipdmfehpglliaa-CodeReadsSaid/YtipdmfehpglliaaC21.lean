/- The bench: a message is written and read. -/
import Derived.Test.YtipdmfehpglliaaC20
namespace Go.Proofs.Ytipdmfehpglliaa
open Go.RowKit

def abT : ByteArray := ⟨#[97, 58, 98]⟩
def benchD : MsgD := ⟨3, 0, 0, -1, 0, 0, 0, false, [], [⟨false, abT, ByteArray.empty, ByteArray.empty⟩], [], []⟩
def benchR : MsgR := ⟨3, 0, 0, -1, 0, 0, 0, false, [], [(false, [97, 58, 98], [], [])], [], []⟩
theorem bench_enc : enc benchD = [6, 0, 0, 1, 0, 0, 0, 0, 0, 2, 0, 6, 97, 58, 98, 0, 0, 0, 0] := by decide +kernel
theorem bench_dec : dec [6, 0, 0, 1, 0, 0, 0, 0, 0, 2, 0, 6, 97, 58, 98, 0, 0, 0, 0] = .ok benchR := by kernel_rfl
theorem bench_mut : ∀ x ∈ benchD.muts, x.ok := by
  intro x hx
  obtain rfl : x = ⟨false, abT, ByteArray.empty, ByteArray.empty⟩ := by simpa [benchD] using hx
  exact ⟨by decide, by decide, by decide⟩
theorem bench_ok : benchD.ok := ⟨by decide, ⟨by decide, bench_mut⟩, ⟨by decide, by simp [benchD]⟩, ⟨by decide, by simp [benchD]⟩⟩
theorem owned_lies {w : World} {base n : Nat} {v : Value} {xs : List Int} (h : w.ownsRow base 5 1 v n (xs.map (Value.int .u8))) (hb : ∀ x ∈ xs, 0 ≤ x ∧ x < 256) : LiesAt w w.heap.size v xs := by
  have hl : xs.length = n := by have := h.1; simpa using this
  rcases h.2 with ⟨rfl, h0⟩ | ⟨g, cap, cur, rfl, h1, h2, h3, h4, h5, h6⟩
  · exact .inl ⟨rfl, List.eq_nil_of_length_eq_zero (by omega)⟩
  · refine .inr ⟨g, 0, cap, by rw [hl], by omega, h4, (h.lt g rfl).2, fun i x hx => ⟨?_, hb x (List.mem_of_getElem? hx)⟩⟩
    have := h.cells (g := g) rfl i (.int .u8 x) (by simp [hx])
    rw [add_plain, Nat.zero_add] at this
    rw [Nat.zero_add]
    exact this
theorem bench_at (w : World) : MsgAt (w.alloc (.cells #[.bool false, .string abT, .string ByteArray.empty, .string ByteArray.empty] 44)) (w.heap.size + 1)
    (.agg #[.int .i64 3, .int .i64 0, .int .i64 0, .int .i64 (-1), .int .i64 0, .int .i64 0, .int .i64 0, .bool false, .slice none 0 0, .slice (some ⟨w.heap.size, 0, none⟩) 1 1, .slice none 0 0, .slice none 0 0]) benchD none (some ⟨w.heap.size, 0, none⟩) none none 0 0 1 1 0 0 0 0 := by
  refine ⟨rfl, ⟨by decide, by decide⟩, ⟨by decide, by decide⟩, ⟨by decide, by decide⟩, ⟨by decide, by decide⟩, ⟨by decide, by decide⟩, ⟨by decide, by decide⟩, ⟨by decide, by decide⟩, ⟨rfl, .inl rfl⟩, ⟨rfl, .inr ⟨_, _, rfl, by omega, ?_⟩⟩, ⟨rfl, .inl rfl⟩, ⟨rfl, .inl rfl⟩, by omega, by omega, by omega, by omega⟩
  intro i m hm
  match i, hm with
  | 0, hm =>
    obtain rfl : (⟨false, abT, ByteArray.empty, ByteArray.empty⟩ : Mut) = m := by simpa [benchD] using hm
    exact ⟨by rw [new_cell]; rfl, by rw [new_cell]; rfl, by rw [new_cell]; rfl, by rw [new_cell]; rfl, by decide, by decide, by decide⟩

set_option maxRecDepth 100000 in
set_option maxHeartbeats 1000000 in
theorem awake_any (w : World) :
    Calls Try.prog 4 #[] w fun e w' => e = .returned (.bool true) ∧ Below w.heap.size w w' := by
  have hm := bench_at w
  rw [show w.heap.size + 1 = (w.alloc (.cells #[.bool false, .string abT, .string ByteArray.empty, .string ByteArray.empty] 44)).heap.size by simp] at hm
  have hE := encode_fits _ _ _ _ _ _ _ _ _ _ _ _ _ _ _ hm bench_ok (by rw [bench_enc]; decide)
  rw [bench_enc] at hE
  have HE := Lib.hid hE
  clear hm hE
  unfold abT at HE
  go_enter Try.func4, Try.ntmps4
  go_wp2_with fail
  refine HE.out.mono ?_
  rintro e w1 ⟨v', rfl, hown, hb1⟩
  have hlies := owned_lies hown (by decide)
  obtain ⟨a, c, rfl, _, _⟩ := owned_any hown
  have hD := decode_short a _ c w1 [6, 0, 0, 1, 0, 0, 0, 0, 0, 2, 0, 6, 97, 58, 98, 0, 0, 0, 0] rfl (by decide) hlies
  rw [bench_dec] at hD
  have HD := Lib.hid hD
  have HB1 := Lib.hid ((below_alloc w _).trans (hb1.mono (by simp)))
  clear hown hb1 hlies hD
  go_wp2_with fail
  refine HD.out.mono ?_
  rintro e w2 (⟨m, v8, v9, v10, v11, hm, rfl, hO, hb2⟩ | ⟨c, hm, _, _⟩)
  rotate_left
  · cases hm
  injection hm with hm
  subst hm
  have HB2 := Lib.hid (HB1.out.trans (hb2.mono HB1.out.size))
  have hmu : w2.ownsRow w1.heap.size 44 4 v9 1 [.bool false, .string (strOfNums [97, 58, 98]), .string (strOfNums []), .string (strOfNums [])] := hO.muts
  have h9 : ∃ g9 c9, v9 = .slice (some ⟨g9, 0, none⟩) 1 c9 ∧ w2.cell? ⟨g9, 1, none⟩ = some (.string (strOfNums [97, 58, 98])) := by
    rcases hmu.2 with ⟨_, h0⟩ | ⟨g, cap, cur, rfl, _⟩
    · cases h0
    · refine ⟨g, cap, rfl, ?_⟩
      have := hmu.cells (g := g) rfl 1 _ rfl
      rwa [add_plain, Nat.zero_add] at this
  obtain ⟨g9, c9, rfl, hc9⟩ := h9
  obtain ⟨_, _, rfl, _, _⟩ := owned_any hO.nodes
  obtain ⟨_, _, rfl, _, _⟩ := owned_some hO.pre
  obtain ⟨_, _, rfl, _, _⟩ := owned_some hO.rows
  clear hO hmu hb2 HE HD
  unfold msgC benchR
  have hs9 : strOfNums [97, 58, 98] = ⟨#[97, 58, 98]⟩ := by decide +kernel
  rw [hs9] at hc9
  have hc9' : ∀ o, (w2.alloc o).cell? ⟨g9, 1, none⟩ = some (.string ⟨#[97, 58, 98]⟩) := fun o => ((below_alloc w2 o).cell (p := ⟨g9, 1, none⟩) (World.block_lt_of_cell? w2 ⟨g9, 1, none⟩ hc9)).trans hc9
  simp only []
  go_wp2
  go_ret
  exact ⟨rfl, HB2.out.trans ((below_alloc w2 _).mono HB2.out.size)⟩
end Go.Proofs.Ytipdmfehpglliaa
