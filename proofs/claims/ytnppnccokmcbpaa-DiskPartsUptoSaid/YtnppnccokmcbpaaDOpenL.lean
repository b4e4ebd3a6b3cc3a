/- A list of slices of bytes that came in, opened; its bulk. -/
import Derived.Test.YtnppnccokmcbpaaDParts
import Derived.Test.YtnppnccokmcbpaaBulk
import Derived.Deep.Matrix
namespace Go.Proofs.Ytnppnccokmcbpaa
open Go.RowKit Go.ChangeShapes Go.WideShapes

theorem bulk_flat {H : Type} (l : List Nat) (f : Nat → List Int) (g : Nat → DataW H) (h : ∀ r ∈ l, (f r).length + 1 ≤ Rows.uptoBulk (g r)) : l.length + (l.map f).flatten.length ≤ Rows.uptoBulkAll (l.map g) := by
  induction l with
  | nil => simp
  | cons x r ih =>
    have h1 := h x (by simp)
    have h2 := ih (fun y hy => h y (List.mem_cons_of_mem _ hy))
    simp only [List.map_cons, List.flatten_cons, List.length_append, List.length_cons, Rows.uptoBulkAll]
    omega
theorem listIn_opened {H : Type} {enc : TypeId × Value → H} {W : World} {fuel : Nat} {a : Option Addr} {len cap : Nat} {x : DataW H × List MemPlace}
    (h : DataW.trod enc Try.prog W 0 (fun _ => true) true fuel 51 (Value.slice a len cap).cells.toList = some x) :
    ∃ xss, ListIn W a len xss ∧ len + xss.flatten.length ≤ Rows.uptoBulk x.1 := by
  have h' : DataW.trod enc Try.prog W 0 (fun _ => true) true fuel 51 [Value.slice a len cap] = some x := by simpa [Value.cells] using h
  rcases Go.Deep.open_int_rows Try.underlying51 Try.underlying31 Try.underlying5 (by kernel_rfl) (by kernel_rfl) h' with ⟨hcs, hx⟩ | ⟨ad, l, c, A, L, C, Z, hcs, _, hl, hm, hx, hall⟩
  · simp at hcs
    obtain ⟨rfl, rfl, rfl⟩ := hcs
    subst hx
    exact ⟨[], ⟨rfl, .inl rfl⟩, by simp⟩
  · simp at hcs
    obtain ⟨rfl, rfl, rfl⟩ := hcs
    subst hx
    refine ⟨(List.range len).map fun r => (Z r).take (L r), ⟨by simp, ?_⟩, ?_⟩
    case refine_2 =>
      have hb := bulk_flat (List.range len) (fun r => (Z r).take (L r)) (fun r => Go.Deep.intRow (H := H) .u8 (A r) (L r) (Z r)) (by
        intro r hr
        have h6 := (hall r (by have := List.mem_range.1 hr; omega)).2.2.2.2.2.1
        have h4 := (hall r (by have := List.mem_range.1 hr; omega)).2.2.2.1
        have h2 := (hall r (by have := List.mem_range.1 hr; omega)).2.1
        show ((Z r).take (L r)).length + 1 ≤ _
        cases hA : A r with
        | none =>
          have := h6 hA
          simp only [Go.Deep.intRow, Rows.uptoBulk, List.length_take]
          omega
        | some y =>
          simp only [Go.Deep.intRow, List.length_take]
          have := bulks.slice_le (H := H) (lits .u8 ((Z r).take (L r))) (lits .u8 ((Z r).drop (L r)))
          simp only [lits, List.length_map, List.length_take] at this ⊢
          omega)
      simp only [List.length_range] at hb
      simp only [Rows.uptoBulk]
      omega
    rcases Nat.eq_zero_or_pos len with h0 | h0
    · exact .inl h0
    · obtain ⟨b, off, spot⟩ := ad
      have hs : spot = none := by simpa [Addr.add] using World.cell?_spot (hall 0 (by omega)).1
      subst hs
      refine .inr ⟨b, off, rfl, fun i hi => ?_⟩
      obtain ⟨e1, e2, e3, e4, e5, e6, e7⟩ := hall i (by omega)
      have e : ((⟨b, off, none⟩ : Addr).add i) = ⟨b, off + i, none⟩ := by
        unfold Addr.add
        split <;> simp_all
      rw [e] at e1
      have hr : IsRow .u8 W (A i) (L i) (C i) (Z i) := by
        cases hA : A i with
        | none =>
          have hc := e6 hA
          exact .inl ⟨rfl, by omega, hc, List.eq_nil_of_length_eq_zero (by omega)⟩
        | some y => exact .inr ⟨y, rfl, e2, e3, e4, fun j hj => (e7 y hA).2 j (by omega), e5⟩
      obtain ⟨q1, q2, q3, q4⟩ := hr.isB
      refine ⟨_, _, _, e1, by omega, q2, ?_⟩
      have hg : ((List.range len).map fun r => (Z r).take (L r)).getD i [] = (Z i).take (L i) := by simp [List.getD, hi]
      rw [hg]
      exact q1

theorem parts_walk (r : Int) (a : Option Addr) (n c : Nat) (xss : List (List Int)) (w : World) (hz : ListIn w a n xss) (hn : n + xss.flatten.length ≤ 1048576) :
    Calls Try.prog 5 #[.slice a n c, .int .i64 r] w fun e w' => e = .returned (.bool true) ∧ Below w.heap.size w w' := by
  by_cases hr : r < 0 ∨ 1048576 < r
  · exact parts_bad r a n c w hr
  · obtain ⟨m, rfl⟩ : ∃ m : Nat, r = (m : Int) := ⟨r.toNat, by omega⟩
    exact parts_good m a n c xss w (by omega) hz (by omega) (by omega)
end Go.Proofs.Ytnppnccokmcbpaa
