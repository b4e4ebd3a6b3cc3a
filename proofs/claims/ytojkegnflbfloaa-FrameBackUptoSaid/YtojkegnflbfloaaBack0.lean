/- FrameBack: what it needs of lists, and how its list comes in. -/
import Derived.Test.YtojkegnflbfloaaJoins
import Derived.Deep.Matrix
namespace Go.Proofs.Ytojkegnflbfloaa
open Go.RowKit

def flat (G : List (List Int)) : List Int := (G.map sealed).flatten
theorem flat_snoc (G : List (List Int)) (p : List Int) : flat (G ++ [p]) = flat G ++ sealed p := by simp [flat]
theorem flat_byte {G : List (List Int)} (h : ∀ p ∈ G, p.length ≤ 16384 ∧ ∀ x ∈ p, 0 ≤ x ∧ x < 256) : ∀ x ∈ flat G, 0 ≤ x ∧ x < 256 := by
  intro x hx
  obtain ⟨l, hl, hxl⟩ := List.mem_flatten.1 hx
  obtain ⟨p, hp, rfl⟩ := List.mem_map.1 hl
  exact sealed_byte p (h p hp).2 (h p hp).1 x hxl
theorem flat_length {G : List (List Int)} (h : ∀ p ∈ G, p.length ≤ 16384 ∧ ∀ x ∈ p, 0 ≤ x ∧ x < 256) : (flat G).length ≤ G.length * 16392 := by
  induction G with
  | nil => simp [flat]
  | cons p G ih =>
    have h1 := ih (fun q hq => h q (List.mem_cons_of_mem _ hq))
    have h2 := (h p (List.mem_cons_self ..)).1
    have h3 : flat (p :: G) = sealed p ++ flat G := by simp [flat]
    rw [h3, List.length_append, sealed_length, List.length_cons]
    omega
theorem cutAll_sealed (p r : List Int) (hp : p.length ≤ 16384) : cutAll (sealed p ++ r) = joinCut [p] (8 + p.length) (cutAll r) := by
  have hl := sealed_length p
  rw [cutAll_step (err_sealed p hp r), wd_sealed p hp, pay_sealed p hp, List.drop_append_of_le_length (by omega), List.drop_eq_nil_of_le (by omega)]
  simp [joinCut]
theorem cutAll_flat (G : List (List Int)) (r : List Int) (h : ∀ p ∈ G, p.length ≤ 16384 ∧ ∀ x ∈ p, 0 ≤ x ∧ x < 256) : cutAll (flat G ++ r) = joinCut G (flat G).length (cutAll r) := by
  induction G with
  | nil => simp [flat, joinCut]
  | cons p G ih =>
    have h1 := ih (fun q hq => h q (List.mem_cons_of_mem _ hq))
    have h2 := (h p (List.mem_cons_self ..)).1
    have h3 : flat (p :: G) = sealed p ++ flat G := by simp [flat]
    rw [h3, List.append_assoc, cutAll_sealed p _ h2, h1, List.length_append, sealed_length]
    simp [joinCut, Nat.add_assoc]
theorem err_trunc (p : List Int) (hp : p.length ≤ 16384) (t : Nat) (ht : t < 8 + p.length) : err ((sealed p).take t) = 10 := by
  have hl := sealed_length p
  have hlt : ((sealed p).take t).length = t := by simp; omega
  unfold err
  by_cases h8 : t < 8
  · rw [if_pos (by omega)]
  · have hw : wd ((sealed p).take t) 4 = p.length := by
      have h1 : wd ((sealed p).take t) 4 = wd (sealed p ++ []) 4 := by
        apply wd_congr
        intro i hi
        simp only [List.getD, List.append_nil]
        rw [List.getElem?_take_of_lt (by omega)]
      rw [h1, wd_sealed p hp]
    rw [if_neg (by omega), hw, if_neg (by omega), if_pos (by omega)]
theorem cutAll_trunc (p : List Int) (hp : p.length ≤ 16384) (t : Nat) (ht : t < 8 + p.length) : cutAll ((sealed p).take t) = ([], 0, if t = 0 then 0 else 10) := by
  have hl := sealed_length p
  have hlt : ((sealed p).take t).length = t := by simp; omega
  have he := err_trunc p hp t ht
  rcases Nat.eq_zero_or_pos t with h0 | h0
  · rw [if_pos h0, cutAll_nil (by omega)]
  · rw [if_neg (by omega), cutAll_bad (by omega) (by omega), he]

theorem cutAll_short2 (G0 : List (List Int)) (p : List Int) (ls : Nat) (h : ∀ q ∈ G0 ++ [p], q.length ≤ 16384 ∧ ∀ x ∈ q, 0 ≤ x ∧ x < 256) (h1 : 1 ≤ ls) (h2 : ls ≤ 8 + p.length) :
    cutAll ((flat (G0 ++ [p])).take ((flat (G0 ++ [p])).length - ls)) = (G0, (flat G0).length, if ls = 8 + p.length then 0 else 10) := by
  have hp := (h p (by simp)).1
  have h0 : ∀ q ∈ G0, q.length ≤ 16384 ∧ ∀ x ∈ q, 0 ≤ x ∧ x < 256 := fun q hq => h q (List.mem_append_left _ hq)
  have hl : (flat (G0 ++ [p])).length = (flat G0).length + (8 + p.length) := by rw [flat_snoc, List.length_append, sealed_length]
  have ht : (flat (G0 ++ [p])).take ((flat (G0 ++ [p])).length - ls) = flat G0 ++ (sealed p).take (8 + p.length - ls) := by
    rw [hl, flat_snoc, List.take_append, List.take_of_length_le (by omega), show (flat G0).length + (8 + p.length) - ls - (flat G0).length = 8 + p.length - ls by omega]
  rw [ht, cutAll_flat G0 _ h0, cutAll_trunc p hp _ (by omega)]
  simp only [joinCut, List.append_nil, Nat.add_zero]
  by_cases he : ls = 8 + p.length
  · rw [if_pos he, if_pos (by omega)]
  · rw [if_neg he, if_neg (by omega)]
/-- A list of slices of bytes that came in. -/
def ListIn (w : World) (a : Option Addr) (n : Nat) (xss : List (List Int)) : Prop :=
  xss.length = n ∧ (n = 0 ∨ ∃ b off, a = some ⟨b, off, none⟩ ∧ ∀ i, i < n → ∃ ua m uc, w.cell? ⟨b, off + i, none⟩ = some (.slice ua m uc) ∧ m ≤ maxLen ∧ (ua = none → m = 0 ∧ uc = 0) ∧ IsB w ua m (xss.getD i []))
theorem listIn_opened {H : Type} {enc : TypeId × Value → H} {W : World} {fuel : Nat} {a : Option Addr} {len cap : Nat} {x : DataW H × List MemPlace}
    (h : DataW.trod enc Try.prog W 0 (fun _ => true) true fuel 37 (Value.slice a len cap).cells.toList = some x) :
    ∃ xss, ListIn W a len xss ∧ (x.1 = .nil ∧ len = 0 ∨ ∃ l s : List (DataW H), x.1 = .slice l s ∧ l.length = len) := by
  have h' : DataW.trod enc Try.prog W 0 (fun _ => true) true fuel 37 [Value.slice a len cap] = some x := by simpa [Value.cells] using h
  rcases Go.Deep.open_int_rows Try.underlying37 Try.underlying22 Try.underlying5 (by kernel_rfl) (by kernel_rfl) h' with ⟨hcs, hx⟩ | ⟨ad, l, c, A, L, C, Z, hcs, _, hl, hm, hx, hall⟩
  · simp at hcs
    obtain ⟨rfl, rfl, rfl⟩ := hcs
    subst hx
    exact ⟨[], ⟨rfl, .inl rfl⟩, .inl ⟨rfl, rfl⟩⟩
  · simp at hcs
    obtain ⟨rfl, rfl, rfl⟩ := hcs
    subst hx
    refine ⟨(List.range len).map fun r => (Z r).take (L r), ⟨by simp, ?_⟩, .inr ⟨_, _, rfl, by simp⟩⟩
    rcases Nat.eq_zero_or_pos len with h0 | h0
    · exact .inl h0
    · obtain ⟨b, off, spot⟩ := ad
      have hs : spot = none := by simpa [Addr.add] using World.cell?_spot (hall 0 (by omega)).1
      subst hs
      refine .inr ⟨b, off, rfl, fun i hi => ?_⟩
      obtain ⟨e1, e2, e3, e4, e5, e6, e7⟩ := hall i (by omega)
      have e : ((⟨b, off, none⟩ : Addr).add i) = ⟨b, off + i, none⟩ := by
        unfold Addr.add
        split <;> simp_all
      rw [e] at e1
      have hr : IsRow .u8 W (A i) (L i) (C i) (Z i) := by
        cases hA : A i with
        | none =>
          have hc := e6 hA
          exact .inl ⟨rfl, by omega, hc, List.eq_nil_of_length_eq_zero (by omega)⟩
        | some y => exact .inr ⟨y, rfl, e2, e3, e4, fun j hj => (e7 y hA).2 j (by omega), e5⟩
      obtain ⟨q1, q2, q3, q4⟩ := hr.isB
      refine ⟨_, _, _, e1, by omega, q2, ?_⟩
      have hg : ((List.range len).map fun r => (Z r).take (L r)).getD i [] = (Z i).take (L i) := by simp [List.getD, hi]
      rw [hg]
      exact q1

theorem owns_grown {w w' : World} {v u : Value} {b1 n1 b2 n2 : Nat} {d e : TypeId} {l1 l2 : List Value} (h : w.ownsRow b1 d 1 v n1 l1) (hu : w.ownsRow b2 e 1 u n2 l2) (he : e ≠ d) (hg : w.grownBy w' u.ownBlock) : w'.ownsRow b1 d 1 v n1 l1 := by
  refine h.kept hg ?_
  cases hv : v.ownBlock with
  | none => exact .inl rfl
  | some k =>
    refine .inr fun hk => ?_
    obtain ⟨c1, h1⟩ := block_type h k hv
    obtain ⟨c2, h2⟩ := block_type hu k hk.symm
    rw [h1] at h2
    injection h2 with h2
    injection h2 with _ h2
    exact he h2.symm
theorem owned_any {w : World} {base n : Nat} {v : Value} {e : TypeId} {l : List Value} (h : w.ownsRow base e 1 v n l) : ∃ a c, v = .slice a n c ∧ n ≤ c ∧ c ≤ maxLen := by
  rcases h.2 with ⟨rfl, h0⟩ | ⟨g, cap, cur, rfl, _, _, h3, h4, _⟩
  · subst h0
    exact ⟨none, 0, rfl, by omega, by simp [maxLen]⟩
  · exact ⟨_, _, rfl, h3, h4⟩
theorem StrsIn.head {w : World} {a : Option Addr} {n c : Nat} {G : List (List Int)} {p : List Int} (h : StrsIn w (.slice a n c) (strsOf (G ++ [p]))) : StrsIn w (.slice a G.length c) (strsOf G) := by
  obtain ⟨a', n', c', hv, hl, hc⟩ := h
  injection hv with e1 e2 e3
  subst e1 e2 e3
  have hl2 : (strsOf (G ++ [p])).length = G.length + 1 := by simp [strsOf]
  refine ⟨a, G.length, c, rfl, by simp [strsOf], ?_⟩
  obtain ⟨g, rfl, hg⟩ := hc.resolve_left (by omega)
  refine .inr ⟨g, rfl, fun i hi => ?_⟩
  rw [hg i (by omega)]
  simp [strsOf, List.getD, List.getElem?_append_left, hi]
theorem slice_head_s (a : Option Addr) (n c m : Nat) (hm : m ≤ c) (w : World) :
    (Instr.slice 40 (.slice a n c) none (some (.int .i64 (m : Int))) none).run Try.prog w = .ok (.slice a m c) w := by
  rw [run_slice_h w _ _ _ _ (by kernel_rfl) .i64 (m : Int) (by omega) (by omega), show Try.prog.elem 40 = 9 by kernel_rfl, show (sizeOf 9).run Try.prog w = .ok 1 w by kernel_rfl]
  simp [Result.andThen, sliced]
  intro _
  cases a <;> simp [addr_add_zero]
end Go.Proofs.Ytojkegnflbfloaa
