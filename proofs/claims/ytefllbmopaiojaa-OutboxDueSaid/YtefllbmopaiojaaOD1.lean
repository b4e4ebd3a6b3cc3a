/- OutboxDue: what the law knows of its own thing (lists alone). -/
import Derived.Test.YtefllbmopaiojaaOpsIn
namespace Go.Proofs.Ytefllbmopaiojaa.OI
open Go.RowKit Go.Proofs.Ytefllbmopaiojaa

def mineK : ByteArray := ⟨#[109, 105, 110, 101]⟩
/-- The law's own thing is there; all others have values from 0 on. -/
def Mine (p i : Nat) (es : List En) : Prop := (∃ y ∈ es, y.k = mineK ∧ y.v = -1 ∧ (y.t + i) % p = 0) ∧ ∀ x ∈ es, x.k ≠ mineK → 0 ≤ x.v
theorem Mine.put {w : World} {p i size : Nat} {k : ByteArray} {v code : Int} {es es' : List En} (h : Mine p i es) (hp : PutTo w size k v es es' code) (hk : k ≠ mineK) (hv : 0 ≤ v) : Mine p i es' := by
  obtain ⟨⟨y, hy, h1, h2, h3⟩, hx⟩ := h
  rcases hp with ⟨e1, z, e2, rfl, hz, _, rfl⟩ | ⟨_, _, _, rfl⟩ | ⟨_, _, _, q, _, rfl⟩
  · refine ⟨⟨y, ?_, h1, h2, h3⟩, fun x hxm hxk => ?_⟩
    · rcases List.mem_append.1 hy with h4 | h4
      · exact List.mem_append_left _ h4
      · rcases List.mem_cons.1 h4 with h5 | h5
        · exact absurd (by rw [← hz, ← h5]; exact h1) hk
        · exact List.mem_append_right _ (List.mem_cons_of_mem _ h5)
    · rcases List.mem_append.1 hxm with h4 | h4
      · exact hx x (List.mem_append_left _ h4) hxk
      · rcases List.mem_cons.1 h4 with h5 | h5
        · rw [h5]; exact hv
        · exact hx x (List.mem_append_right _ (List.mem_cons_of_mem _ h5)) hxk
  · exact ⟨⟨y, hy, h1, h2, h3⟩, hx⟩
  · refine ⟨⟨y, List.mem_append_left _ hy, h1, h2, h3⟩, fun x hxm hxk => ?_⟩
    rcases List.mem_append.1 hxm with h4 | h4
    · exact hx x h4 hxk
    · rw [List.mem_singleton] at h4
      rw [h4]
      exact hv
theorem Mine.ack {p i : Nat} {k : ByteArray} {es : List En} (h : Mine p i es) (hk : k ≠ mineK) : Mine p i (es.filter (fun x => !decide (x.k = k))) := by
  obtain ⟨⟨y, hy, h1, h2, h3⟩, hx⟩ := h
  refine ⟨⟨y, List.mem_filter.2 ⟨hy, ?_⟩, h1, h2, h3⟩, fun x hxm hxk => hx x (List.mem_filter.1 hxm).1 hxk⟩
  have : y.k ≠ k := by rw [h1]; exact Ne.symm hk
  simp [this]
theorem Mine.tick {p i : Nat} {es : List En} (h : Mine p i es) (hp : 1 ≤ p) : Mine p (i + 1) (es.map (tk p)) := by
  obtain ⟨⟨y, hy, h1, h2, h3⟩, hx⟩ := h
  refine ⟨⟨tk p y, List.mem_map.2 ⟨y, hy, rfl⟩, h1, h2, ?_⟩, fun x hxm hxk => ?_⟩
  · show ((if y.t = 0 then p - 1 else y.t - 1) + (i + 1)) % p = 0
    split
    · rename_i h0
      rw [show p - 1 + (i + 1) = (y.t + i) + p by omega, Nat.add_mod_right]
      exact h3
    · rw [show y.t - 1 + (i + 1) = y.t + i by omega]
      exact h3
  · obtain ⟨z, hz, rfl⟩ := List.mem_map.1 hxm
    exact hx z hz hxk
theorem Mine.has {p i : Nat} {es : List En} (h : Mine p i es) : hasK es mineK = true := by
  obtain ⟨⟨y, hy, h1, _, _⟩, _⟩ := h
  exact hasK_mem.2 (List.mem_map.2 ⟨y, hy, h1⟩)
theorem due_append (a b : List En) : due (a ++ b) = due a ++ due b := by
  unfold due
  rw [List.filter_append, List.map_append]
theorem due_no {l : List En} (h : ∀ x ∈ l, 0 ≤ x.v) : (due l).count (-1) = 0 := by
  rw [List.count_eq_zero]
  intro hm
  unfold due at hm
  obtain ⟨x, hx, he⟩ := List.mem_map.1 hm
  have := h x (List.mem_filter.1 hx).1
  omega
theorem Mine.count {p i : Nat} {es : List En} (h : Mine p i es) (hk : (es.map (·.k)).Nodup) (ht : ∀ x ∈ es, x.t < p) : (due es).count (-1) = if i % p = 0 then 1 else 0 := by
  obtain ⟨⟨y, hy, h1, h2, h3⟩, hx⟩ := h
  obtain ⟨e1, e2, rfl⟩ := List.append_of_mem hy
  rw [List.map_append, List.map_cons] at hk
  have hn := List.nodup_append.1 hk
  have ha : ∀ x ∈ e1, 0 ≤ x.v := fun x hm => hx x (List.mem_append_left _ hm) (by
    intro e
    exact hn.2.2 x.k (List.mem_map.2 ⟨x, hm, rfl⟩) y.k (by simp) (by rw [e, h1]))
  have hb : ∀ x ∈ e2, 0 ≤ x.v := fun x hm => hx x (List.mem_append_right _ (List.mem_cons_of_mem _ hm)) (by
    intro e
    exact (List.nodup_cons.1 hn.2.1).1 (List.mem_map.2 ⟨x, hm, by rw [e, h1]⟩))
  have hty := ht y hy
  have hiff : y.t = 0 ↔ i % p = 0 := by
    constructor
    · intro e
      rw [e, Nat.zero_add] at h3
      exact h3
    · intro e
      have h4 := Nat.add_mod y.t i p
      rw [h3, e, Nat.add_zero, Nat.mod_mod, Nat.mod_eq_of_lt hty] at h4
      exact h4.symm
  rw [show e1 ++ y :: e2 = e1 ++ ([y] ++ e2) from rfl, due_append, due_append, List.count_append, List.count_append, due_no ha, due_no hb]
  have hy1 : due [y] = if y.t = 0 then [y.v] else [] := by unfold due; by_cases h0 : y.t = 0 <;> simp [h0]
  rw [hy1]
  by_cases h0 : y.t = 0
  · rw [if_pos h0, if_pos (hiff.1 h0), h2]
    rfl
  · rw [if_neg h0, if_neg (fun e => h0 (hiff.2 e))]
    rfl
/-- So many of the numbers below i are multiples of p. -/
def cd (p i : Nat) : Nat := (i + p - 1) / p
theorem cd_zero {p : Nat} (hp : 1 ≤ p) : cd p 0 = 0 := by
  unfold cd
  rw [Nat.zero_add]
  exact Nat.div_eq_of_lt (by omega)
theorem cd_succ {p i : Nat} (hp : 1 ≤ p) : cd p (i + 1) = cd p i + if i % p = 0 then 1 else 0 := by
  unfold cd
  have h1 := Nat.div_add_mod i p
  have h2 := Nat.mod_lt i hp
  generalize hq : i / p = q at *
  generalize hr : i % p = r at *
  have e1 : i + 1 + p - 1 = p * (q + 1) + r := by rw [Nat.mul_add]; omega
  rw [e1, Nat.mul_add_div hp, Nat.div_eq_of_lt h2]
  split
  · rename_i h0
    have e2 : i + p - 1 = p * q + (p - 1) := by omega
    rw [e2, Nat.mul_add_div hp, Nat.div_eq_of_lt (by omega)]
  · have e2 : i + p - 1 = p * (q + 1) + (r - 1) := by rw [Nat.mul_add]; omega
    rw [e2, Nat.mul_add_div hp, Nat.div_eq_of_lt (by omega)]
theorem cd_le {p i : Nat} (hp : 1 ≤ p) : cd p i ≤ i := by
  induction i with
  | zero => rw [cd_zero hp]; omega
  | succ n ih => rw [cd_succ hp]; split <;> omega
end Go.Proofs.Ytefllbmopaiojaa.OI
