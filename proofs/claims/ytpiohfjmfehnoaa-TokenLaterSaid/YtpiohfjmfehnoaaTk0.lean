/- Layer 23: signs, their places, sums and numbers: plain facts. -/
import Derived.Test.YtpiohfjmfehnoaaT0
namespace Go.Proofs.Ytpiohfjmfehnoaa
open Go.RowKit

def SG : ByteArray := ⟨#[48, 49, 50, 51, 52, 53, 54, 55, 56, 57, 97, 98, 99, 100, 101, 102, 103, 104, 106, 107, 109, 110, 112, 113, 114, 115, 116, 117, 118, 119, 120]⟩
/-- The byte of a place. -/
def sgn (p : Nat) : Int := ([48, 49, 50, 51, 52, 53, 54, 55, 56, 57, 97, 98, 99, 100, 101, 102, 103, 104, 106, 107, 109, 110, 112, 113, 114, 115, 116, 117, 118, 119, 120] : List Int).getD p 0
/-- The place of a byte, or -1. -/
def pla (b : UInt8) : Int := Lib.indexByte SG.data.toList b
def pn (b : UInt8) : Nat := (pla b).toNat
/-- The text of some places. -/
def T (ps : List Nat) : ByteArray := strOfNums (ps.map sgn)
def ok31 (ps : List Nat) : Prop := ∀ p ∈ ps, p < 31
theorem pla_facts' : ∀ b : Fin 256, -1 ≤ pla (UInt8.ofNat b.1) ∧ pla (UInt8.ofNat b.1) < 31 ∧ (0 ≤ pla (UInt8.ofNat b.1) → sgn (pn (UInt8.ofNat b.1)) = b.1) := by decide +kernel
theorem pla_facts (b : UInt8) : -1 ≤ pla b ∧ pla b < 31 ∧ (0 ≤ pla b → sgn (pn b) = b.toNat) := by
  have h := pla_facts' ⟨b.toNat, b.toNat_lt⟩
  simpa using h
theorem sgn_facts' : ∀ p : Fin 31, 0 ≤ sgn p.1 ∧ sgn p.1 < 256 ∧ pla (sgn p.1).toNat.toUInt8 = p.1 ∧ SG.extract p.1 (p.1 + 1) = T [p.1] := by decide +kernel
theorem sgn_facts {p : Nat} (h : p < 31) : 0 ≤ sgn p ∧ sgn p < 256 ∧ pla (sgn p).toNat.toUInt8 = p ∧ SG.extract p (p + 1) = T [p] := sgn_facts' ⟨p, h⟩
theorem sgn_at' : ∀ p : Fin 31, ∀ h : p.1 < SG.size, (SG[p.1]'h).toNat = (sgn p.1).toNat := by decide +kernel
theorem sgn_inj' : ∀ p q : Fin 31, (sgn p.1 < sgn q.1 ↔ p.1 < q.1) := by decide +kernel
theorem sgn_lt {p q : Nat} (hp : p < 31) (hq : q < 31) : sgn p < sgn q ↔ p < q := sgn_inj' ⟨p, hp⟩ ⟨q, hq⟩
theorem sgn_inj {p q : Nat} (hp : p < 31) (hq : q < 31) (h : sgn p = sgn q) : p = q := by
  have h1 := sgn_lt hp hq
  have h2 := sgn_lt hq hp
  omega
theorem sgn_zero {p : Nat} (hp : p < 31) : sgn p = 48 ↔ p = 0 := by
  constructor
  · intro h; exact sgn_inj hp (by omega) (h.trans (by rfl))
  · rintro rfl; rfl

theorem T_data (ps : List Nat) : (T ps).data.toList = ps.map fun p => (sgn p).toNat.toUInt8 := by rw [T, strOfNums_data, List.map_map]; rfl
theorem T_size (ps : List Nat) : (T ps).size = ps.length := by rw [Lib.size_eq, T_data, List.length_map]
theorem T_append (ps qs : List Nat) : T ps ++ T qs = T (ps ++ qs) := by rw [T, T, str_append, ← List.map_append]; rfl
theorem T_extract (ps : List Nat) (i j : Nat) : (T ps).extract i j = T ((ps.drop i).take (j - i)) := by rw [T, str_sub, ← List.map_drop, ← List.map_take]; rfl
theorem T_at (ps : List Nat) (hp : ok31 ps) (k : Nat) (h : k < ps.length) : at_ (T ps) k = (sgn ps[k]).toNat := by
  rw [at_, T_data, List.getD_eq_getElem?_getD, List.getElem?_map, List.getElem?_eq_getElem h]
  have := sgn_facts (hp ps[k] (List.getElem_mem h))
  simp
  omega
theorem T_inj {ps qs : List Nat} (hp : ok31 ps) (hq : ok31 qs) (h : T ps = T qs) : ps = qs := by
  have h1 := str_inj (l := ps.map sgn) (m := qs.map sgn) (by intro x hx; obtain ⟨p, hp', rfl⟩ := List.mem_map.1 hx; exact ⟨(sgn_facts (hp p hp')).1, (sgn_facts (hp p hp')).2.1⟩) (by intro x hx; obtain ⟨p, hp', rfl⟩ := List.mem_map.1 hx; exact ⟨(sgn_facts (hq p hp')).1, (sgn_facts (hq p hp')).2.1⟩) h
  clear h
  induction ps generalizing qs with
  | nil => cases qs with
    | nil => rfl
    | cons q qs => simp at h1
  | cons p ps ih => cases qs with
    | nil => simp at h1
    | cons q qs =>
      rw [List.map_cons, List.map_cons, List.cons.injEq] at h1
      rw [sgn_inj (hp p (by simp)) (hq q (by simp)) h1.1, ih (fun x hx => hp x (by simp [hx])) (fun x hx => hq x (by simp [hx])) h1.2]
/-- All bytes of a text are signs. -/
def Sg (S : ByteArray) : Prop := ∀ b ∈ S.data.toList, 0 ≤ pla b
def P (S : ByteArray) : List Nat := S.data.toList.map pn
theorem P_ok (S : ByteArray) : ok31 (P S) := by
  intro p hp
  obtain ⟨b, hb, rfl⟩ := List.mem_map.1 hp
  have := pla_facts b
  unfold pn
  omega
theorem P_len (S : ByteArray) : (P S).length = S.size := by rw [P, List.length_map, Lib.size_eq]
theorem T_P {S : ByteArray} (h : Sg S) : T (P S) = S := by
  apply data_ext
  rw [T_data, P, List.map_map]
  conv => rhs; rw [← List.map_id S.data.toList]
  apply List.map_congr_left
  intro b hb
  have h1 := (pla_facts b).2.2 (h b hb)
  rw [Function.comp, h1]
  simp
theorem P_T {ps : List Nat} (hp : ok31 ps) : P (T ps) = ps := by
  rw [P, T_data, List.map_map]
  conv => rhs; rw [← List.map_id ps]
  apply List.map_congr_left
  intro p h
  rw [Function.comp, pn, (sgn_facts (hp p h)).2.2.1]
  simp
theorem Sg_T {ps : List Nat} (hp : ok31 ps) : Sg (T ps) := by
  intro b hb
  rw [T_data] at hb
  obtain ⟨p, h, rfl⟩ := List.mem_map.1 hb
  rw [(sgn_facts (hp p h)).2.2.1]
  omega

/-! Sums. -/
def ws (k : Nat) : List Nat → Nat
  | [] => 0
  | p :: l => k * p + ws (k + 1) l
theorem ws_append (k : Nat) (a b : List Nat) : ws k (a ++ b) = ws k a + ws (k + a.length) b := by
  induction a generalizing k with
  | nil => simp [ws]
  | cons p a ih => simp only [List.cons_append, ws, ih, List.length_cons]; rw [show k + 1 + a.length = k + (a.length + 1) by omega]; omega
theorem ws_snoc (k : Nat) (a : List Nat) (p : Nat) : ws k (a ++ [p]) = ws k a + (k + a.length) * p := by rw [ws_append]; simp [ws]
theorem ws_take (a : List Nat) (k : Nat) (h : k < a.length) : ws 1 (a.take (k + 1)) = ws 1 (a.take k) + (k + 1) * a[k] := by
  rw [List.take_add_one, List.getElem?_eq_getElem h, Option.toList_some, ws_snoc, List.length_take, Nat.min_eq_left (by omega), Nat.add_comm 1 k]
theorem ws_bound (k : Nat) (a : List Nat) (h : ok31 a) (n : Nat) (hn : k + a.length ≤ n) : ws k a ≤ 31 * n * a.length := by
  induction a generalizing k with
  | nil => simp [ws]
  | cons p a ih =>
    have h1 := ih (k + 1) (fun x hx => h x (by simp [hx])) (by rw [List.length_cons] at hn; omega)
    have h2 : k * p ≤ n * 31 := Nat.mul_le_mul (by rw [List.length_cons] at hn; omega) (by have := h p (by simp); omega)
    rw [ws, List.length_cons, Nat.mul_succ]
    omega
theorem ws_set (k : Nat) (a : List Nat) (i q : Nat) (h : i < a.length) : ws k (a.set i q) + (k + i) * a[i] = ws k a + (k + i) * q := by
  induction a generalizing k i with
  | nil => simp at h
  | cons p a ih => cases i with
    | zero => simp [ws]; omega
    | succ i =>
      have := ih (k + 1) i (by simpa using h)
      simp only [List.set_cons_succ, ws, List.getElem_cons_succ]
      rw [show k + (i + 1) = k + 1 + i by omega]
      omega

theorem inv31' : ∀ m : Fin 31, 0 < m.1 → ∃ c : Fin 31, (c.1 * m.1) % 31 = 1 := by decide +kernel
theorem mul31 {m p q : Nat} (h0 : 0 < m) (hm : m < 31) (hp : p < 31) (hq : q < 31) (h : (m * p) % 31 = (m * q) % 31) : p = q := by
  obtain ⟨c, hc⟩ := inv31' ⟨m, hm⟩ h0
  have key : ∀ x, x < 31 → (c.1 * ((m * x) % 31)) % 31 = x := by
    intro x hx
    rw [Nat.mul_mod, Nat.mod_mod, ← Nat.mul_mod, ← Nat.mul_assoc, Nat.mul_mod, hc, Nat.one_mul, Nat.mod_mod, Nat.mod_eq_of_lt hx]
  rw [← key p hp, ← key q hq, h]
def finR (m r : Nat) : Nat := ((List.range 31).find? fun l => (r + m * l) % 31 == 0).getD 0
theorem finR' : ∀ m r : Fin 31, 0 < m.1 → finR m.1 r.1 < 31 ∧ (r.1 + m.1 * finR m.1 r.1) % 31 = 0 := by decide +kernel
/-- The one sign that makes a text right. -/
def fin (ps : List Nat) : Nat := finR (ps.length + 1) (ws 1 ps % 31)
theorem fin_lt {ps : List Nat} (h : ps.length < 30) : fin ps < 31 := (finR' ⟨ps.length + 1, by omega⟩ ⟨ws 1 ps % 31, Nat.mod_lt _ (by decide)⟩ (by simp)).1
theorem fin_right {ps : List Nat} (h : ps.length < 30) : ws 1 (ps ++ [fin ps]) % 31 = 0 := by
  have h1 := (finR' ⟨ps.length + 1, by omega⟩ ⟨ws 1 ps % 31, Nat.mod_lt _ (by decide)⟩ (by simp)).2
  rw [ws_snoc, fin, Nat.add_comm 1 ps.length]
  simp only at h1
  omega
theorem fin_one {ps : List Nat} {l : Nat} (h : ps.length < 30) (hl : l < 31) (hr : ws 1 (ps ++ [l]) % 31 = 0) : l = fin ps := by
  have h1 := fin_right h
  rw [ws_snoc] at h1 hr
  refine mul31 (m := 1 + ps.length) (by omega) (by omega) hl (fin_lt h) ?_
  generalize (1 + ps.length) * l = x at *
  generalize (1 + ps.length) * fin ps = y at *
  omega
theorem slip_set {ps : List Nat} (hp : ok31 ps) (hl : ps.length ≤ 30) (h0 : ws 1 ps % 31 = 0) (i q : Nat) (hi : i < ps.length) (hq : q < 31) (hne : q ≠ ps[i]) : ws 1 (ps.set i q) % 31 ≠ 0 := by
  intro h
  have h1 := ws_set 1 ps i q hi
  apply hne
  refine mul31 (m := 1 + i) (by omega) (by omega) hq (hp _ (List.getElem_mem hi)) ?_
  generalize (1 + i) * q = x at *
  generalize (1 + i) * ps[i] = y at *
  omega
theorem slip_swap {ps : List Nat} (hp : ok31 ps) (h0 : ws 1 ps % 31 = 0) (i : Nat) (hi : i + 1 < ps.length) (hne : ps[i] ≠ ps[i + 1]) : ws 1 ((ps.set i ps[i + 1]).set (i + 1) ps[i]) % 31 ≠ 0 := by
  intro h
  have h1 := ws_set 1 ps i ps[i + 1] (by omega)
  have h2 := ws_set 1 (ps.set i ps[i + 1]) (i + 1) ps[i] (by simpa using hi)
  have h3 : (ps.set i ps[i + 1])[i + 1]'(by simpa using hi) = ps[i + 1] := by rw [List.getElem_set_ne (by omega)]
  rw [h3] at h2
  have a := hp _ (List.getElem_mem (h := (by omega : i < ps.length)))
  have b := hp _ (List.getElem_mem hi)
  generalize ps[i + 1] = q at *
  generalize ps[i] = p at *
  rw [show 1 + (i + 1) = (1 + i) + 1 by omega, Nat.succ_mul, Nat.succ_mul] at h2
  omega

/-! Numbers with the base 31. -/
def dg (n : Nat) : List Nat := if _h : n = 0 then [] else dg (n / 31) ++ [n % 31]
termination_by n
decreasing_by omega
theorem dg_zero : dg 0 = [] := by rw [dg]; rfl
theorem dg_pos {n : Nat} (h : 0 < n) : dg n = dg (n / 31) ++ [n % 31] := by rw [dg, dif_neg (by omega)]
theorem dg_ok (n : Nat) : ok31 (dg n) := by
  induction n using Nat.strongRecOn with
  | ind n ih =>
    rcases Nat.eq_zero_or_pos n with rfl | h
    · rw [dg_zero]; intro p hp; simp at hp
    · rw [dg_pos h]
      intro p hp
      rcases List.mem_append.1 hp with hp | hp
      · exact ih (n / 31) (by omega) p hp
      · simp at hp; omega
def num (a : Nat) : List Nat → Nat
  | [] => a
  | p :: l => num (a * 31 + p) l
theorem num_append (a : Nat) (l m : List Nat) : num a (l ++ m) = num (num a l) m := by
  induction l generalizing a with
  | nil => rfl
  | cons p l ih => exact ih _
theorem num_snoc (a : Nat) (l : List Nat) (p : Nat) : num a (l ++ [p]) = num a l * 31 + p := by rw [num_append]; rfl
theorem num_ge (a : Nat) (l : List Nat) : a ≤ num a l := by
  induction l generalizing a with
  | nil => exact Nat.le_refl _
  | cons p l ih => exact Nat.le_trans (by omega) (ih _)
theorem num_dg (n : Nat) : num 0 (dg n) = n := by
  induction n using Nat.strongRecOn with
  | ind n ih =>
    rcases Nat.eq_zero_or_pos n with rfl | h
    · rw [dg_zero]; rfl
    · rw [dg_pos h, num_snoc, ih (n / 31) (by omega)]; omega
theorem dg_len (n k : Nat) (h : n < 31 ^ k) : (dg n).length ≤ k := by
  induction k generalizing n with
  | zero => simp at h; subst h; rw [dg_zero]; simp
  | succ k ih =>
    rcases Nat.eq_zero_or_pos n with rfl | h0
    · rw [dg_zero]; simp
    · rw [dg_pos h0, List.length_append]
      have := ih (n / 31) (by rw [Nat.pow_succ] at h; exact Nat.div_lt_of_lt_mul (by rw [Nat.mul_comm]; exact h))
      simp
      exact this
theorem dg_head (n : Nat) (h : 0 < n) : ∃ p l, dg n = p :: l ∧ 0 < p := by
  induction n using Nat.strongRecOn with
  | ind n ih =>
    rw [dg_pos h]
    rcases Nat.eq_zero_or_pos (n / 31) with h0 | h0
    · rw [h0, dg_zero]; exact ⟨n % 31, [], rfl, by omega⟩
    · obtain ⟨p, l, hd, hp⟩ := ih (n / 31) (by omega) h0
      rw [hd]
      exact ⟨p, l ++ [n % 31], rfl, hp⟩
theorem num_pos {p : Nat} (hp : 0 < p) (l : List Nat) : 0 < num 0 (p :: l) := by
  have := num_ge (0 * 31 + p) l
  show 0 < num (0 * 31 + p) l
  omega
theorem snoc_ind {α : Type} {C : List α → Prop} (h0 : C []) (h1 : ∀ l x, C l → C (l ++ [x])) (l : List α) : C l := by
  have : ∀ l : List α, C l.reverse := by
    intro l
    induction l with
    | nil => exact h0
    | cons x l ih => rw [List.reverse_cons]; exact h1 _ _ ih
  have h := this l.reverse
  rwa [List.reverse_reverse] at h
theorem dg_num (l : List Nat) (hl : ok31 l) (hh : l.head? ≠ some 0) : dg (num 0 l) = l := by
  induction l using snoc_ind with
  | h0 => exact dg_zero
  | h1 l p ih =>
    have hp : p < 31 := hl p (by simp)
    rw [num_snoc]
    cases l with
    | nil =>
      have h0 : 0 < p := by rcases Nat.eq_zero_or_pos p with rfl | h; · simp at hh
                            · exact h
      show dg (0 * 31 + p) = _
      rw [Nat.zero_mul, Nat.zero_add, dg_pos h0, Nat.div_eq_of_lt hp, dg_zero, Nat.mod_eq_of_lt hp]
    | cons q l =>
      have hq : 0 < q := by rcases Nat.eq_zero_or_pos q with rfl | h; · simp at hh
                            · exact h
      have hn := num_pos hq l
      rw [dg_pos (by omega), show (num 0 (q :: l) * 31 + p) / 31 = num 0 (q :: l) by omega, show (num 0 (q :: l) * 31 + p) % 31 = p by omega, ih (fun x hx => hl x (by simp at hx ⊢; rcases hx with h | h <;> simp [h])) (by simpa using hh)]
/-- What a text's number is read as: some one above 2^50, if it is above that. -/
def vl (a : Nat) : List Nat → Nat
  | [] => a
  | p :: l => if 1125899906842624 < a then a else vl (a * 31 + p) l
theorem vl_num (a : Nat) (l : List Nat) : (vl a l ≤ 1125899906842624 → vl a l = num a l) ∧ (1125899906842624 < vl a l → 1125899906842624 < num a l) := by
  induction l generalizing a with
  | nil => exact ⟨fun _ => rfl, id⟩
  | cons p l ih =>
    rw [vl]
    split
    · rename_i h
      refine ⟨fun h1 => absurd h (by omega), fun _ => ?_⟩
      have := num_ge a (p :: l)
      omega
    · exact ih _
end Go.Proofs.Ytpiohfjmfehnoaa
