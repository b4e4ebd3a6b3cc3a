/- FrameAffine: the sums of three payloads of one length, taken together bit by bit, are the sum of the payloads taken together so. -/
import Derived.Test.YtojkegnflbfloaaAffReg
import Derived.BigRegion
import Derived.Deep.RegionHeld3
namespace Go.Proofs.Ytojkegnflbfloaa.Mt

theorem step_xor (x y : Nat) : step (x ^^^ y) = step x ^^^ step y := by
  unfold step
  rw [xor_half, xor_low]
  rcases Nat.mod_two_eq_zero_or_one x with hx | hx <;> rcases Nat.mod_two_eq_zero_or_one y with hy | hy <;> simp only [hx, hy]
  · simp
  · simp [Nat.xor_assoc]
  · simp [Nat.xor_assoc, Nat.xor_comm (y / 2)]
  · simp only [Nat.reduceAdd, Nat.reduceMod, if_true, Nat.reduceEqDiff, if_false]
    rw [Nat.xor_assoc, ← Nat.xor_assoc 2197175160 (y / 2), Nat.xor_comm 2197175160 (y / 2), Nat.xor_assoc (y / 2), Nat.xor_self, Nat.xor_zero]
theorem steps_xor (k x y : Nat) : steps k (x ^^^ y) = steps k x ^^^ steps k y := by
  induction k with
  | zero => rfl
  | succ k ih => rw [steps, ih, step_xor]; rfl
theorem stir_xor (s t x y : Nat) : stir (s ^^^ t) (x ^^^ y) = stir s x ^^^ stir t y := by
  unfold stir
  rw [← steps_xor]
  congr 1
  rw [Nat.xor_assoc, Nat.xor_assoc, ← Nat.xor_assoc t, Nat.xor_comm t x, Nat.xor_assoc x]

/-- Three lists taken together, item by item. -/
def xor3 (a b c : List Int) (i : Nat) : Nat := ((a.getD i 0).toNat ^^^ (b.getD i 0).toNat) ^^^ (c.getD i 0).toNat
def xorAll (a b c : List Int) (n : Nat) : List Int := (List.range n).map fun i => ((xor3 a b c i : Nat) : Int)
theorem crc_xor (a b c : List Int) (r s t : Nat) : ∀ n, n ≤ a.length → n ≤ b.length → n ≤ c.length → crc ((r ^^^ s) ^^^ t) (xorAll a b c n) = (crc r (a.take n) ^^^ crc s (b.take n)) ^^^ crc t (c.take n) := by
  intro n
  induction n with
  | zero => intro _ _ _; simp [xorAll, crc]
  | succ n ih =>
    intro ha hb hc
    have e : xorAll a b c (n + 1) = xorAll a b c n ++ [((xor3 a b c n : Nat) : Int)] := by simp [xorAll, List.range_succ]
    rw [e, crc_snoc, ih (by omega) (by omega) (by omega), crc_take a n _ (by omega), crc_take b n _ (by omega), crc_take c n _ (by omega), Int.toNat_natCast, xor3, stir_xor, stir_xor]
theorem sum_xor (a b c : List Int) (n : Nat) (ha : n ≤ a.length) (hb : n ≤ b.length) (hc : n ≤ c.length) (xa : ∀ x ∈ a, 0 ≤ x ∧ x < 256) (xb : ∀ x ∈ b, 0 ≤ x ∧ x < 256) (xc : ∀ x ∈ c, 0 ≤ x ∧ x < 256) :
    (sum (a.take n) ^^^ sum (b.take n)) ^^^ sum (c.take n) = sum (xorAll a b c n) := by
  have hm := crc_xor a b c 4294967295 4294967295 4294967295 n ha hb hc
  have l1 := crc_lt (a.take n) 4294967295 (by omega) (fun x hx => xa x (List.mem_of_mem_take hx))
  have l2 := crc_lt (b.take n) 4294967295 (by omega) (fun x hx => xb x (List.mem_of_mem_take hx))
  have l3 := crc_lt (c.take n) 4294967295 (by omega) (fun x hx => xc x (List.mem_of_mem_take hx))
  rw [Nat.xor_self, Nat.zero_xor] at hm
  have l4 : crc 4294967295 (xorAll a b c n) < 4294967296 := by
    rw [hm]
    exact Nat.xor_lt_two_pow (n := 32) (Nat.xor_lt_two_pow (n := 32) (by omega) (by omega)) (by omega)
  unfold sum
  rw [← not32 _ l1, ← not32 _ l2, ← not32 _ l3, ← not32 _ l4, hm]
  generalize crc 4294967295 (a.take n) = x
  generalize crc 4294967295 (b.take n) = y
  generalize crc 4294967295 (c.take n) = z
  generalize 4294967295 = m
  have h1 : (m ^^^ x) ^^^ (m ^^^ y) = x ^^^ y := by
    rw [Nat.xor_comm m x, Nat.xor_assoc, ← Nat.xor_assoc m m y, Nat.xor_self, Nat.zero_xor]
  rw [h1, ← Nat.xor_assoc (x ^^^ y), Nat.xor_comm (x ^^^ y) m, Nat.xor_assoc]
theorem xor3_lt (a b c : List Int) (i : Nat) (ha : i < a.length) (hb : i < b.length) (hc : i < c.length) (xa : ∀ x ∈ a, 0 ≤ x ∧ x < 256) (xb : ∀ x ∈ b, 0 ≤ x ∧ x < 256) (xc : ∀ x ∈ c, 0 ≤ x ∧ x < 256) : xor3 a b c i < 256 := by
  have h1 := xa _ (getD_mem a i ha)
  have h2 := xb _ (getD_mem b i hb)
  have h3 := xc _ (getD_mem c i hc)
  exact Nat.xor_lt_two_pow (n := 8) (Nat.xor_lt_two_pow (n := 8) (by omega) (by omega)) (by omega)
end Go.Proofs.Ytojkegnflbfloaa.Mt
namespace Go.Proofs.Ytojkegnflbfloaa
open Go.RowKit

/-- What d holds after k rounds. -/
def dk (a b c : List Int) (n k : Nat) : List Int := (List.range n).map fun i => if i < k then ((Mt.xor3 a b c i : Nat) : Int) else 0
theorem dk_zero (a b c : List Int) (n : Nat) : (dk a b c n 0).map (Value.int .u8) = List.replicate n (.int .u8 0) := by
  apply List.ext_getElem?
  intro i
  simp [dk, List.getElem?_replicate]
  split <;> simp_all
theorem dk_all (a b c : List Int) (n : Nat) : dk a b c n n = Mt.xorAll a b c n := by
  apply List.map_congr_left
  intro i hi
  rw [if_pos (List.mem_range.1 hi)]
theorem dk_set (a b c : List Int) (n k : Nat) (hk : k < n) : ((dk a b c n k).map (Value.int .u8)).set k (.int .u8 ((Mt.xor3 a b c k : Nat))) = (dk a b c n (k + 1)).map (Value.int .u8) := by
  apply List.ext_getElem?
  intro i
  rw [List.getElem?_set]
  by_cases h : k = i
  · subst h
    simp [dk, hk]
  · rw [if_neg h]
    rcases Nat.lt_or_ge i n with hi | hi
    · simp only [dk, List.getElem?_map, List.getElem?_range hi, Option.map_some]
      by_cases h2 : i < k
      · rw [if_pos h2, if_pos (by omega)]
      · rw [if_neg h2, if_neg (by omega)]
    · rw [List.getElem?_eq_none (by simp [dk]; omega), List.getElem?_eq_none (by simp [dk]; omega)]

/-- A call of Sum with one part, in whatever world behind this one. -/
theorem sum_one {wr : World} {v : Value} {xs : List Int} (hv : IsV wr v xs) : ∀ (W : World) (b : Nat), Below wr.heap.size wr W → W.cell? ⟨b, 0, none⟩ = some v →
    Calls Try.prog 13 #[.slice (some ⟨b, 0, none⟩) 1 1] W fun e w' => e = .returned (.int .u32 (Mt.sum xs : Nat)) ∧ W = w' := by
  intro W b hb hc
  have hp : Parts W b 1 [xs] := by
    refine ⟨rfl, by simp [maxLen], fun i hi => ?_⟩
    obtain rfl : i = 0 := by omega
    obtain ⟨a, n, c, h1, h2, h3⟩ := hv
    exact ⟨v, hc, a, n, c, h1, h2, h3.below hb⟩
  have := sum_any b 1 1 [xs] W hp
  simpa using this

set_option maxHeartbeats 16000000 in
theorem affine_core (a1 a2 a3 : Option Addr) (n1 c1 n2 c2 n3 c3 n : Nat) (x1 x2 x3 : List Int) (w : World) (h1 : IsB w a1 n1 x1) (h2 : IsB w a2 n2 x2) (h3 : IsB w a3 n3 x3)
    (k1 : n1 ≤ c1) (k2 : n2 ≤ c2) (k3 : n3 ≤ c3) (r1 : c1 ≤ 140737488351232) (e1 : n ≤ n1) (e2 : n ≤ n2) (e3 : n ≤ n3) (e4 : n = n1 ∨ n = n2 ∨ n = n3) :
    Calls Try.prog 8 #[.slice a1 n1 c1, .slice a2 n2 c2, .slice a3 n3 c3] w fun e w' => e = .returned (.bool true) ∧ Below w.heap.size w w' := by
  obtain ⟨i0, hi, hz0, hz1, hz2⟩ := info_parts Try.infoB
  have H1 := Lib.hid h1
  have H2 := Lib.hid h2
  have H3 := Lib.hid h3
  clear h1 h2 h3
  have hmin : ∀ (ts : Array TypeId) (t : TypeId) (W : World), (Builtin.min_ ts t #[.int .i64 (n1 : Int), .int .i64 (n2 : Int), .int .i64 (n3 : Int)]).run Try.prog W = .ok (.int .i64 (n : Int)) W := by
    intro ts t W
    simp [Builtin.min_, Builtin.min2]
    split <;> split <;> omega
  have HE4 := Lib.hid e4
  clear e4
  go_enter Try.func8, Try.ntmps8
  go_wp2_with fail
  refine (awake_any w).mono ?_
  rintro e w1 ⟨rfl, hb1⟩
  have hsz1 := hb1.size
  have HB1 := Lib.hid hb1
  clear hb1
  go_wp2_with (at_make; refine wpList_make_full _ rfl _ _ 22 rfl w.heap.size 5 i0 (.int .u8 0) 1 Try.underlying22 hi hz0 hz1 .i64 .i64 (n : Int) (n : Int) n rfl rfl rfl rfl (by rw [hz2]; omega) (by unfold maxLen; omega) hsz1 ?_; intro w2 hown2 hgrow2)
  have e0 : (madeCells (Value.int .u8 0).cells (n * 1)).toList = (dk x1 x2 x3 n 0).map (Value.int .u8) := by
    rw [dk_zero, Nat.mul_one]
    exact toList_madeCells_one (.int .u8 0) n
  rw [e0] at hown2
  have hb2 := HB1.out.grown hgrow2 hsz1 (by intro k hk; cases hk)
  have hxb1 := H1.out.2.1
  have hxb2 := H2.out.2.1
  have hxb3 := H3.out.2.1
  have hl1 := H1.out.1
  have hl2 := H2.out.1
  have hl3 := H3.out.1
  have HXB1 := Lib.hid hxb1
  have HXB2 := Lib.hid hxb2
  have HXB3 := Lib.hid hxb3
  have HL1 := Lib.hid hl1
  have HL2 := Lib.hid hl2
  have HL3 := Lib.hid hl3
  generalize hG : w1.heap.size = g at *
  clear e0 hgrow2 hmin hxb1 hxb2 hxb3 hl1 hl2 hl3 hsz1 hG
  go_loopw [23] (fun v wr => ∃ k : Nat, k ≤ n ∧ v = .int .i64 k ∧ wr.ownsRow w.heap.size 5 1 (.slice (some ⟨g, 0, none⟩) n n) n ((dk x1 x2 x3 n k).map (Value.int .u8)) ∧ Below w.heap.size w wr)
    (fun v _ => n - (intOf v).toNat)
  case atStart => exact ⟨0, by omega, rfl, hown2, hb2⟩
  case round =>
    clear hown2 hb2
    obtain ⟨k, hk, rfl, hown, hbel⟩ := hrel
    by_cases hkn : k < n
    · obtain ⟨b1, o1, rfl, hc1⟩ := (H1.out.below hbel).2.2.resolve_left (by omega)
      obtain ⟨b2, o2, rfl, hc2⟩ := (H2.out.below hbel).2.2.resolve_left (by omega)
      obtain ⟨b3, o3, rfl, hc3⟩ := (H3.out.below hbel).2.2.resolve_left (by omega)
      have d1 := hc1 k (by omega)
      have d2 := hc2 k (by omega)
      have d3 := hc3 k (by omega)
      have y1 := HXB1.out _ (Mt.getD_mem x1 k (by have := HL1.out; omega))
      have y2 := HXB2.out _ (Mt.getD_mem x2 k (by have := HL2.out; omega))
      have y3 := HXB3.out _ (Mt.getD_mem x3 k (by have := HL3.out; omega))
      have hq := dk_set x1 x2 x3 n k hkn
      have hq2 : Mt.xor3 x1 x2 x3 k = ((x1.getD k 0).toNat ^^^ (x2.getD k 0).toNat) ^^^ (x3.getD k 0).toNat := rfl
      have hfr := hown.frozenAt k
      have hdc := hown.cellAt k (by omega)
      obtain ⟨v0, hv0⟩ : ∃ v0, ((dk x1 x2 x3 n k).map (Value.int .u8))[k]? = some v0 := ⟨_, by simp [dk, hkn]; rfl⟩
      rw [hv0] at hdc
      have hst := (hown.stored k (.int .u8 ((Mt.xor3 x1 x2 x3 k : Nat)))).1
      rw [hq] at hst
      have hbs := hbel.setCell (p := ⟨g, k, none⟩) (hown.lt g rfl).1 (.int .u8 ((Mt.xor3 x1 x2 x3 k : Nat)))
      obtain ⟨p1, hp1⟩ : ∃ p : Nat, x1.getD k 0 = (p : Int) := ⟨_, (Int.toNat_of_nonneg y1.1).symm⟩
      obtain ⟨p2, hp2⟩ : ∃ p : Nat, x2.getD k 0 = (p : Int) := ⟨_, (Int.toNat_of_nonneg y2.1).symm⟩
      obtain ⟨p3, hp3⟩ : ∃ p : Nat, x3.getD k 0 = (p : Int) := ⟨_, (Int.toNat_of_nonneg y3.1).symm⟩
      rw [hp1] at d1 y1
      rw [hp2] at d2 y2
      rw [hp3] at d3 y3
      rw [hp1, hp2, hp3] at hq2
      simp only [Int.toNat_natCast] at hq2
      have hlt : p1 ^^^ p2 < 256 := Nat.xor_lt_two_pow (n := 8) (by omega) (by omega)
      have bx1 : bits .xor .u8 (p1 : Int) (p2 : Int) = ((p1 ^^^ p2 : Nat) : Int) := u8_xor_nat p1 p2 (by omega) (by omega)
      have bx2 : bits .xor .u8 ((p1 ^^^ p2 : Nat) : Int) (p3 : Int) = ((Mt.xor3 x1 x2 x3 k : Nat) : Int) := by rw [hq2]; exact u8_xor_nat (p1 ^^^ p2) p3 hlt (by omega)
      have HST := Lib.hid hst
      have HBS := Lib.hid hbs
      generalize Mt.xor3 x1 x2 x3 k = q at *
      generalize p1 ^^^ p2 = p4 at *
      have i1 : (k : Int) < (n1 : Int) := by omega
      have i2 : (k : Int) < (n2 : Int) := by omega
      have i3 : (k : Int) < (n3 : Int) := by omega
      have i4 : (k : Int) < (n : Int) := by omega
      have i5 : (0 : Int) ≤ (k : Int) := by omega
      clear hc1 hc2 hc3 y1 y2 y3 hq hq2 hst hbs hp1 hp2 hp3 hown hbel hv0 hlt
      go_wp2_with fail
      go_region
      go_wp2
      go_roundw
      case rel => exact ⟨k + 1, by omega, by go_num, HST.out, HBS.out.trans ⟨rfl, rfl, rfl, Nat.le_refl _, fun _ _ => rfl⟩⟩
      case measure => simp [intOf]; omega
    · have hkn' : k = n := by omega
      rw [hkn', dk_all] at hown
      have hgs := hown.lt g rfl
      have hxall : ∀ x ∈ Mt.xorAll x1 x2 x3 n, 0 ≤ x ∧ x < 256 := by
        intro x hx
        obtain ⟨i, hi2, rfl⟩ := List.mem_map.1 hx
        have hi3 := List.mem_range.1 hi2
        have := Mt.xor3_lt x1 x2 x3 i (by rw [HL1.out]; omega) (by rw [HL2.out]; omega) (by rw [HL3.out]; omega) HXB1.out HXB2.out HXB3.out
        omega
      have hm := Mt.sum_xor x1 x2 x3 n (by rw [HL1.out]; omega) (by rw [HL2.out]; omega) (by rw [HL3.out]; omega) HXB1.out HXB2.out HXB3.out
      have vd : IsV wr (.slice (some ⟨g, 0, none⟩) n n) (Mt.xorAll x1 x2 x3 n) := ⟨_, _, _, rfl, by unfold maxLen; omega, IsB.owned hown hxall⟩
      have va : IsV wr (.slice a1 n c1) (x1.take n) := ⟨_, _, _, rfl, by unfold maxLen; omega, (H1.out.below hbel).head n e1⟩
      have vb : IsV wr (.slice a2 n c2) (x2.take n) := ⟨_, _, _, rfl, by unfold maxLen; omega, (H2.out.below hbel).head n e2⟩
      have vc : IsV wr (.slice a3 n c3) (x3.take n) := ⟨_, _, _, rfl, by unfold maxLen; omega, (H3.out.below hbel).head n e3⟩
      have s1 := fun w => slice_head a1 n1 c1 n (by omega) w
      have s2 := fun w => slice_head a2 n2 c2 n (by omega) w
      have s3 := fun w => slice_head a3 n3 c3 n (by omega) w
      have t1 := sum_lt (x1.take n)
      have t2 := sum_lt (x2.take n)
      have t3 := sum_lt (x3.take n)
      have F1 := Lib.hid (sum_one va)
      have F2 := Lib.hid (sum_one vb)
      have F3 := Lib.hid (sum_one vc)
      have F4 := Lib.hid (sum_one vd)
      have HBW := Lib.hid hbel
      rw [← hm] at F4
      generalize Mt.sum (x1.take n) = T1 at *
      generalize Mt.sum (x2.take n) = T2 at *
      generalize Mt.sum (x3.take n) = T3 at *
      have t4 : T1 ^^^ T2 < 4294967296 := Nat.xor_lt_two_pow (n := 32) (by omega) (by omega)
      have bx1 : bits .xor .u32 (T1 : Int) (T2 : Int) = ((T1 ^^^ T2 : Nat) : Int) := xor32 T1 T2 t1 t2
      have bx2 : bits .xor .u32 ((T1 ^^^ T2 : Nat) : Int) (T3 : Int) = (((T1 ^^^ T2) ^^^ T3 : Nat) : Int) := xor32 (T1 ^^^ T2) T3 t4 t3
      generalize (T1 ^^^ T2) ^^^ T3 = T4 at *
      generalize T1 ^^^ T2 = T5 at *
      clear hown hxall hm vd va vb vc t1 t2 t3 t4 hbel hkn' hgs
      go_wp2_with fail
      refine wp_region_held_drew (S := fun _ => True) (by kernel_rfl) trivial (fun hHeld => ?_)
      refine wpAnyH_take (i := 0) (oi := { dst := some 44, op := Go.Op.move (Go.Operand.tmp 0), type := 22, pos :=  "law.go:148", after := #[], guard := none }) (v := ?_) rfl (by kernel_rfl) (by kernel_rfl) (by kernel_rfl) (fun _ _ _ h => h) (Or.inl ⟨by rfl, ?_⟩) (by assumption) ?_
      rotate_left
      · intro w hSw; go_simp; all_goals (with_reducible rfl)
      try simp only [Act.put, List.setIfInBounds_toArray, List.set_cons_zero, List.set_cons_succ]
      refine wpAnyH_take (i := 1) (oi := { dst := some 45, op := Go.Op.move (Go.Operand.tmp 7), type := 3, pos :=  "law.go:148", after := #[], guard := none }) (v := ?_) rfl (by kernel_rfl) (by kernel_rfl) (by kernel_rfl) (fun _ _ _ h => h) (Or.inl ⟨by rfl, ?_⟩) (by assumption) ?_
      rotate_left
      · intro w hSw; go_simp; all_goals (with_reducible rfl)
      try simp only [Act.put, List.setIfInBounds_toArray, List.set_cons_zero, List.set_cons_succ]
      refine wpAnyH_take (i := 2) (oi := { dst := some 46, op := Go.Op.slice 22 (Go.Operand.tmp 44) none (some (Go.Operand.tmp 45)) none, type := 22, pos :=  "law.go:148", after := #[{ on := 0, ground := Go.Ground.data }, { on := 1, ground := Go.Ground.data }], guard := none }) (v := ?_) rfl (by kernel_rfl) (by kernel_rfl) (by kernel_rfl) (fun _ _ _ h => h) (Or.inl ⟨by rfl, ?_⟩) (by assumption) ?_
      rotate_left
      · intro w hSw; go_simp; all_goals (with_reducible rfl)
      try simp only [Act.put, List.setIfInBounds_toArray, List.set_cons_zero, List.set_cons_succ]
      refine wpAnyH_take (i := 5) (oi := { dst := some 49, op := Go.Op.move (Go.Operand.tmp 1), type := 22, pos :=  "law.go:148", after := #[], guard := none }) (v := ?_) rfl (by kernel_rfl) (by kernel_rfl) (by kernel_rfl) (fun _ _ _ h => h) (Or.inl ⟨by rfl, ?_⟩) (by assumption) ?_
      rotate_left
      · intro w hSw; go_simp; all_goals (with_reducible rfl)
      try simp only [Act.put, List.setIfInBounds_toArray, List.set_cons_zero, List.set_cons_succ]
      refine wpAnyH_take (i := 6) (oi := { dst := some 50, op := Go.Op.move (Go.Operand.tmp 7), type := 3, pos :=  "law.go:148", after := #[], guard := none }) (v := ?_) rfl (by kernel_rfl) (by kernel_rfl) (by kernel_rfl) (fun _ _ _ h => h) (Or.inl ⟨by rfl, ?_⟩) (by assumption) ?_
      rotate_left
      · intro w hSw; go_simp; all_goals (with_reducible rfl)
      try simp only [Act.put, List.setIfInBounds_toArray, List.set_cons_zero, List.set_cons_succ]
      refine wpAnyH_take (i := 7) (oi := { dst := some 51, op := Go.Op.slice 22 (Go.Operand.tmp 49) none (some (Go.Operand.tmp 50)) none, type := 22, pos :=  "law.go:148", after := #[{ on := 5, ground := Go.Ground.data }, { on := 6, ground := Go.Ground.data }], guard := none }) (v := ?_) rfl (by kernel_rfl) (by kernel_rfl) (by kernel_rfl) (fun _ _ _ h => h) (Or.inl ⟨by rfl, ?_⟩) (by assumption) ?_
      rotate_left
      · intro w hSw; go_simp; all_goals (with_reducible rfl)
      try simp only [Act.put, List.setIfInBounds_toArray, List.set_cons_zero, List.set_cons_succ]
      refine wpAnyH_take (i := 11) (oi := { dst := some 55, op := Go.Op.move (Go.Operand.tmp 2), type := 22, pos :=  "law.go:148", after := #[], guard := none }) (v := ?_) rfl (by kernel_rfl) (by kernel_rfl) (by kernel_rfl) (fun _ _ _ h => h) (Or.inl ⟨by rfl, ?_⟩) (by assumption) ?_
      rotate_left
      · intro w hSw; go_simp; all_goals (with_reducible rfl)
      try simp only [Act.put, List.setIfInBounds_toArray, List.set_cons_zero, List.set_cons_succ]
      refine wpAnyH_take (i := 12) (oi := { dst := some 56, op := Go.Op.move (Go.Operand.tmp 7), type := 3, pos :=  "law.go:148", after := #[], guard := none }) (v := ?_) rfl (by kernel_rfl) (by kernel_rfl) (by kernel_rfl) (fun _ _ _ h => h) (Or.inl ⟨by rfl, ?_⟩) (by assumption) ?_
      rotate_left
      · intro w hSw; go_simp; all_goals (with_reducible rfl)
      try simp only [Act.put, List.setIfInBounds_toArray, List.set_cons_zero, List.set_cons_succ]
      refine wpAnyH_take (i := 13) (oi := { dst := some 57, op := Go.Op.slice 22 (Go.Operand.tmp 55) none (some (Go.Operand.tmp 56)) none, type := 22, pos :=  "law.go:148", after := #[{ on := 11, ground := Go.Ground.data }, { on := 12, ground := Go.Ground.data }], guard := none }) (v := ?_) rfl (by kernel_rfl) (by kernel_rfl) (by kernel_rfl) (fun _ _ _ h => h) (Or.inl ⟨by rfl, ?_⟩) (by assumption) ?_
      rotate_left
      · intro w hSw; go_simp; all_goals (with_reducible rfl)
      try simp only [Act.put, List.setIfInBounds_toArray, List.set_cons_zero, List.set_cons_succ]
      refine wpAnyH_take (i := 17) (oi := { dst := some 61, op := Go.Op.move (Go.Operand.tmp 8), type := 22, pos :=  "law.go:148", after := #[], guard := none }) (v := ?_) rfl (by kernel_rfl) (by kernel_rfl) (by kernel_rfl) (fun _ _ _ h => h) (Or.inl ⟨by rfl, ?_⟩) (by assumption) ?_
      rotate_left
      · intro w hSw; go_simp; all_goals (with_reducible rfl)
      try simp only [Act.put, List.setIfInBounds_toArray, List.set_cons_zero, List.set_cons_succ]
      refine aff_0_n (w0 := wr) F1.out F2.out F3.out F4.out bx1 bx2 (fun _ _ d _ _ h => by cases d <;> exact h) ?hfin _ _ ?hsz ?hdf ?hbel ?g46 ?g51 ?g57 ?g61 _ ?hl _ ?hf
      case hsz => rfl
      case hdf => exact Lib.hid rfl
      case hbel => exact ⟨rfl, rfl, rfl, Nat.le_refl _, fun _ _ => rfl⟩
      case g46 => rfl
      case g51 => rfl
      case g57 => rfl
      case g61 => rfl
      case hl => kernel_rfl
      case hf => rfl
      intro a5 W5 hsz5 hdf5 h65 hb5
      obtain ⟨t5, d5⟩ := a5
      simp only at hdf5 h65
      subst hdf5
      go_wp2
      go_ret
      exact ⟨by rw [← h65], HBW.out.trans (hb5.mono HBW.out.size)⟩
theorem affine_walk {a1 a2 a3 : Option Addr} {n1 c1 n2 c2 n3 c3 : Nat} {y1 y2 y3 : List Int} (w : World) (h1 : IsRow .u8 w a1 n1 c1 y1) (h2 : IsRow .u8 w a2 n2 c2 y2) (h3 : IsRow .u8 w a3 n3 c3 y3) (r1 : c1 ≤ 140737488351232) :
    Calls Try.prog 8 #[.slice a1 n1 c1, .slice a2 n2 c2, .slice a3 n3 c3] w fun e w' => e = .returned (.bool true) ∧ Below w.heap.size w w' := by
  obtain ⟨b1, _, k1, _⟩ := h1.isB
  obtain ⟨b2, _, k2, _⟩ := h2.isB
  obtain ⟨b3, _, k3, _⟩ := h3.isB
  exact affine_core a1 a2 a3 n1 c1 n2 c2 n3 c3 (min n1 (min n2 n3)) _ _ _ w b1 b2 b3 k1 k2 k3 r1 (by omega) (by omega) (by omega) (by omega)
end Go.Proofs.Ytojkegnflbfloaa
