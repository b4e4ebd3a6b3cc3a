/- The walk of code.appendInt. -/
import Derived.Test.YteodldmbnghfcaaGreatC0
import Derived.Test.YteodldmbnghfcaaGreatCMath
namespace Go.Proofs.YteodldmbnghfcaaGreat
open Go.RowKit

theorem grown_step {a b c : World} {o o2 : Option Nat} (h : a.grownBy b o) (k : b.grownBy c o2) (ho : o2 = o ∨ o2 = none ∨ ∃ n, o2 = some n ∧ a.heap.size ≤ n) : a.grownBy c o :=
  ⟨k.os.trans h.os, k.tape.trans h.tape, k.output.trans h.output, Nat.le_trans h.size k.size, fun i hi hn => (k.block i (Nat.lt_of_lt_of_le hi h.size) (by
    rcases ho with rfl | rfl | ⟨n, rfl, hn'⟩
    · exact hn
    · simp
    · intro e; injection e with e; omega)).trans (h.block i hi hn)⟩
/-- Where a row lies behind some appends. -/
def Near (w : World) (v v' : Value) : Prop := v'.ownBlock = v.ownBlock ∨ ∃ q, v'.ownBlock = some q ∧ w.heap.size ≤ q

theorem Near.row {w : World} {v v' : Value} (h : Near w v v') : v'.ownBlock = v.ownBlock ∨ v'.ownBlock = none ∨ ∃ n, v'.ownBlock = some n ∧ w.heap.size ≤ n := by
  rcases h with h | h
  · exact .inl h
  · exact .inr (.inr h)
theorem Near.step {w wr w1 : World} {v t v2 : Value} (h : Near w v t) (hg : w.heap.size ≤ wr.heap.size) (ha : v2.ownBlock = t.ownBlock ∨ v2.ownBlock = some w1.heap.size) (h1 : wr.heap.size ≤ w1.heap.size) : Near w v v2 := by
  rcases ha with ha | ha
  · rcases h with h | ⟨q, h, hq⟩
    · exact .inl (ha.trans h)
    · exact .inr ⟨q, ha.trans h, hq⟩
  · exact .inr ⟨_, ha, Nat.le_trans hg h1⟩
theorem xor_ones64 (a : Nat) (h : a < 18446744073709551616) : a ^^^ 18446744073709551615 = 18446744073709551615 - a := by
  have h1 : (BitVec.ofNat 64 a ^^^ BitVec.allOnes 64) = ~~~ (BitVec.ofNat 64 a) := by rw [BitVec.xor_comm]; exact BitVec.allOnes_xor
  have h2 := congrArg BitVec.toNat h1
  rw [BitVec.toNat_not, BitVec.toNat_xor, BitVec.toNat_ofNat, BitVec.toNat_allOnes, Nat.mod_eq_of_lt (by omega)] at h2
  exact h2
theorem zig_pos (n : Int) (h0 : 0 ≤ n) (h1 : n ≤ 9223372036854775807) : bits .xor .u64 (n * 2) (n / 9223372036854775808) = ((Vi.zig n : Nat) : Int) := by
  obtain ⟨m, rfl⟩ : ∃ m : Nat, n = (m : Int) := ⟨n.toNat, by omega⟩
  have e1 : (m : Int) * 2 = ((2 * m : Nat) : Int) := by omega
  have e2 : (m : Int) / 9223372036854775808 = ((0 : Nat) : Int) := by omega
  rw [e1, e2, u64_xor_nat (2 * m) 0 (by omega) (by omega), Nat.xor_zero]
  have e3 : Vi.zig (m : Int) = 2 * m := by unfold Vi.zig; rw [if_pos (by omega)]; omega
  rw [e3]
theorem zig_neg (n : Int) (h0 : n < 0) (h1 : -9223372036854775808 ≤ n) : bits .xor .u64 (IntKind.u64.wrap (IntKind.u64.wrap n * 2)) (IntKind.u64.wrap (n / 9223372036854775808)) = ((Vi.zig n : Nat) : Int) := by
  obtain ⟨k, hk, hn⟩ : ∃ k : Nat, 1 ≤ k ∧ n = -(k : Int) := ⟨(-n).toNat, by omega, by omega⟩
  have e1 : IntKind.u64.wrap (IntKind.u64.wrap n * 2) = ((18446744073709551616 - 2 * k : Nat) : Int) := by
    simp only [IntKind.wrap_u64]
    omega
  have e2 : IntKind.u64.wrap (n / 9223372036854775808) = ((18446744073709551615 : Nat) : Int) := by
    simp only [IntKind.wrap_u64]
    omega
  rw [e1, e2, u64_xor_nat _ _ (by omega) (by omega), xor_ones64 _ (by omega)]
  have e3 : Vi.zig n = 18446744073709551615 - (18446744073709551616 - 2 * k) := by unfold Vi.zig; rw [if_neg (by omega)]; omega
  rw [e3]
theorem or128 (u : Nat) : bits .or .u8 ((u : Int) % 256) 128 = ((u % 128 + 128 : Nat) : Int) := by
  have h := u8_or_nat (u % 256) 128 (by omega) (by omega)
  have e : ∀ y : Fin 256, y.val ||| 128 = y.val % 128 + 128 := by decide +kernel
  have e1 : (u % 256) ||| 128 = u % 256 % 128 + 128 := e ⟨u % 256, by omega⟩
  have e2 : u % 256 % 128 = u % 128 := by omega
  have e3 : ((u % 256 : Nat) : Int) = (u : Int) % 256 := by omega
  rw [e1, e2, e3] at h
  exact h

/-- What a call that writes bytes behind a row comes to. -/
def Wrote (w : World) (B : Nat) (v : Value) (xs : List Int) (e : Ending) (w' : World) : Prop :=
  ∃ v', e = .returned v' ∧ w'.ownsRow B 5 1 v' xs.length (xs.map (Value.int .u8)) ∧ w.grownBy w' v.ownBlock ∧ Near w v v'

set_option maxRecDepth 100000 in
set_option maxHeartbeats 4000000 in
theorem appendInt_any (B : Nat) (v : Value) (xs : List Int) (n : Int) (w : World) (hn1 : -9223372036854775808 ≤ n) (hn2 : n ≤ 9223372036854775807) (hown : w.ownsRow B 5 1 v xs.length (xs.map (Value.int .u8))) (hB : B ≤ w.heap.size) (hl : xs.length ≤ 140737488351232) :
    Calls Tryz.prog 104 #[v, .int .i64 n] w (Wrote w B v (xs ++ Vi.int n)) := by
  obtain ⟨i0, hi, hz0, hz1, hz2⟩ := info_parts Tryz.infoB
  have hlt := Vi.zig_lt n hn1 hn2
  have hlen := Vi.int_length n hn1 hn2
  obtain ⟨u0, hu0⟩ : ∃ u0, u0 = Vi.zig n := ⟨_, rfl⟩
  unfold Vi.int at hlen ⊢
  have HOW := Lib.hid hown
  clear hown
  by_cases h0 : 0 ≤ n
  · have hz := zig_pos n h0 hn2
    rw [← hu0] at hz hlt hlen ⊢
    have HU0 := Lib.hid hu0
    clear hu0
    go_enter Tryz.func104, Tryz.ntmps104
    go_wp2
    clear hz
    go_loopw [0, 5] (fun t uv wr => ∃ (pre : List Int) (u : Nat), uv = .int .u64 u ∧ u < 18446744073709551616 ∧ pre ++ Vi.vi u = Vi.vi u0 ∧ wr.ownsRow B 5 1 t (xs ++ pre).length ((xs ++ pre).map (Value.int .u8)) ∧ w.grownBy wr v.ownBlock ∧ Near w v t) (fun _ uv _ => (intOf uv).toNat)
    case atStart => exact ⟨[], u0, rfl, hlt, rfl, by simpa using HOW.out, World.grownBy.refl _ _, .inl rfl⟩
    case round =>
      obtain ⟨pre, u, rfl, hu, hpre, hown, hg, hnear⟩ := hrel
      have hpl : pre.length + 1 ≤ 11 := by
        have := congrArg List.length hpre
        rw [List.length_append] at this
        omega
      obtain ⟨ta, tc, rfl, _, _⟩ := owned_any hown
      have hxl : (xs ++ pre).length ≤ xs.length + 10 := by rw [List.length_append]; omega
      obtain ⟨zs, hzs⟩ : ∃ zs, zs = xs ++ pre := ⟨_, rfl⟩
      rw [← hzs] at hown hxl hnear ⊢
      have HZS := Lib.hid hzs
      have HO := Lib.hid hown
      have HG := Lib.hid hg
      have HN := Lib.hid hnear
      have HP := Lib.hid hpre
      have hsz := hg.size
      clear hown hg hnear hpre hzs
      by_cases h128 : 128 ≤ u
      · have hor := or128 u
        have hvb := Vi.vi_big u h128
        have HVB := Lib.hid hvb
        clear hvb
        go_wp2_with (at_builtin; refine wpList_append_at_any _ rfl _ _ 68 rfl B 5 i0 (.int .u8 0) 1 1 Tryz.underlying68 hi hz0 hz1 hz2 rfl (by decide) _ zs.length _ rfl (HO.out.alloc _) (some ⟨wr.heap.size, 0, none⟩) 1 1 [.int .u8 ((u % 128 + 128 : Nat) : Int)] rfl rfl (by intro h; cases h) (by rintro ad he; injection he with he; subst he; exact cell_one_new _ _ _) (by intro q hq; simp at hq; subst hq; rfl) (by unfold maxLen; omega) (by omega) (by simp; omega) ?_; intro v2 w2 hown2 hgrow2 hat2)
        have hval := Near.step HN.out (hg := HG.out.size) hat2 (by simp)
        have hgr := grown_step (grown_step HG.out (World.grownBy_alloc wr (.cells #[.int .u8 ((u % 128 + 128 : Nat) : Int)] 5) none) (.inr (.inl rfl))) hgrow2 HN.out.row
        have hmap : zs.map (Value.int .u8) ++ [.int .u8 ((u % 128 + 128 : Nat) : Int)] = (xs ++ (pre ++ [((u % 128 + 128 : Nat) : Int)])).map (Value.int .u8) := by rw [HZS.out, ← List.append_assoc, List.map_append (l₁ := xs ++ pre)]; rfl
        have hlz : zs.length + 1 = (xs ++ (pre ++ [((u % 128 + 128 : Nat) : Int)])).length := by rw [HZS.out]; simp; omega
        rw [hmap, hlz] at hown2
        have HO2 := Lib.hid hown2
        have HV2 := Lib.hid hval
        have HG2 := Lib.hid hgr
        clear hown2 hgrow2 hat2 hval hgr hmap hlz hor
        go_roundw
        case rel => exact ⟨pre ++ [((u % 128 + 128 : Nat) : Int)], u / 128, by go_num, by omega, by rw [← HP.out, HVB.out]; simp, HO2.out, HG2.out, HV2.out⟩
        case measure => simp [intOf]; omega
      · have hvs := Vi.vi_small u (by omega)
        have HVS := Lib.hid hvs
        have hby : (u : Int) % 256 = (u : Int) := by omega
        clear hvs
        go_wp2_with (at_builtin; refine wpList_append_at_any _ rfl _ _ 68 rfl B 5 i0 (.int .u8 0) 1 1 Tryz.underlying68 hi hz0 hz1 hz2 rfl (by decide) _ zs.length _ rfl (HO.out.alloc _) (some ⟨wr.heap.size, 0, none⟩) 1 1 [.int .u8 (u : Int)] rfl rfl (by intro h; cases h) (by rintro ad he; injection he with he; subst he; exact cell_one_new _ _ _) (by intro q hq; simp at hq; subst hq; rfl) (by unfold maxLen; omega) (by omega) (by simp; omega) ?_; intro v2 w2 hown2 hgrow2 hat2)
        have hval := Near.step HN.out (hg := HG.out.size) hat2 (by simp)
        have hgr := grown_step (grown_step HG.out (World.grownBy_alloc wr (.cells #[.int .u8 (u : Int)] 5) none) (.inr (.inl rfl))) hgrow2 HN.out.row
        have hmap : zs.map (Value.int .u8) ++ [.int .u8 (u : Int)] = (xs ++ Vi.vi u0).map (Value.int .u8) := by rw [HZS.out, ← HP.out, HVS.out]; simp
        have hlz : zs.length + 1 = (xs ++ Vi.vi u0).length := by rw [HZS.out, ← HP.out, HVS.out]; simp; omega
        rw [hmap, hlz] at hown2
        have HO2 := Lib.hid hown2
        have HV2 := Lib.hid hval
        have HG2 := Lib.hid hgr
        clear hown2 hgrow2 hat2 hval hgr hmap hlz hby
        go_ret
        exact ⟨_, rfl, HO2.out, HG2.out, HV2.out⟩
  · have hz := zig_neg n (by omega) hn1
    rw [← hu0] at hz hlt hlen ⊢
    have HU0 := Lib.hid hu0
    clear hu0
    go_enter Tryz.func104, Tryz.ntmps104
    go_wp2
    clear hz
    go_loopw [0, 5] (fun t uv wr => ∃ (pre : List Int) (u : Nat), uv = .int .u64 u ∧ u < 18446744073709551616 ∧ pre ++ Vi.vi u = Vi.vi u0 ∧ wr.ownsRow B 5 1 t (xs ++ pre).length ((xs ++ pre).map (Value.int .u8)) ∧ w.grownBy wr v.ownBlock ∧ Near w v t) (fun _ uv _ => (intOf uv).toNat)
    case atStart => exact ⟨[], u0, rfl, hlt, rfl, by simpa using HOW.out, World.grownBy.refl _ _, .inl rfl⟩
    case round =>
      obtain ⟨pre, u, rfl, hu, hpre, hown, hg, hnear⟩ := hrel
      have hpl : pre.length + 1 ≤ 11 := by
        have := congrArg List.length hpre
        rw [List.length_append] at this
        omega
      obtain ⟨ta, tc, rfl, _, _⟩ := owned_any hown
      have hxl : (xs ++ pre).length ≤ xs.length + 10 := by rw [List.length_append]; omega
      obtain ⟨zs, hzs⟩ : ∃ zs, zs = xs ++ pre := ⟨_, rfl⟩
      rw [← hzs] at hown hxl hnear ⊢
      have HZS := Lib.hid hzs
      have HO := Lib.hid hown
      have HG := Lib.hid hg
      have HN := Lib.hid hnear
      have HP := Lib.hid hpre
      have hsz := hg.size
      clear hown hg hnear hpre hzs
      by_cases h128 : 128 ≤ u
      · have hor := or128 u
        have hvb := Vi.vi_big u h128
        have HVB := Lib.hid hvb
        clear hvb
        go_wp2_with (at_builtin; refine wpList_append_at_any _ rfl _ _ 68 rfl B 5 i0 (.int .u8 0) 1 1 Tryz.underlying68 hi hz0 hz1 hz2 rfl (by decide) _ zs.length _ rfl (HO.out.alloc _) (some ⟨wr.heap.size, 0, none⟩) 1 1 [.int .u8 ((u % 128 + 128 : Nat) : Int)] rfl rfl (by intro h; cases h) (by rintro ad he; injection he with he; subst he; exact cell_one_new _ _ _) (by intro q hq; simp at hq; subst hq; rfl) (by unfold maxLen; omega) (by omega) (by simp; omega) ?_; intro v2 w2 hown2 hgrow2 hat2)
        have hval := Near.step HN.out (hg := HG.out.size) hat2 (by simp)
        have hgr := grown_step (grown_step HG.out (World.grownBy_alloc wr (.cells #[.int .u8 ((u % 128 + 128 : Nat) : Int)] 5) none) (.inr (.inl rfl))) hgrow2 HN.out.row
        have hmap : zs.map (Value.int .u8) ++ [.int .u8 ((u % 128 + 128 : Nat) : Int)] = (xs ++ (pre ++ [((u % 128 + 128 : Nat) : Int)])).map (Value.int .u8) := by rw [HZS.out, ← List.append_assoc, List.map_append (l₁ := xs ++ pre)]; rfl
        have hlz : zs.length + 1 = (xs ++ (pre ++ [((u % 128 + 128 : Nat) : Int)])).length := by rw [HZS.out]; simp; omega
        rw [hmap, hlz] at hown2
        have HO2 := Lib.hid hown2
        have HV2 := Lib.hid hval
        have HG2 := Lib.hid hgr
        clear hown2 hgrow2 hat2 hval hgr hmap hlz hor
        go_roundw
        case rel => exact ⟨pre ++ [((u % 128 + 128 : Nat) : Int)], u / 128, by go_num, by omega, by rw [← HP.out, HVB.out]; simp, HO2.out, HG2.out, HV2.out⟩
        case measure => simp [intOf]; omega
      · have hvs := Vi.vi_small u (by omega)
        have HVS := Lib.hid hvs
        have hby : (u : Int) % 256 = (u : Int) := by omega
        clear hvs
        go_wp2_with (at_builtin; refine wpList_append_at_any _ rfl _ _ 68 rfl B 5 i0 (.int .u8 0) 1 1 Tryz.underlying68 hi hz0 hz1 hz2 rfl (by decide) _ zs.length _ rfl (HO.out.alloc _) (some ⟨wr.heap.size, 0, none⟩) 1 1 [.int .u8 (u : Int)] rfl rfl (by intro h; cases h) (by rintro ad he; injection he with he; subst he; exact cell_one_new _ _ _) (by intro q hq; simp at hq; subst hq; rfl) (by unfold maxLen; omega) (by omega) (by simp; omega) ?_; intro v2 w2 hown2 hgrow2 hat2)
        have hval := Near.step HN.out (hg := HG.out.size) hat2 (by simp)
        have hgr := grown_step (grown_step HG.out (World.grownBy_alloc wr (.cells #[.int .u8 (u : Int)] 5) none) (.inr (.inl rfl))) hgrow2 HN.out.row
        have hmap : zs.map (Value.int .u8) ++ [.int .u8 (u : Int)] = (xs ++ Vi.vi u0).map (Value.int .u8) := by rw [HZS.out, ← HP.out, HVS.out]; simp
        have hlz : zs.length + 1 = (xs ++ Vi.vi u0).length := by rw [HZS.out, ← HP.out, HVS.out]; simp; omega
        rw [hmap, hlz] at hown2
        have HO2 := Lib.hid hown2
        have HV2 := Lib.hid hval
        have HG2 := Lib.hid hgr
        clear hown2 hgrow2 hat2 hval hgr hmap hlz hby
        go_ret
        exact ⟨_, rfl, HO2.out, HG2.out, HV2.out⟩
end Go.Proofs.YteodldmbnghfcaaGreat
