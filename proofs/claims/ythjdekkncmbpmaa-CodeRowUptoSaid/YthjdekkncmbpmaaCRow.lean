/- CodeRow: numbers written one behind the other are read again one by one; each has as few bytes as its size needs. -/
import Derived.Test.YthjdekkncmbpmaaCInts
namespace Go.Proofs.Ythjdekkncmbpmaa
open Go.RowKit

/-- Numbers, one behind the other. -/
def ens (l : List Int) : List Int := (l.map Vi.int).flatten
theorem ens_byte (l : List Int) : ∀ y ∈ ens l, 0 ≤ y ∧ y < 256 := by
  intro y hy
  obtain ⟨q, hq, hyq⟩ := List.mem_flatten.1 hy
  obtain ⟨x, _, rfl⟩ := List.mem_map.1 hq
  exact Vi.int_byte x y hyq
theorem ens_snoc (l : List Int) (x : Int) : ens (l ++ [x]) = ens l ++ Vi.int x := by simp [ens]
theorem ens_cons (x : Int) (l : List Int) : ens (x :: l) = Vi.int x ++ ens l := by simp [ens]
theorem ens_length (l : List Int) (h : ∀ x ∈ l, In64 x) : (ens l).length ≤ l.length * 10 := by
  induction l with
  | nil => simp [ens]
  | cons x l ih =>
    have h1 := Vi.int_length x (h x (by simp)).1 (h x (by simp)).2
    have h2 := ih (fun y hy => h y (List.mem_cons_of_mem _ hy))
    rw [ens_cons, List.length_append, List.length_cons]
    omega
/-- How often seven bits are struck off. -/
def strikes (x : Nat) : Nat := if x = 0 then 0 else (Vi.vi x).length
theorem vi_strikes (u : Nat) : (Vi.vi u).length = 1 + strikes (u / 128) := by
  unfold strikes
  by_cases h : u < 128
  · rw [Vi.vi_small u h, if_pos (by omega)]; rfl
  · rw [Vi.vi_big u (by omega), if_neg (by omega), List.length_cons]; omega
theorem strikes_step {x : Nat} (h : 0 < x) : strikes x = 1 + strikes (x / 128) := by
  have : strikes x = (Vi.vi x).length := by rw [strikes, if_neg (by omega)]
  rw [this, vi_strikes]
theorem get_int_app {k : Int} (h1 : -9223372036854775808 ≤ k) (h2 : k ≤ 9223372036854775807) (l : List Int) : Vi.get 0 0 (Vi.int k ++ l) = (k, (Vi.int k).length, 0) := by
  have hz := Vi.zig_lt k h1 h2
  have := Vi.get_vi (Vi.zig k) (Vi.zig k) 0 0 l (Nat.le_refl _) (by omega) (by simpa using hz) (.inl rfl)
  simp only [Nat.zero_add, Nat.pow_zero, Nat.mul_one, Vi.unzig_zig] at this
  exact this
theorem ones_xor (b : Nat) (h : b < 18446744073709551616) : 18446744073709551615 ^^^ b = 18446744073709551615 - b := by
  have h1 : (~~~ (BitVec.ofNat 64 b)).toNat = 2 ^ 64 - 1 - b := by rw [BitVec.toNat_not, BitVec.toNat_ofNat, Nat.mod_eq_of_lt h]
  rw [BitVec.not_def, BitVec.toNat_xor, BitVec.toNat_allOnes, BitVec.toNat_ofNat, Nat.mod_eq_of_lt h] at h1
  exact h1
theorem row_drop {α : Type} {l : List α} {i : Nat} {x : α} (h : l[i]? = some x) : l.drop i = x :: l.drop (i + 1) := by
  obtain ⟨hi, rfl⟩ := List.getElem?_eq_some_iff.1 h
  exact List.drop_eq_getElem_cons hi

set_option maxRecDepth 100000 in
set_option maxHeartbeats 4000000 in
theorem row_walk (a : Option Addr) (n c : Nat) (zs : List Int) (w : World) (h : IntsAt w w.heap.size a n zs) (hn : n ≤ 1048576) :
    Calls Try.prog 8 #[.slice a n c] w fun e w' => e = .returned (.bool true) ∧ Below w.heap.size w w' := by
  have hzl := h.1
  have hz64 : ∀ x ∈ zs, In64 x := by
    intro x hx
    obtain ⟨i, hi⟩ := List.getElem?_of_mem hx
    rcases h.2 with h0 | ⟨b, off, _, _, hc⟩
    · have := (List.getElem?_eq_some_iff.1 hi).1; omega
    · exact (hc i x hi).2
  have HZ := Lib.hid hz64
  have HZL := Lib.hid hzl
  have HC := Lib.hid h.2
  clear h hz64 hzl
  go_enter Try.func8, Try.ntmps8
  go_wp2_with fail
  refine (awake_any _).mono ?_
  rintro e w1 ⟨rfl, hb1⟩
  have HB1 := Lib.hid hb1
  clear hb1
  go_wp2_with fail
  go_loopw [3, 22] (fun bv iv wr => ∃ i : Nat, i ≤ n ∧ iv = .int .i64 i ∧ wr.ownsRow w.heap.size 5 1 bv (ens (zs.take i)).length ((ens (zs.take i)).map (Value.int .u8)) ∧ Below w.heap.size w wr) (fun _ iv _ => n - (intOf iv).toNat)
  case atStart => exact ⟨0, by omega, rfl, ⟨rfl, .inl ⟨rfl, rfl⟩⟩, HB1.out⟩
  case round =>
    obtain ⟨i, hin, rfl, hown, hbel⟩ := hrel
    have htl : (ens (zs.take i)).length ≤ n * 10 := by
      have h1 := ens_length (zs.take i) (fun x hx => HZ.out x (List.mem_of_mem_take hx))
      have h2 := List.length_take_le i zs
      omega
    by_cases hil : i < n
    · obtain ⟨b, off, rfl, hbB, hcc⟩ := HC.out.resolve_left (by omega)
      obtain ⟨z, hz⟩ : ∃ z, zs[i]? = some z := ⟨_, List.getElem?_eq_getElem (show i < zs.length by rw [HZL.out]; exact hil)⟩
      obtain ⟨c0, hz1, hz2⟩ := hcc i z hz
      have k0 := (hbel.cell (p := ⟨b, off + i, none⟩) hbB).trans c0
      have hsn : ens (zs.take (i + 1)) = ens (zs.take i) ++ Vi.int z := by rw [take_snoc hz, ens_snoc]
      obtain ⟨ba, bc, rfl, hbc, _⟩ := owned_any hown
      have hisb := IsB.owned hown (ens_byte _)
      have hib := Vi.int_length z hz1 hz2
      obtain ⟨L, hL⟩ : ∃ L, L = (Vi.int z).length := ⟨_, rfl⟩
      have hLq : L = 1 + strikes (Vi.zig z / 128) := by rw [hL, Vi.int, vi_strikes]
      rw [← hL] at hib
      have HSN := Lib.hid hsn
      have HL := Lib.hid hL
      have HLQ := Lib.hid hLq
      clear hLq
      generalize hT : ens (zs.take i) = T at *
      obtain ⟨N, hN⟩ : ∃ N, N = T.length := ⟨_, rfl⟩
      rw [← hN] at hisb htl hbc
      have HP := Lib.hid (putint_any ba N bc T z wr hisb hz1 hz2 (by omega))
      have HBE := Lib.hid hbel
      have HNN := Lib.hid hN
      have hzq : (0 ≤ z ∧ (Vi.zig z : Int) = 2 * z) ∨ (z < 0 ∧ (Vi.zig z : Int) = 2 * (-z - 1) + 1) := by
        unfold Vi.zig
        split <;> omega
      generalize Vi.zig z = Z at *
      rw [← hN]
      clear hcc c0 hown hisb hbel hL hsn hN hT hz
      go_wp2_with fail
      refine HP.out.mono ?_
      rintro e w3 ⟨v', rfl, hown, hb3⟩
      have hlen : (T ++ Vi.int z).length = N + L := by rw [List.length_append, HNN.out, HL.out]
      have HO := Lib.hid (owns_lower hown HBE.out.size)
      rw [hlen] at hown
      obtain ⟨va, vc, rfl, hvc, _⟩ := owned_any hown
      have HB3 := Lib.hid (HBE.out.trans (hb3.mono HBE.out.size))
      clear hown hb3 hlen k0
      rcases hzq with ⟨hz0, hzz⟩ | ⟨hz0, hzz⟩
      · have hw1 : IntKind.u64.wrap z = z := by rw [IntKind.wrap_u64]; omega
        obtain ⟨q, rfl⟩ : ∃ q : Nat, z = (q : Int) := ⟨z.toNat, by omega⟩
        go_wp2_with fail
        go_loopw [8, 9] (fun dv xv wx => ∃ x d : Nat, xv = .int .u64 x ∧ dv = .int .i64 d ∧ d + strikes x = L ∧ x < 18446744073709551616 ∧ wx = w3) (fun _ xv _ => (intOf xv).toNat)
        case atStart => exact ⟨q / 64, 1, by first | rfl | go_num, rfl, by rw [HLQ.out]; congr 2; omega, by omega, by simp⟩
        case round =>
          obtain ⟨x, d, rfl, rfl, hd, hx, rfl⟩ := hrel
          by_cases hx0 : 0 < x
          · have HS := Lib.hid (show (d + 1) + strikes (x / 128) = L by rw [← hd, strikes_step hx0]; omega)
            have hdl : d ≤ 10 := by omega
            clear hd
            go_wp2
            go_roundw
            case rel => exact ⟨x / 128, d + 1, by go_num, by go_num, HS.out, by omega, by simp⟩
            case measure => simp [intOf]; omega
          · have hdl : d = L := by rw [strikes, if_pos (by omega)] at hd; omega
            subst hdl
            have hx0' : x = 0 := by omega
            subst hx0'
            clear hd hx hx0
            go_wp2
            go_roundw
            case rel => exact ⟨i + 1, by omega, by go_num, by rw [HSN.out]; exact HO.out, HB3.out⟩
            case measure => simp [intOf]; omega
      · have hw1 : IntKind.u64.wrap z = z + 18446744073709551616 := by rw [IntKind.wrap_u64]; omega
        obtain ⟨q, hq⟩ : ∃ q : Nat, (q : Int) = -z - 1 := ⟨(-z - 1).toNat, by omega⟩
        have hb : (z + 18446744073709551616 : Int) = ((18446744073709551615 - q : Nat) : Int) := by omega
        have hxor : bits BinOp.xor IntKind.u64 IntKind.u64.max (z + 18446744073709551616) = (q : Int) := by
          rw [hb, show IntKind.u64.max = ((18446744073709551615 : Nat) : Int) by decide, u64_xor_nat _ _ (by omega) (by omega), ones_xor _ (by omega)]
          omega
        clear hb
        go_wp2_with fail
        go_loopw [8, 9] (fun dv xv wx => ∃ x d : Nat, xv = .int .u64 x ∧ dv = .int .i64 d ∧ d + strikes x = L ∧ x < 18446744073709551616 ∧ wx = w3) (fun _ xv _ => (intOf xv).toNat)
        case atStart => exact ⟨q / 64, 1, by first | rfl | go_num, rfl, by rw [HLQ.out]; congr 2; omega, by omega, by simp⟩
        case round =>
          obtain ⟨x, d, rfl, rfl, hd, hx, rfl⟩ := hrel
          by_cases hx0 : 0 < x
          · have HS := Lib.hid (show (d + 1) + strikes (x / 128) = L by rw [← hd, strikes_step hx0]; omega)
            have hdl : d ≤ 10 := by omega
            clear hd
            go_wp2
            go_roundw
            case rel => exact ⟨x / 128, d + 1, by go_num, by go_num, HS.out, by omega, by simp⟩
            case measure => simp [intOf]; omega
          · have hdl : d = L := by rw [strikes, if_pos (by omega)] at hd; omega
            subst hdl
            have hx0' : x = 0 := by omega
            subst hx0'
            clear hd hx hx0
            go_wp2
            go_roundw
            case rel => exact ⟨i + 1, by omega, by go_num, by rw [HSN.out]; exact HO.out, HB3.out⟩
            case measure => simp [intOf]; omega
    · have hin' : i = n := by omega
      subst hin'
      have hT : zs.take i = zs := List.take_of_length_le (by rw [HZL.out]; exact Nat.le_refl _)
      rw [hT] at hown htl
      obtain ⟨ba, bc, rfl, hbc, _⟩ := owned_any hown
      have HI := Lib.hid (IsB.owned hown (ens_byte _))
      have HBE := Lib.hid hbel
      clear hown hbel hT
      go_wp2_with fail
      go_loop [3, 54] (fun bv iv => ∃ (j : Nat) (pa : Option Addr) (pc : Nat), j ≤ i ∧ iv = .int .i64 j ∧ bv = .slice pa (ens (zs.drop j)).length pc ∧ IsB wr pa (ens (zs.drop j)).length (ens (zs.drop j)) ∧ (ens (zs.drop j)).length ≤ pc) (fun _ iv => i - (intOf iv).toNat)
      case atStart => exact ⟨0, ba, bc, by omega, rfl, rfl, HI.out, hbc⟩
      case round =>
        obtain ⟨j, pa, pc, hj, rfl, rfl, hisb, hpc⟩ := hrel
        by_cases hjl : j < i
        · obtain ⟨b, off, rfl, hbB, hcc⟩ := HC.out.resolve_left (by omega)
          obtain ⟨z, hz⟩ : ∃ z, zs[j]? = some z := ⟨_, List.getElem?_eq_getElem (show j < zs.length by rw [HZL.out]; exact hjl)⟩
          obtain ⟨c0, hz1, hz2⟩ := hcc j z hz
          have k0 := (HBE.out.cell (p := ⟨b, off + j, none⟩) hbB).trans c0
          have hRb : (ens (zs.drop j)).length ≤ i * 10 := by
            have h1 := ens_length (zs.drop j) (fun x hx => HZ.out x (List.mem_of_mem_drop hx))
            have h2 : (zs.drop j).length ≤ i := by rw [List.length_drop, HZL.out]; omega
            omega
          have hR : ens (zs.drop j) = Vi.int z ++ ens (zs.drop (j + 1)) := by rw [row_drop hz, ens_cons]
          obtain ⟨M, hM⟩ : ∃ M, M = (ens (zs.drop (j + 1))).length := ⟨_, rfl⟩
          obtain ⟨L, hL⟩ : ∃ L, L = (Vi.int z).length := ⟨_, rfl⟩
          have hpos := int_pos z
          rw [← hL] at hpos
          have hlen : (ens (zs.drop j)).length = L + M := by rw [hR, List.length_append, hL, hM]
          have hgi := getint_isb pa (L + M) pc (ens (zs.drop j)) wr (by rw [← hlen]; exact hisb) (by omega)
          rw [show Vi.get 0 0 (ens (zs.drop j)) = (z, L, 0) by rw [hR, get_int_app hz1 hz2, hL]] at hgi
          rw [hlen] at hpc hRb
          have hst := fun w : World => slice_tail pa (L + M) pc L (by omega) w
          have htl2 := (show IsB wr pa (L + M) (ens (zs.drop j)) by rw [← hlen]; exact hisb).tail pc L (by omega) hpc
          rw [hR, show (Vi.int z ++ ens (zs.drop (j + 1))).drop L = ens (zs.drop (j + 1)) by rw [hL, List.drop_left], show L + M - L = M by omega] at htl2
          rw [show L + M - L = M by omega] at hst
          have HTL := Lib.hid htl2
          have HM := Lib.hid hM
          have HGI := Lib.hid hgi
          rw [hlen]
          have ez : (z != z) = false := by simp
          clear hcc c0 hisb hR hL hM hgi htl2 hlen hz
          go_wp2_with fail
          refine HGI.out.mono ?_
          rintro e w5 ⟨rfl, rfl⟩
          go_wp2
          go_round
          case rel => exact ⟨j + 1, tailAt pa pc L, pc - L, by omega, by go_num, by rw [← HM.out], by rw [← HM.out]; exact HTL.out, by rw [← HM.out]; omega⟩
          case measure => simp [intOf]; omega
        · have hR : ens (zs.drop j) = [] := by rw [List.drop_of_length_le (by rw [HZL.out]; omega)]; rfl
          rw [hR] at hisb hpc ⊢
          have HGI := Lib.hid (getint_isb pa 0 pc [] wr hisb (by omega))
          simp only [List.length_nil]
          clear hisb hpc hR
          go_wp2_with fail
          refine HGI.out.mono ?_
          rintro e w5 ⟨rfl, rfl⟩
          simp only [Vi.get]
          go_wp2
          go_ret
          exact ⟨rfl, HBE.out⟩
end Go.Proofs.Ythjdekkncmbpmaa
