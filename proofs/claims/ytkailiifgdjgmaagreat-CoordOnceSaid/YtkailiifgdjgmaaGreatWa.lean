/- Sets of nodes, a bit each. The set's functions. A set's nodes, rising. -/
import Derived.Test.YtkailiifgdjgmaaGreatL7
import Derived.Test.YtkailiifgdjgmaaGreatNLie
import Derived.Test.YtkailiifgdjgmaaGreatNMap
import Derived.StillTailTactics
import Derived.Deep.QuietTactic
import Derived.BigQuiet
import Derived.Maps.AppendAt
import Derived.Deep.RegionLaw
import Derived.Deep.RegionHeld3
namespace Go.Proofs.YtkailiifgdjgmaaGreat
open Go.RowKit
open Go.Maps (Keyed)

def InI (k : Int) : Prop := -9223372036854775808 ≤ k ∧ k ≤ 9223372036854775807
/-- Is this a node? -/
def isN (n : Int) : Prop := 0 ≤ n ∧ n < 8
instance (n : Int) : Decidable (isN n) := by unfold isN; infer_instance
def sadd (s : Nat) (n : Int) : Nat := if isN n then s ||| 2 ^ n.toNat else s
/-- The set of some nodes. -/
def sset (l : List Int) : Nat := l.foldl sadd 0
def sdiff (s t : Nat) : Nat := s &&& (2 ^ 8 - (t + 1))
/-- Is this node in it? -/
def shas (s : Nat) (n : Int) : Bool := decide (s &&& sset [n] ≠ 0)
def swo (s : Nat) (n : Int) : Nat := sdiff s (sset [n])
/-- Its nodes, rising. -/
def slist (s : Nat) : List Int := ((List.range 8).filter fun k => s.testBit k).map fun (k : Nat) => (k : Int)
def card (s : Nat) : Nat := (slist s).length
theorem pow_node {n : Int} (h : isN n) : 2 ^ n.toNat < 256 := by
  obtain ⟨h1, h2⟩ := h
  have : n.toNat ≤ 7 := by omega
  have := Nat.pow_le_pow_right (n := 2) (by decide) this
  omega
theorem or_lt8 {s t : Nat} (hs : s < 256) (ht : t < 256) : s ||| t < 256 := Nat.or_lt_two_pow (n := 8) hs ht
theorem sadd_lt {s : Nat} (h : s < 256) (n : Int) : sadd s n < 256 := by
  unfold sadd
  split
  · next hn => exact or_lt8 h (pow_node hn)
  · exact h
theorem foldl_lt : ∀ (l : List Int) {s : Nat}, s < 256 → l.foldl sadd s < 256
  | [], _, h => h
  | n :: l, _, h => foldl_lt l (sadd_lt h n)
theorem sset_lt (l : List Int) : sset l < 256 := foldl_lt l (by decide)
theorem sdiff_lt {s : Nat} (h : s < 256) (t : Nat) : sdiff s t < 256 := Nat.lt_of_le_of_lt Nat.and_le_left h
theorem swo_lt {s : Nat} (h : s < 256) (n : Int) : swo s n < 256 := sdiff_lt h _
theorem foldl_bit (k : Nat) (hk : k < 8) : ∀ (l : List Int) (s : Nat), (l.foldl sadd s).testBit k = (s.testBit k || decide ((k : Int) ∈ l))
  | [], s => by simp
  | n :: l, s => by
    rw [List.foldl_cons, foldl_bit k hk l]
    have : (sadd s n).testBit k = (s.testBit k || decide ((k : Int) = n)) := by
      unfold sadd
      split
      · next hn =>
        obtain ⟨h1, h2⟩ := hn
        rw [Nat.testBit_or, Nat.testBit_two_pow]
        congr 1
        apply decide_eq_decide.2
        omega
      · next hn =>
        have : ¬ (k : Int) = n := by intro e; apply hn; rw [← e]; exact ⟨by omega, by omega⟩
        simp [this]
    rw [this, Bool.or_assoc]
    congr 1
    simp
theorem sset_bit {k : Nat} (hk : k < 8) (l : List Int) : (sset l).testBit k = decide ((k : Int) ∈ l) := by
  rw [sset, foldl_bit k hk]; simp
theorem sset_one (n : Int) : sset [n] = if isN n then 2 ^ n.toNat else 0 := by
  unfold sset
  simp only [List.foldl_cons, List.foldl_nil, sadd, Nat.zero_or]
theorem high_bit {s k : Nat} (h : s < 256) (hk : 8 ≤ k) : s.testBit k = false := Nat.testBit_lt_two_pow (Nat.lt_of_lt_of_le h (by have := Nat.pow_le_pow_right (n := 2) (by decide) hk; omega))
theorem bits_eq {s t : Nat} (hs : s < 256) (ht : t < 256) (h : ∀ k, k < 8 → s.testBit k = t.testBit k) : s = t := by
  apply Nat.eq_of_testBit_eq
  intro k
  rcases Nat.lt_or_ge k 8 with hk | hk
  · exact h k hk
  · rw [high_bit hs hk, high_bit ht hk]
theorem shas_bit (s : Nat) {n : Int} (hn : isN n) : shas s n = s.testBit n.toNat := by
  unfold shas
  rw [sset_one, if_pos hn]
  rw [Bool.eq_iff_iff, decide_eq_true_eq]
  constructor
  · intro h
    cases ht : s.testBit n.toNat with
    | true => rfl
    | false =>
      exfalso
      apply h
      apply Nat.eq_of_testBit_eq
      intro j
      rw [Nat.testBit_and, Nat.testBit_two_pow, Nat.zero_testBit]
      by_cases hj : n.toNat = j
      · subst hj; rw [ht]; rfl
      · simp [hj]
  · intro h e
    have := congrArg (fun x => x.testBit n.toNat) e
    simp [Nat.testBit_and, h] at this
theorem shas_no (s : Nat) {n : Int} (hn : ¬ isN n) : shas s n = false := by
  unfold shas
  rw [sset_one, if_neg hn, Nat.and_zero]
  rfl
theorem sdiff_bit (s : Nat) {t k : Nat} (ht : t < 256) (hk : k < 8) : (sdiff s t).testBit k = (s.testBit k && !t.testBit k) := by
  unfold sdiff
  rw [Nat.testBit_and, Nat.testBit_two_pow_sub_succ (n := 8) ht]
  simp [hk]
theorem swo_bit (s : Nat) (n : Int) {k : Nat} (hk : k < 8) : (swo s n).testBit k = (s.testBit k && !decide ((k : Int) = n)) := by
  unfold swo
  rw [sdiff_bit s (sset_lt _) hk, sset_bit hk]
  simp
theorem mem_slist {s : Nat} {n : Int} : n ∈ slist s ↔ isN n ∧ s.testBit n.toNat = true := by
  unfold slist
  rw [List.mem_map]
  constructor
  · rintro ⟨k, hk, rfl⟩
    obtain ⟨h1, h2⟩ := List.mem_filter.1 hk
    have := List.mem_range.1 h1
    exact ⟨⟨by omega, by omega⟩, by simpa using h2⟩
  · rintro ⟨⟨h1, h2⟩, h3⟩
    exact ⟨n.toNat, List.mem_filter.2 ⟨List.mem_range.2 (by omega), h3⟩, by omega⟩
theorem sset_slist {s : Nat} (h : s < 256) : sset (slist s) = s := by
  refine bits_eq (sset_lt _) h fun k hk => ?_
  rw [sset_bit hk, Bool.eq_iff_iff, decide_eq_true_eq, mem_slist]
  simp [isN]
  omega
theorem slist_node {s : Nat} : ∀ n ∈ slist s, isN n := fun _ h => (mem_slist.1 h).1
theorem slist_len (s : Nat) : (slist s).length ≤ 8 := by
  unfold slist
  rw [List.length_map]
  exact Nat.le_trans (List.length_filter_le _ _) (by simp)
theorem card_add_all : ∀ s, s < 256 → ∀ k, k < 8 → card (s ||| 2 ^ k) = (if s.testBit k then card s else card s + 1) := by decide +kernel
theorem card_wo_all : ∀ s, s < 256 → ∀ k, k < 8 → card (sdiff s (2 ^ k)) = (if s.testBit k then card s - 1 else card s) := by decide +kernel
theorem card_pos_all : ∀ s, s < 256 → (card s = 0 ↔ s = 0) := by decide +kernel
theorem card_add {s : Nat} (h : s < 256) {n : Int} (hn : isN n) : card (sadd s n) = if shas s n then card s else card s + 1 := by
  rw [shas_bit s hn, sadd, if_pos hn]
  exact card_add_all s h _ (by have := hn.2; have := hn.1; omega)
theorem card_wo {s : Nat} (h : s < 256) {n : Int} (hn : isN n) : card (swo s n) = if shas s n then card s - 1 else card s := by
  rw [shas_bit s hn, swo, sset_one, if_pos hn]
  exact card_wo_all s h _ (by have := hn.2; have := hn.1; omega)
theorem swo_no {s : Nat} (h : s < 256) {n : Int} (hn : ¬ isN n) : swo s n = s := by
  refine bits_eq (swo_lt h n) h fun k hk => ?_
  rw [swo_bit s n hk]
  have : ¬ (k : Int) = n := by intro e; apply hn; rw [← e]; exact ⟨by omega, by omega⟩
  simp [this]
theorem u8_wrap {x : Nat} (h : x < 256) : IntKind.u8.wrap (x : Int) = (x : Int) := by
  simp [IntKind.wrap, IntKind.signed, IntKind.bits]
  omega
theorem u8_or {s t : Nat} (hs : s < 256) (ht : t < 256) : IntKind.u8.wrap (((BitVec.ofInt 8 (s : Int) ||| BitVec.ofInt 8 (t : Int)).toNat : Nat) : Int) = ((s ||| t : Nat) : Int) := by
  have e1 : (BitVec.ofInt 8 (s : Int)).toNat = s := by simp; omega
  have e2 : (BitVec.ofInt 8 (t : Int)).toNat = t := by simp; omega
  rw [BitVec.toNat_or, e1, e2]
  exact u8_wrap (or_lt8 hs ht)
theorem u8_and {s t : Nat} (hs : s < 256) (ht : t < 256) : IntKind.u8.wrap (((BitVec.ofInt 8 (s : Int) &&& BitVec.ofInt 8 (t : Int)).toNat : Nat) : Int) = ((s &&& t : Nat) : Int) := by
  have e1 : (BitVec.ofInt 8 (s : Int)).toNat = s := by simp; omega
  have e2 : (BitVec.ofInt 8 (t : Int)).toNat = t := by simp; omega
  rw [BitVec.toNat_and, e1, e2]
  exact u8_wrap (Nat.lt_of_le_of_lt Nat.and_le_left hs)
theorem u8_andnot {s t : Nat} (hs : s < 256) (ht : t < 256) : IntKind.u8.wrap (((BitVec.ofInt 8 (s : Int) &&& ~~~BitVec.ofInt 8 (t : Int)).toNat : Nat) : Int) = ((sdiff s t : Nat) : Int) := by
  have e1 : (BitVec.ofInt 8 (s : Int)).toNat = s := by simp; omega
  have e2 : (BitVec.ofInt 8 (t : Int)).toNat = t := by simp; omega
  rw [BitVec.toNat_and, BitVec.toNat_not, e1, e2, show 2 ^ 8 - 1 - t = 2 ^ 8 - (t + 1) by omega]
  exact u8_wrap (sdiff_lt hs t)
end Go.Proofs.YtkailiifgdjgmaaGreat

namespace Go.Proofs.YtkailiifgdjgmaaGreat
open Go.RowKit
open Go.Maps (Keyed)

theorem IntsAt.cellp {w : World} {B : Nat} {a : Option Addr} {n : Nat} {l : List Int} (h : IntsAt w B a n l) {i : Nat} (hi : i < n) : ∃ b off z, a = some ⟨b, off, none⟩ ∧ b < B ∧ l[i]? = some z ∧ w.cell? ⟨b, off + i, none⟩ = some (.int .i64 z) ∧ InI z := by
  obtain ⟨b, off, h1, h2, h3⟩ := h.2.resolve_left (by omega)
  obtain ⟨z, hz⟩ : ∃ z, l[i]? = some z := ⟨_, List.getElem?_eq_getElem (by have := h.1; omega)⟩
  exact ⟨b, off, z, h1, h2, hz, (h3 i z hz).1, (h3 i z hz).2⟩
set_option maxRecDepth 100000 in
theorem noNode_any (w : World) (n : Int) :
    Calls Tryz.prog 25 #[.int .i64 n] w fun e w' => e = .returned (.bool (!decide (isN n))) ∧ w' = w := by
  by_cases h1 : n < 0
  · have hd : decide (isN n) = false := decide_eq_false (fun h => by have h5 := h.1; have h6 := h.2; omega)
    rw [hd]
    clear hd
    go_enter Tryz.func25, Tryz.ntmps25
    go_wp2
    go_ret
    exact ⟨rfl, rfl⟩
  · by_cases h2 : n ≥ 8
    · have hd : decide (isN n) = false := decide_eq_false (fun h => by have h5 := h.1; have h6 := h.2; omega)
      rw [hd]
      clear hd
      go_enter Tryz.func25, Tryz.ntmps25
      go_wp2
      go_ret
      exact ⟨rfl, rfl⟩
    · have hd : decide (isN n) = true := decide_eq_true ⟨by omega, by omega⟩
      rw [hd]
      clear hd
      have h3 : ¬ 8 ≤ n := by omega
      go_enter Tryz.func25, Tryz.ntmps25
      go_wp2
      go_ret
      exact ⟨rfl, rfl⟩
theorem min8 {z : Int} (h : isN z) : min z.toNat 8 = z.toNat := by obtain ⟨h1, h2⟩ := h; omega
theorem shl8 {z : Int} (h : isN z) : IntKind.u8.wrap (2 ^ z.toNat) = ((2 ^ z.toNat : Nat) : Int) := by
  have := u8_wrap (pow_node h)
  rw [← this]
  simp
theorem or8 {s : Nat} (hs : s < 256) {z : Int} (h : isN z) : bits BinOp.or IntKind.u8 (s : Int) (2 ^ z.toNat % 256) = ((sadd s z : Nat) : Int) := by
  have e : ((2 : Int) ^ z.toNat % 256) = ((2 ^ z.toNat : Nat) : Int) := by
    have h1 := pow_node h
    have h2 : ((2 : Int) ^ z.toNat) = ((2 ^ z.toNat : Nat) : Int) := by simp
    rw [h2]
    exact Int.emod_eq_of_lt (Int.natCast_nonneg _) (Int.ofNat_lt.2 h1)
  rw [e, sadd, if_pos h]
  exact u8_or hs (pow_node h)
theorem and8 {s t : Nat} (hs : s < 256) (ht : t < 256) : bits BinOp.and IntKind.u8 (s : Int) (t : Int) = ((s &&& t : Nat) : Int) := u8_and hs ht
theorem andnot8 {s t : Nat} (hs : s < 256) (ht : t < 256) : bits BinOp.andNot IntKind.u8 (s : Int) (t : Int) = ((sdiff s t : Nat) : Int) := u8_andnot hs ht
set_option maxRecDepth 100000 in
set_option maxHeartbeats 2000000 in
theorem setOf_any (w : World) (a : Option Addr) (n c : Nat) (l : List Int) (B : Nat) (hx : IntsAt w B a n l) (hn : n ≤ 9223372036854775807) :
    Calls Tryz.prog 26 #[.slice a n c] w fun e w' => e = .returned (.int .u8 ((sset l : Nat) : Int)) ∧ w' = w := by
  have HX := Lib.hid hx
  clear hx
  go_enter Tryz.func26, Tryz.ntmps26
  go_wp2
  go_loopw [3, 8] (fun sv iv wr => wr = w ∧ ∃ i : Nat, i ≤ n ∧ iv = .int .i64 i ∧ sv = .int .u8 ((sset (l.take i) : Nat) : Int)) (fun _ iv _ => n - (intOf iv).toNat)
  case atStart => exact ⟨rfl, 0, by omega, rfl, rfl⟩
  case round =>
    obtain ⟨rfl, i, hin, rfl, rfl⟩ := hrel
    by_cases hil : i < n
    · obtain ⟨b, off, z, rfl, hb, hz, hc, hzi⟩ := HX.out.cellp hil
      have hij : (0:Int) ≤ (i:Int) ∧ (i:Int) < (n:Int) := by omega
      have htk : l.take (i + 1) = l.take i ++ [z] := take_snoc hz
      have hst : sset (l.take (i + 1)) = sadd (sset (l.take i)) z := by rw [htk, sset, List.foldl_append]; rfl
      have hlt := sset_lt (l.take i)
      have HST := Lib.hid hst
      generalize sset (l.take i) = s at *
      clear htk hst
      have hnn := noNode_any wr z
      by_cases hzn : isN z
      · have hor := or8 hlt hzn
        have hmn := min8 hzn
        have hz0 : 0 ≤ z := hzn.1
        have hsa : sadd s z = s ||| 2 ^ z.toNat := by rw [sadd, if_pos hzn]
        rw [show decide (isN z) = true by simpa using hzn] at hnn
        have HE := Lib.hid (show ∃ j : Nat, j ≤ n ∧ Value.int .i64 ((i : Int) + 1) = .int .i64 j ∧ Value.int .u8 ((sadd s z : Nat) : Int) = .int .u8 ((sset (l.take j) : Nat) : Int) from ⟨i + 1, by omega, by simp, by rw [HST.out]⟩)
        clear hsa
        go_wp2_with (go_at_call 25; refine hnn.mono ?_; rintro e w1 ⟨rfl, rfl⟩)
        go_roundw
        case rel => exact ⟨trivial, HE.out⟩
        case measure => simp [intOf]; omega
      · rw [show decide (isN z) = false by simpa using hzn] at hnn
        have hsa : sadd s z = s := by rw [sadd, if_neg hzn]
        have HE := Lib.hid (show ∃ j : Nat, j ≤ n ∧ Value.int .i64 ((i : Int) + 1) = .int .i64 j ∧ Value.int .u8 ((s : Nat) : Int) = .int .u8 ((sset (l.take j) : Nat) : Int) from ⟨i + 1, by omega, by simp, by rw [HST.out, hsa]⟩)
        go_wp2_with (go_at_call 25; refine hnn.mono ?_; rintro e w1 ⟨rfl, rfl⟩)
        go_roundw
        case rel => exact ⟨trivial, HE.out⟩
        case measure => simp [intOf]; omega
    · obtain rfl : i = n := by omega
      have htk : l.take i = l := List.take_of_length_le (by rw [HX.out.1]; omega)
      rw [htk]
      go_wp2
      go_ret
      exact ⟨rfl, rfl⟩
theorem eq_nat (x : Nat) : ((x : Int) == 0) = decide (x = 0) := by
  by_cases h : x = 0
  · subst h; rfl
  · simp [h]
theorem neq_nat (x : Nat) : ((x : Int) != 0) = decide (x ≠ 0) := by
  by_cases h : x = 0
  · subst h; rfl
  · simp [h]
/-- One node, in a block of its own. -/
theorem one_ints (w : World) (n : Int) (h : InI n) (t : TypeId) : IntsAt (w.alloc (.cells #[.int .i64 n] t)) (w.heap.size + 1) (some ⟨w.heap.size, 0, none⟩) 1 [n] := by
  refine ⟨rfl, .inr ⟨_, _, rfl, by omega, fun i z hz => ?_⟩⟩
  cases i with
  | succ i => simp at hz
  | zero =>
    simp at hz
    subst hz
    exact ⟨(show Whole _ w.heap.size t #[.int .i64 n] from heap_alloc_new w _).cell 0, h⟩
set_option maxRecDepth 100000 in
set_option maxHeartbeats 2000000 in
theorem has_any (w : World) (s : Nat) (hs : s < 256) (n : Int) (hn : InI n) :
    Calls Tryz.prog 27 #[.int .u8 (s : Int), .int .i64 n] w fun e w' => e = .returned (.bool (shas s n)) ∧ Below w.heap.size w w' := by
  have hso := setOf_any (w.alloc (.cells #[.int .i64 n] 3)) (some ⟨w.heap.size, 0, none⟩) 1 1 [n] _ (one_ints w n hn _) (by omega)
  have hand := and8 hs (sset_lt [n])
  unfold shas
  generalize sset [n] = t at *
  go_enter Tryz.func27, Tryz.ntmps27
  go_wp2_with (go_at_call 26; refine hso.mono ?_; rintro e w1 ⟨rfl, rfl⟩)
  go_ret
  exact ⟨by rw [← neq_nat]; rfl, below_alloc _ _⟩
set_option maxRecDepth 100000 in
set_option maxHeartbeats 2000000 in
theorem without_any (w : World) (s : Nat) (hs : s < 256) (n : Int) (hn : InI n) :
    Calls Tryz.prog 28 #[.int .u8 (s : Int), .int .i64 n] w fun e w' => e = .returned (.int .u8 ((swo s n : Nat) : Int)) ∧ Below w.heap.size w w' := by
  have hso := setOf_any (w.alloc (.cells #[.int .i64 n] 3)) (some ⟨w.heap.size, 0, none⟩) 1 1 [n] _ (one_ints w n hn _) (by omega)
  have hand := andnot8 hs (sset_lt [n])
  unfold swo
  generalize sset [n] = t at *
  go_enter Tryz.func28, Tryz.ntmps28
  go_wp2_with (go_at_call 26; refine hso.mono ?_; rintro e w1 ⟨rfl, rfl⟩)
  go_ret
  exact ⟨rfl, below_alloc _ _⟩
set_option maxRecDepth 100000 in
theorem empty_any (w : World) (s : Nat) :
    Calls Tryz.prog 29 #[.int .u8 (s : Int)] w fun e w' => e = .returned (.bool (decide (s = 0))) ∧ w' = w := by
  go_enter Tryz.func29, Tryz.ntmps29
  go_wp2
  go_ret
  exact ⟨by rw [← eq_nat]; rfl, rfl⟩
end Go.Proofs.YtkailiifgdjgmaaGreat

namespace Go.Proofs.YtkailiifgdjgmaaGreat
open Go.RowKit
open Go.Maps (Keyed)

theorem Tryz.info_int8 : (Tryz.prog.info? 3).map (fun i => (i.zero, i.size, i.bytes)) = some (some (.int .i64 0), 1, 8) := by kernel_rfl
/-- The nodes below n, rising. -/
def slt (s n : Nat) : List Int := ((List.range n).filter fun k => s.testBit k).map fun (k : Nat) => (k : Int)
theorem slt_all (s : Nat) : slt s 8 = slist s := rfl
theorem slt_succ (s n : Nat) : slt s (n + 1) = if s.testBit n then slt s n ++ [(n : Int)] else slt s n := by
  unfold slt
  rw [List.range_succ, List.filter_append, List.map_append]
  cases h : s.testBit n <;> simp [h]
theorem slt_len (s n : Nat) : (slt s n).length ≤ n := by
  unfold slt
  rw [List.length_map]
  exact Nat.le_trans (List.length_filter_le _ _) (by simp)
theorem owned_anyE {w : World} {base n s : Nat} {v : Value} {e : TypeId} {l : List Value} (h : w.ownsRow base e s v n l) : ∃ a c, v = .slice a n c ∧ n ≤ c ∧ c ≤ maxLen := by
  obtain ⟨a, c, hv, hL⟩ := Lies.owned h
  refine ⟨a, c, hv, hL.room, ?_⟩
  rcases h.2 with ⟨h1, h2⟩ | ⟨g, cap, cur, h1, _, _, _, h3, _⟩
  · rw [hv] at h1; injection h1 with _ _ h1; rw [h1]; exact Nat.zero_le _
  · rw [hv] at h1; injection h1 with _ _ h1; rw [h1]; exact h3
set_option maxRecDepth 100000 in
set_option maxHeartbeats 4000000 in
theorem list_any (w : World) (s : Nat) (hs : s < 256) :
    Calls Tryz.prog 31 #[.int .u8 (s : Int)] w fun e w' => ∃ v, e = .returned v ∧ w'.ownsRow w.heap.size 3 1 v (slist s).length ((slist s).map (Value.int .i64)) ∧ Below w.heap.size w w' := by
  obtain ⟨i0, hi, hz0, hz1, hz2⟩ := info_parts Tryz.info_int8
  go_enter Tryz.func31, Tryz.ntmps31
  go_wp2
  go_loopw [3, 5] (fun rv iv wr => ∃ i : Nat, i ≤ 8 ∧ iv = .int .i64 i ∧ wr.ownsRow w.heap.size 3 1 rv (slt s i).length ((slt s i).map (Value.int .i64)) ∧ Below w.heap.size w wr) (fun _ iv _ => 8 - (intOf iv).toNat)
  case atStart => exact ⟨0, by omega, rfl, ⟨rfl, .inl ⟨rfl, rfl⟩⟩, Below.refl _ _⟩
  case round =>
    obtain ⟨i, hin, rfl, hown, hbw⟩ := hrel
    have HOW := Lib.hid hown
    have HBW := Lib.hid hbw
    have hsz := hbw.size
    obtain ⟨ra, rc, rfl, _, _⟩ := owned_anyE hown
    clear hown hbw
    by_cases hil : i < 8
    · have hh := has_any wr s hs (i : Int) ⟨by omega, by omega⟩
      rw [shas_bit s (show isN (i : Int) from ⟨by omega, by omega⟩), show ((i : Int)).toNat = i by omega] at hh
      have hsu := slt_succ s i
      have hle := slt_len s i
      have hij : (i : Int) < 8 := by omega
      cases hb : s.testBit i
      · rw [hb] at hh hsu
        simp only [Bool.false_eq_true, if_false] at hsu
        have HSU := Lib.hid hsu
        clear hb hsu
        go_wp2_with fail
        refine hh.mono ?_
        rintro e w1 ⟨rfl, hb1⟩
        have HR := Lib.hid (show ∃ j : Nat, j ≤ 8 ∧ Value.int .i64 ((i : Int) + 1) = .int .i64 j ∧ w1.ownsRow w.heap.size 3 1 (.slice ra (slt s i).length rc) (slt s j).length ((slt s j).map (Value.int .i64)) ∧ Below w.heap.size w w1 from ⟨i + 1, by omega, by simp, by rw [HSU.out]; exact owns_keep HOW.out (fun k hk => hb1.block k (HOW.out.lt k hk).2), HBW.out.trans (hb1.mono hsz)⟩)
        clear hb1 hh
        go_wp2_with fail
        go_roundw
        case rel => exact HR.out
        case measure => simp [intOf]; omega
      · rw [hb] at hh hsu
        simp only [if_true] at hsu
        have HSU := Lib.hid hsu
        clear hb hsu
        go_wp2_with fail
        refine hh.mono ?_
        rintro e w1 ⟨rfl, hb1⟩
        have HO1 := Lib.hid (show w1.ownsRow w.heap.size 3 1 (.slice ra (slt s i).length rc) (slt s i).length ((slt s i).map (Value.int .i64)) from owns_keep HOW.out (fun k hk => hb1.block k (HOW.out.lt k hk).2))
        have HB1 := Lib.hid (show Below w.heap.size w w1 from HBW.out.trans (hb1.mono hsz))
        have hs1 := HB1.out.size
        clear hb1 hh
        go_wp2_with (at_builtin; refine wpList_append_at_any _ rfl _ _ 35 rfl w.heap.size 3 i0 (Value.int .i64 0) 1 8 Tryz.underlying35 hi hz0 hz1 hz2 rfl (by decide) _ (slt s i).length _ rfl (HO1.out.alloc _) (some ⟨w1.heap.size, 0, none⟩) 1 1 [Value.int .i64 (i : Int)] rfl rfl (by intro h; cases h) (by rintro ad he; injection he with he; subst he; exact cell_one_new _ _ _) (by intro q hq; simp at hq; subst hq; rfl) (by unfold maxLen; omega) (by omega) (by simp; omega) ?_; intro v2 w2 hown2 hgrow2 hat2)
        have HR := Lib.hid (show ∃ j : Nat, j ≤ 8 ∧ Value.int .i64 ((i : Int) + 1) = .int .i64 j ∧ w2.ownsRow w.heap.size 3 1 v2 (slt s j).length ((slt s j).map (Value.int .i64)) ∧ Below w.heap.size w w2 from ⟨i + 1, by omega, by simp, by rw [HSU.out, List.length_append, List.map_append]; exact hown2, (HB1.out.alloc hs1 (.cells #[Value.int .i64 (i : Int)] 3)).grown hgrow2 (by simp; omega) (fun q hq => ((HO1.out.alloc (.cells #[Value.int .i64 (i : Int)] 3)).lt q hq).1)⟩)
        clear hown2 hgrow2 hat2
        go_wp2_with fail
        go_roundw
        case rel => exact HR.out
        case measure => simp [intOf]; omega
    · obtain rfl : i = 8 := by omega
      have hnl : ¬ ((8 : Nat) : Int) < 8 := by omega
      go_wp2
      go_ret
      exact ⟨_, rfl, HOW.out, HBW.out⟩
/-- An owned row of numbers, as the messages have it. -/
theorem ints_owned {w : World} {base n c : Nat} {a : Option Addr} {l : List Int} (h : w.ownsRow base 3 1 (.slice a n c) n (l.map (Value.int .i64))) (hl : l.length = n) (hb : ∀ z ∈ l, InI z) : IntsAt w w.heap.size a n l := by
  refine ⟨hl, ?_⟩
  rcases Nat.eq_zero_or_pos n with h0 | h0
  · exact .inl h0
  · obtain ⟨a', c', hv, hL⟩ := Lies.owned h
    injection hv with e1 e2 e3
    subst e1 e3
    obtain ⟨b, off, rfl, hb1, _⟩ := hL.addr h0
    refine .inr ⟨b, off, rfl, hb1, fun i z hz => ?_⟩
    have := hL.cell (j := i) (u := .int .i64 z) (by rw [List.getElem?_map, hz]; rfl)
    exact ⟨this, hb z (List.mem_of_getElem? hz)⟩
end Go.Proofs.YtkailiifgdjgmaaGreat
