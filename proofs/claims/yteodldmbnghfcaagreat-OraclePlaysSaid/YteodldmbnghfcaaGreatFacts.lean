/- Plain facts on numbers and lists: the CRC as a function on naturals. No Go in sight. The walks of frame.stir. The walk of frame.Sum. The walks of frame.word and frame.putWord. The walk of frame.putWord. Slices of bytes; the walk of frame.Seal. The walk of frame.Open. Plain facts on frames: what is sealed is opened again, and the other way round. -/
import Derived.Test.YteodldmbnghfcaaGreatRows
import Derived.WalkKit
import Derived.ProofKit
import Derived.OpenShut
import Derived.Laws.BitsAllLaws
import Derived.Lib.Hide
import Derived.Outline
import Derived.Maps.AppendAt
import Derived.RegionTactic
import Derived.ChangeAlike
import Derived.Deep.RegionWith
import Derived.BigQuiet
namespace Go.Proofs.YteodldmbnghfcaaGreat.Mt

def step (s : Nat) : Nat := if s % 2 = 1 then (s / 2) ^^^ 2197175160 else s / 2
def steps : Nat → Nat → Nat
  | 0, s => s
  | k + 1, s => step (steps k s)
def stir (s b : Nat) : Nat := steps 8 (s ^^^ b)
def crc (s : Nat) (l : List Int) : Nat := l.foldl (fun s x => stir s x.toNat) s
def sum (l : List Int) : Nat := 4294967295 - crc 4294967295 l

theorem step_lt (s : Nat) (h : s < 4294967296) : step s < 4294967296 := by
  unfold step
  split
  · exact Nat.xor_lt_two_pow (n := 32) (by omega) (by omega)
  · omega
theorem steps_lt (k s : Nat) (h : s < 4294967296) : steps k s < 4294967296 := by
  induction k with
  | zero => exact h
  | succ k ih => exact step_lt _ ih
theorem stir_lt (s b : Nat) (h : s < 4294967296) (hb : b < 256) : stir s b < 4294967296 :=
  steps_lt 8 _ (Nat.xor_lt_two_pow (n := 32) (by omega) (by omega))
theorem crc_lt (l : List Int) : ∀ (s : Nat), s < 4294967296 → (∀ x ∈ l, 0 ≤ x ∧ x < 256) → crc s l < 4294967296 := by
  induction l with
  | nil => intro s h _; exact h
  | cons x l ih =>
    intro s h hx
    refine ih _ (stir_lt _ _ h ?_) (fun y hy => hx y (by simp [hy]))
    have := hx x (by simp)
    omega
theorem crc_append (l m : List Int) (s : Nat) : crc s (l ++ m) = crc (crc s l) m := by simp [crc, List.foldl_append]
theorem crc_snoc (l : List Int) (x : Int) (s : Nat) : crc s (l ++ [x]) = stir (crc s l) x.toNat := by simp [crc, List.foldl_append]
theorem take_snoc (l : List Int) (k : Nat) (h : k < l.length) : l.take (k + 1) = l.take k ++ [l.getD k 0] := by
  rw [List.take_succ_eq_append_getElem h]; simp [List.getD, h]
theorem crc_take (l : List Int) (k s : Nat) (h : k < l.length) : crc s (l.take (k + 1)) = stir (crc s (l.take k)) (l.getD k 0).toNat := by
  rw [take_snoc l k h, crc_snoc]
theorem not32 (s : Nat) (h : s < 4294967296) : 4294967295 ^^^ s = 4294967295 - s := by
  have h1 : (BitVec.allOnes 32 ^^^ BitVec.ofNat 32 s) = ~~~ (BitVec.ofNat 32 s) := BitVec.allOnes_xor
  have h2 := congrArg BitVec.toNat h1
  rw [BitVec.toNat_not, BitVec.toNat_xor, BitVec.toNat_ofNat, BitVec.toNat_allOnes, Nat.mod_eq_of_lt (by omega)] at h2
  exact h2
theorem getD_mem (l : List Int) (i : Nat) (h : i < l.length) : l.getD i 0 ∈ l := by
  simp [List.getD, h]
end Go.Proofs.YteodldmbnghfcaaGreat.Mt

namespace Go.Proofs.YteodldmbnghfcaaGreat.Fr
open Go.RowKit

theorem xor32 (a b : Nat) (ha : a < 4294967296) (hb : b < 4294967296) : bits .xor .u32 (a : Int) (b : Int) = ((a ^^^ b : Nat) : Int) := u32_xor_nat a b ha hb
theorem and32 (a : Nat) (ha : a < 4294967296) : bits .and .u32 (a : Int) 1 = ((a % 2 : Nat) : Int) := by
  have h := u32_and_nat a 1 ha (by omega)
  rw [Nat.and_one_is_mod] at h
  exact h

set_option maxRecDepth 100000 in
set_option maxHeartbeats 400000 in
theorem stir_any (s b : Nat) (w : World) (hs : s < 4294967296) (hb : b < 256) :
    Calls Tryz.prog 78 #[.int .u32 s, .int .u8 b] w fun e w' => e = .returned (.int .u32 (Mt.stir s b : Nat)) ∧ w = w' := by
  have hx := xor32 s b hs (by omega)
  have hlt : s ^^^ b < 4294967296 := Nat.xor_lt_two_pow (n := 32) (by omega) (by omega)
  go_enter Tryz.func78, Tryz.ntmps78
  go_wp2
  clear hx
  go_loop [0, 10] (fun x i => ∃ k : Nat, k ≤ 8 ∧ i = .int .i64 k ∧ x = .int .u32 (Mt.steps k (s ^^^ b) : Nat)) (fun _ i => 8 - (intOf i).toNat)
  case atStart => exact ⟨0, by omega, rfl, rfl⟩
  case round =>
    obtain ⟨k, hk, rfl, rfl⟩ := hrel
    have hst : Mt.step (Mt.steps k (s ^^^ b)) = Mt.steps (k + 1) (s ^^^ b) := rfl
    have hl := Mt.steps_lt k _ hlt
    have HS := Lib.hid hst
    clear hst
    generalize hg : Mt.steps k (s ^^^ b) = t at *
    have HG := Lib.hid hg
    clear hg
    have ha := and32 t hl
    by_cases h8 : k < 8
    · by_cases ho : t % 2 = 1
      · have hx : bits .xor .u32 ((t : Int) / 2) 2197175160 = ((t / 2 ^^^ 2197175160 : Nat) : Int) := xor32 (t / 2) 2197175160 (by omega) (by omega)
        have he : Mt.step t = (t / 2) ^^^ 2197175160 := by simp [Mt.step, ho]
        have HE := Lib.hid he
        clear he
        rw [ho] at ha
        go_wp2
        go_round
        case rel => exact ⟨k + 1, by omega, by go_num, by rw [← HS.out, HE.out]⟩
        case measure => simp [intOf]; omega
      · have he : Mt.step t = t / 2 := by simp [Mt.step, ho]
        have HE := Lib.hid he
        clear he
        rw [show t % 2 = 0 by omega] at ha
        clear ho
        go_wp2
        go_round
        case rel => exact ⟨k + 1, by omega, by go_num, by rw [← HS.out, HE.out]; try go_num⟩
        case measure => simp [intOf]; omega
    · go_wp2
      go_ret
      have h8' : k = 8 := by omega
      exact ⟨by rw [← HG.out, h8']; rfl, rfl⟩
end Go.Proofs.YteodldmbnghfcaaGreat.Fr

namespace Go.Proofs.YteodldmbnghfcaaGreat.Fr
open Go.RowKit

/-- A slice's address and length hold just these bytes. -/
def IsB (w : World) (a : Option Addr) (n : Nat) (xs : List Int) : Prop :=
  xs.length = n ∧ (∀ x ∈ xs, 0 ≤ x ∧ x < 256) ∧ (n = 0 ∨ ∃ b off, a = some ⟨b, off, none⟩ ∧ ∀ i, i < n → w.cell? ⟨b, off + i, none⟩ = some (.int .u8 (xs.getD i 0)))
/-- A value is a slice of just these bytes. -/
def IsV (w : World) (v : Value) (xs : List Int) : Prop := ∃ a n c, v = .slice a n c ∧ n ≤ maxLen ∧ IsB w a n xs
/-- The parts of a call of Sum: one cell a part. -/
def Parts (w : World) (pb m : Nat) (xss : List (List Int)) : Prop :=
  xss.length = m ∧ m ≤ maxLen ∧ ∀ i, i < m → ∃ v, w.cell? ⟨pb, i, none⟩ = some v ∧ IsV w v (xss.getD i [])

theorem crc_flat (xss : List (List Int)) (k s : Nat) (h : k < xss.length) : Mt.crc s (xss.take (k + 1)).flatten = Mt.crc (Mt.crc s (xss.take k).flatten) (xss.getD k []) := by
  rw [List.take_succ_eq_append_getElem h, List.flatten_append, Mt.crc_append]
  simp [List.getD, h]

set_option maxRecDepth 100000 in
set_option maxHeartbeats 400000 in
theorem sum_any (pb m c : Nat) (xss : List (List Int)) (w : World) (hp : Parts w pb m xss) :
    Calls Tryz.prog 72 #[.slice (some ⟨pb, 0, none⟩) m c] w fun e w' => e = .returned (.int .u32 (Mt.sum xss.flatten : Nat)) ∧ w = w' := by
  obtain ⟨hm, hmx, hc⟩ := hp
  unfold maxLen at hmx
  have HC := Lib.hid hc
  clear hc
  have HM := Lib.hid hm
  clear hm
  go_enter Tryz.func72, Tryz.ntmps72
  go_wp2
  go_loop [3, 9] (fun x i => ∃ k : Nat, k ≤ m ∧ i = .int .i64 k ∧ x = .int .u32 (Mt.crc 4294967295 (xss.take k).flatten : Nat) ∧ Mt.crc 4294967295 (xss.take k).flatten < 4294967296) (fun _ i => m - (intOf i).toNat)
  case atStart => exact ⟨0, by omega, rfl, rfl, by simp [Mt.crc]⟩
  case round =>
    obtain ⟨k, hk, rfl, rfl, hlt⟩ := hrel
    generalize hg : Mt.crc 4294967295 (xss.take k).flatten = s at *
    have HG := Lib.hid hg
    clear hg
    by_cases hkm : k < m
    · obtain ⟨v, hcell, a, n, c', rfl, hn, hlen, hb, hat⟩ := HC.out k hkm
      have hfl := crc_flat xss k 4294967295 (by rw [HM.out]; exact hkm)
      rw [HG.out] at hfl
      have HF := Lib.hid hfl
      clear hfl
      unfold maxLen at hn
      generalize hxs : xss.getD k [] = xs at *
      have HX := Lib.hid hxs
      have HL := Lib.hid hlen
      have HB := Lib.hid hb
      have HA := Lib.hid hat
      clear hxs hlen hb hat
      have hs0 : Mt.crc s (xs.take 0) < 4294967296 := by simpa [Mt.crc] using hlt
      go_wp2
      go_loop [3, 15] (fun x i => ∃ j : Nat, j ≤ n ∧ i = .int .i64 j ∧ x = .int .u32 (Mt.crc s (xs.take j) : Nat) ∧ Mt.crc s (xs.take j) < 4294967296) (fun _ i => n - (intOf i).toNat)
      case atStart => exact ⟨0, by omega, rfl, rfl, hs0⟩
      case round =>
        obtain ⟨j, hj, rfl, rfl, hlj⟩ := hrel
        by_cases hjn : j < n
        · obtain ⟨b, off, rfl, hcj⟩ := HA.out.resolve_left (by omega)
          have hcell2 := hcj j hjn
          clear hcj
          have hbj : 0 ≤ xs.getD j 0 ∧ xs.getD j 0 < 256 := HB.out _ (Mt.getD_mem _ _ (by have := HL.out; omega))
          have htk := Mt.crc_take xs j s (by have := HL.out; omega)
          have hlt2 := Mt.stir_lt _ (xs.getD j 0).toNat hlj (by omega)
          rw [← htk] at hlt2
          have HT := Lib.hid htk
          have HL2 := Lib.hid hlt2
          clear htk hlt2
          generalize hg1 : Mt.crc s (xs.take j) = s1 at *
          have HG1 := Lib.hid hg1
          clear hg1
          obtain ⟨y, hy⟩ : ∃ y : Nat, xs.getD j 0 = (y : Int) := ⟨(xs.getD j 0).toNat, by omega⟩
          have hy2 : (xs.getD j 0).toNat = y := by omega
          have hy3 : y < 256 := by omega
          have HY := Lib.hid hy2
          rw [hy] at hcell2
          clear hy hy2 hbj
          go_wp2_with (go_at_call 78; refine (stir_any s1 y _ hlj hy3).mono ?_; rintro e w' ⟨rfl, rfl⟩)
          go_round
          case rel => exact ⟨j + 1, by omega, by go_num, by rw [HT.out, HY.out], HL2.out⟩
          case measure => simp [intOf]; omega
        · go_wp2
          have hjn' : j = n := by omega
          have hfin : Mt.crc s (xs.take j) = Mt.crc 4294967295 (xss.take (k + 1)).flatten := by
            rw [HF.out, List.take_of_length_le (by rw [HL.out]; omega)]
          go_round
          case rel => exact ⟨k + 1, by omega, by go_num, by rw [hfin], by rw [← hfin]; exact hlj⟩
          case measure => simp [intOf]; omega
    · have hx : bits .xor .u32 IntKind.u32.max (s : Int) = ((4294967295 - s : Nat) : Int) := by
        rw [← Mt.not32 s hlt]
        exact xor32 4294967295 s (by omega) hlt
      have hsg : IntKind.u32.signed = false := rfl
      have hkm' : k = m := by omega
      have ht : Mt.sum xss.flatten = 4294967295 - s := by
        rw [Mt.sum, ← HG.out, List.take_of_length_le (by rw [HM.out]; omega)]
      have HT := Lib.hid ht
      clear ht hkm'
      go_wp2
      go_ret
      exact ⟨by rw [HT.out]; rfl, rfl⟩
end Go.Proofs.YteodldmbnghfcaaGreat.Fr

namespace Go.Proofs.YteodldmbnghfcaaGreat.Fr
open Go.RowKit

/-- The number of k bytes, the highest first. -/
def wd (xs : List Int) : Nat → Nat
  | 0 => 0
  | k + 1 => wd xs k * 256 + (xs.getD k 0).toNat

theorem wd_lt (xs : List Int) (hb : ∀ x ∈ xs, 0 ≤ x ∧ x < 256) : ∀ k, k ≤ xs.length → wd xs k < 256 ^ k := by
  intro k
  induction k with
  | zero => intro _; simp [wd]
  | succ k ih =>
    intro hk
    have h1 := ih (by omega)
    have h2 := hb _ (Mt.getD_mem xs k (by omega))
    rw [wd, Nat.pow_succ]
    omega
theorem or32 (a y : Nat) (ha : a < 16777216) (hy : y < 256) : bits .or .u32 ((a : Int) * 256) (y : Int) = ((a * 256 + y : Nat) : Int) := by
  have h := u32_or_nat (a * 256) y (by omega) (by omega)
  have e : a * 256 ||| y = a * 256 + y := by
    have := Nat.shiftLeft_add_eq_or_of_lt (b := y) (i := 8) (by omega) a
    rw [Nat.shiftLeft_eq] at this
    exact this.symm
  rw [e] at h
  exact h

set_option maxRecDepth 100000 in
set_option maxHeartbeats 400000 in
theorem word_any (b off n c : Nat) (xs : List Int) (w : World) (hn : 4 ≤ n) (hmx : n ≤ maxLen) (hxs : IsB w (some ⟨b, off, none⟩) n xs) :
    Calls Tryz.prog 71 #[.slice (some ⟨b, off, none⟩) n c] w fun e w' => e = .returned (.int .u32 (wd xs 4 : Nat)) ∧ w = w' := by
  obtain ⟨hlen, hb, hat⟩ := hxs
  unfold maxLen at hmx
  obtain ⟨b', off', he, hc⟩ := hat.resolve_left (by omega)
  injection he with he
  injection he with e1 e2 e3
  subst e1 e2
  have HC := Lib.hid hc
  have HL := Lib.hid hlen
  have HB := Lib.hid hb
  clear hc hlen hb e3 hat
  go_enter Tryz.func71, Tryz.ntmps71
  go_wp2
  go_loop [3, 5] (fun x i => ∃ k : Nat, k ≤ 4 ∧ i = .int .i64 k ∧ x = .int .u32 (wd xs k : Nat)) (fun _ i => 4 - (intOf i).toNat)
  case atStart => exact ⟨0, by omega, rfl, rfl⟩
  case round =>
    obtain ⟨k, hk, rfl, rfl⟩ := hrel
    by_cases h4 : k < 4
    · have hcell := HC.out k (by omega)
      have hbj : 0 ≤ xs.getD k 0 ∧ xs.getD k 0 < 256 := HB.out _ (Mt.getD_mem _ _ (by have := HL.out; omega))
      have hlt : wd xs k < 16777216 := Nat.lt_of_lt_of_le (wd_lt xs HB.out k (by have := HL.out; omega)) (Nat.pow_le_pow_right (n := 256) (by omega) (show k ≤ 3 by omega))
      have HS := Lib.hid (show wd xs (k + 1) = wd xs k * 256 + (xs.getD k 0).toNat from rfl)
      generalize hg : wd xs k = s at *
      obtain ⟨y, hy⟩ : ∃ y : Nat, xs.getD k 0 = (y : Int) := ⟨(xs.getD k 0).toNat, by omega⟩
      have HY := Lib.hid (show (xs.getD k 0).toNat = y by omega)
      have hy3 : y < 256 := by omega
      rw [hy] at hcell
      clear hy hbj hg
      have hor := or32 s y hlt hy3
      go_wp2
      go_round
      case rel => exact ⟨k + 1, by omega, by go_num, by rw [HS.out, HY.out]; go_num⟩
      case measure => simp [intOf]; omega
    · have h4' : k = 4 := by omega
      have HS := Lib.hid (show wd xs k = wd xs 4 by rw [h4'])
      clear h4'
      go_wp2
      go_ret
      exact ⟨by rw [HS.out]; rfl, rfl⟩
end Go.Proofs.YteodldmbnghfcaaGreat.Fr

namespace Go.Proofs.YteodldmbnghfcaaGreat.Fr
open Go.RowKit

/-- The four bytes of a number, the highest first. -/
def be (x : Nat) : List Int := [((x / 16777216 : Nat) : Int), ((x / 65536 % 256 : Nat) : Int), ((x / 256 % 256 : Nat) : Int), ((x % 256 : Nat) : Int)]

theorem be_byte (x : Nat) (hx : x < 4294967296) : ∀ y ∈ be x, 0 ≤ y ∧ y < 256 := by
  intro y hy
  simp only [be, List.mem_cons, List.not_mem_nil, or_false] at hy
  omega

theorem Tryz.infoB : (Tryz.prog.info? 5).map (fun i => (i.zero, i.size, i.bytes)) = some (some (.int .u8 0), 1, 1) := by kernel_rfl

set_option maxRecDepth 100000 in
set_option maxHeartbeats 1000000 in
theorem putWord_any (base g l cap x : Nat) (xs : List Value) (w : World) (hx : x < 4294967296) (hroom : l + 4 ≤ cap) (hbase : base ≤ w.heap.size)
    (hown : w.ownsRow base 5 1 (.slice (some ⟨g, 0, none⟩) l cap) l xs) :
    Calls Tryz.prog 77 #[.slice (some ⟨g, 0, none⟩) l cap, .int .u32 x] w fun e w' =>
      e = .returned (.slice (some ⟨g, 0, none⟩) ((l + 4 : Nat)) cap) ∧ w'.ownsRow base 5 1 (.slice (some ⟨g, 0, none⟩) (l + 4) cap) (l + 4) (xs ++ (be x).map (Value.int .u8)) ∧ Below base w w' := by
  obtain ⟨i0, hi, hz0, hz1, hz2⟩ := info_parts Tryz.infoB
  have hgb : base ≤ g := (hown.lt g rfl).1
  go_enter Tryz.func77, Tryz.ntmps77
  go_wp2
  go_loopw [0, 6] (fun v i wr => ∃ k : Nat, k ≤ 4 ∧ i = .int .i64 k ∧ v = .slice (some ⟨g, 0, none⟩) (l + k) cap ∧ wr.ownsRow base 5 1 (.slice (some ⟨g, 0, none⟩) (l + k) cap) (l + k) (xs ++ ((be x).take k).map (Value.int .u8)) ∧ Below base w wr ∧ base ≤ wr.heap.size)
    (fun _ i _ => 4 - (intOf i).toNat)
  case atStart => exact ⟨0, by omega, rfl, rfl, by simpa using hown, Below.refl _ _, hbase⟩
  case round =>
    obtain ⟨k, hk, rfl, rfl, hown', hbel, hbs⟩ := hrel
    clear hown hbase
    by_cases h4 : k < 4
    · rcases (show k = 0 ∨ k = 1 ∨ k = 2 ∨ k = 3 by omega) with rfl | rfl | rfl | rfl
      all_goals
        try simp only [Nat.add_zero] at hown'
        go_wp2_with (at_builtin; refine wpList_append_fits _ rfl _ _ 68 rfl base 5 i0 1 Tryz.underlying68 hi hz1 g _ cap _ rfl (hown'.alloc _) ⟨wr.heap.size, 0, none⟩ 1 1 [_] rfl rfl (cell_one_new _ _ _) (by intro u hu; simp at hu; subst hu; rfl) (by omega) ?_; intro w1 hown1 hgrow)
      all_goals
        have hbel1 : Below base w w1 := (hbel.alloc hbs _).grown hgrow (by simp; omega) (by intro q hq; simp at hq; omega)
        have hbs1 : base ≤ w1.heap.size := by have := hgrow.size; simp at this; omega
        clear hgrow hbel hown'
        go_wp2
        go_roundw
        case rel => first | exact ⟨1, by omega, by go_num, rfl, by simpa [be] using hown1, hbel1, hbs1⟩ | exact ⟨2, by omega, by go_num, rfl, by simpa [be] using hown1, hbel1, hbs1⟩ | exact ⟨3, by omega, by go_num, rfl, by simpa [be] using hown1, hbel1, hbs1⟩ | exact ⟨4, by omega, by go_num, rfl, by simpa [be] using hown1, hbel1, hbs1⟩
        case measure => simp [intOf]; try omega
    · obtain rfl : k = 4 := by omega
      go_wp2
      go_ret
      exact ⟨rfl, by simpa [be] using hown', hbel⟩
end Go.Proofs.YteodldmbnghfcaaGreat.Fr

namespace Go.Proofs.YteodldmbnghfcaaGreat.Fr
open Go.RowKit

theorem IsB.ext {w w' : World} {a : Option Addr} {n : Nat} {xs : List Int} (h : IsB w a n xs) (hw : ∀ b o v, b < w.heap.size → w.cell? ⟨b, o, none⟩ = some v → w'.cell? ⟨b, o, none⟩ = some v) : IsB w' a n xs := by
  obtain ⟨h1, h2, h3⟩ := h
  refine ⟨h1, h2, h3.imp_right ?_⟩
  rintro ⟨b, off, rfl, hc⟩
  exact ⟨b, off, rfl, fun i hi => hw _ _ _ (World.block_lt_of_cell? w ⟨b, off + i, none⟩ (hc i hi)) (hc i hi)⟩
theorem IsB.below {w w' : World} {a : Option Addr} {n : Nat} {xs : List Int} (h : IsB w a n xs) (hw : Below w.heap.size w w') : IsB w' a n xs :=
  h.ext fun b o _ hb hc => (hw.cell (p := ⟨b, o, none⟩) hb).trans hc
theorem IsB.grown {w w' : World} {a : Option Addr} {n : Nat} {xs : List Int} (h : IsB w a n xs) (hw : w.grownBy w' none) : IsB w' a n xs :=
  h.ext fun _ _ _ _ hc => hw.cell hc (by simp)
theorem IsB.alloc {w : World} {a : Option Addr} {n : Nat} {xs : List Int} (h : IsB w a n xs) (o : Obj) : IsB (w.alloc o) a n xs :=
  h.grown (World.grownBy_alloc _ _ _)
theorem IsB.owned {w : World} {base n : Nat} {a : Option Addr} {c : Nat} {xs : List Int} (h : w.ownsRow base 5 1 (.slice a n c) n (xs.map (Value.int .u8))) (hb : ∀ x ∈ xs, 0 ≤ x ∧ x < 256) : IsB w a n xs := by
  refine ⟨by simpa using h.1, hb, ?_⟩
  rcases h.2 with ⟨_, h0⟩ | ⟨g, cap, cur, hv, _⟩
  · exact .inl h0
  · injection hv with e1 e2 e3
    subst e1
    refine .inr ⟨g, 0, rfl, fun i hi => ?_⟩
    have hl : i < xs.length := by have := h.1; simp at this; omega
    have := h.cells (g := g) rfl i (.int .u8 xs[i]) (by simp [hl])
    have e : ((⟨g, 0, none⟩ : Addr).add i) = ⟨g, 0 + i, none⟩ := by
      unfold Addr.add
      split <;> simp_all
    rw [e] at this
    simpa [List.getD, hl] using this
theorem IsB.news {w : World} {a : Option Addr} {n : Nat} {xs : List Int} (h : IsB w a n xs) : ∀ ad, a = some ad → ∀ j u, (xs.map (Value.int .u8))[j]? = some u → w.cell? (ad.add j) = some u := by
  rintro ad rfl j u hu
  obtain ⟨h1, _, h3⟩ := h
  have hj : j < xs.length := by
    rcases Nat.lt_or_ge j xs.length with h | h
    · exact h
    · rw [List.getElem?_eq_none (by simpa using h)] at hu; cases hu
  rcases h3 with h3 | ⟨b, off, he, hc⟩
  · omega
  · injection he with he
    subst he
    have e : ((⟨b, off, none⟩ : Addr).add j) = ⟨b, off + j, none⟩ := by simp [Addr.add]
    rw [e, hc j (by omega)]
    simpa [List.getD, hj] using hu
theorem oneCell_map (xs : List Int) : ∀ u ∈ xs.map (Value.int .u8), u.oneCell' = true := by
  intro u hu
  obtain ⟨x, _, rfl⟩ := List.mem_map.1 hu
  rfl

theorem Parts.lit {w : World} (vs : List Value) (xss : List (List Int)) (T : TypeId) (hl : xss.length = vs.length) (hm : vs.length ≤ maxLen) (h : ∀ i, i < vs.length → IsV w (vs.getD i undef) (xss.getD i [])) :
    Parts (w.alloc (.cells vs.toArray T)) w.heap.size vs.length xss := by
  refine ⟨hl, hm, fun i hi => ?_⟩
  obtain ⟨a, n, c, hv, hn, hb⟩ := h i hi
  refine ⟨vs.getD i undef, ?_, a, n, c, hv, hn, hb.alloc _⟩
  have := World.cell?_alloc_mark w vs.toArray T (0, 0) i
  rw [this]
  simp [List.getD, hi]

/-- The bytes of a payload's frame. -/
def sealed (xs : List Int) : List Int := be xs.length ++ be (Mt.sum (be xs.length ++ xs)) ++ xs
theorem sealed_byte (xs : List Int) (hb : ∀ x ∈ xs, 0 ≤ x ∧ x < 256) (hl : xs.length ≤ 16384) : ∀ x ∈ sealed xs, 0 ≤ x ∧ x < 256 := by
  intro x hx
  simp only [sealed, List.mem_append] at hx
  rcases hx with (h | h) | h
  · exact be_byte _ (by omega) x h
  · exact be_byte _ (by unfold Mt.sum; omega) x h
  · exact hb x h
theorem sealed_length (xs : List Int) : (sealed xs).length = 8 + xs.length := by simp [sealed, be]; omega

set_option maxRecDepth 100000 in
theorem seal_long (a : Option Addr) (n c : Nat) (w : World) (hn : 16384 < n) (hmx : n ≤ maxLen) :
    Calls Tryz.prog 66 #[.slice a n c] w fun e w' => e = .returned (.tuple #[.slice none 0 0, .int .i64 2]) ∧ w = w' := by
  unfold maxLen at hmx
  go_enter Tryz.func66, Tryz.ntmps66
  go_wp2
  go_ret2
  exact ⟨rfl, rfl⟩

set_option maxRecDepth 100000 in
set_option maxHeartbeats 1000000 in
theorem seal_fits (a : Option Addr) (n c : Nat) (xs : List Int) (w : World) (hn : n ≤ 16384) (hnil : a = none → n = 0 ∧ c = 0) (hxs : IsB w a n xs) :
    Calls Tryz.prog 66 #[.slice a n c] w fun e w' => ∃ g, e = .returned (.tuple #[.slice (some ⟨g, 0, none⟩) (8 + n) (8 + n), .int .i64 0]) ∧
      w'.ownsRow w.heap.size 5 1 (.slice (some ⟨g, 0, none⟩) (8 + n) (8 + n)) (8 + n) ((sealed xs).map (Value.int .u8)) ∧ Below w.heap.size w w' := by
  obtain ⟨i0, hi, hz0, hz1, hz2⟩ := info_parts Tryz.infoB
  go_enter Tryz.func66, Tryz.ntmps66
  go_wp2_with (at_make; go_loud (refine wpList_make_own _ rfl _ _ 68 rfl w.heap.size 5 i0 (.int .u8 0) 1 Tryz.underlying68 hi hz0 hz1 .i64 .i64 _ (8 + n) rfl rfl (by omega) (by rw [hz2]; omega) (by unfold maxLen; omega) (Nat.le_refl _) ?_); intro w1 hown1 hgrow1)
  have hbel1 : Below w.heap.size w w1 := (Below.refl _ _).grown hgrow1 (Nat.le_refl _) (by intro k hk; cases hk)
  refine (putWord_any w.heap.size w.heap.size 0 (8 + n) n [] _ (by omega) (by omega) hgrow1.size hown1).mono ?_
  rintro e w2 ⟨rfl, hown2, hbel2⟩
  have hB2 := hbel1.trans hbel2
  clear hbel1 hbel2 hgrow1 hown1
  have hown2' : w2.ownsRow w.heap.size 5 1 (.slice (some ⟨w.heap.size, 0, none⟩) 4 (8 + n)) 4 ((be n).map (Value.int .u8)) := hown2
  have hp := hxs.below hB2
  have hb4 : IsB w2 (some ⟨w.heap.size, 0, none⟩) 4 (be n) := IsB.owned hown2' (be_byte n (by omega))
  have hparts : Parts (w2.alloc (.cells #[.slice (some ⟨w.heap.size, 0, none⟩) 4 (8 + n), .slice a n c] 68)) w2.heap.size 2 [be n, xs] :=
    Parts.lit [.slice (some ⟨w.heap.size, 0, none⟩) 4 (8 + n), .slice a n c] [be n, xs] 68 rfl (by simp [maxLen]) (by
      intro i hi
      match i, hi with
      | 0, _ => exact ⟨_, _, _, rfl, by unfold maxLen; omega, hb4⟩
      | 1, _ => exact ⟨_, _, _, rfl, by unfold maxLen; omega, hp⟩)
  have HP := Lib.hid hparts
  have HO := Lib.hid hown2'
  have HX := Lib.hid hxs
  have HN := Lib.hid hnil
  clear hparts hown2' hown2 hp hb4 hxs hnil
  go_wp2_with fail
  refine (sum_any _ _ _ _ _ HP.out).mono ?_
  rintro e w3 ⟨rfl, rfl⟩
  go_wp2_with fail
  have hsl : Mt.sum (be n ++ xs) < 4294967296 := by unfold Mt.sum; omega
  refine (putWord_any w.heap.size w.heap.size 4 (8 + n) _ _ _ hsl (by omega) (by have := hB2.size; simp; omega) (HO.out.alloc _)).mono ?_
  rintro e w4 ⟨rfl, hown4, hbel4⟩
  have hB4 := (hB2.alloc hB2.size (.cells #[.slice (some ⟨w.heap.size, 0, none⟩) 4 (8 + n), .slice a n c] 68)).trans hbel4
  have hp4 := HX.out.below hB4
  clear hbel4 hB2 hsl
  have hnews := hp4.news
  have hlen : (xs.map (Value.int .u8)).length = n * 1 := by simpa using HX.out.1
  have HNW := Lib.hid hnews
  have HLN := Lib.hid hlen
  clear hnews hlen hp4
  go_wp2_with (at_builtin; refine wpList_append_fits_any _ rfl _ _ 68 rfl w.heap.size 5 i0 1 Tryz.underlying68 hi hz1 w.heap.size (4 + 4) (8 + n) _ rfl hown4 a n c (xs.map (Value.int .u8)) rfl HLN.out HN.out HNW.out (oneCell_map xs) (by omega) ?_; intro w5 hown5 hgrow5)
  have hB5 : Below w.heap.size w w5 := hB4.grown hgrow5 hB4.size (by intro q hq; injection hq with hq; omega)
  have HB5 := Lib.hid hB5
  have HO5 := Lib.hid hown5
  clear hB5 hown5 hgrow5 hB4 hown4
  go_wp2
  go_ret2
  have hs : (sealed xs).map (Value.int .u8) = (be n).map (Value.int .u8) ++ ((be (Mt.sum (be n ++ xs))).map (Value.int .u8) ++ xs.map (Value.int .u8)) := by
    simp [sealed, HX.out.1]
  exact ⟨w.heap.size, rfl, by rw [hs]; simpa using HO5.out, HB5.out⟩
end Go.Proofs.YteodldmbnghfcaaGreat.Fr

namespace Go.Proofs.YteodldmbnghfcaaGreat.Fr
open Go.RowKit

theorem IsB.sub {w : World} {b off n : Nat} {xs : List Int} (h : IsB w (some ⟨b, off, none⟩) n xs) (i k : Nat) (hik : i + k ≤ n) : IsB w (some ⟨b, off + i, none⟩) k ((xs.drop i).take k) := by
  obtain ⟨h1, h2, h3⟩ := h
  refine ⟨by simp; omega, fun x hx => h2 x (List.mem_of_mem_drop (List.mem_of_mem_take hx)), ?_⟩
  rcases h3 with h3 | ⟨b', off', he, hc⟩
  · exact .inl (by omega)
  · injection he with he
    injection he with e1 e2 e3
    subst e1 e2
    refine .inr ⟨b, off + i, rfl, fun j hj => ?_⟩
    rw [Nat.add_assoc, hc (i + j) (by omega)]
    have hl : i + j < xs.length := by omega
    simp [List.getD, hj]
theorem IsB.empty (w : World) (a : Option Addr) : IsB w a 0 [] := ⟨rfl, by simp, .inl rfl⟩

/-- The payload with which these bytes begin, if they begin with a frame. -/
def pay (xs : List Int) : List Int := (xs.drop 8).take (wd xs 4)
/-- What is wrong with the first frame of these bytes. -/
def err (xs : List Int) : Nat :=
  if xs.length < 8 then 10 else if 16384 < wd xs 4 then 2 else if xs.length < 8 + wd xs 4 then 10 else if Mt.sum ((xs.drop 0).take 4 ++ pay xs) = wd (xs.drop 4) 4 then 0 else 11

set_option maxRecDepth 100000 in
set_option maxHeartbeats 1000000 in
theorem open_short (a : Option Addr) (n c : Nat) (w : World) (hn : n < 8) :
    Calls Tryz.prog 63 #[.slice a n c] w fun e w' => e = .returned (.tuple #[.slice none 0 0, .int .i64 0, .int .i64 10]) ∧ w = w' := by
  go_enter Tryz.func63, Tryz.ntmps63
  go_wp2
  go_ret3
  exact ⟨rfl, rfl⟩

set_option maxRecDepth 100000 in
set_option maxHeartbeats 1000000 in
theorem open_long (b off n c : Nat) (xs : List Int) (w : World) (hn : 8 ≤ n) (hmx : n ≤ maxLen) (hxs : IsB w (some ⟨b, off, none⟩) n xs) (hlong : 16384 < wd xs 4) :
    Calls Tryz.prog 63 #[.slice (some ⟨b, off, none⟩) n c] w fun e w' => e = .returned (.tuple #[.slice none 0 0, .int .i64 0, .int .i64 2]) ∧ w = w' := by
  have hlen := hxs.1
  have hw := word_any b off n c xs w (by omega) hmx hxs
  have HW := Lib.hid hw
  unfold maxLen at hmx
  generalize wd xs 4 = t at *
  clear hw hlen hxs
  go_enter Tryz.func63, Tryz.ntmps63
  go_wp2_with (go_at_call 71; refine HW.out.mono ?_; rintro e w' ⟨rfl, rfl⟩)
  go_ret3
  exact ⟨rfl, rfl⟩

set_option maxRecDepth 100000 in
set_option maxHeartbeats 1000000 in
theorem open_short2 (b off n c : Nat) (xs : List Int) (w : World) (hn : 8 ≤ n) (hmx : n ≤ maxLen) (hxs : IsB w (some ⟨b, off, none⟩) n xs) (hlong : wd xs 4 ≤ 16384) (hs : n < 8 + wd xs 4) :
    Calls Tryz.prog 63 #[.slice (some ⟨b, off, none⟩) n c] w fun e w' => e = .returned (.tuple #[.slice none 0 0, .int .i64 0, .int .i64 10]) ∧ w = w' := by
  have hw := word_any b off n c xs w (by omega) hmx hxs
  have HW := Lib.hid hw
  unfold maxLen at hmx
  generalize wd xs 4 = t at *
  clear hw hxs
  go_enter Tryz.func63, Tryz.ntmps63
  go_wp2_with (go_at_call 71; refine HW.out.mono ?_; rintro e w' ⟨rfl, rfl⟩)
  go_ret3
  exact ⟨rfl, rfl⟩

theorem Parts.two {w : World} {v1 v2 : Value} {x1 x2 : List Int} (h1 : IsV w v1 x1) (h2 : IsV w v2 x2) : Parts (w.alloc (.cells #[v1, v2] 68)) w.heap.size 2 [x1, x2] :=
  Parts.lit [v1, v2] [x1, x2] 68 rfl (by simp [maxLen]) (by
    intro i hi
    match i, hi with
    | 0, _ => exact h1
    | 1, _ => exact h2)

/-- What a call of Open comes to. -/
def OpenPost (w : World) (xs : List Int) (e : Ending) (w' : World) : Prop :=
  Below w.heap.size w w' ∧
  ((err xs = 0 ∧ ∃ v, e = .returned (.tuple #[v, .int .i64 ((8 + wd xs 4 : Nat)), .int .i64 0]) ∧ w'.ownsRow w.heap.size 5 1 v (wd xs 4) ((pay xs).map (Value.int .u8))) ∨
   (err xs ≠ 0 ∧ e = .returned (.tuple #[.slice none 0 0, .int .i64 0, .int .i64 (err xs : Nat)])))
theorem OpenPost.bad {w w' : World} {xs : List Int} {e : Ending} {k : Nat} (hb : Below w.heap.size w w') (h : err xs = k) (hk : k ≠ 0) (he : e = .returned (.tuple #[.slice none 0 0, .int .i64 0, .int .i64 (k : Nat)])) : OpenPost w xs e w' :=
  ⟨hb, .inr ⟨by omega, by rw [he, h]⟩⟩

set_option maxRecDepth 100000 in
set_option maxHeartbeats 4000000 in
theorem open_full (b off n c : Nat) (xs : List Int) (w : World) (hn : 8 ≤ n) (hmx : n ≤ maxLen) (hnc : n ≤ c) (hc8 : 8 < c) (hcm : c ≤ maxLen) (hxs : IsB w (some ⟨b, off, none⟩) n xs) (hlong : wd xs 4 ≤ 16384) (hs : 8 + wd xs 4 ≤ n) :
    Calls Tryz.prog 63 #[.slice (some ⟨b, off, none⟩) n c] w (OpenPost w xs) := by
  obtain ⟨i0, hi, hz0, hz1, hz2⟩ := info_parts Tryz.infoB
  have hw := word_any b off n c xs w (by omega) hmx hxs
  have HW := Lib.hid hw
  have hpb := hxs.sub 8 (wd xs 4) (by omega)
  have h1 : IsV w (.slice (some ⟨b, off, none⟩) 4 c) ((xs.drop 0).take 4) := ⟨_, _, _, rfl, by unfold maxLen; omega, hxs.sub 0 4 (by omega)⟩
  have h2 : IsV w (.slice (some ⟨b, off + 8, none⟩) (wd xs 4) (c - 8)) (pay xs) := ⟨_, _, _, rfl, by unfold maxLen; omega, hpb⟩
  have h3 : IsB w (some ⟨b, off + 4, none⟩) (n - 4) (xs.drop 4) := by
    have := hxs.sub 4 (n - 4) (by omega)
    rwa [List.take_of_length_le (by simp; have := hxs.1; omega)] at this
  have hps : Parts (w.alloc (.cells #[.slice (some ⟨b, off, none⟩) 4 c, .slice (some ⟨b, off + 8, none⟩) (wd xs 4) (c - 8)] 68)).drew w.heap.size 2 [(xs.drop 0).take 4, pay xs] := Parts.two h1 h2
  have HP := Lib.hid hps
  have h4 : IsB (w.alloc (.cells #[.slice (some ⟨b, off, none⟩) 4 c, .slice (some ⟨b, off + 8, none⟩) (wd xs 4) (c - 8)] 68)).drew (some ⟨b, off + 4, none⟩) (n - 4) (xs.drop 4) := h3.alloc _
  have h5 : IsB (w.alloc (.cells #[.slice (some ⟨b, off, none⟩) 4 c, .slice (some ⟨b, off + 8, none⟩) (wd xs 4) (c - 8)] 68)).drew (some ⟨b, off + 8, none⟩) (wd xs 4) (pay xs) := hpb.alloc _
  have h6 : Below w.heap.size w (w.alloc (.cells #[.slice (some ⟨b, off, none⟩) 4 c, .slice (some ⟨b, off + 8, none⟩) (wd xs 4) (c - 8)] 68)).drew := ((Below.refl _ _).alloc (Nat.le_refl _) _).drew
  have hp : ((pay xs).map (Value.int .u8)).length = wd xs 4 * 1 := by simp [pay]; have := hxs.1; omega
  have he0 : Mt.sum ((xs.drop 0).take 4 ++ pay xs) = wd (xs.drop 4) 4 → err xs = 0 := by
    intro h
    have := hxs.1
    simp only [err]
    rw [if_neg (by omega), if_neg (by omega), if_neg (by omega), if_pos h]
  have he1 : ¬ Mt.sum ((xs.drop 0).take 4 ++ pay xs) = wd (xs.drop 4) 4 → err xs = 11 := by
    intro h
    have := hxs.1
    simp only [err]
    rw [if_neg (by omega), if_neg (by omega), if_neg (by omega), if_neg h]
  have HE0 := Lib.hid he0
  have HE1 := Lib.hid he1
  have H3 := Lib.hid (show IsB w.drew _ _ _ from h3)
  have H4 := Lib.hid h4
  have H5 := Lib.hid h5.news
  have H6 := Lib.hid h6
  have HL := Lib.hid hp
  unfold maxLen at hmx hcm
  generalize ht : wd xs 4 = t at *
  have HT := Lib.hid ht
  clear hw hxs h1 h2 h3 h4 h5 h6 hp hps ht he0 he1 hpb
  go_enter Tryz.func63, Tryz.ntmps63
  go_wp2_with (go_at_call 71; refine HW.out.mono ?_; rintro e w' ⟨rfl, rfl⟩)
  go_region_with (first
    | (go_at_call 72; refine (sum_any _ _ _ _ _ HP.out).mono ?_; rintro e w' ⟨rfl, rfl⟩)
    | (go_at_call 71; refine (word_any _ _ _ _ _ _ (by omega) (by unfold maxLen; omega) H4.out).mono ?_; rintro e w' ⟨rfl, rfl⟩)
    | (go_at_call 71; refine (word_any _ _ _ _ _ _ (by omega) (by unfold maxLen; omega) H3.out).mono ?_; rintro e w' ⟨rfl, rfl⟩))
  all_goals
    by_cases hq : Mt.sum (xs.take 4 ++ pay xs) = wd (xs.drop 4) 4
    · have hq' : (((Mt.sum (xs.take 4 ++ pay xs) : Nat) : Int) != ((wd (xs.drop 4) 4 : Nat) : Int)) = false := by simp [hq]
      have HQ := Lib.hid hq
      clear hq
      go_wp2_with (at_builtin; refine wpList_append_own _ rfl _ _ 68 rfl w.heap.size 5 i0 (.int .u8 0) 1 1 Tryz.underlying68 hi hz0 hz1 hz2 rfl (by decide) _ 0 [] rfl (World.ownsRow_nil _ _ _ _) ⟨b, off + 8, none⟩ t (c - 8) ((pay xs).map (Value.int .u8)) rfl HL.out (H5.out _ rfl) (oneCell_map _) (by unfold maxLen; omega) (by omega) H6.out.size ?_; intro v1 w1 hown1 hgrow1 _)
      have HB := Lib.hid (H6.out.grown hgrow1 H6.out.size (by intro k hk; cases hk))
      have HO := Lib.hid hown1
      clear hown1 hgrow1
      go_wp2
      go_ret3
      exact ⟨HB.out, .inl ⟨HE0.out HQ.out, v1, by rw [HT.out]; go_num, by rw [HT.out]; simpa using HO.out⟩⟩
    · have hq' : (((Mt.sum (xs.take 4 ++ pay xs) : Nat) : Int) != ((wd (xs.drop 4) 4 : Nat) : Int)) = true := by simp; omega
      have HQ := Lib.hid hq
      clear hq
      go_wp2
      go_ret3
      exact OpenPost.bad H6.out (HE1.out HQ.out) (by decide) rfl

set_option maxRecDepth 100000 in
set_option maxHeartbeats 4000000 in
theorem open_eight (b off : Nat) (xs : List Int) (w : World) (hxs : IsB w (some ⟨b, off, none⟩) 8 xs) (h0 : wd xs 4 = 0) :
    Calls Tryz.prog 63 #[.slice (some ⟨b, off, none⟩) 8 8] w (OpenPost w xs) := by
  obtain ⟨i0, hi, hz0, hz1, hz2⟩ := info_parts Tryz.infoB
  have hw := word_any b off 8 8 xs w (by omega) (by simp [maxLen]) hxs
  have HW := Lib.hid hw
  have hpe : pay xs = [] := by simp [pay, h0]
  have hpb : IsB w (some ⟨b, off, none⟩) 0 (pay xs) := by rw [hpe]; exact IsB.empty _ _
  have h1 : IsV w (.slice (some ⟨b, off, none⟩) 4 8) ((xs.drop 0).take 4) := ⟨_, _, _, rfl, by unfold maxLen; omega, hxs.sub 0 4 (by omega)⟩
  have h2 : IsV w (.slice (some ⟨b, off, none⟩) 0 0) (pay xs) := ⟨_, _, _, rfl, by unfold maxLen; omega, hpb⟩
  have h3 : IsB w (some ⟨b, off + 4, none⟩) 4 (xs.drop 4) := by
    have := hxs.sub 4 4 (by omega)
    rwa [List.take_of_length_le (by simp; have := hxs.1; omega)] at this
  have hps : Parts (w.alloc (.cells #[.slice (some ⟨b, off, none⟩) 4 8, .slice (some ⟨b, off, none⟩) 0 0] 68)).drew w.heap.size 2 [(xs.drop 0).take 4, pay xs] := Parts.two h1 h2
  have HP := Lib.hid hps
  have h4 : IsB (w.alloc (.cells #[.slice (some ⟨b, off, none⟩) 4 8, .slice (some ⟨b, off, none⟩) 0 0] 68)).drew (some ⟨b, off + 4, none⟩) 4 (xs.drop 4) := h3.alloc _
  have h5 : IsB (w.alloc (.cells #[.slice (some ⟨b, off, none⟩) 4 8, .slice (some ⟨b, off, none⟩) 0 0] 68)).drew (some ⟨b, off, none⟩) 0 (pay xs) := hpb.alloc _
  have h6 : Below w.heap.size w (w.alloc (.cells #[.slice (some ⟨b, off, none⟩) 4 8, .slice (some ⟨b, off, none⟩) 0 0] 68)).drew := ((Below.refl _ _).alloc (Nat.le_refl _) _).drew
  have hp : ((pay xs).map (Value.int .u8)).length = 0 * 1 := by simp [hpe]
  have he0 : Mt.sum ((xs.drop 0).take 4 ++ pay xs) = wd (xs.drop 4) 4 → err xs = 0 := by
    intro h
    have := hxs.1
    simp only [err]
    rw [if_neg (by omega), if_neg (by omega), if_neg (by omega), if_pos h]
  have he1 : ¬ Mt.sum ((xs.drop 0).take 4 ++ pay xs) = wd (xs.drop 4) 4 → err xs = 11 := by
    intro h
    have := hxs.1
    simp only [err]
    rw [if_neg (by omega), if_neg (by omega), if_neg (by omega), if_neg h]
  have HE0 := Lib.hid he0
  have HE1 := Lib.hid he1
  have H3 := Lib.hid (show IsB w.drew _ _ _ from h3)
  have H4 := Lib.hid h4
  have H5 := Lib.hid h5.news
  have H6 := Lib.hid h6
  have HL := Lib.hid hp
  have HT := Lib.hid h0
  rw [h0] at HW
  clear hw hxs h1 h2 h3 h4 h5 h6 hp hps h0 he0 he1 hpb hpe
  go_enter Tryz.func63, Tryz.ntmps63
  go_wp2_with (go_at_call 71; refine HW.out.mono ?_; rintro e w' ⟨rfl, rfl⟩)
  go_region_with (first
    | (go_at_call 72; refine (sum_any _ _ _ _ _ HP.out).mono ?_; rintro e w' ⟨rfl, rfl⟩)
    | (go_at_call 71; refine (word_any _ _ _ _ _ _ (by omega) (by unfold maxLen; omega) H4.out).mono ?_; rintro e w' ⟨rfl, rfl⟩)
    | (go_at_call 71; refine (word_any _ _ _ _ _ _ (by omega) (by unfold maxLen; omega) H3.out).mono ?_; rintro e w' ⟨rfl, rfl⟩))
  all_goals
    by_cases hq : Mt.sum (xs.take 4 ++ pay xs) = wd (xs.drop 4) 4
    · have hq' : (((Mt.sum (xs.take 4 ++ pay xs) : Nat) : Int) != ((wd (xs.drop 4) 4 : Nat) : Int)) = false := by simp [hq]
      have HQ := Lib.hid hq
      clear hq
      go_wp2_with (at_builtin; refine wpList_append_own _ rfl _ _ 68 rfl w.heap.size 5 i0 (.int .u8 0) 1 1 Tryz.underlying68 hi hz0 hz1 hz2 rfl (by decide) _ 0 [] rfl (World.ownsRow_nil _ _ _ _) ⟨b, off, none⟩ 0 0 ((pay xs).map (Value.int .u8)) rfl HL.out (H5.out _ rfl) (oneCell_map _) (by unfold maxLen; omega) (by omega) H6.out.size ?_; intro v1 w1 hown1 hgrow1 _)
      have HB := Lib.hid (H6.out.grown hgrow1 H6.out.size (by intro k hk; cases hk))
      have HO := Lib.hid hown1
      clear hown1 hgrow1
      go_wp2
      go_ret3
      exact ⟨HB.out, .inl ⟨HE0.out HQ.out, v1, by rw [HT.out]; go_num, by rw [HT.out]; simpa using HO.out⟩⟩
    · have hq' : (((Mt.sum (xs.take 4 ++ pay xs) : Nat) : Int) != ((wd (xs.drop 4) 4 : Nat) : Int)) = true := by simp; omega
      have HQ := Lib.hid hq
      clear hq
      go_wp2
      go_ret3
      exact OpenPost.bad H6.out (HE1.out HQ.out) (by decide) rfl

set_option maxRecDepth 100000 in
theorem open_any (a : Option Addr) (n c : Nat) (xs : List Int) (w : World) (hmx : n ≤ maxLen) (hnc : n ≤ c) (hcm : c ≤ maxLen) (hxs : IsB w a n xs) :
    Calls Tryz.prog 63 #[.slice a n c] w (OpenPost w xs) := by
  have hl := hxs.1
  by_cases h8 : n < 8
  · refine (open_short a n c w h8).mono ?_
    rintro e w' ⟨rfl, rfl⟩
    exact OpenPost.bad (Below.refl _ _) (k := 10) (by simp only [err]; rw [if_pos (by omega)]) (by decide) rfl
  · obtain ⟨b, off, rfl, _⟩ := hxs.2.2.resolve_left (by omega)
    by_cases h1 : 16384 < wd xs 4
    · refine (open_long b off n c xs w (by omega) hmx hxs h1).mono ?_
      rintro e w' ⟨rfl, rfl⟩
      exact OpenPost.bad (Below.refl _ _) (k := 2) (by simp only [err]; rw [if_neg (by omega), if_pos h1]) (by decide) rfl
    · by_cases h2 : n < 8 + wd xs 4
      · refine (open_short2 b off n c xs w (by omega) hmx hxs (by omega) h2).mono ?_
        rintro e w' ⟨rfl, rfl⟩
        exact OpenPost.bad (Below.refl _ _) (k := 10) (by simp only [err]; rw [if_neg (by omega), if_neg h1, if_pos (by omega)]) (by decide) rfl
      · by_cases h3 : c = 8
        · obtain rfl : n = 8 := by omega
          subst h3
          exact open_eight b off xs w hxs (by omega)
        · exact open_full b off n c xs w (by omega) hmx hnc (by omega) hcm hxs (by omega) (by omega)
end Go.Proofs.YteodldmbnghfcaaGreat.Fr

namespace Go.Proofs.YteodldmbnghfcaaGreat.Fr
open Go.RowKit

theorem wd_be (x : Nat) (hx : x < 4294967296) (r : List Int) : wd (be x ++ r) 4 = x := by
  simp [wd, be, List.getD]
  omega
theorem be_length (x : Nat) : (be x).length = 4 := rfl
theorem sum_lt (l : List Int) : Mt.sum l < 4294967296 := by unfold Mt.sum; omega
theorem take_sealed (xs : List Int) : (sealed xs).take 4 = be xs.length := by simp [sealed, be]
theorem drop4_sealed (xs : List Int) : (sealed xs).drop 4 = be (Mt.sum (be xs.length ++ xs)) ++ xs := by simp [sealed, be]
theorem drop8_sealed (xs : List Int) : (sealed xs).drop 8 = xs := by simp [sealed, be]
theorem wd_sealed (xs : List Int) (h : xs.length ≤ 16384) (r : List Int) : wd (sealed xs ++ r) 4 = xs.length := by
  simp only [sealed, List.append_assoc]
  exact wd_be _ (by omega) _
theorem pay_sealed (xs : List Int) (h : xs.length ≤ 16384) (r : List Int) : pay (sealed xs ++ r) = xs := by
  have hl := sealed_length xs
  rw [pay, wd_sealed xs h, List.drop_append_of_le_length (by omega), drop8_sealed]
  simp
theorem err_sealed (xs : List Int) (h : xs.length ≤ 16384) (r : List Int) : err (sealed xs ++ r) = 0 := by
  have hl := sealed_length xs
  have h1 : ¬ (sealed xs ++ r).length < 8 := by simp; omega
  have h2 : ¬ (sealed xs ++ r).length < 8 + xs.length := by simp; omega
  have h3 : ((sealed xs ++ r).drop 0).take 4 = be xs.length := by
    rw [List.drop_zero, List.take_append_of_le_length (by omega), take_sealed]
  have h4 : wd ((sealed xs ++ r).drop 4) 4 = Mt.sum (be xs.length ++ xs) := by
    rw [List.drop_append_of_le_length (by omega), drop4_sealed, List.append_assoc]
    exact wd_be _ (sum_lt _) _
  simp only [err, wd_sealed xs h]
  rw [if_neg h1, if_neg (by omega), if_neg h2, h3, h4, pay_sealed xs h, if_pos rfl]
theorem nine : Mt.sum [49, 50, 51, 52, 53, 54, 55, 56, 57] = 3808858755 := by decide +kernel
end Go.Proofs.YteodldmbnghfcaaGreat.Fr
