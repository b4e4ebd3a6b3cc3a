/- Layer 5: texts, and what they are cut into. Layer 5: names, and the first place of a byte: both sides' walks. Layer 5: strings.Cut at a byte; objects and users, on both sides. Layer 5: objects and users, on both sides. Layer 5: users, on both sides. Layer 5: one tuple looked at, on both sides; tuples as texts. Layer 5: rows of tuples looked at. -/
import Derived.Test.YtmjdngomjjhhiaaGreatTB
import Derived.Lib.Bytealg
import Derived.Lib.Walk
namespace Go.Proofs.YtmjdngomjjhhiaaGreat
open Go.RowKit

/-- The first place of a byte, or the text's length. -/
def ix (x : UInt8) (S : ByteArray) : Nat := S.data.toList.idxOf x
def hd (x : UInt8) (S : ByteArray) : ByteArray := S.extract 0 (ix x S)
def tl (x : UInt8) (S : ByteArray) : ByteArray := S.extract (ix x S + 1) S.size
def has (x : UInt8) (S : ByteArray) : Bool := decide (ix x S < S.size)

theorem ix_le (x : UInt8) (S : ByteArray) : ix x S ≤ S.size := by
  rw [Lib.size_eq]
  exact List.idxOf_le_length
theorem indexByte_idxOf (l : List UInt8) (x : UInt8) : Lib.indexByte l x = if l.idxOf x < l.length then (l.idxOf x : Int) else -1 := by
  induction l with
  | nil => rfl
  | cons b l ih =>
    unfold Lib.indexByte
    rw [List.idxOf_cons]
    by_cases hb : (b == x) = true
    · simp [hb]
    · have hb' : (b == x) = false := by simpa using hb
      simp only [hb', ih, Bool.false_eq_true, if_false, cond_false, List.length_cons]
      by_cases h : l.idxOf x < l.length
      · have h2 : l.idxOf x + 1 < l.length + 1 := by omega
        rw [if_pos h, if_pos h2, if_neg (by simp)]
        omega
      · have h2 : ¬ l.idxOf x + 1 < l.length + 1 := by omega
        rw [if_neg h, if_neg h2]
        rfl
theorem indexByte_has (S : ByteArray) (x : UInt8) : Lib.indexByte S.data.toList x = if has x S then (ix x S : Int) else -1 := by
  rw [indexByte_idxOf, has, ix, ← Lib.size_eq]
  simp
theorem data_ext {A B : ByteArray} (h : A.data.toList = B.data.toList) : A = B := ByteArray.ext (Array.toList_inj.1 h)
theorem extract_all (S : ByteArray) : S.extract 0 S.size = S := by
  apply data_ext
  rw [Lib.extract_data, Lib.size_eq, List.drop_zero, Nat.sub_zero, List.take_length]
theorem hd_none {x : UInt8} {S : ByteArray} (h : has x S = false) : hd x S = S := by
  have h1 := ix_le x S
  have h2 : ix x S = S.size := by simp [has] at h; omega
  rw [hd, h2, extract_all]
theorem tl_none {x : UInt8} {S : ByteArray} (h : has x S = false) : tl x S = ByteArray.empty := by
  have h1 := ix_le x S
  have h2 : ix x S = S.size := by simp [has] at h; omega
  apply data_ext
  rw [tl, h2, Lib.extract_data, Lib.size_eq]
  simp

/-- May a byte stand in a name? -/
def okN (b : Nat) : Bool := (decide (97 ≤ b) && decide (b ≤ 122)) || (decide (48 ≤ b) && decide (b ≤ 57)) || decide (b = 95)
def okB (b : UInt8) : Bool := okN b.toNat
def nameB (S : ByteArray) : Bool := decide (0 < S.size) && decide (S.size ≤ 32) && S.data.toList.all okB
/-- The byte at a place. -/
def at_ (S : ByteArray) (i : Nat) : Nat := (S.data.toList.getD i 0).toNat
theorem at_get (S : ByteArray) (i : Nat) (h : i < S.size) : S[i].toNat = at_ S i := by
  have h' : i < S.data.toList.length := by rw [← Lib.size_eq]; exact h
  rw [at_, List.getD_eq_getElem?_getD, List.getElem?_eq_getElem h']
  simp
  rfl
theorem all_take_succ (S : ByteArray) (i : Nat) (h : i < S.size) : (S.data.toList.take (i + 1)).all okB = ((S.data.toList.take i).all okB && okN (at_ S i)) := by
  have h' : i < S.data.toList.length := by rw [← Lib.size_eq]; exact h
  rw [List.take_add_one, List.all_append, at_, List.getD_eq_getElem?_getD, List.getElem?_eq_getElem h']
  simp [okB]

def objE (S : ByteArray) : Int := if has 58 S then (if nameB (hd 58 S) && nameB (tl 58 S) then 0 else 50) else 51
def objA (S : ByteArray) : ByteArray := if objE S = 0 then hd 58 S else ByteArray.empty
def objB (S : ByteArray) : ByteArray := if objE S = 0 then tl 58 S else ByteArray.empty
def usrE (S : ByteArray) : Int := if objE (hd 35 S) = 0 then (if has 35 S && !nameB (tl 35 S) then 50 else 0) else objE (hd 35 S)
def usrA (S : ByteArray) : ByteArray := if usrE S = 0 then hd 35 S else ByteArray.empty
def usrB (S : ByteArray) : ByteArray := if usrE S = 0 then tl 35 S else ByteArray.empty
def tupE (a b c : ByteArray) : Int := if objE a = 0 then (if nameB b then usrE c else 50) else objE a
def prsE (S : ByteArray) : Int := if has 64 S && has 35 (hd 64 S) then tupE (hd 35 (hd 64 S)) (tl 35 (hd 64 S)) (tl 64 S) else 51
def prsA (S : ByteArray) : ByteArray := if prsE S = 0 then hd 35 (hd 64 S) else ByteArray.empty
def prsB (S : ByteArray) : ByteArray := if prsE S = 0 then tl 35 (hd 64 S) else ByteArray.empty
def prsC (S : ByteArray) : ByteArray := if prsE S = 0 then tl 64 S else ByteArray.empty
theorem empty_eq : (⟨#[]⟩ : ByteArray) = ByteArray.empty := rfl
end Go.Proofs.YtmjdngomjjhhiaaGreat

namespace Go.Proofs.YtmjdngomjjhhiaaGreat
open Go.RowKit

set_option maxHeartbeats 1000000 in
theorem inName_any (b : Nat) (w : World) (hb : b < 256) :
    Calls Tryz.prog 126 #[.int .u8 b] w fun e w' => e = .returned (.bool (okN b)) ∧ w' = w := by
  go_enter Tryz.func126, Tryz.ntmps126
  go_wp2
  all_goals (go_ret; refine ⟨?_, rfl⟩; simp [okN]; first | (rw [Bool.eq_iff_iff]; simp; omega) | omega)

set_option maxHeartbeats 1000000 in
set_option maxRecDepth 100000 in
theorem indexByte_any (S : ByteArray) (c : Int) (w : World) :
    Calls Tryz.prog 132 #[.string S, .int .u8 c] w fun e w' => e = .returned (.int .i64 (Lib.indexByte S.data.toList c.toNat.toUInt8)) ∧ w' = w := by
  go_enter Tryz.func132, Tryz.ntmps132
  go_wp2
  rw [run_callFunc_extern Tryz.func136 (by kernel_rfl) (by kernel_rfl) (by kernel_rfl) (e := Extern.BytealgIndexByte.indexByte) (by kernel_rfl), Lib.run_indexByteString]
  simp only [Result.andThen]
  rw [Oper.upon_value]
  go_wp2
  go_ret
  exact ⟨rfl, rfl⟩

set_option maxHeartbeats 1000000 in
set_option maxRecDepth 100000 in
theorem isName_any (S : ByteArray) (w : World) :
    Calls Tryz.prog 108 #[.string S] w fun e w' => e = .returned (.bool (nameB S)) ∧ w' = w := by
  by_cases h0 : 0 < S.size
  · by_cases h1 : S.size ≤ 32
    · have hn : nameB S = S.data.toList.all okB := by simp [nameB, h0, h1]
      have HN := Lib.hid hn
      clear hn
      go_enter Tryz.func108, Tryz.ntmps108
      go_wp2
      go_loop [14] (fun i => ∃ k : Nat, k ≤ S.size ∧ i = .int .i64 k ∧ (S.data.toList.take k).all okB = true) (fun i => S.size - (intOf i).toNat)
      case atStart => exact ⟨0, by omega, rfl, rfl⟩
      case round =>
        obtain ⟨k, hk, rfl, hall⟩ := hrel
        have HALL := Lib.hid hall
        clear hall
        by_cases hks : k < S.size
        · go_wp2_with fail
          refine (inName_any _ _ (by have := S[k].toNat_lt; simpa using this)).mono ?_
          rintro e w1 ⟨rfl, rfl⟩
          rw [at_get S k hks]
          have hs := all_take_succ S k hks
          rw [HALL.out, Bool.true_and] at hs
          cases ho : okN (at_ S k) with
          | true =>
            rw [ho] at hs
            have HS := Lib.hid hs
            clear hs ho
            go_wp2
            go_round
            case rel => exact ⟨k + 1, by omega, by go_num, HS.out⟩
            case measure => simp [intOf]; omega
          | false =>
            rw [ho] at hs
            have hf : S.data.toList.all okB = false := by
              cases h : S.data.toList.all okB with
              | false => rfl
              | true => rw [show (S.data.toList.take (k + 1)).all okB = true from List.all_eq_true.2 fun x hx => List.all_eq_true.1 h x (List.mem_of_mem_take hx)] at hs; cases hs
            have HS := Lib.hid (HN.out.trans hf)
            clear hs hf ho
            go_wp2
            go_ret
            exact ⟨by rw [HS.out]; rfl, rfl⟩
        · have hk2 : k = S.data.toList.length := by rw [← Lib.size_eq]; omega
          have hf := HALL.out
          rw [hk2, List.take_length] at hf
          have HS := Lib.hid (HN.out.trans hf)
          clear hk2 hf
          go_wp2
          go_ret
          exact ⟨by rw [HS.out]; rfl, rfl⟩
    · have hn : nameB S = false := by simp [nameB, h1]
      rw [hn]
      go_enter Tryz.func108, Tryz.ntmps108
      go_wp2
      go_ret
      exact ⟨rfl, rfl⟩
  · have hn : nameB S = false := by simp [nameB, h0]
    rw [hn]
    go_enter Tryz.func108, Tryz.ntmps108
    go_wp2
    go_ret
    exact ⟨rfl, rfl⟩

set_option maxHeartbeats 2000000 in
set_option maxRecDepth 100000 in
theorem name_any (S : ByteArray) (w : World) :
    Calls Tryz.prog 70 #[.string S] w fun e w' => e = .returned (.bool (nameB S)) ∧ w' = w := by
  by_cases h0 : 0 < S.size
  · by_cases h1 : S.size ≤ 32
    · have hn : nameB S = S.data.toList.all okB := by simp [nameB, h0, h1]
      have HN := Lib.hid hn
      clear hn
      go_enter Tryz.func70, Tryz.ntmps70
      go_wp2
      go_loop [3] (fun i => ∃ k : Nat, k ≤ S.size ∧ i = .int .i64 k ∧ (S.data.toList.take k).all okB = true) (fun i => S.size - (intOf i).toNat)
      case atStart => exact ⟨0, by omega, rfl, rfl⟩
      case round =>
        obtain ⟨k, hk, rfl, hall⟩ := hrel
        have HALL := Lib.hid hall
        clear hall
        by_cases hks : k < S.size
        · have hs := all_take_succ S k hks
          rw [HALL.out, Bool.true_and] at hs
          have hg := at_get S k hks
          have hlt : at_ S k < 256 := by rw [← hg]; have := S[k].toNat_lt; simpa using this
          obtain ⟨b, hb⟩ : ∃ b, b = at_ S k := ⟨_, rfl⟩
          rw [← hb] at hs hg hlt
          clear hb
          cases ho : okN b with
          | true =>
            rw [ho] at hs
            have HS := Lib.hid hs
            have q : (b = 95 ∨ (48 ≤ b ∧ b ≤ 57)) ∨ (97 ≤ b ∧ b ≤ 122) := by simp [okN] at ho; omega
            clear hs ho
            rcases q with (q | q) | q
            all_goals go_wp2
            all_goals go_round
            all_goals first | exact ⟨k + 1, by omega, by go_num, HS.out⟩ | (simp [intOf]; omega)
          | false =>
            rw [ho] at hs
            have hf : S.data.toList.all okB = false := by
              cases h : S.data.toList.all okB with
              | false => rfl
              | true => rw [show (S.data.toList.take (k + 1)).all okB = true from List.all_eq_true.2 fun x hx => List.all_eq_true.1 h x (List.mem_of_mem_take hx)] at hs; cases hs
            have HS := Lib.hid (HN.out.trans hf)
            have q : b ≠ 95 ∧ (b < 48 ∨ 57 < b) ∧ (b < 97 ∨ 122 < b) := by simp [okN] at ho; omega
            clear hs hf ho
            have q1 := q
            rcases (show (b < 48) ∨ (57 < b ∧ b < 95) ∨ (95 < b ∧ b < 97) ∨ 122 < b by omega) with q2 | ⟨q2, q3⟩ | ⟨q2, q3⟩ | q2
            · clear q1
              go_wp2
              all_goals first | (exfalso; omega) | (go_ret; exact ⟨by rw [HS.out]; rfl, rfl⟩) | (exfalso; simp_all; omega)
            · clear q1
              go_wp2
              all_goals first | (exfalso; omega) | (go_ret; exact ⟨by rw [HS.out]; rfl, rfl⟩) | (exfalso; simp_all; omega)
            · clear q1
              go_wp2
              all_goals first | (exfalso; omega) | (go_ret; exact ⟨by rw [HS.out]; rfl, rfl⟩) | (exfalso; simp_all; omega)
            · clear q1
              go_wp2
              all_goals first | (exfalso; omega) | (go_ret; exact ⟨by rw [HS.out]; rfl, rfl⟩) | (exfalso; simp_all; omega)
        · have hk2 : k = S.data.toList.length := by rw [← Lib.size_eq]; omega
          have hf := HALL.out
          rw [hk2, List.take_length] at hf
          have HS := Lib.hid (HN.out.trans hf)
          clear hk2 hf
          go_wp2
          go_ret
          exact ⟨by rw [HS.out]; rfl, rfl⟩
    · have hn : nameB S = false := by simp [nameB, h1]
      rw [hn]
      go_enter Tryz.func70, Tryz.ntmps70
      go_wp2
      go_ret
      exact ⟨rfl, rfl⟩
  · have hn : nameB S = false := by simp [nameB, h0]
    rw [hn]
    go_enter Tryz.func70, Tryz.ntmps70
    go_wp2
    go_ret
    exact ⟨rfl, rfl⟩

theorem idxOf_at (l : List UInt8) (x : UInt8) (k : Nat) (hk : k < l.length) (hb : k ≤ l.idxOf x) (h : l.getD k 0 = x) : l.idxOf x = k := by
  induction l generalizing k with
  | nil => simp at hk
  | cons b l ih =>
    cases k with
    | zero => simp at h; simp [h]
    | succ k =>
      rw [List.idxOf_cons] at hb ⊢
      by_cases hbx : (b == x) = true
      · simp [hbx] at hb
      · have hbx' : (b == x) = false := by simpa using hbx
        simp only [hbx', cond_false] at hb ⊢
        rw [ih k (by simpa using hk) (by omega) (by simpa using h)]
theorem idxOf_past (l : List UInt8) (x : UInt8) (k : Nat) (hk : k < l.length) (hb : k ≤ l.idxOf x) (h : l.getD k 0 ≠ x) : k + 1 ≤ l.idxOf x := by
  rcases Nat.lt_or_ge k (l.idxOf x) with h1 | h1
  · omega
  · have e : l.idxOf x = k := by omega
    exfalso
    apply h
    have h2 : l.idxOf x < l.length := by omega
    have h3 := List.getElem_idxOf h2
    rw [List.getD_eq_getElem?_getD, List.getElem?_eq_getElem hk]
    simp only [Option.getD_some]
    simpa [e] using h3

/-- The first place of a byte, or -1. -/
def fnd (x : UInt8) (S : ByteArray) : Int := if has x S then (ix x S : Int) else -1
set_option maxHeartbeats 1000000 in
set_option maxRecDepth 100000 in
theorem find_any (S : ByteArray) (x : UInt8) (w : World) (hS : S.size ≤ 9223372036854775807) :
    Calls Tryz.prog 110 #[.string S, .int .u8 (x.toNat : Int)] w fun e w' => e = .returned (.int .i64 (fnd x S)) ∧ w' = w := by
  go_enter Tryz.func110, Tryz.ntmps110
  go_wp2
  go_loop [5] (fun i => ∃ k : Nat, k ≤ S.size ∧ i = .int .i64 k ∧ k ≤ ix x S) (fun i => S.size - (intOf i).toNat)
  case atStart => exact ⟨0, by omega, rfl, by omega⟩
  case round =>
    obtain ⟨k, hk, rfl, hall⟩ := hrel
    by_cases hks : k < S.size
    · have hks' : k < S.data.toList.length := by rw [← Lib.size_eq]; exact hks
      have hg := at_get S k hks
      by_cases hx : S.data.toList.getD k 0 = x
      · have hxx : at_ S k = x.toNat := by rw [at_, hx]
        have hi : ix x S = k := idxOf_at _ _ _ hks' hall hx
        have hh : fnd x S = k := by simp [fnd, has, hi, hks]
        rw [hxx] at hg
        have HH := Lib.hid hh
        clear hh hi hx hxx hall
        go_wp2
        go_ret
        exact ⟨by rw [HH.out]; rfl, rfl⟩
      · have hxx : at_ S k ≠ x.toNat := by
          intro h
          apply hx
          exact UInt8.toNat_inj.1 h
        have hi : k + 1 ≤ ix x S := idxOf_past _ _ _ hks' hall hx
        have hne : (S[k].toNat : Int) ≠ (x.toNat : Int) := by rw [hg]; omega
        have HH := Lib.hid hi
        clear hi hx hxx hall hg
        go_wp2
        go_round
        case rel => exact ⟨k + 1, by omega, by go_num, HH.out⟩
        case measure => simp [intOf]; omega
    · have hh : fnd x S = -1 := by
        have := ix_le x S
        rw [fnd, if_neg (by simp [has]; omega)]
      have HH := Lib.hid hh
      clear hh hall
      go_wp2
      go_ret
      exact ⟨by rw [HH.out]; rfl, rfl⟩
end Go.Proofs.YtmjdngomjjhhiaaGreat

namespace Go.Proofs.YtmjdngomjjhhiaaGreat
open Go.RowKit

theorem below_drew {w w' : World} {B : Nat} (h : ∃ n, w' = w.drewN n) : Below B w w' := by
  obtain ⟨n, rfl⟩ := h
  exact ⟨rfl, rfl, rfl, Nat.le_refl _, fun _ _ => rfl⟩

set_option maxHeartbeats 2000000 in
set_option maxRecDepth 100000 in
theorem index_any (S : ByteArray) (x : UInt8) (w : World) :
    Calls Tryz.prog 131 #[.string S, .string ⟨#[x]⟩] w fun e w' => e = .returned (.int .i64 (fnd x S)) ∧ w' = w := by
  have hf : Lib.indexByte S.data.toList x = fnd x S := indexByte_has S x
  have HF := Lib.hid hf
  clear hf
  go_enter Tryz.func131, Tryz.ntmps131
  go_wp2_with (go_at_call 132; refine (indexByte_any _ _ _).mono ?_; rintro e w' ⟨rfl, rfl⟩)
  · have h : ([x] == S.toList) = true := by assumption
    go_ret
    refine ⟨?_, rfl⟩
    have e : S.data.toList = [x] := by rw [← Lib.toList_data]; exact (beq_iff_eq.1 h).symm
    rw [← HF.out, e]
    simp [Lib.indexByte]
  · go_ret
    refine ⟨?_, rfl⟩
    rw [← HF.out]
    simp
    rfl

set_option maxHeartbeats 2000000 in
set_option maxRecDepth 100000 in
theorem lcut_any (S : ByteArray) (x : UInt8) (w : World) (hS : S.size ≤ 9223372036854775806) :
    Calls Tryz.prog 130 #[.string S, .string ⟨#[x]⟩] w fun e w' => e = .returned (.tuple #[.string (hd x S), .string (tl x S), .bool (has x S)]) ∧ ∃ n, w' = w.drewN n := by
  cases h : has x S with
  | false =>
    have e : fnd x S = -1 := by simp [fnd, h]
    have HI := index_any S x
    rw [e] at HI
    rw [hd_none h, tl_none h]
    go_enter Tryz.func130, Tryz.ntmps130
    go_wp2_with (go_at_call 131; refine (HI _).mono ?_; rintro e w' ⟨rfl, rfl⟩)
    go_ret3
    exact ⟨rfl, 0, rfl⟩
  | true =>
    have e : fnd x S = ix x S := by simp [fnd, h]
    have HI := index_any S x
    rw [e] at HI
    have hlt : ix x S < S.size := by simpa [has] using h
    have hA := fun w : World => str_head S (ix x S) (by omega) w
    have hB := fun w : World => str_tail S (ix x S + 1) (by omega) w
    have HX := Lib.hid h
    unfold hd tl
    generalize ix x S = k at *
    have hw : IntKind.i64.wrap ((k : Int) + 1) = ((k + 1 : Nat) : Int) := by rw [IntWalk.i64_in _ (by omega)]; omega
    clear h e
    go_enter Tryz.func130, Tryz.ntmps130
    go_wp2_with (go_at_call 131; refine (HI _).mono ?_; rintro e w' ⟨rfl, rfl⟩)
    go_quiet (fail)
    go_wp2
    go_ret3
    exact ⟨rfl, _, rfl⟩

set_option maxHeartbeats 2000000 in
set_option maxRecDepth 100000 in
theorem cut_any (S : ByteArray) (x : UInt8) (w : World) (hS : S.size ≤ 9223372036854775806) :
    Calls Tryz.prog 125 #[.string S, .string ⟨#[x]⟩] w fun e w' => e = .returned (.tuple #[.string (hd x S), .string (tl x S), .bool (has x S)]) ∧ ∃ n, w' = w.drewN n := by
  go_enter Tryz.func125, Tryz.ntmps125
  go_wp2_with (go_at_call 130; refine (lcut_any _ _ _ hS).mono ?_; rintro e w' ⟨rfl, n, rfl⟩)
  go_ret3
  exact ⟨rfl, n, rfl⟩
end Go.Proofs.YtmjdngomjjhhiaaGreat

namespace Go.Proofs.YtmjdngomjjhhiaaGreat
open Go.RowKit

abbrev Three (a b : ByteArray) (e : Int) : Ending := .returned (.tuple #[.string a, .string b, .int .i64 e])
theorem hd_size (x : UInt8) (S : ByteArray) : (hd x S).size ≤ S.size := by
  have := ix_le x S
  rw [hd, ByteArray.size_extract]
  omega
theorem tl_size (x : UInt8) (S : ByteArray) : (tl x S).size ≤ S.size := by
  rw [tl, ByteArray.size_extract]
  omega

set_option maxHeartbeats 2000000 in
set_option maxRecDepth 100000 in
theorem object_any (S : ByteArray) (w : World) (hS : S.size ≤ 9223372036854775806) :
    Calls Tryz.prog 107 #[.string S] w fun e w' => e = Three (objA S) (objB S) (objE S) ∧ ∃ n, w' = w.drewN n := by
  have HC := fun w => cut_any S 58 w hS
  have key : ∀ (a b : ByteArray) (h n1 n2 : Bool), hd 58 S = a → tl 58 S = b → has 58 S = h → nameB a = n1 → nameB b = n2 → ∀ (p q : ByteArray) (z : Int),
      z = (if h then (if n1 && n2 then 0 else 50) else 51) → p = (if z = 0 then a else ByteArray.empty) → q = (if z = 0 then b else ByteArray.empty) →
      Calls Tryz.prog 107 #[.string S] w fun e w' => e = Three p q z ∧ ∃ n, w' = w.drewN n := by
    intro a b h n1 n2 ha hb hh hn1 hn2 p q z hz hp hq
    rw [ha, hb, hh] at HC
    have N1 := fun w => isName_any a w
    have N2 := fun w => isName_any b w
    rw [hn1] at N1
    rw [hn2] at N2
    clear ha hb hh hn1 hn2
    have HC' := Lib.hid HC
    have HN1 := Lib.hid N1
    have HN2 := Lib.hid N2
    have HZ := Lib.hid hz
    have HP := Lib.hid hp
    have HQ := Lib.hid hq
    clear HC N1 N2 hz hp hq
    go_enter Tryz.func107, Tryz.ntmps107
    go_wp2_with fail
    refine (HC'.out _).mono ?_
    rintro e w1 ⟨rfl, n, rfl⟩
    cases h with
    | false =>
      go_wp2
      go_ret3
      obtain rfl : z = 51 := HZ.out
      obtain rfl : p = ByteArray.empty := HP.out
      obtain rfl : q = ByteArray.empty := HQ.out
      exact ⟨rfl, _, rfl⟩
    | true =>
      go_wp2_with fail
      refine (HN1.out _).mono ?_
      rintro e w1 ⟨rfl, rfl⟩
      cases n1 with
      | false =>
        go_wp2
        go_ret3
        obtain rfl : z = 50 := HZ.out
        obtain rfl : p = ByteArray.empty := HP.out
        obtain rfl : q = ByteArray.empty := HQ.out
        exact ⟨rfl, _, rfl⟩
      | true =>
        go_wp2_with fail
        refine (HN2.out _).mono ?_
        rintro e w1 ⟨rfl, rfl⟩
        cases n2 with
        | false =>
          go_wp2
          go_ret3
          obtain rfl : z = 50 := HZ.out
          obtain rfl : p = ByteArray.empty := HP.out
          obtain rfl : q = ByteArray.empty := HQ.out
          exact ⟨rfl, _, rfl⟩
        | true =>
          go_wp2
          go_ret3
          obtain rfl : z = 0 := HZ.out
          obtain rfl : p = a := HP.out
          obtain rfl : q = b := HQ.out
          exact ⟨rfl, _, rfl⟩
  exact key _ _ _ _ _ rfl rfl rfl rfl rfl _ _ _ rfl rfl rfl

set_option maxHeartbeats 2000000 in
set_option maxRecDepth 100000 in
theorem objectR_any (S : ByteArray) (w : World) (hS : S.size ≤ 9223372036854775806) :
    Calls Tryz.prog 69 #[.string S] w fun e w' => e = Three (objA S) (objB S) (objE S) ∧ ∃ n, w' = w.drewN n := by
  have HF := fun w => find_any S 58 w (by omega)
  have N1 := fun w => name_any (hd 58 S) w
  have N2 := fun w => name_any (tl 58 S) w
  cases h : has 58 S with
  | false =>
    have e : fnd 58 S = -1 := by simp [fnd, h]
    have hz : objE S = 51 := by simp [objE, h]
    have hp : objA S = ByteArray.empty := by simp [objA, hz]
    have hq : objB S = ByteArray.empty := by simp [objB, hz]
    rw [e] at HF
    rw [hz, hp, hq]
    clear e hz hp hq h N1 N2
    go_enter Tryz.func69, Tryz.ntmps69
    go_wp2_with fail
    refine (HF _).mono ?_
    rintro e w1 ⟨rfl, rfl⟩
    go_wp2
    go_ret3
    exact ⟨rfl, 0, rfl⟩
  | true =>
    have e : fnd 58 S = ix 58 S := by simp [fnd, h]
    have hlt : ix 58 S < S.size := by simpa [has] using h
    rw [e] at HF
    have hA := fun w : World => str_head S (ix 58 S) (by omega) w
    have hB := fun w : World => str_tail S (ix 58 S + 1) (by omega) w
    have hw : IntKind.i64.wrap ((ix 58 S : Int) + 1) = ((ix 58 S + 1 : Nat) : Int) := by rw [IntWalk.i64_in _ (by omega)]; omega
    have hpq : ∀ n1 n2, nameB (hd 58 S) = n1 → nameB (tl 58 S) = n2 → objE S = (if n1 && n2 then 0 else 50) ∧ objA S = (if (if n1 && n2 then (0 : Int) else 50) = 0 then hd 58 S else ByteArray.empty) ∧ objB S = (if (if n1 && n2 then (0 : Int) else 50) = 0 then tl 58 S else ByteArray.empty) := by
      intro n1 n2 h1 h2
      have hz : objE S = (if n1 && n2 then 0 else 50) := by simp [objE, h, h1, h2]
      exact ⟨hz, by rw [objA, hz], by rw [objB, hz]⟩
    have HN1 := Lib.hid N1
    have HN2 := Lib.hid N2
    have HPQ := Lib.hid hpq
    simp only [hd, tl] at HN1 HN2 HPQ
    generalize ix 58 S = k at *
    generalize hE : objE S = zE at *
    generalize hF : objA S = zA at *
    generalize hG : objB S = zB at *
    clear h e N1 N2 hpq hE hF hG
    cases n1 : nameB (S.extract 0 k) with
    | false =>
      have h1 : ((nameB (S.extract 0 k)) && true) = false := by rw [n1]; rfl
      obtain ⟨q1, q2, q3⟩ := HPQ.out _ _ n1 rfl
      simp at q1 q2 q3
      subst q1 q2 q3
      clear h1
      go_enter Tryz.func69, Tryz.ntmps69
      go_wp2_with fail
      refine (HF _).mono ?_
      rintro e w1 ⟨rfl, rfl⟩
      go_wp2_with fail
      refine (HN1.out _).mono ?_
      rintro e w1 ⟨rfl, rfl⟩
      go_wp2
      go_ret3
      exact ⟨rfl, 0, rfl⟩
    | true =>
      cases n2 : nameB (S.extract (k + 1) S.size) with
      | false =>
        obtain ⟨q1, q2, q3⟩ := HPQ.out _ _ n1 n2
        simp at q1 q2 q3
        subst q1 q2 q3
        go_enter Tryz.func69, Tryz.ntmps69
        go_wp2_with fail
        refine (HF _).mono ?_
        rintro e w1 ⟨rfl, rfl⟩
        go_wp2_with fail
        refine (HN1.out _).mono ?_
        rintro e w1 ⟨rfl, rfl⟩
        go_wp2_with fail
        refine (HN2.out _).mono ?_
        rintro e w1 ⟨rfl, rfl⟩
        go_wp2
        go_ret3
        exact ⟨rfl, 0, rfl⟩
      | true =>
        obtain ⟨q1, q2, q3⟩ := HPQ.out _ _ n1 n2
        simp at q1 q2 q3
        subst q1 q2 q3
        go_enter Tryz.func69, Tryz.ntmps69
        go_wp2_with fail
        refine (HF _).mono ?_
        rintro e w1 ⟨rfl, rfl⟩
        go_wp2_with fail
        refine (HN1.out _).mono ?_
        rintro e w1 ⟨rfl, rfl⟩
        go_wp2_with fail
        refine (HN2.out _).mono ?_
        rintro e w1 ⟨rfl, rfl⟩
        go_wp2_with fail
        go_quiet (fail)
        go_wp2
        go_ret3
        exact ⟨rfl, _, rfl⟩
end Go.Proofs.YtmjdngomjjhhiaaGreat

namespace Go.Proofs.YtmjdngomjjhhiaaGreat
open Go.RowKit

theorem usr_bad {S : ByteArray} (h : objE (hd 35 S) ≠ 0) : usrE S = objE (hd 35 S) ∧ usrA S = ByteArray.empty ∧ usrB S = ByteArray.empty := by
  have e : usrE S = objE (hd 35 S) := by rw [usrE, if_neg h]
  exact ⟨e, by rw [usrA, e, if_neg h], by rw [usrB, e, if_neg h]⟩
theorem usr_name {S : ByteArray} (h : objE (hd 35 S) = 0) (h1 : has 35 S = true) (h2 : nameB (tl 35 S) = false) : usrE S = 50 ∧ usrA S = ByteArray.empty ∧ usrB S = ByteArray.empty := by
  have e : usrE S = 50 := by rw [usrE, if_pos h, h1, h2]; rfl
  exact ⟨e, by rw [usrA, e, if_neg (by decide)], by rw [usrB, e, if_neg (by decide)]⟩
theorem usr_good {S : ByteArray} (h : objE (hd 35 S) = 0) (h1 : (has 35 S && !nameB (tl 35 S)) = false) : usrE S = 0 ∧ usrA S = hd 35 S ∧ usrB S = tl 35 S := by
  have e : usrE S = 0 := by rw [usrE, if_pos h, h1]; rfl
  exact ⟨e, by rw [usrA, e, if_pos rfl], by rw [usrB, e, if_pos rfl]⟩

set_option maxHeartbeats 2000000 in
set_option maxRecDepth 100000 in
theorem user_any (S : ByteArray) (w : World) (hS : S.size ≤ 9223372036854775806) :
    Calls Tryz.prog 109 #[.string S] w fun e w' => e = Three (usrA S) (usrB S) (usrE S) ∧ ∃ n, w' = w.drewN n := by
  have hs := hd_size 35 S
  have HC := Lib.hid (fun w => cut_any S 35 w hS)
  have HO := Lib.hid (fun w => object_any (hd 35 S) w (by omega))
  have HN := Lib.hid (fun w => isName_any (tl 35 S) w)
  have H1 := Lib.hid (@usr_bad S)
  have H2 := Lib.hid (@usr_name S)
  have H3 := Lib.hid (@usr_good S)
  clear hs
  generalize objE (hd 35 S) = z at *
  generalize objA (hd 35 S) = oa at *
  generalize objB (hd 35 S) = ob at *
  generalize hd 35 S = a at *
  generalize nameB (tl 35 S) = n1 at *
  generalize tl 35 S = b at *
  generalize has 35 S = h at *
  generalize usrE S = ue at *
  generalize usrA S = ua at *
  generalize usrB S = ub at *
  go_enter Tryz.func109, Tryz.ntmps109
  go_wp2_with fail
  refine (HC.out _).mono ?_
  rintro e w1 ⟨rfl, n, rfl⟩
  go_wp2_with fail
  refine (HO.out _).mono ?_
  rintro e w1 ⟨rfl, m, rfl⟩
  by_cases hz : z = 0
  · subst hz
    cases h with
    | false =>
      obtain ⟨rfl, rfl, rfl⟩ := H3.out (by simp) (by simp)
      go_wp2
      go_ret3
      exact ⟨rfl, n + m, by simp⟩
    | true =>
      go_wp2_with fail
      refine (HN.out _).mono ?_
      rintro e w1 ⟨rfl, rfl⟩
      cases n1 with
      | false =>
        obtain ⟨rfl, rfl, rfl⟩ := H2.out (by simp) (by simp) (by simp)
        go_wp2
        go_ret3
        exact ⟨rfl, n + m, by simp⟩
      | true =>
        obtain ⟨rfl, rfl, rfl⟩ := H3.out (by simp) (by simp)
        go_wp2
        go_ret3
        exact ⟨rfl, n + m, by simp⟩
  · obtain ⟨rfl, rfl, rfl⟩ := H1.out hz
    go_wp2
    go_ret3
    exact ⟨rfl, n + m, by simp⟩

set_option maxHeartbeats 2000000 in
set_option maxRecDepth 100000 in
theorem userR_any (S : ByteArray) (w : World) (hS : S.size ≤ 9223372036854775806) :
    Calls Tryz.prog 71 #[.string S] w fun e w' => e = Three (usrA S) (usrB S) (usrE S) ∧ ∃ n, w' = w.drewN n := by
  have hs := hd_size 35 S
  have HF := Lib.hid (fun w => find_any S 35 w (by omega))
  have HO := Lib.hid (fun w => objectR_any (hd 35 S) w (by omega))
  have HN := Lib.hid (fun w => name_any (tl 35 S) w)
  have H1 := Lib.hid (@usr_bad S)
  have H2 := Lib.hid (@usr_name S)
  have H3 := Lib.hid (@usr_good S)
  clear hs
  cases h : has 35 S with
  | false =>
    have e : fnd 35 S = -1 := by simp [fnd, h]
    have et := tl_none h
    rw [hd_none h, h, et] at H3
    rw [hd_none h] at HO H1
    rw [e] at HF
    clear e H2 HN et
    generalize objE S = z at *
    generalize objA S = oa at *
    generalize objB S = ob at *
    generalize usrE S = ue at *
    generalize usrA S = ua at *
    generalize usrB S = ub at *
    go_enter Tryz.func71, Tryz.ntmps71
    go_wp2_with fail
    refine (HF.out _).mono ?_
    rintro e w1 ⟨rfl, rfl⟩
    go_wp2_with fail
    refine (HO.out _).mono ?_
    rintro e w1 ⟨rfl, m, rfl⟩
    by_cases hz : z = 0
    · subst hz
      obtain ⟨rfl, rfl, rfl⟩ := H3.out (by simp) (by simp)
      go_wp2
      go_ret3
      exact ⟨rfl, m, rfl⟩
    · obtain ⟨rfl, rfl, rfl⟩ := H1.out hz
      go_wp2
      go_ret3
      exact ⟨rfl, m, rfl⟩
  | true =>
    have e : fnd 35 S = ix 35 S := by simp [fnd, h]
    have hlt : ix 35 S < S.size := by simpa [has] using h
    rw [e] at HF
    rw [h] at H2 H3
    generalize objE (hd 35 S) = z at *
    generalize objA (hd 35 S) = oa at *
    generalize objB (hd 35 S) = ob at *
    generalize nameB (tl 35 S) = n1 at *
    have hA := fun w : World => str_head S (ix 35 S) (by omega) w
    have hB := fun w : World => str_tail S (ix 35 S + 1) (by omega) w
    have hw : IntKind.i64.wrap ((ix 35 S : Int) + 1) = ((ix 35 S + 1 : Nat) : Int) := by rw [IntWalk.i64_in _ (by omega)]; omega
    simp only [hd, tl] at HN HO H3
    generalize ix 35 S = k at *
    clear h e
    generalize usrE S = ue at *
    generalize usrA S = ua at *
    generalize usrB S = ub at *
    go_enter Tryz.func71, Tryz.ntmps71
    go_wp2_with fail
    refine (HF.out _).mono ?_
    rintro e w1 ⟨rfl, rfl⟩
    go_wp2_with fail
    refine (HO.out _).mono ?_
    rintro e w1 ⟨rfl, m, rfl⟩
    by_cases hz : z = 0
    · subst hz
      go_wp2_with fail
      refine (HN.out _).mono ?_
      rintro e w1 ⟨rfl, rfl⟩
      cases n1 with
      | false =>
        obtain ⟨rfl, rfl, rfl⟩ := H2.out (by simp) (by simp) (by simp)
        go_wp2
        go_ret3
        exact ⟨rfl, _, rfl⟩
      | true =>
        obtain ⟨rfl, rfl, rfl⟩ := H3.out (by simp) (by simp)
        go_wp2_with fail
        go_quiet (fail)
        go_wp2
        go_ret3
        exact ⟨rfl, m + _, by simp; rfl⟩
    · obtain ⟨rfl, rfl, rfl⟩ := H1.out hz
      go_wp2
      go_ret3
      exact ⟨rfl, _, rfl⟩
end Go.Proofs.YtmjdngomjjhhiaaGreat

namespace Go.Proofs.YtmjdngomjjhhiaaGreat
open Go.RowKit

/-- A tuple as it lies in memory. -/
def TupV (a b c : ByteArray) : Value := .agg #[.string a, .string b, .string c]
theorem tup_bad {a : ByteArray} (b c : ByteArray) (h : objE a ≠ 0) : tupE a b c = objE a := by rw [tupE, if_neg h]
theorem tup_name {a b : ByteArray} (c : ByteArray) (h : objE a = 0) (h1 : nameB b = false) : tupE a b c = 50 := by rw [tupE, if_pos h, h1]; rfl
theorem tup_user {a b : ByteArray} (c : ByteArray) (h : objE a = 0) (h1 : nameB b = true) : tupE a b c = usrE c := by rw [tupE, if_pos h, h1]; rfl
theorem below_box (w : World) (o : Obj) (n : Nat) : Below w.heap.size w ((w.alloc o).drewN n) := (below_alloc w o).trans ⟨rfl, rfl, rfl, Nat.le_refl _, fun _ _ => rfl⟩

set_option maxHeartbeats 2000000 in
set_option maxRecDepth 100000 in
theorem checkOne_any (a b c : ByteArray) (w : World) (ha : a.size ≤ 9223372036854775806) (hc : c.size ≤ 9223372036854775806) :
    Calls Tryz.prog 67 #[TupV a b c] w fun e w' => e = .returned (.int .i64 (tupE a b c)) ∧ Below w.heap.size w w' := by
  have HO := Lib.hid (fun w => object_any a w ha)
  have HU := Lib.hid (fun w => user_any c w hc)
  have HN := Lib.hid (fun w => isName_any b w)
  have H1 := Lib.hid (@tup_bad a b c)
  have H2 := Lib.hid (@tup_name a b c)
  have H3 := Lib.hid (@tup_user a b c)
  generalize objE a = z at *
  generalize objA a = oa at *
  generalize objB a = ob at *
  generalize nameB b = n1 at *
  generalize usrE c = ue at *
  generalize usrA c = ua at *
  generalize usrB c = ub at *
  generalize tupE a b c = te at *
  unfold TupV
  go_enter Tryz.func67, Tryz.ntmps67
  go_wp2_with fail
  refine (HO.out _).mono ?_
  rintro e w1 ⟨rfl, n, rfl⟩
  by_cases hz : z = 0
  · subst hz
    go_wp2_with fail
    refine (HN.out _).mono ?_
    rintro e w1 ⟨rfl, rfl⟩
    cases n1 with
    | false =>
      obtain rfl := H2.out (by simp) (by simp)
      go_wp2
      go_ret
      exact ⟨rfl, below_box _ _ _⟩
    | true =>
      obtain rfl := H3.out (by simp) (by simp)
      go_wp2_with fail
      refine (HU.out _).mono ?_
      rintro e w1 ⟨rfl, m, rfl⟩
      go_wp2
      go_ret
      exact ⟨rfl, below_box _ _ _⟩
  · obtain rfl := H1.out hz
    go_wp2
    go_ret
    exact ⟨rfl, below_box _ _ _⟩

set_option maxHeartbeats 2000000 in
set_option maxRecDepth 100000 in
theorem checkR_any (a b c : ByteArray) (w : World) (ha : a.size ≤ 9223372036854775806) (hc : c.size ≤ 9223372036854775806) :
    Calls Tryz.prog 46 #[TupV a b c] w fun e w' => e = .returned (.int .i64 (tupE a b c)) ∧ Below w.heap.size w w' := by
  have HO := Lib.hid (fun w => objectR_any a w ha)
  have HU := Lib.hid (fun w => userR_any c w hc)
  have HN := Lib.hid (fun w => name_any b w)
  have H1 := Lib.hid (@tup_bad a b c)
  have H2 := Lib.hid (@tup_name a b c)
  have H3 := Lib.hid (@tup_user a b c)
  generalize objE a = z at *
  generalize objA a = oa at *
  generalize objB a = ob at *
  generalize nameB b = n1 at *
  generalize usrE c = ue at *
  generalize usrA c = ua at *
  generalize usrB c = ub at *
  generalize tupE a b c = te at *
  unfold TupV
  go_enter Tryz.func46, Tryz.ntmps46
  go_wp2_with fail
  refine (HO.out _).mono ?_
  rintro e w1 ⟨rfl, n, rfl⟩
  by_cases hz : z = 0
  · subst hz
    go_wp2_with fail
    refine (HN.out _).mono ?_
    rintro e w1 ⟨rfl, rfl⟩
    cases n1 with
    | false =>
      obtain rfl := H2.out (by simp) (by simp)
      go_wp2
      go_ret
      exact ⟨rfl, below_box _ _ _⟩
    | true =>
      obtain rfl := H3.out (by simp) (by simp)
      go_wp2_with fail
      refine (HU.out _).mono ?_
      rintro e w1 ⟨rfl, m, rfl⟩
      go_wp2
      go_ret
      exact ⟨rfl, below_box _ _ _⟩
  · obtain rfl := H1.out hz
    go_wp2
    go_ret
    exact ⟨rfl, below_box _ _ _⟩

/-- A tuple as text. -/
def prn (a b c : ByteArray) : ByteArray := a ++ ⟨#[35]⟩ ++ b ++ ⟨#[64]⟩ ++ c
end Go.Proofs.YtmjdngomjjhhiaaGreat

namespace Go.Proofs.YtmjdngomjjhhiaaGreat
open Go.RowKit

abbrev Tq := ByteArray × ByteArray × ByteArray
def Tq.e (t : Tq) : Int := tupE t.1 t.2.1 t.2.2
def Tq.v (t : Tq) : Value := TupV t.1 t.2.1 t.2.2
def Tq.small (t : Tq) : Prop := t.1.size ≤ 140737488355328 ∧ t.2.1.size ≤ 140737488355328 ∧ t.2.2.size ≤ 140737488355328
def Tq.fits (t : Tq) : Prop := t.1.size ≤ 1000000000000000000 ∧ t.2.1.size ≤ 1000000000000000000 ∧ t.2.2.size ≤ 1000000000000000000
theorem Tq.small.fits {t : Tq} (h : t.small) : t.fits := by
  unfold Tq.small at h
  unfold Tq.fits
  omega
/-- What is wrong with the first that isn't right. -/
def tupsE : List Tq → Int
  | [] => 0
  | t :: r => if t.e = 0 then tupsE r else t.e
/-- A row of tuples as it lies in memory. -/
def TupsAt (w : World) (a : Option Addr) (n : Nat) (ts : List Tq) : Prop :=
  ts.length = n ∧ (∀ t ∈ ts, t.fits) ∧ (n = 0 ∨ ∃ b off, a = some ⟨b, off, none⟩ ∧ b < w.heap.size ∧ ∀ i (t : Tq), ts[i]? = some t →
    w.cell? ⟨b, off + i * 3, none⟩ = some (.string t.1) ∧ w.cell? ⟨b, off + i * 3 + 1, none⟩ = some (.string t.2.1) ∧ w.cell? ⟨b, off + i * 3 + 2, none⟩ = some (.string t.2.2))
theorem TupsAt.below {w w' : World} {a : Option Addr} {n : Nat} {ts : List Tq} (h : TupsAt w a n ts) (hb : Below w.heap.size w w') : TupsAt w' a n ts := by
  obtain ⟨h1, h2, h3⟩ := h
  refine ⟨h1, h2, h3.imp_right ?_⟩
  rintro ⟨b, off, rfl, hlt, hc⟩
  refine ⟨b, off, rfl, Nat.lt_of_lt_of_le hlt hb.size, fun i t ht => ?_⟩
  obtain ⟨c0, c1, c2⟩ := hc i t ht
  exact ⟨(hb.cell (p := ⟨b, _, none⟩) hlt).trans c0, (hb.cell (p := ⟨b, _, none⟩) hlt).trans c1, (hb.cell (p := ⟨b, _, none⟩) hlt).trans c2⟩
theorem drop_get {α : Type} {l : List α} {i : Nat} {x : α} (h : l[i]? = some x) : l.drop i = x :: l.drop (i + 1) := by
  obtain ⟨hi, rfl⟩ := List.getElem?_eq_some_iff.1 h
  exact List.drop_eq_getElem_cons hi

set_option maxRecDepth 100000 in
set_option maxHeartbeats 4000000 in
theorem check_any (a : Option Addr) (n c : Nat) (ts : List Tq) (w : World) (h : TupsAt w a n ts) (hn : n ≤ 9223372036854775806) :
    Calls Tryz.prog 44 #[.slice a n c] w fun e w' => e = .returned (.int .i64 (tupsE ts)) ∧ Below w.heap.size w w' := by
  obtain ⟨hlen, hsm, hcell⟩ := h
  have HL := Lib.hid hlen
  have HS := Lib.hid hsm
  have HC := Lib.hid hcell
  clear hlen hsm hcell
  generalize ht : tupsE ts = te
  have HT := Lib.hid ht
  clear ht
  go_enter Tryz.func44, Tryz.ntmps44
  go_wp2
  go_loopw [8] (fun iv wr => ∃ (i : Nat), i ≤ n ∧ iv = .int .i64 i ∧ tupsE (ts.drop i) = te ∧ Below w.heap.size w wr) (fun iv _ => n - (intOf iv).toNat)
  case atStart => exact ⟨0, by omega, rfl, HT.out, Below.refl _ _⟩
  case round =>
    obtain ⟨i, hin, rfl, hte, hbl⟩ := hrel
    by_cases hil : i < n
    · obtain ⟨b, off, rfl, hbB, hcc⟩ := HC.out.resolve_left (by omega)
      obtain ⟨t, hti⟩ : ∃ t, ts[i]? = some t := ⟨_, List.getElem?_eq_getElem (show i < ts.length by rw [HL.out]; exact hil)⟩
      obtain ⟨z0, z1, z2⟩ := hcc i t hti
      have hs := HS.out t (List.mem_of_getElem? hti)
      have c0 := (hbl.cell (p := ⟨b, off + i * 3, none⟩) hbB).trans z0
      have c1 := (hbl.cell (p := ⟨b, off + i * 3 + 1, none⟩) hbB).trans z1
      have c2 := (hbl.cell (p := ⟨b, off + i * 3 + 2, none⟩) hbB).trans z2
      rw [drop_get hti, tupsE] at hte
      have HTE := Lib.hid hte
      have HBL := Lib.hid hbl
      have hsz := hbl.size
      obtain ⟨x, y, z⟩ := t
      have HO := Lib.hid (fun w => checkOne_any x y z w (by have := hs.1; simp at this; omega) (by have := hs.2.2; simp at this; omega))
      simp only at c0 c1 c2
      have he : Tq.e (x, y, z) = tupE x y z := rfl
      rw [he] at HTE
      clear hcc z0 z1 z2 hs hte hbl hti he
      generalize tupE x y z = q at *
      unfold TupV at HO
      go_wp2_with fail
      refine (HO.out _).mono ?_
      rintro e w1 ⟨rfl, hb1⟩
      have HB1 := Lib.hid (HBL.out.trans (((below_alloc _ _).mono hsz).trans (hb1.mono (by simp; omega))))
      clear hb1
      by_cases hq : q = 0
      · subst hq
        have HT2 := Lib.hid (show tupsE (ts.drop (i + 1)) = te by have := HTE.out; rwa [if_pos rfl] at this)
        clear HTE c0 c1 c2
        go_wp2
        go_roundw
        case rel => exact ⟨i + 1, by omega, by go_num, HT2.out, HB1.out⟩
        case measure => simp [intOf]; omega
      · have HT2 := Lib.hid (show q = te by have := HTE.out; rwa [if_neg hq] at this)
        clear HTE c0 c1 c2
        go_wp2
        go_ret
        exact ⟨by rw [← HT2.out]; rfl, HB1.out⟩
    · have hin' : i = n := by omega
      have h0 : te = 0 := by rw [← hte, hin', List.drop_of_length_le (by rw [HL.out]; exact Nat.le_refl _)]; rfl
      subst h0
      have HBL := Lib.hid hbl
      clear hte hbl
      go_wp2
      go_ret
      exact ⟨rfl, HBL.out⟩
end Go.Proofs.YtmjdngomjjhhiaaGreat
