/- Layer 5: texts, and what they are cut into. -/
import Derived.Test.YtpiohfjmfehnoaaTB
import Derived.Lib.Bytealg
namespace Go.Proofs.Ytpiohfjmfehnoaa
open Go.RowKit

/-- The first place of a byte, or the text's length. -/
def ix (x : UInt8) (S : ByteArray) : Nat := S.data.toList.idxOf x
def hd (x : UInt8) (S : ByteArray) : ByteArray := S.extract 0 (ix x S)
def tl (x : UInt8) (S : ByteArray) : ByteArray := S.extract (ix x S + 1) S.size
def has (x : UInt8) (S : ByteArray) : Bool := decide (ix x S < S.size)

theorem ix_le (x : UInt8) (S : ByteArray) : ix x S ≤ S.size := by
  rw [Lib.size_eq]
  exact List.idxOf_le_length
theorem indexByte_idxOf (l : List UInt8) (x : UInt8) : Lib.indexByte l x = if l.idxOf x < l.length then (l.idxOf x : Int) else -1 := by
  induction l with
  | nil => rfl
  | cons b l ih =>
    unfold Lib.indexByte
    rw [List.idxOf_cons]
    by_cases hb : (b == x) = true
    · simp [hb]
    · have hb' : (b == x) = false := by simpa using hb
      simp only [hb', ih, Bool.false_eq_true, if_false, cond_false, List.length_cons]
      by_cases h : l.idxOf x < l.length
      · have h2 : l.idxOf x + 1 < l.length + 1 := by omega
        rw [if_pos h, if_pos h2, if_neg (by simp)]
        omega
      · have h2 : ¬ l.idxOf x + 1 < l.length + 1 := by omega
        rw [if_neg h, if_neg h2]
        rfl
theorem indexByte_has (S : ByteArray) (x : UInt8) : Lib.indexByte S.data.toList x = if has x S then (ix x S : Int) else -1 := by
  rw [indexByte_idxOf, has, ix, ← Lib.size_eq]
  simp
theorem data_ext {A B : ByteArray} (h : A.data.toList = B.data.toList) : A = B := ByteArray.ext (Array.toList_inj.1 h)
theorem extract_all (S : ByteArray) : S.extract 0 S.size = S := by
  apply data_ext
  rw [Lib.extract_data, Lib.size_eq, List.drop_zero, Nat.sub_zero, List.take_length]
theorem hd_none {x : UInt8} {S : ByteArray} (h : has x S = false) : hd x S = S := by
  have h1 := ix_le x S
  have h2 : ix x S = S.size := by simp [has] at h; omega
  rw [hd, h2, extract_all]
theorem tl_none {x : UInt8} {S : ByteArray} (h : has x S = false) : tl x S = ByteArray.empty := by
  have h1 := ix_le x S
  have h2 : ix x S = S.size := by simp [has] at h; omega
  apply data_ext
  rw [tl, h2, Lib.extract_data, Lib.size_eq]
  simp

/-- May a byte stand in a name? -/
def okN (b : Nat) : Bool := (decide (97 ≤ b) && decide (b ≤ 122)) || (decide (48 ≤ b) && decide (b ≤ 57)) || decide (b = 95)
def okB (b : UInt8) : Bool := okN b.toNat
def nameB (S : ByteArray) : Bool := decide (0 < S.size) && decide (S.size ≤ 32) && S.data.toList.all okB
/-- The byte at a place. -/
def at_ (S : ByteArray) (i : Nat) : Nat := (S.data.toList.getD i 0).toNat
theorem at_get (S : ByteArray) (i : Nat) (h : i < S.size) : S[i].toNat = at_ S i := by
  have h' : i < S.data.toList.length := by rw [← Lib.size_eq]; exact h
  rw [at_, List.getD_eq_getElem?_getD, List.getElem?_eq_getElem h']
  simp
  rfl
theorem all_take_succ (S : ByteArray) (i : Nat) (h : i < S.size) : (S.data.toList.take (i + 1)).all okB = ((S.data.toList.take i).all okB && okN (at_ S i)) := by
  have h' : i < S.data.toList.length := by rw [← Lib.size_eq]; exact h
  rw [List.take_add_one, List.all_append, at_, List.getD_eq_getElem?_getD, List.getElem?_eq_getElem h']
  simp [okB]

def objE (S : ByteArray) : Int := if has 58 S then (if nameB (hd 58 S) && nameB (tl 58 S) then 0 else 50) else 51
def objA (S : ByteArray) : ByteArray := if objE S = 0 then hd 58 S else ByteArray.empty
def objB (S : ByteArray) : ByteArray := if objE S = 0 then tl 58 S else ByteArray.empty
def usrE (S : ByteArray) : Int := if objE (hd 35 S) = 0 then (if has 35 S && !nameB (tl 35 S) then 50 else 0) else objE (hd 35 S)
def usrA (S : ByteArray) : ByteArray := if usrE S = 0 then hd 35 S else ByteArray.empty
def usrB (S : ByteArray) : ByteArray := if usrE S = 0 then tl 35 S else ByteArray.empty
def tupE (a b c : ByteArray) : Int := if objE a = 0 then (if nameB b then usrE c else 50) else objE a
def prsE (S : ByteArray) : Int := if has 64 S && has 35 (hd 64 S) then tupE (hd 35 (hd 64 S)) (tl 35 (hd 64 S)) (tl 64 S) else 51
def prsA (S : ByteArray) : ByteArray := if prsE S = 0 then hd 35 (hd 64 S) else ByteArray.empty
def prsB (S : ByteArray) : ByteArray := if prsE S = 0 then tl 35 (hd 64 S) else ByteArray.empty
def prsC (S : ByteArray) : ByteArray := if prsE S = 0 then tl 64 S else ByteArray.empty
theorem empty_eq : (⟨#[]⟩ : ByteArray) = ByteArray.empty := rfl
end Go.Proofs.Ytpiohfjmfehnoaa
