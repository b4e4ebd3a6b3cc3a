/- Tuples as values. -/
import Derived.Test.YteimgebfbnmdcaaTB
import Derived.Lib.Bytealg
import Derived.Lib.Walk
namespace Go.Proofs.Yteimgebfbnmdcaa
open Go.RowKit
theorem data_ext {A B : ByteArray} (h : A.data.toList = B.data.toList) : A = B := ByteArray.ext (Array.toList_inj.1 h)
/-- A tuple as it lies in memory. -/
def TupV (a b c : ByteArray) : Value := .agg #[.string a, .string b, .string c]
abbrev Tq := ByteArray × ByteArray × ByteArray
theorem drop_get {α : Type} {l : List α} {i : Nat} {x : α} (h : l[i]? = some x) : l.drop i = x :: l.drop (i + 1) := by
  obtain ⟨hi, rfl⟩ := List.getElem?_eq_some_iff.1 h
  exact List.drop_eq_getElem_cons hi
end Go.Proofs.Yteimgebfbnmdcaa
