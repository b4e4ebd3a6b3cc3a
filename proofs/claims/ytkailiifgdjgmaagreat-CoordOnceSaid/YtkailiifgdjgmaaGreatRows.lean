/-
  No cell of these rows narrows 'for every input' (looked for: loops, veiled, ifaces, maps, wideKeys, modest, calm, conditions, laid).
  DERIVED. THE GIVEN ROWS OF THIS SEAT. 4 by the template 'for every input the law returns true; each argument reads behind the call as it read before'; 0 by the template 'total and deterministic' (their statements: YtkailiifgdjgmaaGreatTotals.lean).
  GIVEN WITH THE SEED: the statements are not yours to turn. If you find one false, say at which input.
  Laid BY PROGRAM, IN A SANDBOX (cutbox-rows.mjs): the forced cells as the released guide's own fill.sh prints them over the translation 3019581737864c1c… (all of the seat's roots in one cut). By AI agents, Wed Nov 11 2026. No macro, syntax, notation, axiom, sorry.
-/
import Derived.Test.YtkailiifgdjgmaaGreatChecked
import GoSem.Claim
import GoSem.ClaimJoined
import GoSem.ClaimMapViews
import Derived.JoinedTies
import Derived.KernelRfl
namespace Go.Proofs.YtkailiifgdjgmaaGreat
/- THE CELL 'sum', in the pinned program and in every row, IS THE sha256 OF THE DUMP (.gsa) THAT YtkailiifgdjgmaaGreatProg.lean LOADS. Nothing in Lean hashes anything: it is a label: what it is worth is what the hold of that sum in a sandbox is worth. -/
noncomputable def Tryz.pinned : Pinned := { name := "ytkailiifgdjgmaagreat", sum := "3019581737864c1cec232f22d02de7fca1db9edd95ab21f61c3fae1e2f7567e5", checked := Tryz.checked }
namespace Rows
def none {H : Type} : Left H := { results := [], args := [] }

/-- 'porterlaw16.CoordOnce': WHATEVER THE INPUT: true; the input reads as it did. -/
def coordOnceSpec : ChangeSpec := { name := "coordOnce", fn := fun _ => fun
  | [d] => { results := [.lit (.bool true)], args := [d] }
  | _ => none }
def coordOnceRow : OpenClaim := { program := "ytkailiifgdjgmaagreat", sum := "3019581737864c1cec232f22d02de7fca1db9edd95ab21f61c3fae1e2f7567e5", func := "porter/porterlaw16.CoordOnce", spec := "coordOnce", unfollowed := true, recurses := true, apart := false }
def CoordOnceSaid : Prop := coordOnceRow.holds Tryz.pinned (OpenSpec.ofChange coordOnceSpec)

/-- ITS FALSE NEIGHBOUR: 'it returns false'. Refute it at one input. -/
def coordOnceWrong : ChangeSpec := { name := "coordOnce", fn := fun _ => fun
  | [d] => { results := [.lit (.bool false)], args := [d] }
  | _ => none }
def CoordOnceWrongFalsely : Prop := coordOnceRow.holds Tryz.pinned (OpenSpec.ofChange coordOnceWrong)

/-- 'porterlaw16.CoordOwes': WHATEVER THE INPUT: true; the input reads as it did. -/
def coordOwesSpec : ChangeSpec := { name := "coordOwes", fn := fun _ => fun
  | [d1, d2, d3] => { results := [.lit (.bool true)], args := [d1, d2, d3] }
  | _ => none }
def coordOwesRow : OpenClaim := { program := "ytkailiifgdjgmaagreat", sum := "3019581737864c1cec232f22d02de7fca1db9edd95ab21f61c3fae1e2f7567e5", func := "porter/porterlaw16.CoordOwes", spec := "coordOwes", unfollowed := true, recurses := true, apart := false }
def CoordOwesSaid : Prop := coordOwesRow.holds Tryz.pinned (OpenSpec.ofChange coordOwesSpec)

/-- ITS FALSE NEIGHBOUR: 'it returns false'. Refute it at one input. -/
def coordOwesWrong : ChangeSpec := { name := "coordOwes", fn := fun _ => fun
  | [d1, d2, d3] => { results := [.lit (.bool false)], args := [d1, d2, d3] }
  | _ => none }
def CoordOwesWrongFalsely : Prop := coordOwesRow.holds Tryz.pinned (OpenSpec.ofChange coordOwesWrong)

/-- 'porterlaw16.CoordBoots': WHATEVER THE INPUT: true; the input reads as it did. -/
def coordBootsSpec : ChangeSpec := { name := "coordBoots", fn := fun _ => fun
  | [d1, d2] => { results := [.lit (.bool true)], args := [d1, d2] }
  | _ => none }
def coordBootsRow : OpenClaim := { program := "ytkailiifgdjgmaagreat", sum := "3019581737864c1cec232f22d02de7fca1db9edd95ab21f61c3fae1e2f7567e5", func := "porter/porterlaw16.CoordBoots", spec := "coordBoots", unfollowed := true, recurses := true, apart := false }
def CoordBootsSaid : Prop := coordBootsRow.holds Tryz.pinned (OpenSpec.ofChange coordBootsSpec)

/-- ITS FALSE NEIGHBOUR: 'it returns false'. Refute it at one input. -/
def coordBootsWrong : ChangeSpec := { name := "coordBoots", fn := fun _ => fun
  | [d1, d2] => { results := [.lit (.bool false)], args := [d1, d2] }
  | _ => none }
def CoordBootsWrongFalsely : Prop := coordBootsRow.holds Tryz.pinned (OpenSpec.ofChange coordBootsWrong)

/-- 'porterlaw16.CoordApart': WHATEVER THE INPUT: true; the input reads as it did. -/
def coordApartSpec : ChangeSpec := { name := "coordApart", fn := fun _ => fun
  | [d1, d2, d3] => { results := [.lit (.bool true)], args := [d1, d2, d3] }
  | _ => none }
def coordApartRow : OpenClaim := { program := "ytkailiifgdjgmaagreat", sum := "3019581737864c1cec232f22d02de7fca1db9edd95ab21f61c3fae1e2f7567e5", func := "porter/porterlaw16.CoordApart", spec := "coordApart", unfollowed := true, recurses := true, apart := false }
def CoordApartSaid : Prop := coordApartRow.holds Tryz.pinned (OpenSpec.ofChange coordApartSpec)

/-- ITS FALSE NEIGHBOUR: 'it returns false'. Refute it at one input. -/
def coordApartWrong : ChangeSpec := { name := "coordApart", fn := fun _ => fun
  | [d1, d2, d3] => { results := [.lit (.bool false)], args := [d1, d2, d3] }
  | _ => none }
def CoordApartWrongFalsely : Prop := coordApartRow.holds Tryz.pinned (OpenSpec.ofChange coordApartWrong)

/- THE SECOND FORM. 'bulk': how many values and letters a reading holds, each counted each time it is reached (what is shared counts as often as it is met; a slice's spare places count too). A statement '..UptoSaid' is the law's where the arguments, and the package variables that the reading takes, are together of bulk at most 1048576: NARROWER than '..Said'. Prove '..Said' where nothing that the law and all that it calls make is longer than what came in: it says more and counts as full. Else prove '..UptoSaid'. A law counts once. -/
mutual
def uptoBulk {H : Type} : DataW H → Nat
  | .lit (.string bytes) => bytes.length + 1
  | .lit _ => 1
  | .nil => 1
  | .ptr d => uptoBulk d + 1
  | .slice elems spare => uptoBulkAll elems + uptoBulkAll spare + 1
  | .agg parts => uptoBulkAll parts + 1
  | .iface _ d => uptoBulk d + 1
  | .map entries => uptoBulkEntries entries + 1
  | .held _ => 1
def uptoBulkAll {H : Type} : List (DataW H) → Nat
  | [] => 0
  | d :: r => uptoBulk d + uptoBulkAll r
def uptoBulkEntries {H : Type} : List (Lit × DataW H) → Nat
  | [] => 0
  | x :: r => uptoBulkEntry x + uptoBulkEntries r
def uptoBulkEntry {H : Type} : Lit × DataW H → Nat
  | (.string bytes, d) => bytes.length + uptoBulk d + 1
  | (_, d) => uptoBulk d + 1
 end
def uptoSmall : (H : Type) → List (DataW H) → Bool := fun _ ds => decide (uptoBulkAll ds ≤ 1048576)
def OpenSpec.upto (s : _root_.Go.ChangeSpec) : _root_.Go.OpenSpec := { _root_.Go.OpenSpec.ofChange s with cond := some uptoSmall }

/-- 'porterlaw16.CoordOnce', WHERE WHAT IT READS IS OF BULK AT MOST 1048576: true; the input reads as it did. -/
def coordOnceUptoRow : OpenClaim := { program := "ytkailiifgdjgmaagreat", sum := "3019581737864c1cec232f22d02de7fca1db9edd95ab21f61c3fae1e2f7567e5", func := "porter/porterlaw16.CoordOnce", spec := "coordOnce", unfollowed := true, recurses := true, apart := false, narrowed := true }
def CoordOnceUptoSaid : Prop := coordOnceUptoRow.holds Tryz.pinned (OpenSpec.upto coordOnceSpec)

/-- 'porterlaw16.CoordOwes', WHERE WHAT IT READS IS OF BULK AT MOST 1048576: true; the input reads as it did. -/
def coordOwesUptoRow : OpenClaim := { program := "ytkailiifgdjgmaagreat", sum := "3019581737864c1cec232f22d02de7fca1db9edd95ab21f61c3fae1e2f7567e5", func := "porter/porterlaw16.CoordOwes", spec := "coordOwes", unfollowed := true, recurses := true, apart := false, narrowed := true }
def CoordOwesUptoSaid : Prop := coordOwesUptoRow.holds Tryz.pinned (OpenSpec.upto coordOwesSpec)

/-- 'porterlaw16.CoordBoots', WHERE WHAT IT READS IS OF BULK AT MOST 1048576: true; the input reads as it did. -/
def coordBootsUptoRow : OpenClaim := { program := "ytkailiifgdjgmaagreat", sum := "3019581737864c1cec232f22d02de7fca1db9edd95ab21f61c3fae1e2f7567e5", func := "porter/porterlaw16.CoordBoots", spec := "coordBoots", unfollowed := true, recurses := true, apart := false, narrowed := true }
def CoordBootsUptoSaid : Prop := coordBootsUptoRow.holds Tryz.pinned (OpenSpec.upto coordBootsSpec)

/-- 'porterlaw16.CoordApart', WHERE WHAT IT READS IS OF BULK AT MOST 1048576: true; the input reads as it did. -/
def coordApartUptoRow : OpenClaim := { program := "ytkailiifgdjgmaagreat", sum := "3019581737864c1cec232f22d02de7fca1db9edd95ab21f61c3fae1e2f7567e5", func := "porter/porterlaw16.CoordApart", spec := "coordApart", unfollowed := true, recurses := true, apart := false, narrowed := true }
def CoordApartUptoSaid : Prop := coordApartUptoRow.holds Tryz.pinned (OpenSpec.upto coordApartSpec)

end Rows
end Go.Proofs.YtkailiifgdjgmaaGreat
