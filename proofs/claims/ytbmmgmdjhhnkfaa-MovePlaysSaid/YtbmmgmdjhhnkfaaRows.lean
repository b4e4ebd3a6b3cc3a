/-
  No cell of these rows narrows 'for every input' (looked for: loops, veiled, ifaces, maps, wideKeys, modest, calm, conditions, laid).
  DERIVED. THE GIVEN ROWS OF THIS SEAT. 3 by the template 'for every input the law returns true; each argument reads behind the call as it read before'; 0 by the template 'total and deterministic' (their statements: YtbmmgmdjhhnkfaaTotals.lean).
  GIVEN WITH THE SEED: the statements are not yours to turn. If you find one false, say at which input.
  Laid BY PROGRAM, IN A SANDBOX (cutbox-rows.mjs): the forced cells as the released guide's own fill.sh prints them over the translation b5edf60edc1cc65d… (all of the seat's roots in one cut). By AI agents, Wed Nov 11 2026. No macro, syntax, notation, axiom, sorry.
-/
import Derived.Test.YtbmmgmdjhhnkfaaChecked
import GoSem.Claim
import GoSem.ClaimJoined
import GoSem.ClaimMapViews
import Derived.JoinedTies
import Derived.KernelRfl
namespace Go.Proofs.Ytbmmgmdjhhnkfaa
/- THE CELL 'sum', in the pinned program and in every row, IS THE sha256 OF THE DUMP (.gsa) THAT YtbmmgmdjhhnkfaaProg.lean LOADS. Nothing in Lean hashes anything: it is a label: what it is worth is what the hold of that sum in a sandbox is worth. -/
noncomputable def Try.pinned : Pinned := { name := "ytbmmgmdjhhnkfaa", sum := "b5edf60edc1cc65da715da2027bbabbbdfbf09b739f027ee9505545987080f0e", checked := Try.checked }
namespace Rows
def none {H : Type} : Left H := { results := [], args := [] }

/-- 'porterlaw18.MovePlays': WHATEVER THE INPUT: true; the input reads as it did. -/
def movePlaysSpec : ChangeSpec := { name := "movePlays", fn := fun _ => fun
  | [d1, d2, d3] => { results := [.lit (.bool true)], args := [d1, d2, d3] }
  | _ => none }
def movePlaysRow : OpenClaim := { program := "ytbmmgmdjhhnkfaa", sum := "b5edf60edc1cc65da715da2027bbabbbdfbf09b739f027ee9505545987080f0e", func := "porter/porterlaw18.MovePlays", spec := "movePlays", unfollowed := true, recurses := true, apart := false }
def MovePlaysSaid : Prop := movePlaysRow.holds Try.pinned (OpenSpec.ofChange movePlaysSpec)

/-- ITS FALSE NEIGHBOUR: 'it returns false'. Refute it at one input. -/
def movePlaysWrong : ChangeSpec := { name := "movePlays", fn := fun _ => fun
  | [d1, d2, d3] => { results := [.lit (.bool false)], args := [d1, d2, d3] }
  | _ => none }
def MovePlaysWrongFalsely : Prop := movePlaysRow.holds Try.pinned (OpenSpec.ofChange movePlaysWrong)

/-- 'porterlaw18.MoveOnce': WHATEVER THE INPUT: true; the input reads as it did. -/
def moveOnceSpec : ChangeSpec := { name := "moveOnce", fn := fun _ => fun
  | [d] => { results := [.lit (.bool true)], args := [d] }
  | _ => none }
def moveOnceRow : OpenClaim := { program := "ytbmmgmdjhhnkfaa", sum := "b5edf60edc1cc65da715da2027bbabbbdfbf09b739f027ee9505545987080f0e", func := "porter/porterlaw18.MoveOnce", spec := "moveOnce", unfollowed := true, recurses := true, apart := false }
def MoveOnceSaid : Prop := moveOnceRow.holds Try.pinned (OpenSpec.ofChange moveOnceSpec)

/-- ITS FALSE NEIGHBOUR: 'it returns false'. Refute it at one input. -/
def moveOnceWrong : ChangeSpec := { name := "moveOnce", fn := fun _ => fun
  | [d] => { results := [.lit (.bool false)], args := [d] }
  | _ => none }
def MoveOnceWrongFalsely : Prop := moveOnceRow.holds Try.pinned (OpenSpec.ofChange moveOnceWrong)

/-- 'porterlaw18.MoveWalk': WHATEVER THE INPUT: true; the input reads as it did. -/
def moveWalkSpec : ChangeSpec := { name := "moveWalk", fn := fun _ => fun
  | [d1, d2] => { results := [.lit (.bool true)], args := [d1, d2] }
  | _ => none }
def moveWalkRow : OpenClaim := { program := "ytbmmgmdjhhnkfaa", sum := "b5edf60edc1cc65da715da2027bbabbbdfbf09b739f027ee9505545987080f0e", func := "porter/porterlaw18.MoveWalk", spec := "moveWalk", unfollowed := true, recurses := true, apart := false }
def MoveWalkSaid : Prop := moveWalkRow.holds Try.pinned (OpenSpec.ofChange moveWalkSpec)

/-- ITS FALSE NEIGHBOUR: 'it returns false'. Refute it at one input. -/
def moveWalkWrong : ChangeSpec := { name := "moveWalk", fn := fun _ => fun
  | [d1, d2] => { results := [.lit (.bool false)], args := [d1, d2] }
  | _ => none }
def MoveWalkWrongFalsely : Prop := moveWalkRow.holds Try.pinned (OpenSpec.ofChange moveWalkWrong)

/- THE SECOND FORM. 'bulk': how many values and letters a reading holds, each counted each time it is reached (what is shared counts as often as it is met; a slice's spare places count too). A statement '..UptoSaid' is the law's where the arguments, and the package variables that the reading takes, are together of bulk at most 1048576: NARROWER than '..Said'. Prove '..Said' where nothing that the law and all that it calls make is longer than what came in: it says more and counts as full. Else prove '..UptoSaid'. A law counts once. -/
mutual
def uptoBulk {H : Type} : DataW H → Nat
  | .lit (.string bytes) => bytes.length + 1
  | .lit _ => 1
  | .nil => 1
  | .ptr d => uptoBulk d + 1
  | .slice elems spare => uptoBulkAll elems + uptoBulkAll spare + 1
  | .agg parts => uptoBulkAll parts + 1
  | .iface _ d => uptoBulk d + 1
  | .map entries => uptoBulkEntries entries + 1
  | .held _ => 1
def uptoBulkAll {H : Type} : List (DataW H) → Nat
  | [] => 0
  | d :: r => uptoBulk d + uptoBulkAll r
def uptoBulkEntries {H : Type} : List (Lit × DataW H) → Nat
  | [] => 0
  | x :: r => uptoBulkEntry x + uptoBulkEntries r
def uptoBulkEntry {H : Type} : Lit × DataW H → Nat
  | (.string bytes, d) => bytes.length + uptoBulk d + 1
  | (_, d) => uptoBulk d + 1
 end
def uptoSmall : (H : Type) → List (DataW H) → Bool := fun _ ds => decide (uptoBulkAll ds ≤ 1048576)
def OpenSpec.upto (s : _root_.Go.ChangeSpec) : _root_.Go.OpenSpec := { _root_.Go.OpenSpec.ofChange s with cond := some uptoSmall }

/-- 'porterlaw18.MovePlays', WHERE WHAT IT READS IS OF BULK AT MOST 1048576: true; the input reads as it did. -/
def movePlaysUptoRow : OpenClaim := { program := "ytbmmgmdjhhnkfaa", sum := "b5edf60edc1cc65da715da2027bbabbbdfbf09b739f027ee9505545987080f0e", func := "porter/porterlaw18.MovePlays", spec := "movePlays", unfollowed := true, recurses := true, apart := false, narrowed := true }
def MovePlaysUptoSaid : Prop := movePlaysUptoRow.holds Try.pinned (OpenSpec.upto movePlaysSpec)

/-- 'porterlaw18.MoveOnce', WHERE WHAT IT READS IS OF BULK AT MOST 1048576: true; the input reads as it did. -/
def moveOnceUptoRow : OpenClaim := { program := "ytbmmgmdjhhnkfaa", sum := "b5edf60edc1cc65da715da2027bbabbbdfbf09b739f027ee9505545987080f0e", func := "porter/porterlaw18.MoveOnce", spec := "moveOnce", unfollowed := true, recurses := true, apart := false, narrowed := true }
def MoveOnceUptoSaid : Prop := moveOnceUptoRow.holds Try.pinned (OpenSpec.upto moveOnceSpec)

/-- 'porterlaw18.MoveWalk', WHERE WHAT IT READS IS OF BULK AT MOST 1048576: true; the input reads as it did. -/
def moveWalkUptoRow : OpenClaim := { program := "ytbmmgmdjhhnkfaa", sum := "b5edf60edc1cc65da715da2027bbabbbdfbf09b739f027ee9505545987080f0e", func := "porter/porterlaw18.MoveWalk", spec := "moveWalk", unfollowed := true, recurses := true, apart := false, narrowed := true }
def MoveWalkUptoSaid : Prop := moveWalkUptoRow.holds Try.pinned (OpenSpec.upto moveWalkSpec)

end Rows
end Go.Proofs.Ytbmmgmdjhhnkfaa
