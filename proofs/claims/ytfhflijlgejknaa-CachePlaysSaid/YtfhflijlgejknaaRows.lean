/-
  No cell of these rows narrows 'for every input' (looked for: loops, veiled, ifaces, maps, wideKeys, modest, calm, conditions, laid).
  DERIVED. THE GIVEN ROWS OF THIS SEAT. 4 by the template 'for every input the law returns true; each argument reads behind the call as it read before'; 0 by the template 'total and deterministic' (their statements: YtfhflijlgejknaaTotals.lean).
  GIVEN WITH THE SEED: the statements are not yours to turn. If you find one false, say at which input.
  Laid BY PROGRAM, IN A SANDBOX (cutbox-rows.mjs): the forced cells as the released guide's own fill.sh prints them over the translation f6c7f527f02187cc… (all of the seat's roots in one cut). By AI agents, Wed Nov 11 2026. No macro, syntax, notation, axiom, sorry.
-/
import Derived.Test.YtfhflijlgejknaaChecked
import GoSem.Claim
import GoSem.ClaimJoined
import GoSem.ClaimMapViews
import Derived.JoinedTies
import Derived.KernelRfl
namespace Go.Proofs.Ytfhflijlgejknaa
/- THE CELL 'sum', in the pinned program and in every row, IS THE sha256 OF THE DUMP (.gsa) THAT YtfhflijlgejknaaProg.lean LOADS. Nothing in Lean hashes anything: it is a label: what it is worth is what the hold of that sum in a sandbox is worth. -/
noncomputable def Try.pinned : Pinned := { name := "ytfhflijlgejknaa", sum := "f6c7f527f02187cc30c8554327ee7b1941217bb32b5136632840b3f3abfe1933", checked := Try.checked }
namespace Rows
def none {H : Type} : Left H := { results := [], args := [] }

/-- 'porterlaw10.CachePlays': WHATEVER THE INPUT: true; the input reads as it did. -/
def cachePlaysSpec : ChangeSpec := { name := "cachePlays", fn := fun _ => fun
  | [d1, d2] => { results := [.lit (.bool true)], args := [d1, d2] }
  | _ => none }
def cachePlaysRow : OpenClaim := { program := "ytfhflijlgejknaa", sum := "f6c7f527f02187cc30c8554327ee7b1941217bb32b5136632840b3f3abfe1933", func := "porter/porterlaw10.CachePlays", spec := "cachePlays", unfollowed := true, recurses := true, plainKeys := false, apart := false }
def CachePlaysSaid : Prop := cachePlaysRow.holds Try.pinned (OpenSpec.ofChange cachePlaysSpec)

/-- ITS FALSE NEIGHBOUR: 'it returns false'. Refute it at one input. -/
def cachePlaysWrong : ChangeSpec := { name := "cachePlays", fn := fun _ => fun
  | [d1, d2] => { results := [.lit (.bool false)], args := [d1, d2] }
  | _ => none }
def CachePlaysWrongFalsely : Prop := cachePlaysRow.holds Try.pinned (OpenSpec.ofChange cachePlaysWrong)

/-- 'porterlaw10.CacheTrue': WHATEVER THE INPUT: true; the input reads as it did. -/
def cacheTrueSpec : ChangeSpec := { name := "cacheTrue", fn := fun _ => fun
  | [d1, d2] => { results := [.lit (.bool true)], args := [d1, d2] }
  | _ => none }
def cacheTrueRow : OpenClaim := { program := "ytfhflijlgejknaa", sum := "f6c7f527f02187cc30c8554327ee7b1941217bb32b5136632840b3f3abfe1933", func := "porter/porterlaw10.CacheTrue", spec := "cacheTrue", plainKeys := false, apart := false }
def CacheTrueSaid : Prop := cacheTrueRow.holds Try.pinned (OpenSpec.ofChange cacheTrueSpec)

/-- ITS FALSE NEIGHBOUR: 'it returns false'. Refute it at one input. -/
def cacheTrueWrong : ChangeSpec := { name := "cacheTrue", fn := fun _ => fun
  | [d1, d2] => { results := [.lit (.bool false)], args := [d1, d2] }
  | _ => none }
def CacheTrueWrongFalsely : Prop := cacheTrueRow.holds Try.pinned (OpenSpec.ofChange cacheTrueWrong)

/-- 'porterlaw10.CacheCuts': WHATEVER THE INPUT: true; the input reads as it did. -/
def cacheCutsSpec : ChangeSpec := { name := "cacheCuts", fn := fun _ => fun
  | [d1, d2, d3] => { results := [.lit (.bool true)], args := [d1, d2, d3] }
  | _ => none }
def cacheCutsRow : OpenClaim := { program := "ytfhflijlgejknaa", sum := "f6c7f527f02187cc30c8554327ee7b1941217bb32b5136632840b3f3abfe1933", func := "porter/porterlaw10.CacheCuts", spec := "cacheCuts", unfollowed := true, recurses := true, plainKeys := false, apart := false }
def CacheCutsSaid : Prop := cacheCutsRow.holds Try.pinned (OpenSpec.ofChange cacheCutsSpec)

/-- ITS FALSE NEIGHBOUR: 'it returns false'. Refute it at one input. -/
def cacheCutsWrong : ChangeSpec := { name := "cacheCuts", fn := fun _ => fun
  | [d1, d2, d3] => { results := [.lit (.bool false)], args := [d1, d2, d3] }
  | _ => none }
def CacheCutsWrongFalsely : Prop := cacheCutsRow.holds Try.pinned (OpenSpec.ofChange cacheCutsWrong)

/-- 'portertop.WholeCached': WHATEVER THE INPUT: true; the input reads as it did. -/
def wholeCachedSpec : ChangeSpec := { name := "wholeCached", fn := fun _ => fun
  | [d1, d2] => { results := [.lit (.bool true)], args := [d1, d2] }
  | _ => none }
def wholeCachedRow : OpenClaim := { program := "ytfhflijlgejknaa", sum := "f6c7f527f02187cc30c8554327ee7b1941217bb32b5136632840b3f3abfe1933", func := "porter/portertop.WholeCached", spec := "wholeCached", inPlace := ["internal/bytealg.IndexByteString", "internal/bytealg.IndexString"], unfollowed := true, recurses := true, named := ["internal/bytealg.MaxLen"], plainKeys := false, apart := false }
def WholeCachedSaid : Prop := wholeCachedRow.holds Try.pinned (OpenSpec.ofChange wholeCachedSpec)

/-- ITS FALSE NEIGHBOUR: 'it returns false'. Refute it at one input. -/
def wholeCachedWrong : ChangeSpec := { name := "wholeCached", fn := fun _ => fun
  | [d1, d2] => { results := [.lit (.bool false)], args := [d1, d2] }
  | _ => none }
def WholeCachedWrongFalsely : Prop := wholeCachedRow.holds Try.pinned (OpenSpec.ofChange wholeCachedWrong)

/- THE SECOND FORM. 'bulk': how many values and letters a reading holds, each counted each time it is reached (what is shared counts as often as it is met; a slice's spare places count too). A statement '..UptoSaid' is the law's where the arguments, and the package variables that the reading takes, are together of bulk at most 1048576: NARROWER than '..Said'. Prove '..Said' where nothing that the law and all that it calls make is longer than what came in: it says more and counts as full. Else prove '..UptoSaid'. A law counts once. -/
mutual
def uptoBulk {H : Type} : DataW H → Nat
  | .lit (.string bytes) => bytes.length + 1
  | .lit _ => 1
  | .nil => 1
  | .ptr d => uptoBulk d + 1
  | .slice elems spare => uptoBulkAll elems + uptoBulkAll spare + 1
  | .agg parts => uptoBulkAll parts + 1
  | .iface _ d => uptoBulk d + 1
  | .map entries => uptoBulkEntries entries + 1
  | .held _ => 1
def uptoBulkAll {H : Type} : List (DataW H) → Nat
  | [] => 0
  | d :: r => uptoBulk d + uptoBulkAll r
def uptoBulkEntries {H : Type} : List (Lit × DataW H) → Nat
  | [] => 0
  | x :: r => uptoBulkEntry x + uptoBulkEntries r
def uptoBulkEntry {H : Type} : Lit × DataW H → Nat
  | (.string bytes, d) => bytes.length + uptoBulk d + 1
  | (_, d) => uptoBulk d + 1
 end
def uptoSmall : (H : Type) → List (DataW H) → Bool := fun _ ds => decide (uptoBulkAll ds ≤ 1048576)
def OpenSpec.upto (s : _root_.Go.ChangeSpec) : _root_.Go.OpenSpec := { _root_.Go.OpenSpec.ofChange s with cond := some uptoSmall }

/-- 'porterlaw10.CachePlays', WHERE WHAT IT READS IS OF BULK AT MOST 1048576: true; the input reads as it did. -/
def cachePlaysUptoRow : OpenClaim := { program := "ytfhflijlgejknaa", sum := "f6c7f527f02187cc30c8554327ee7b1941217bb32b5136632840b3f3abfe1933", func := "porter/porterlaw10.CachePlays", spec := "cachePlays", unfollowed := true, recurses := true, plainKeys := false, apart := false, narrowed := true }
def CachePlaysUptoSaid : Prop := cachePlaysUptoRow.holds Try.pinned (OpenSpec.upto cachePlaysSpec)

/-- 'porterlaw10.CacheTrue', WHERE WHAT IT READS IS OF BULK AT MOST 1048576: true; the input reads as it did. -/
def cacheTrueUptoRow : OpenClaim := { program := "ytfhflijlgejknaa", sum := "f6c7f527f02187cc30c8554327ee7b1941217bb32b5136632840b3f3abfe1933", func := "porter/porterlaw10.CacheTrue", spec := "cacheTrue", plainKeys := false, apart := false, narrowed := true }
def CacheTrueUptoSaid : Prop := cacheTrueUptoRow.holds Try.pinned (OpenSpec.upto cacheTrueSpec)

/-- 'porterlaw10.CacheCuts', WHERE WHAT IT READS IS OF BULK AT MOST 1048576: true; the input reads as it did. -/
def cacheCutsUptoRow : OpenClaim := { program := "ytfhflijlgejknaa", sum := "f6c7f527f02187cc30c8554327ee7b1941217bb32b5136632840b3f3abfe1933", func := "porter/porterlaw10.CacheCuts", spec := "cacheCuts", unfollowed := true, recurses := true, plainKeys := false, apart := false, narrowed := true }
def CacheCutsUptoSaid : Prop := cacheCutsUptoRow.holds Try.pinned (OpenSpec.upto cacheCutsSpec)

/-- 'portertop.WholeCached', WHERE WHAT IT READS IS OF BULK AT MOST 1048576: true; the input reads as it did. -/
def wholeCachedUptoRow : OpenClaim := { program := "ytfhflijlgejknaa", sum := "f6c7f527f02187cc30c8554327ee7b1941217bb32b5136632840b3f3abfe1933", func := "porter/portertop.WholeCached", spec := "wholeCached", inPlace := ["internal/bytealg.IndexByteString", "internal/bytealg.IndexString"], unfollowed := true, recurses := true, named := ["internal/bytealg.MaxLen"], plainKeys := false, apart := false, narrowed := true }
def WholeCachedUptoSaid : Prop := wholeCachedUptoRow.holds Try.pinned (OpenSpec.upto wholeCachedSpec)

end Rows
end Go.Proofs.Ytfhflijlgejknaa
