/- The keys of the store's maps: a tuple, a place, a text. -/
import Derived.Test.YtilmpkmojfmlkaaE16
import Derived.DeepKeys3
namespace Go.Proofs.Ytilmpkmojfmlkaa
open Go.RowKit
open Go.Maps (Keyed)
open Go.WideShapes

theorem keyT : Keyed Try.prog 24 := Keyed.of_law (deep_law (m := 5) (by decide) (by kernel_rfl) (by kernel_rfl) (by kernel_rfl))
theorem keyP : Keyed Try.prog 72 := Keyed.of_law (deep_law (m := 5) (by decide) (by kernel_rfl) (by kernel_rfl) (by kernel_rfl))
theorem keyS : Keyed Try.prog 9 := Maps.string_keyed Try.underlying9
end Go.Proofs.Ytilmpkmojfmlkaa
