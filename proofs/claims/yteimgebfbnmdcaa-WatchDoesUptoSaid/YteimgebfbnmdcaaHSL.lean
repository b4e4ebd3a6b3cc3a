/- The library under the stable sort's walks. -/
import Derived.Test.YteimgebfbnmdcaaRows
import Derived.Test.YteimgebfbnmdcaaH2
import Derived.Shelf.SlSortCmp.KitK
import Derived.Sort.WalkB2
import Derived.Sort.WalkB12
import Derived.Deep.LoopGhost
import Derived.Lib.Hide
