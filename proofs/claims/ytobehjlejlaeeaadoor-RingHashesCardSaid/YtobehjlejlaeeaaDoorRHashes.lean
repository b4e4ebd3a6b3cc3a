/- RingHashes: a text's place, and an object's slot. -/
import Derived.Test.YtobehjlejlaeeaaDoorRAwake2
namespace Go.Proofs.YtobehjlejlaeeaaDoor
open Go.RowKit

set_option maxRecDepth 100000 in
set_option maxHeartbeats 8000000 in
theorem hashes_walk (s : ByteArray) (w : World) (hs : s.size ≤ 140737488351232) :
    Calls Tryd.prog 3 #[.string s] w fun e w' => e = .returned (.bool true) ∧ Below w.heap.size w w' := by
  have hs2 : s.size ≤ 140737488355328 := by omega
  have hl := Mt.hash_lt s
  have HR := Lib.hid (slot_int s)
  have HA := Lib.hid (fun w : World => hash_any s w hs2)
  have HB := Lib.hid (fun w : World => rhash_any s w hs2)
  have HC := Lib.hid (fun w : World => slot_any s w hs2)
  generalize Mt.hash s = h at *
  generalize Mt.slot s = k at *
  go_enter Tryd.func3, Tryd.ntmps3
  go_wp2_with (first
    | (go_at_call 8; refine (awake_any _).mono ?_; rintro e w1 ⟨rfl, hb1⟩; have HB1 := Lib.hid hb1; clear hb1)
    | (go_at_call 9; refine (HB.out _).mono ?_; rintro e w2 ⟨rfl, rfl⟩)
    | (go_at_call 10; refine (HA.out _).mono ?_; rintro e w2 ⟨rfl, rfl⟩)
    | (go_at_call 11; refine (HC.out _).mono ?_; rintro e w2 ⟨rfl, rfl⟩; have hr := HR.out))
  go_ret
  exact ⟨rfl, HB1.out⟩
end Go.Proofs.YtobehjlejlaeeaaDoor
