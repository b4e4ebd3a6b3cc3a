/- The walk of code.PutInt. -/
import Derived.Test.YtbckccgcjmanlaaCCuts
import Derived.Laws.CopyOwn
namespace Go.Proofs.Ytbckccgcjmanlaa
open Go.RowKit

theorem make_row {P : Program} (w : World) (t e : TypeId) (i : TypeInfo) (z : Value) (ht : P.underlying t = some (.slice e)) (hi : P.info? e = some i) (hz : i.zero = some z) (hsize : i.size = 1) (hz1 : z.cells = #[z]) (hby : i.bytes = 1)
    (n m : Nat) (hnm : n ≤ m) (hm : m ≤ 281474976710656) :
    (Instr.makeSlice t (.int .i64 (n : Int)) (.int .i64 (m : Int))).run P w = .ok (.slice (some ⟨w.heap.size, 0, none⟩) n m) (w.alloc (.cells (madeCells #[z] m) e)) := by
  have hr := run_make (P := P) w t e i z ht hi hz .i64 .i64 n m (by omega) (by omega) (by rw [hby]; omega) (by omega)
  simp only [Int.toNat_natCast, hsize, Nat.mul_one, hz1] at hr
  exact hr

set_option maxRecDepth 100000 in
set_option maxHeartbeats 1000000 in
theorem putint_any (a : Option Addr) (n c : Nat) (xs : List Int) (k : Int) (w : World) (hx : IsB w a n xs) (hk1 : -9223372036854775808 ≤ k) (hk2 : k ≤ 9223372036854775807) (hn : n ≤ 140737488351232) :
    Calls Try.prog 11 #[.slice a n c, .int .i64 k] w fun e w' => ∃ v', e = .returned v' ∧ w'.ownsRow w.heap.size 5 1 v' (xs ++ Vi.int k).length ((xs ++ Vi.int k).map (Value.int .u8)) ∧ Below w.heap.size w w' := by
  obtain ⟨i0, hi, hz0, hz1, hz2⟩ := info_parts Try.infoB
  have hmk : ∀ w : World, (Instr.makeSlice 22 (.int .i64 (n : Int)) (.int .i64 ((n : Int) + 10))).run Try.prog w = .ok (.slice (some ⟨w.heap.size, 0, none⟩) n (n + 10)) (w.alloc (.cells (madeCells #[.int .u8 0] (n + 10)) 5)) := by
    intro w
    have := make_row w 22 5 i0 (.int .u8 0) Try.underlying22 hi hz0 hz1 rfl hz2 n (n + 10) (by omega) (by omega)
    rwa [show ((n + 10 : Nat) : Int) = (n : Int) + 10 by omega] at this
  obtain ⟨cur, hcur⟩ : ∃ cur : List Value, cur = (madeCells #[.int .u8 0] (n + 10)).toList := ⟨_, rfl⟩
  have hcl : cur.length = n + 10 := by rw [hcur, Array.length_toList, size_madeCells]
  have hg : (w.alloc (.cells (madeCells #[.int .u8 0] (n + 10)) 5)).heap[w.heap.size]? = some (.cells cur.toArray 5 (0, 0)) := by
    rw [hcur, Array.toArray_toList]
    exact heap_alloc_new w _
  obtain ⟨cs, hcs⟩ : ∃ cs : List Value, cs = xs.map (Value.int .u8) := ⟨_, rfl⟩
  have hlen : cs.length = n := by rw [hcs, List.length_map, hx.1]
  have hnews := (hx.below (below_alloc w (.cells (madeCells #[.int .u8 0] (n + 10)) 5))).news
  rw [← hcs] at hnews
  have hone : ∀ v ∈ cs, v.oneCell' = true := by rw [hcs]; exact oneCell_map xs
  have hnz : 0 < cs.length → ∃ ad, a = some ad := by
    intro h
    rcases hx.2.2 with h0 | ⟨b, off, h0, _⟩
    · omega
    · exact ⟨_, h0⟩
  have HG := Lib.hid hg
  have HN := Lib.hid hnews
  have HO := Lib.hid hone
  have HZ := Lib.hid hnz
  have HB := Lib.hid (below_alloc w (.cells (madeCells #[.int .u8 0] (n + 10)) 5))
  have HCL := Lib.hid hcl
  have HLE := Lib.hid hlen
  have HCS := Lib.hid hcs
  have hxl := hx.1
  have HXL := Lib.hid hxl
  clear hcur hg hnews hone hnz hcl hlen hcs hx hxl
  go_enter Try.func11, Try.ntmps11
  go_wp2_with (with_reducible refine wpList_copy_splice rfl (.tmp 12) (.tmp 13) 22 22 rfl 5 Try.underlying22 (by rw [hi]; simp [hz1]) (some ⟨w.heap.size, 0, none⟩) a n (n + 10) n c rfl rfl w.heap.size 0 cur 5 HG.out cs (by rw [HLE.out]; exact (Nat.min_self n).symm) (fun h => ⟨rfl, (HZ.out h).choose, (HZ.out h).choose_spec, fun j v hj => HN.out _ (HZ.out h).choose_spec j v hj⟩) (by rw [HLE.out, HCL.out]; omega) HO.out w.heap.size w HB.out (Nat.le_refl _) ?_; intro w2 HG2 hB2)
  have hrow : w2.ownsRow w.heap.size 5 1 (.slice (some ⟨w.heap.size, 0, none⟩) n (n + 10)) xs.length (xs.map (Value.int .u8)) := by
    refine ⟨by simp, .inr ⟨w.heap.size, n + 10, (splice cur 0 cs).toArray, by rw [HXL.out], Nat.le_refl _, HG2.out, by rw [HXL.out]; omega, by simp [maxLen]; omega, ?_, ?_⟩⟩
    · rw [List.size_toArray, length_splice _ _ _ (by rw [HLE.out, HCL.out]; omega), HCL.out]; omega
    · rw [← HCS.out]
      simp only [splice, List.take_zero, List.nil_append, Nat.zero_add, Nat.mul_one]
      rw [show xs.length = cs.length by rw [HLE.out, HXL.out], List.take_left]
  have HA := Lib.hid (appendInt_any w.heap.size _ xs k w2 hk1 hk2 hrow hB2.size (by rw [HXL.out]; exact hn))
  have HB2 := Lib.hid hB2
  clear hB2 hrow
  go_wp2_with fail
  refine HA.out.mono ?_
  rintro e w3 ⟨v', rfl, hown, hgr, _⟩
  have HOW := Lib.hid hown
  have HB3 := Lib.hid (HB2.out.grown hgr HB2.out.size (fun q hq => by simp [Value.ownBlock] at hq; omega))
  clear hown hgr
  go_wp2
  go_ret
  exact ⟨v', rfl, HOW.out, HB3.out⟩
end Go.Proofs.Ytbckccgcjmanlaa
