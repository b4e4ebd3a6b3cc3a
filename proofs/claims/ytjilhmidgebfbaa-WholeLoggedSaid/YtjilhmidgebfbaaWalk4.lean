/- The walk of frame.putWord. -/
import Derived.Test.YtjilhmidgebfbaaWalk3
import Derived.Maps.AppendAt
namespace Go.Proofs.Ytjilhmidgebfbaa.Fr
open Go.RowKit

/-- The four bytes of a number, the highest first. -/
def be (x : Nat) : List Int := [((x / 16777216 : Nat) : Int), ((x / 65536 % 256 : Nat) : Int), ((x / 256 % 256 : Nat) : Int), ((x % 256 : Nat) : Int)]

theorem be_byte (x : Nat) (hx : x < 4294967296) : ∀ y ∈ be x, 0 ≤ y ∧ y < 256 := by
  intro y hy
  simp only [be, List.mem_cons, List.not_mem_nil, or_false] at hy
  omega

theorem Try.infoB : (Try.prog.info? 5).map (fun i => (i.zero, i.size, i.bytes)) = some (some (.int .u8 0), 1, 1) := by kernel_rfl

set_option maxHeartbeats 1000000 in
theorem putWord_any (base g l cap x : Nat) (xs : List Value) (w : World) (hx : x < 4294967296) (hroom : l + 4 ≤ cap) (hbase : base ≤ w.heap.size)
    (hown : w.ownsRow base 5 1 (.slice (some ⟨g, 0, none⟩) l cap) l xs) :
    Calls Try.prog 47 #[.slice (some ⟨g, 0, none⟩) l cap, .int .u32 x] w fun e w' =>
      e = .returned (.slice (some ⟨g, 0, none⟩) ((l + 4 : Nat)) cap) ∧ w'.ownsRow base 5 1 (.slice (some ⟨g, 0, none⟩) (l + 4) cap) (l + 4) (xs ++ (be x).map (Value.int .u8)) ∧ Below base w w' := by
  obtain ⟨i0, hi, hz0, hz1, hz2⟩ := info_parts Try.infoB
  have hgb : base ≤ g := (hown.lt g rfl).1
  go_enter Try.func47, Try.ntmps47
  go_wp2
  go_loopw [0, 6] (fun v i wr => ∃ k : Nat, k ≤ 4 ∧ i = .int .i64 k ∧ v = .slice (some ⟨g, 0, none⟩) (l + k) cap ∧ wr.ownsRow base 5 1 (.slice (some ⟨g, 0, none⟩) (l + k) cap) (l + k) (xs ++ ((be x).take k).map (Value.int .u8)) ∧ Below base w wr ∧ base ≤ wr.heap.size)
    (fun _ i _ => 4 - (intOf i).toNat)
  case atStart => exact ⟨0, by omega, rfl, rfl, by simpa using hown, Below.refl _ _, hbase⟩
  case round =>
    obtain ⟨k, hk, rfl, rfl, hown', hbel, hbs⟩ := hrel
    clear hown hbase
    by_cases h4 : k < 4
    · rcases (show k = 0 ∨ k = 1 ∨ k = 2 ∨ k = 3 by omega) with rfl | rfl | rfl | rfl
      all_goals
        try simp only [Nat.add_zero] at hown'
        go_wp2_with (at_builtin; refine wpList_append_fits _ rfl _ _ 41 rfl base 5 i0 1 Try.underlying41 hi hz1 g _ cap _ rfl (hown'.alloc _) ⟨wr.heap.size, 0, none⟩ 1 1 [_] rfl rfl (cell_one_new _ _ _) (by intro u hu; simp at hu; subst hu; rfl) (by omega) ?_; intro w1 hown1 hgrow)
      all_goals
        have hbel1 : Below base w w1 := (hbel.alloc hbs _).grown hgrow (by simp; omega) (by intro q hq; simp at hq; omega)
        have hbs1 : base ≤ w1.heap.size := by have := hgrow.size; simp at this; omega
        clear hgrow hbel hown'
        go_wp2
        go_roundw
        case rel => first | exact ⟨1, by omega, by go_num, rfl, by simpa [be] using hown1, hbel1, hbs1⟩ | exact ⟨2, by omega, by go_num, rfl, by simpa [be] using hown1, hbel1, hbs1⟩ | exact ⟨3, by omega, by go_num, rfl, by simpa [be] using hown1, hbel1, hbs1⟩ | exact ⟨4, by omega, by go_num, rfl, by simpa [be] using hown1, hbel1, hbs1⟩
        case measure => simp [intOf]; try omega
    · obtain rfl : k = 4 := by omega
      go_wp2
      go_ret
      exact ⟨rfl, by simpa [be] using hown', hbel⟩
end Go.Proofs.Ytjilhmidgebfbaa.Fr
