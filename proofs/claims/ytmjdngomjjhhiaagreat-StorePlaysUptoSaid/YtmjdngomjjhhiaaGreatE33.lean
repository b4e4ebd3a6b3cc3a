/- The sort of texts. -/
import Derived.Test.YtmjdngomjjhhiaaGreatE32
import Derived.Shelf.SortM.Plain
import Derived.Shelf.SortM.SortNone
import Derived.Sort.OwnSorted
namespace Go.Proofs.YtmjdngomjjhhiaaGreat
open Go.RowKit
open Go.Shelf
open Go.Maps (Keyed)

def Tryz.laySortS_ren : Go.Shelf.Ren := ⟨fun | 6 => 39 | 8 => 56 | 9 => 64 | 19 => 86 | 20 => 87 | 21 => 89 | 22 => 90 | 23 => 91 | 24 => 92 | 25 => 93 | 26 => 94 | 27 => 95 | 28 => 96 | 29 => 97 | 36 => 118 | 31 => 113 | 32 => 114 | 37 => 119 | 38 => 120 | 39 => 121 | 41 => 128 | n => n, fun | 27 => 30 | 29 => 9 | 3 => 3 | 32 => 117 | 26 => 30 | 0 => 0 | 44 => 143 | 46 => 145 | 4 => 4 | 36 => 136 | 35 => 135 | 41 => 140 | 5 => 5 | 9 => 9 | 53 => 162 | 57 => 166 | 63 => 175 | 64 => 176 | n => n, fun | n => n⟩
theorem Tryz.laySortS : Go.Proofs.SlLaysM.n6 Tryz.prog Tryz.laySortS_ren := {
  mixed := by kernel_rfl
  f6 := ⟨Tryz.f39.name, by decide, Tryz.func39.trans (congrArg some (by kernel_rfl))⟩
  f8 := Tryz.func56.trans (congrArg some (by kernel_rfl))
  f9 := ⟨Tryz.f64.name, by decide, Tryz.func64.trans (congrArg some (by kernel_rfl))⟩
  f19 := Tryz.func86.trans (congrArg some (by kernel_rfl))
  f20 := Tryz.func87.trans (congrArg some (by kernel_rfl))
  f21 := ⟨Tryz.f89.name, by decide, Tryz.func89.trans (congrArg some (by kernel_rfl))⟩
  f22 := ⟨Tryz.f90.name, by decide, Tryz.func90.trans (congrArg some (by kernel_rfl))⟩
  f23 := ⟨Tryz.f91.name, by decide, Tryz.func91.trans (congrArg some (by kernel_rfl))⟩
  f24 := ⟨Tryz.f92.name, by decide, Tryz.func92.trans (congrArg some (by kernel_rfl))⟩
  f25 := ⟨Tryz.f93.name, by decide, Tryz.func93.trans (congrArg some (by kernel_rfl))⟩
  f26 := ⟨Tryz.f94.name, by decide, Tryz.func94.trans (congrArg some (by kernel_rfl))⟩
  f27 := ⟨Tryz.f95.name, by decide, Tryz.func95.trans (congrArg some (by kernel_rfl))⟩
  f28 := ⟨Tryz.f96.name, by decide, Tryz.func96.trans (congrArg some (by kernel_rfl))⟩
  f29 := ⟨Tryz.f97.name, by decide, Tryz.func97.trans (congrArg some (by kernel_rfl))⟩
  f31 := Tryz.func113.trans (congrArg some (by kernel_rfl))
  f32 := Tryz.func114.trans (congrArg some (by kernel_rfl))
  f36 := ⟨Tryz.f118.name, by decide, Tryz.func118.trans (congrArg some (by kernel_rfl))⟩
  f37 := ⟨Tryz.f119.name, by decide, Tryz.func119.trans (congrArg some (by kernel_rfl))⟩
  f38 := ⟨Tryz.f120.name, by decide, Tryz.func120.trans (congrArg some (by kernel_rfl))⟩
  f39 := ⟨Tryz.f121.name, by decide, Tryz.func121.trans (congrArg some (by kernel_rfl))⟩
  f41 := ⟨Tryz.f128.name, by decide, Tryz.func128.trans (congrArg some (by kernel_rfl))⟩
  t0 := Tryz.underlying0
  a0 := Tryz.isAgg0
  z0 := Tryz.sizeOf0
  v0 := Tryz.zeroValue0
  t3 := Tryz.underlying3
  a3 := Tryz.isAgg3
  z3 := Tryz.sizeOf3
  v3 := Tryz.zeroValue3
  t4 := Tryz.underlying4
  a4 := Tryz.isAgg4
  z4 := Tryz.sizeOf4
  v4 := Tryz.zeroValue4
  t5 := Tryz.underlying5
  a5 := Tryz.isAgg5
  z5 := Tryz.sizeOf5
  v5 := Tryz.zeroValue5
  t9 := Tryz.underlying9
  a9 := Tryz.isAgg9
  z9 := Tryz.sizeOf9
  v9 := Tryz.zeroValue9
  t26 := Tryz.underlying30
  a26 := Tryz.isAgg30
  z26 := Tryz.sizeOf30
  v26 := Tryz.zeroValue30
  t27 := Tryz.underlying30
  a27 := Tryz.isAgg30
  z27 := Tryz.sizeOf30
  v27 := Tryz.zeroValue30
  t29 := Tryz.underlying9
  a29 := Tryz.isAgg9
  z29 := Tryz.sizeOf9
  v29 := Tryz.zeroValue9
  t32 := Tryz.underlying117
  a32 := Tryz.isAgg117
  z32 := Tryz.sizeOf117
  v32 := Tryz.zeroValue117
  t35 := Tryz.underlying135
  a35 := Tryz.isAgg135
  z35 := Tryz.sizeOf135
  v35 := Tryz.zeroValue135
  t36 := Tryz.underlying136
  a36 := Tryz.isAgg136
  z36 := Tryz.sizeOf136
  v36 := Tryz.zeroValue136
  t41 := Tryz.underlying140
  a41 := Tryz.isAgg140
  z41 := Tryz.sizeOf140
  v41 := Tryz.zeroValue140
  t44 := Tryz.underlying143
  a44 := Tryz.isAgg143
  z44 := Tryz.sizeOf143
  v44 := Tryz.zeroValue143
  t46 := Tryz.underlying145
  a46 := Tryz.isAgg145
  z46 := Tryz.sizeOf145
  v46 := Tryz.zeroValue145
  t53 := Tryz.underlying162
  a53 := Tryz.isAgg162
  z53 := Tryz.sizeOf162
  v53 := Tryz.zeroValue162
  t57 := Tryz.underlying166
  a57 := Tryz.isAgg166
  z57 := Tryz.sizeOf166
  v57 := Tryz.zeroValue166
  t63 := Tryz.underlying175
  a63 := Tryz.isAgg175
  z63 := Tryz.sizeOf175
  v63 := Tryz.zeroValue175
  t64 := Tryz.underlying176
  a64 := Tryz.isAgg176
  z64 := Tryz.sizeOf176
  v64 := Tryz.zeroValue176 }

def encS (s : List UInt8) : Value := .string ⟨s.toArray⟩
def sortS (ss : List (List UInt8)) : List (List UInt8) := ss.mergeSort fun x y => decide (x ≤ y)
theorem sortS_length (ss : List (List UInt8)) : (sortS ss).length = ss.length := List.length_mergeSort _
set_option maxHeartbeats 4000000 in
theorem sortS_any {w : World} {B : Nat} {v : Value} {ss : List (List UInt8)} (hrow : w.ownsRow B 9 1 v ss.length (ss.map encS)) (hlen : ss.length ≤ 1099511627776) :
    Calls Tryz.prog 39 #[v] w fun e w' => e = .returned (.tuple #[]) ∧ w'.ownsRow B 9 1 v ss.length ((sortS ss).map encS) ∧ w.grownBy w' v.ownBlock := by
  cases ss with
  | nil =>
    obtain ⟨a, c, rfl, _, _⟩ := owned_anyE hrow
    have hcon := AnyM.slices_Sort_string_none (P := Tryz.prog) (ρ := Tryz.laySortS_ren) Tryz.laySortS a c w
    change Calls Tryz.prog 39 _ _ _ at hcon
    refine hcon.mono ?_
    rintro e w' ⟨rfl, rfl⟩
    have : sortS [] = [] := by unfold sortS; simp
    rw [this]
    exact ⟨rfl, hrow, World.grownBy.refl _ _⟩
  | cons s0 sr =>
    obtain ⟨ss, hss⟩ : ∃ ss, ss = s0 :: sr := ⟨_, rfl⟩
    rw [← hss] at hrow hlen ⊢
    have hpos : 0 < ss.length := by rw [hss]; simp
    rcases hrow.2 with ⟨_, hz⟩ | ⟨gb, cap, cur, rfl, hbase, hgb, r1, r2, r3, r4⟩
    · omega
    · have hwb : Whole w gb 9 cur := hgb
      have hH : Sort.Holds encStr w gb 0 ss.toArray := by
        intro j hj
        have hj2 : j < ss.length := by simpa using hj
        rw [Nat.zero_add]
        refine ⟨?_, hwb.free j⟩
        rw [hwb.cell]
        have h1 : (ss.map encS)[j]? = some (encStr ss.toArray[j]!) := by
          rw [List.getElem?_map, List.getElem?_eq_getElem hj2, getElem!_pos ss.toArray j hj]
          rfl
        rw [← r4, Nat.mul_one, List.getElem?_take_of_lt hj2] at h1
        simpa using h1
      have hcon := AnyM.slices_Sort_string (P := Tryz.prog) (ρ := Tryz.laySortS_ren) Tryz.laySortS gb 0 cap ss w hH hwb.lt (by omega)
      change Calls Tryz.prog 39 _ _ _ at hcon
      refine hcon.mono ?_
      rintro e w' ⟨rfl, n, os, rfl⟩
      exact ⟨rfl, ownsRow_sorted (sortS_length ss) hbase hgb r1 r2 r3, grownBy_sorted _⟩
end Go.Proofs.YtmjdngomjjhhiaaGreat
