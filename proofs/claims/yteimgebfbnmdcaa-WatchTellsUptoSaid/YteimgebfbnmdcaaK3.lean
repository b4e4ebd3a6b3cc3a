/- WatchTells. -/
import Derived.Test.YteimgebfbnmdcaaK2
namespace Go.Proofs.Yteimgebfbnmdcaa
open Go.RowKit Go.Shelf
open Go.Maps (Keyed)

theorem thB_alive (r : Rw) (rev : Int) : thB r rev = (⟨r.s, r.u⟩ : Sp).at_ rev := by
  unfold thB Sp.at_ Sp.over
  by_cases h1 : r.s ≤ rev <;> by_cases h2 : r.u = 0 <;> by_cases h3 : rev < r.u
  all_goals (have h4 : decide (r.u ≤ rev) = !decide (rev < r.u) := by by_cases h : rev < r.u <;> simp [h] <;> omega)
  all_goals (simp [h1, h2, h3, h4]; try omega)
theorem at_same {l : List Rw} {rev : Int} {ts : List Tp} (h : Ord (fun t => ∃ r ∈ l, thB r rev = true ∧ r.t = t) ts) : atR ltT l rev = ts := by
  have h1 := atFold ordT rev l [] (by simp [TSorted])
  refine Ord.unique ⟨h1.1, fun t => ?_⟩ h
  show t ∈ l.foldl (atStep ltT rev) [] ↔ _
  rw [h1.2]
  constructor
  · rintro (h | ⟨x, hx, h2, h3⟩)
    · cases h
    · exact ⟨x, hx, by rw [thB_alive]; exact h3, h2⟩
  · rintro ⟨x, hx, h2, h3⟩
    exact .inr ⟨x, hx, h3, by rw [← thB_alive]; exact h2⟩
set_option maxRecDepth 100000 in
set_option maxHeartbeats 8000000 in
theorem tells_walk (a : Option Addr) (n c : Nat) (x y : Int) (w : World) (hl : ∃ l, InL 49 5 rw1 Rw.t w a n c l) (hn : n ≤ 1048576) :
    Calls Try.prog 3 #[.slice a n c, .int .i64 x, .int .i64 y] w fun e w' => e = .returned (.bool true) ∧ Below w.heap.size w w' := by
  obtain ⟨l, hl⟩ := hl
  have HI := Lib.hid hl
  clear hl
  go_enter Try.func3, Try.ntmps3
  go_wp2_with fail
  refine (awake_any w).mono ?_
  rintro _ w1 ⟨rfl, hb1⟩
  have HB1 := Lib.hid hb1
  have HI1 := Lib.hid (HI.out.below hb1)
  clear hb1
  have HC1 := Lib.hid (changes_any HI1.out.lies HI1.out.len (by omega) x y)
  go_wp2_with fail
  refine HC1.out.mono ?_
  rintro _ w2 ⟨_, out, rfl, hst, hO⟩
  obtain ⟨a2, c2, rfl, hL2⟩ := hO.lies
  have HL2 := Lib.hid hL2
  have HST := Lib.hid hst
  have HB2 := Lib.hid (bell_up HB1.out hO.below)
  have HI2 := Lib.hid (HI1.out.below hO.below)
  have HC2 := Lib.hid (rchanges_any HI2.out.lies HI2.out.len (by omega) x y)
  have hlen : out.length ≤ 1099511627776 := by
    have h1 := hst.length
    have h2 := chF_lenW x y l
    rw [HI.out.len] at h2
    omega
  have HLE := Lib.hid hlen
  clear hst hO hL2 HC1 HI1 hlen
  go_wp2_with fail
  refine HC2.out.mono ?_
  rintro _ w3 ⟨_, out3, rfl, hst3, hO3⟩
  obtain rfl := hst3.unique swoC HST.out
  obtain ⟨a3, c3, rfl, hL3⟩ := hO3.lies
  have HB3 := Lib.hid (bell_up HB2.out hO3.below)
  have HI3 := Lib.hid (HI2.out.below hO3.below)
  have HS := Lib.hid (same_eq (HL2.out.below hO3.below) hL3 rfl HLE.out)
  clear hst3 hO3 hL3 HC2 HI2
  go_wp2_with fail
  refine HS.out.mono ?_
  rintro _ w4 ⟨rfl, hb4⟩
  have HB4 := Lib.hid (bell_up HB3.out hb4)
  have HI4 := Lib.hid (HI3.out.below hb4)
  have HA := Lib.hid (at_any HI4.out.lies HI4.out.len (fun r hr => HI4.out.fits r hr) (by omega) y)
  clear hb4 HI3 HS
  go_wp2_with fail
  refine HA.out.mono ?_
  rintro _ w5 ⟨_, ts, rfl, hts, hown, hb5⟩
  have hle : ts.length ≤ 1048576 := by
    have h1 := hts.len_le (l := l.map Rw.t) (fun t ⟨r, hr, _, e⟩ => List.mem_map.2 ⟨r, hr, e⟩)
    rw [List.length_map, HI.out.len] at h1
    omega
  have HLT := Lib.hid hle
  have HTS := Lib.hid (at_same hts)
  have HB5 := Lib.hid (bell_up HB4.out hb5)
  have HI5 := Lib.hid (HI4.out.below hb5)
  obtain ⟨a5, c5, rfl, hL5⟩ := Lies.owned hown
  have HL5 := Lib.hid hL5
  have HR := Lib.hid (rat_any (rc := c) (rowsAt_of HI5.out) (by omega) 0 y)
  clear hts hown hb5 hle hL5 HA HI4
  go_wp2_with fail
  refine HR.out.mono ?_
  rintro _ w6 ⟨_, rfl, hown6, hb6⟩
  rw [HTS.out] at hown6
  obtain ⟨a6, c6, rfl, hL6⟩ := Lies.owned hown6
  have HB6 := Lib.hid (bell_up HB5.out hb6)
  have HE := Lib.hid (tuples_eq (HL5.out.below hb6) hL6 rfl (by have := HLT.out; omega))
  clear hown6 hb6 hL6 HR
  go_wp2_with fail
  refine HE.out.mono ?_
  rintro _ w7 ⟨rfl, hb7⟩
  have HB7 := Lib.hid (bell_up HB6.out hb7)
  clear hb7
  go_wp2
  go_ret
  exact ⟨rfl, HB7.out⟩
end Go.Proofs.Yteimgebfbnmdcaa
