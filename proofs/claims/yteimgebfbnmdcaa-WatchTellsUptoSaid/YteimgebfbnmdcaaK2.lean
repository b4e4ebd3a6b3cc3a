/- The document's Changes; WatchTells. -/
import Derived.Test.YteimgebfbnmdcaaK1
namespace Go.Proofs.Yteimgebfbnmdcaa
open Go.RowKit Go.Shelf
open Go.Maps (Keyed)

theorem chF_nextW {f t : Int} {l : List Rw} {i : Nat} {r : Rw} (h : l[i]? = some r) : chF f t (l.take (i + 1)) = chF f t (l.take i) ++ (endsL r).filter (inB f t) := by
  unfold chF
  rw [List.take_add_one, h, List.flatMap_append, List.filter_append]
  simp
theorem chF_lenW (f t : Int) (l : List Rw) : (chF f t l).length ≤ 2 * l.length := by
  unfold chF
  refine Nat.le_trans (List.length_filter_le _ _) ?_
  induction l with
  | nil => simp
  | cons r l ih =>
    rw [List.flatMap_cons, List.length_append, List.length_cons]
    have := endsL_len r
    omega
theorem rput_own {w0 w : World} {v : Value} {L : List Ch} (h : OutE 59 5 chc w0 w v L) (hn : L.length ≤ 1099511627776) (x : Ch) :
    Calls Try.prog 32 #[v, .agg (chc x).toArray] w fun e w' => ∃ v', ∃ out : List Ch, e = .returned v' ∧ (∀ src, Stb clt src L → Stb clt (src ++ [x]) out) ∧ OutE 59 5 chc w0 w' v' out ∧ Below w.heap.size w w' := by
  obtain ⟨a, c, rfl, hL⟩ := Lies.owned h.row
  refine (rput_any hL rfl hn x).mono ?_
  rintro _ w' ⟨v', i, rfl, h1, h2, h3, h4⟩
  refine ⟨v', _, rfl, fun src hs => ?_, h4.lower h.below, h4.below⟩
  exact Stb.put swoC hs x h1 h2 (fun h0 => h3 _ (List.getElem?_eq_getElem (by omega)) h0)
theorem endsF {r : Rw} {f t : Int} : (endsL r).filter (inB f t) = (if r.u ≠ 0 ∧ r.u ≤ r.s then [] else (if f < r.s ∧ r.s ≤ t then [(⟨r.s, false, r.t⟩ : Ch)] else []) ++ (if r.u ≠ 0 ∧ f < r.u ∧ r.u ≤ t then [(⟨r.u, true, r.t⟩ : Ch)] else [])) := by
  unfold endsL
  by_cases h0 : r.u = 0
  · rw [if_pos h0, if_neg (by simp [h0]), if_neg (show ¬ (r.u ≠ 0 ∧ f < r.u ∧ r.u ≤ t) by simp [h0])]
    unfold inB
    by_cases h1 : f < r.s <;> by_cases h2 : r.s ≤ t <;> simp [h1, h2]
  · rw [if_neg h0]
    by_cases h3 : r.s < r.u
    · rw [if_pos h3, if_neg (by omega)]
      unfold inB
      by_cases h1 : f < r.s <;> by_cases h2 : r.s ≤ t <;> by_cases h4 : f < r.u <;> by_cases h5 : r.u ≤ t <;> simp [h0, h1, h2, h4, h5]
    · rw [if_neg h3, if_pos ⟨h0, by omega⟩]
      rfl
set_option maxRecDepth 100000 in
set_option maxHeartbeats 16000000 in
theorem rchanges_any {w : World} {a : Option Addr} {n c B : Nat} {l : List Rw} (hl : Lies w 49 5 B a n c (l.flatMap rw1)) (hln : l.length = n) (hn : n ≤ 549755800000) (from_ to_ : Int) :
    Calls Try.prog 11 #[.slice a n c, .int .i64 from_, .int .i64 to_] w fun e w' => ∃ v, ∃ out : List Ch, e = .returned v ∧ Stb clt (chF from_ to_ l) out ∧ OutE 59 5 chc w w' v out := by
  have HL := Lib.hid hl
  have HLN := Lib.hid hln
  have HU1 := Lib.hid (show OutE 59 5 chc w w (.slice none 0 0) [] from ⟨Below.refl _ _, World.ownsRow_nil _ _ _ _⟩)
  clear hl hln
  go_enter Try.func11, Try.ntmps11
  go_wp2_with fail
  go_loopw [7, 8] (fun v iv wr => ∃ i : Nat, i ≤ n ∧ iv = .int .i64 i ∧ ∃ L, Hid (Stb clt (chF from_ to_ (l.take i)) L) ∧ OutE 59 5 chc w wr v L) (fun _ iv _ => n - (intOf iv).toNat)
  case atStart => exact ⟨0, by omega, rfl, [], Lib.hid Stb.nil, HU1.out⟩
  case round =>
    clear HU1
    obtain ⟨i, hin, rfl, L, HSB, hS⟩ := hrel
    obtain ⟨va, vc, rfl, _, _⟩ := owned_anyE hS.row
    by_cases hil : i < n
    · obtain ⟨r, hti⟩ : ∃ r, l[i]? = some r := ⟨_, List.getElem?_eq_getElem (show i < l.length by rw [HLN.out]; exact hil)⟩
      obtain ⟨bb, off, rfl, hbb, hcc⟩ := lies_cells rw1_len (by decide) HL.out hti
      have c0 := (hS.below.cell (p := ⟨bb, off + i * 5, none⟩) hbb).trans (hcc 0 _ rfl)
      have c1 := (hS.below.cell (p := ⟨bb, off + i * 5 + 1, none⟩) hbb).trans (hcc 1 _ rfl)
      have c2 := (hS.below.cell (p := ⟨bb, off + i * 5 + 2, none⟩) hbb).trans (hcc 2 _ rfl)
      have c3 := (hS.below.cell (p := ⟨bb, off + i * 5 + 3, none⟩) hbb).trans (hcc 3 _ rfl)
      have c4 := (hS.below.cell (p := ⟨bb, off + i * 5 + 4, none⟩) hbb).trans (hcc 4 _ rfl)
      have hil2 : (i : Int) < (n : Int) := by omega
      have hnx := chF_nextW (f := from_) (t := to_) hti
      rw [endsF] at hnx
      have HNX := Lib.hid hnx
      have hlen : L.length ≤ 1099511600000 := by
        have h1 := HSB.out.length
        have h2 := chF_lenW from_ to_ (l.take i)
        rw [List.length_take] at h2
        omega
      have HLE := Lib.hid hlen
      obtain ⟨q, hq⟩ : ∃ q, q = wr.heap.size := ⟨_, rfl⟩
      obtain ⟨W3, hW3⟩ : ∃ W3, W3 = wr.alloc (.cells (rw1 r).toArray 49) := ⟨_, rfl⟩
      have hb3 : Below wr.heap.size wr W3 := by rw [hW3]; exact below_alloc _ _
      have hX : Whole W3 q 49 (rw1 r).toArray := by rw [hW3, hq]; exact heap_alloc_new _ _
      have HX := Lib.hid hX
      have HS3 := Lib.hid (hS.up hb3)
      have e0 : W3.cell? ⟨q, 0, none⟩ = some (.string r.t.o) := hX.cell 0
      have e1 : W3.cell? ⟨q, 1, none⟩ = some (.string r.t.r) := hX.cell 1
      have e2 : W3.cell? ⟨q, 2, none⟩ = some (.string r.t.u) := hX.cell 2
      have e3 : W3.cell? ⟨q, 3, none⟩ = some (.int .i64 r.s) := hX.cell 3
      have e4 : W3.cell? ⟨q, 4, none⟩ = some (.int .i64 r.u) := hX.cell 4
      unfold rw1 at hW3
      clear hcc hbb hb3 hX hS hti hnx hlen
      go_upto_region 6 with fail
      rw [← hq, ← hW3]
      clear hq hW3 c0 c1 c2 c3 c4
      by_cases hu : r.u = 0
      · have hz : (r.u == 0) = true := by simp [hu]
        have HU0 := Lib.hid hu
        clear hu
        have HSQ := HSB
        have HLL := Lib.hid (show L.length ≤ 1099511600001 by have := HLE.out; omega)
        by_cases h1 : from_ < r.s
        · by_cases h2 : r.s ≤ to_
          · have HP := Lib.hid (rput_own HS3.out (by have := HLE.out; omega) ⟨r.s, false, r.t⟩)
            unfold chc at HP
            go_wp2_with fail
            refine HP.out.mono ?_
            rintro _ w4 ⟨v4, L4, rfl, hs4, hO4, hb4⟩
            have HSQ := Lib.hid (hs4 _ HSB.out)
            have HS4 := Lib.hid hO4
            obtain ⟨va4, vc4, rfl, _, _⟩ := owned_anyE hO4.row
            have HLL := Lib.hid (show L4.length ≤ 1099511600001 by have h1 := HSQ.out.length; have h2 := HSB.out.length; rw [List.length_append] at h1; have := HLE.out; simp at h1; omega)
            have HI1 := Lib.hid (And.intro h1 h2)
            have hx4 := HX.out.kept (hb4.block _ HX.out.lt)
            clear e0 e1 e2 e3 e4
            have e0 : w4.cell? ⟨q, 0, none⟩ = some (.string r.t.o) := by rw [hx4.cell]; rfl
            have e1 : w4.cell? ⟨q, 1, none⟩ = some (.string r.t.r) := by rw [hx4.cell]; rfl
            have e2 : w4.cell? ⟨q, 2, none⟩ = some (.string r.t.u) := by rw [hx4.cell]; rfl
            have e3 : w4.cell? ⟨q, 3, none⟩ = some (.int .i64 r.s) := by rw [hx4.cell]; rfl
            have e4 : w4.cell? ⟨q, 4, none⟩ = some (.int .i64 r.u) := by rw [hx4.cell]; rfl
            clear hs4 hO4 hb4 HP hx4 HS3 h1 h2
            have HSN := Lib.hid (show Stb clt (chF from_ to_ (l.take (i + 1))) L4 from by rw [HNX.out, if_neg (by simp [HU0.out]), if_neg (show ¬ (r.u ≠ 0 ∧ from_ < r.u ∧ r.u ≤ to_) by simp [HU0.out]), if_pos HI1.out]; simpa using HSQ.out)
            have HSO := HS4
            go_wp2
            go_roundw
            case rel => exact ⟨i + 1, by omega, by go_num, _, HSN, HSO.out⟩
            case measure => simp [intOf]; omega
          · have HI1 := Lib.hid (show ¬ (from_ < r.s ∧ r.s ≤ to_) from fun h => h2 h.2)
            go_upto_region 9 with fail
            clear h1 h2
            have HSN := Lib.hid (show Stb clt (chF from_ to_ (l.take (i + 1))) L from by rw [HNX.out, if_neg (by simp [HU0.out]), if_neg (show ¬ (r.u ≠ 0 ∧ from_ < r.u ∧ r.u ≤ to_) by simp [HU0.out]), if_neg HI1.out]; simpa using HSQ.out)
            have HSO := HS3
            go_wp2
            go_roundw
            case rel => exact ⟨i + 1, by omega, by go_num, _, HSN, HSO.out⟩
            case measure => simp [intOf]; omega
        · have HI1 := Lib.hid (show ¬ (from_ < r.s ∧ r.s ≤ to_) from fun h => h1 h.1)
          go_upto_region 9 with fail
          clear h1
          have HSN := Lib.hid (show Stb clt (chF from_ to_ (l.take (i + 1))) L from by rw [HNX.out, if_neg (by simp [HU0.out]), if_neg (show ¬ (r.u ≠ 0 ∧ from_ < r.u ∧ r.u ≤ to_) by simp [HU0.out]), if_neg HI1.out]; simpa using HSQ.out)
          have HSO := HS3
          go_wp2
          go_roundw
          case rel => exact ⟨i + 1, by omega, by go_num, _, HSN, HSO.out⟩
          case measure => simp [intOf]; omega
      · have hz : (r.u == 0) = false := by simp [hu]
        have HU0 := Lib.hid hu
        clear hu
        by_cases hs : r.u ≤ r.s
        · have HSN := Lib.hid (show Stb clt (chF from_ to_ (l.take (i + 1))) L from by rw [HNX.out, if_pos ⟨HU0.out, hs⟩]; simpa using HSB.out)
          have HSO := HS3
          go_wp2
          go_roundw
          case rel => exact ⟨i + 1, by omega, by go_num, _, HSN, HSO.out⟩
          case measure => simp [intOf]; omega
        · have HSU := Lib.hid hs
          have HSQ := HSB
          have HLL := Lib.hid (show L.length ≤ 1099511600001 by have := HLE.out; omega)
          by_cases h1 : from_ < r.s
          · by_cases h2 : r.s ≤ to_
            · have HP := Lib.hid (rput_own HS3.out (by have := HLE.out; omega) ⟨r.s, false, r.t⟩)
              unfold chc at HP
              go_wp2_with fail
              refine HP.out.mono ?_
              rintro _ w4 ⟨v4, L4, rfl, hs4, hO4, hb4⟩
              have HSQ := Lib.hid (hs4 _ HSB.out)
              have HS4 := Lib.hid hO4
              obtain ⟨va4, vc4, rfl, _, _⟩ := owned_anyE hO4.row
              have HLL := Lib.hid (show L4.length ≤ 1099511600001 by have h1 := HSQ.out.length; have h2 := HSB.out.length; rw [List.length_append] at h1; have := HLE.out; simp at h1; omega)
              have HI1 := Lib.hid (And.intro h1 h2)
              have hx4 := HX.out.kept (hb4.block _ HX.out.lt)
              clear e0 e1 e2 e3 e4
              have e0 : w4.cell? ⟨q, 0, none⟩ = some (.string r.t.o) := by rw [hx4.cell]; rfl
              have e1 : w4.cell? ⟨q, 1, none⟩ = some (.string r.t.r) := by rw [hx4.cell]; rfl
              have e2 : w4.cell? ⟨q, 2, none⟩ = some (.string r.t.u) := by rw [hx4.cell]; rfl
              have e3 : w4.cell? ⟨q, 3, none⟩ = some (.int .i64 r.s) := by rw [hx4.cell]; rfl
              have e4 : w4.cell? ⟨q, 4, none⟩ = some (.int .i64 r.u) := by rw [hx4.cell]; rfl
              clear hs4 hO4 hb4 HP hx4 HS3 h1 h2
              by_cases h4 : from_ < r.u
              · by_cases h5 : r.u ≤ to_
                · have HP2 := Lib.hid (rput_own HS4.out (by have := HLL.out; omega) ⟨r.u, true, r.t⟩)
                  have HSN := Lib.hid (fun out (hs : ∀ src, Stb clt src L4 → Stb clt (src ++ [⟨r.u, true, r.t⟩]) out) => show Stb clt (chF from_ to_ (l.take (i + 1))) out from by rw [HNX.out, if_neg (fun h => by have := HSU.out; omega), if_pos HI1.out, if_pos ⟨HU0.out, h4, h5⟩]; simpa using hs _ HSQ.out)
                  unfold chc at HP2
                  clear HS4 HSQ
                  go_wp2_with fail
                  refine HP2.out.mono ?_
                  rintro _ w5 ⟨v5, out, rfl, hs5, hO5, _⟩
                  have HSN := Lib.hid (HSN.out out hs5)
                  have HSO := Lib.hid hO5
                  clear hs5 hO5 HP2
                  go_wp2
                  go_roundw
                  case rel => exact ⟨i + 1, by omega, by go_num, _, HSN, HSO.out⟩
                  case measure => simp [intOf]; omega
                · have HSN := Lib.hid (show Stb clt (chF from_ to_ (l.take (i + 1))) L4 from by rw [HNX.out, if_neg (fun h => by have := HSU.out; omega), if_pos HI1.out, if_neg (fun h => h5 h.2.2)]; simpa using HSQ.out)
                  have HSO := HS4
                  go_wp2
                  go_roundw
                  case rel => exact ⟨i + 1, by omega, by go_num, _, HSN, HSO.out⟩
                  case measure => simp [intOf]; omega
              · have HSN := Lib.hid (show Stb clt (chF from_ to_ (l.take (i + 1))) L4 from by rw [HNX.out, if_neg (fun h => by have := HSU.out; omega), if_pos HI1.out, if_neg (fun h => h4 h.2.1)]; simpa using HSQ.out)
                have HSO := HS4
                go_wp2
                go_roundw
                case rel => exact ⟨i + 1, by omega, by go_num, _, HSN, HSO.out⟩
                case measure => simp [intOf]; omega
            · have HI1 := Lib.hid (show ¬ (from_ < r.s ∧ r.s ≤ to_) from fun h => h2 h.2)
              go_upto_region 9 with fail
              clear h1 h2
              by_cases h4 : from_ < r.u
              · by_cases h5 : r.u ≤ to_
                · have HP2 := Lib.hid (rput_own HS3.out (by have := HLL.out; omega) ⟨r.u, true, r.t⟩)
                  have HSN := Lib.hid (fun out (hs : ∀ src, Stb clt src L → Stb clt (src ++ [⟨r.u, true, r.t⟩]) out) => show Stb clt (chF from_ to_ (l.take (i + 1))) out from by rw [HNX.out, if_neg (fun h => by have := HSU.out; omega), if_neg HI1.out, if_pos ⟨HU0.out, h4, h5⟩]; simpa using hs _ HSQ.out)
                  unfold chc at HP2
                  clear HS3 HSQ
                  go_wp2_with fail
                  refine HP2.out.mono ?_
                  rintro _ w5 ⟨v5, out, rfl, hs5, hO5, _⟩
                  have HSN := Lib.hid (HSN.out out hs5)
                  have HSO := Lib.hid hO5
                  clear hs5 hO5 HP2
                  go_wp2
                  go_roundw
                  case rel => exact ⟨i + 1, by omega, by go_num, _, HSN, HSO.out⟩
                  case measure => simp [intOf]; omega
                · have HSN := Lib.hid (show Stb clt (chF from_ to_ (l.take (i + 1))) L from by rw [HNX.out, if_neg (fun h => by have := HSU.out; omega), if_neg HI1.out, if_neg (fun h => h5 h.2.2)]; simpa using HSQ.out)
                  have HSO := HS3
                  go_wp2
                  go_roundw
                  case rel => exact ⟨i + 1, by omega, by go_num, _, HSN, HSO.out⟩
                  case measure => simp [intOf]; omega
              · have HSN := Lib.hid (show Stb clt (chF from_ to_ (l.take (i + 1))) L from by rw [HNX.out, if_neg (fun h => by have := HSU.out; omega), if_neg HI1.out, if_neg (fun h => h4 h.2.1)]; simpa using HSQ.out)
                have HSO := HS3
                go_wp2
                go_roundw
                case rel => exact ⟨i + 1, by omega, by go_num, _, HSN, HSO.out⟩
                case measure => simp [intOf]; omega
          · have HI1 := Lib.hid (show ¬ (from_ < r.s ∧ r.s ≤ to_) from fun h => h1 h.1)
            go_upto_region 9 with fail
            clear h1
            by_cases h4 : from_ < r.u
            · by_cases h5 : r.u ≤ to_
              · have HP2 := Lib.hid (rput_own HS3.out (by have := HLL.out; omega) ⟨r.u, true, r.t⟩)
                have HSN := Lib.hid (fun out (hs : ∀ src, Stb clt src L → Stb clt (src ++ [⟨r.u, true, r.t⟩]) out) => show Stb clt (chF from_ to_ (l.take (i + 1))) out from by rw [HNX.out, if_neg (fun h => by have := HSU.out; omega), if_neg HI1.out, if_pos ⟨HU0.out, h4, h5⟩]; simpa using hs _ HSQ.out)
                unfold chc at HP2
                clear HS3 HSQ
                go_wp2_with fail
                refine HP2.out.mono ?_
                rintro _ w5 ⟨v5, out, rfl, hs5, hO5, _⟩
                have HSN := Lib.hid (HSN.out out hs5)
                have HSO := Lib.hid hO5
                clear hs5 hO5 HP2
                go_wp2
                go_roundw
                case rel => exact ⟨i + 1, by omega, by go_num, _, HSN, HSO.out⟩
                case measure => simp [intOf]; omega
              · have HSN := Lib.hid (show Stb clt (chF from_ to_ (l.take (i + 1))) L from by rw [HNX.out, if_neg (fun h => by have := HSU.out; omega), if_neg HI1.out, if_neg (fun h => h5 h.2.2)]; simpa using HSQ.out)
                have HSO := HS3
                go_wp2
                go_roundw
                case rel => exact ⟨i + 1, by omega, by go_num, _, HSN, HSO.out⟩
                case measure => simp [intOf]; omega
            · have HSN := Lib.hid (show Stb clt (chF from_ to_ (l.take (i + 1))) L from by rw [HNX.out, if_neg (fun h => by have := HSU.out; omega), if_neg HI1.out, if_neg (fun h => h4 h.2.1)]; simpa using HSQ.out)
              have HSO := HS3
              go_wp2
              go_roundw
              case rel => exact ⟨i + 1, by omega, by go_num, _, HSN, HSO.out⟩
              case measure => simp [intOf]; omega
    · obtain rfl : i = n := by omega
      have HSN := Lib.hid (show Stb clt (chF from_ to_ l) L from by have := HSB.out; rwa [List.take_of_length_le (by rw [HLN.out]; exact Nat.le_refl _)] at this)
      have HE := Lib.hid hS
      clear hS
      go_wp2
      go_ret
      exact ⟨_, _, rfl, HSN.out, HE.out⟩
end Go.Proofs.Yteimgebfbnmdcaa
