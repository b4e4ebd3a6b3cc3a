/- The document's network: Flip that finds its bit. -/
import Derived.Test.YtmmjgpdclodlfaaNR3
namespace Go.Proofs.Ytmmjgpdclodlfaa
open Go.RowKit

theorem str_byte {xs : List Int} {d : Nat} {x : Int} (hx : xs[d]? = some x) (hr : 0 ≤ x ∧ x < 256) (h : d < (strOfNums xs).size) : (((strOfNums xs)[d]'h).toNat : Int) = x := by
  have h2 : (strOfNums xs).data.toList[d]? = (xs.map (fun y => UInt8.ofNat y.toNat))[d]? := by rw [strOfNums_data]
  rw [List.getElem?_map, hx, Array.getElem?_toList, Array.getElem?_eq_getElem (xs := (strOfNums xs).data) (i := d) h] at h2
  simp only [Option.map_some, Option.some.injEq] at h2
  have h3 : (strOfNums xs)[d]'h = UInt8.ofNat x.toNat := h2
  rw [h3]
  simp
  omega
theorem place_all : ∀ (x : Fin 256) (m : Fin 8), (if (x.val : Int).tdiv ((2 ^ m.val : Nat) : Int) % 2 = 1 then (x.val : Int) - ((2 ^ m.val : Nat) : Int) else (x.val : Int) + ((2 ^ m.val : Nat) : Int)) = fb (x.val : Int) m.val := by decide +kernel
theorem dcs_set (l : List Dp) (fr dst : Int) (S S' : ByteArray) : ∀ i, l[i]? = some (fr, dst, S) → (dcs l).set (i * 3 + 2) (.string S') = dcs (l.set i (fr, dst, S')) := by
  induction l with
  | nil => intro i hi; simp at hi
  | cons x l ih =>
    intro i hi
    cases i with
    | zero =>
      simp at hi
      subst hi
      rfl
    | succ i =>
      have h := ih i (by simpa using hi)
      rw [show (i + 1) * 3 + 2 = (i * 3 + 2) + 1 + 1 + 1 by omega]
      show (Value.int .i64 x.1 :: .int .i64 x.2.1 :: .string x.2.2 :: dcs l).set (i * 3 + 2 + 1 + 1 + 1) _ = _
      simp only [List.set_cons_succ]
      rw [h]
      rfl
theorem str_set {xs : List Int} {d : Nat} (y : Int) (h : d < xs.length) : (strOfNums xs).extract 0 d ++ strOfNums [y] ++ (strOfNums xs).extract (d + 1) (strOfNums xs).size = strOfNums (xs.set d y) := by
  rw [str_drop, str_sub, str_append, str_append, List.drop_zero, Nat.sub_zero, List.set_eq_take_append_cons_drop, if_pos h, List.append_assoc]
  rfl
section
variable {B c : Nat} {a : Option Addr} {l : List Dp}
set_option maxRecDepth 100000 in
set_option maxHeartbeats 8000000 in
theorem rflip_ok {i k : Nat} {fr dst x : Int} {xs : List Int} (w : World) (h : Ds w B a c l) (hi : l[i]? = some (fr, dst, strOfNums xs)) (hx : xs[k / 8]? = some x) (hxr : 0 ≤ x ∧ x < 256) (hn : l.length ≤ 4096) (hk : k ≤ 9223372036854775807) (hxl : xs.length ≤ 140737488351232) :
    Calls Try.prog 15 #[.slice a l.length c, .int .i64 (i : Int), .int .i64 (k : Int)] w fun e w' => (∃ a' c', e = .returned (.tuple #[.slice a' l.length c', .int .i64 0]) ∧ Ds w' w.heap.size a' c' (l.set i (fr, dst, strOfNums (xs.set (k / 8) (fb x (k % 8)))))) ∧ Below w.heap.size w w' := by
  obtain ⟨i0, hi0, hz0, hz1, hz2⟩ := info_of Try.infoD
  have HI := Lib.hid hi
  have hbs := empty_ds
  obtain ⟨b, off, rfl, hbl, hil, e0, e1, e2⟩ := ds_at h hi
  simp only at e0 e1 e2
  obtain ⟨hdl, _⟩ := List.getElem?_eq_some_iff.1 hx
  have hd1 : (k : Int).tdiv 8 = ((k / 8 : Nat) : Int) := by rw [Int.tdiv_eq_ediv_of_nonneg (by omega)]; omega
  have hd2 : (k : Int).tmod 8 = ((k % 8 : Nat) : Int) := by rw [Int.tmod_eq_emod_of_nonneg (by omega)]; omega
  have hk0 : decide ((k : Int) < 0) = false := by rw [decide_eq_false_iff_not]; omega
  have hsz := strOfNums_size xs
  have hm8 : k % 8 < 8 := Nat.mod_lt _ (by decide)
  have hkd : k / 8 ≤ 9223372036854775807 := by omega
  have HX := Lib.hid hx
  have HH := Lib.hid h
  clear h hx hi
  generalize k / 8 = d at *
  generalize k % 8 = m at *
  have hsb := str_byte (HX.out) hxr (by rw [hsz]; exact hdl)
  generalize hS : strOfNums xs = S at *
  have HS := Lib.hid hS
  have hdS : decide ((S.size : Int) ≤ (d : Int)) = false := by rw [decide_eq_false_iff_not]; omega
  clear hS
  go_enter Try.func15, Try.ntmps15
  go_wp2_with fail
  go_loopw [10, 11] (fun pv kv wr => ∃ j q : Nat, j ≤ m ∧ kv = .int .i64 j ∧ pv = .int .i64 q ∧ q * 2 ^ (m - j) = 2 ^ m ∧ 1 ≤ q ∧ wr = w) (fun _ kv _ => m - (intOf kv).toNat)
  case atStart => exact ⟨0, 1, by omega, by go_num, by go_num, by simp, by omega, rfl⟩
  case round =>
    obtain ⟨j, q, hj, rfl, rfl, hq, hq1, rfl⟩ := hrel
    have hpm : 2 ^ m ≤ 128 := by
      have : 2 ^ m ≤ 2 ^ 7 := Nat.pow_le_pow_right (by decide) (by omega)
      omega
    have hq8 : q ≤ 128 := by
      have h1 : 1 ≤ 2 ^ (m - j) := Nat.one_le_two_pow
      have h2 := Nat.mul_le_mul_left q h1
      omega
    by_cases hjm : j < m
    · have hq2 : (q * 2) * 2 ^ (m - (j + 1)) = 2 ^ m := by
        rw [← hq, show m - j = (m - (j + 1)) + 1 by omega, Nat.pow_succ, Nat.mul_assoc, Nat.mul_comm 2]
      have HQ := Lib.hid hq2
      clear hq hq2 hpm
      go_wp2
      go_roundw
      case rel => exact ⟨j + 1, q * 2, by omega, by go_num, by go_num, HQ.out, by omega, by simp⟩
      case measure => simp [intOf]; omega
    · obtain rfl : j = m := by omega
      have hq' : q = 2 ^ j := by rw [← hq, Nat.sub_self, Nat.pow_zero, Nat.mul_one]
      have HQ := Lib.hid hq'
      clear hq hpm hq'
      have hfb := fb_facts hxr.1 hxr.2 hm8
      have hpl := place_all ⟨x.toNat, by omega⟩ ⟨j, hm8⟩
      simp only [show ((x.toNat : Nat) : Int) = x by omega] at hpl
      rw [← HQ.out, Int.tdiv_eq_ediv_of_nonneg hxr.1] at hpl
      obtain ⟨y, hy⟩ : ∃ y, y = fb x j := ⟨_, rfl⟩
      rw [← hy] at hpl hfb
      have HY := Lib.hid hy
      have HST := Lib.hid (str_set (xs := xs) (d := d) y hdl)
      rw [HS.out] at HST
      have hyr : 0 ≤ y ∧ y < 256 := ⟨hfb.1, hfb.2.1⟩
      have hst : ∀ W : World, (convert 30 9 (.slice (some ⟨W.heap.size, 0, none⟩) 1 1)).run Try.prog (W.alloc (.cells #[.int .u8 y] 5)) = .ok (.string (strOfNums [y])) (W.alloc (.cells #[.int .u8 y] 5)) := fun W => (IsB.lit W [y] (0, 0) (by simpa using hyr)).str 1
      have hst2 : ∀ W : World, (convert 30 9 (.slice (some ⟨W.heap.size, 0, none⟩) 1 1)).run Try.prog (W.alloc (.cells #[.int .u8 y] 5)).drew = .ok (.string (strOfNums [y])) (W.alloc (.cells #[.int .u8 y] 5)).drew := fun W => ((IsB.lit W [y] (0, 0) (by simpa using hyr)).below (w' := (W.alloc (.cells #[.int .u8 y] 5)).drew) ⟨rfl, rfl, rfl, Nat.le_refl _, fun _ _ => rfl⟩).str 1
      have hys : (strOfNums [y]).size = 1 := by rw [strOfNums_size]; rfl
      have hmd : ¬ 9223372036854775807 < min d xs.length + 1 := by omega
      have hsh : ∀ W : World, (Instr.slice 9 (.string S) none (some (.int .i64 (d : Int))) none).run Try.prog W = .ok (.string (S.extract 0 d)) W := fun W => str_head S d (by omega) W
      have hstl : ∀ W : World, (Instr.slice 9 (.string S) (some (.int .i64 ((d : Int) + 1))) none none).run Try.prog W = .ok (.string (S.extract (d + 1) S.size)) W := fun W => str_tail S (d + 1) (by omega) W
      have hwd : IntKind.i64.wrap ((d : Int) + 1) = (d : Int) + 1 := IntWalk.i64_in _ (by omega)
      have HR := Lib.hid (HH.out.below (below_alloc wr (.cells #[] 39)))
      have HE := Lib.hid (show (wr.alloc (.cells #[] 39)).ownsRow wr.heap.size 39 3 (.slice (some ⟨wr.heap.size, 0, none⟩) 0 0) 0 [] from World.ownsRow_made (base := wr.heap.size) (size := 3) (e := 39) wr #[] 0 (Nat.le_refl _) (by simp [maxLen]) rfl)
      have HYR := Lib.hid hyr
      have ht : (x / (q : Int)).tmod 2 = x / (q : Int) % 2 := Int.tmod_eq_emod_of_nonneg (Int.ediv_nonneg hxr.1 (by omega))
      have hv : (if (x / (q : Int)).tmod 2 == 1 then x - (q : Int) else x + (q : Int)) = y := by
        rw [ht, ← hpl]
        by_cases h : x / (q : Int) % 2 = 1 <;> simp [h]
      clear hfb hy e0 e1 e2 hpl ht
      cases hbit : ((x / (q : Int)).tmod 2 == 1)
      all_goals
        rw [hbit] at hv
        simp only [if_true, Bool.false_eq_true, if_false] at hv
        go_wp2_with (first
          | (at_builtin; (refine wpList_append_at_any _ rfl (.tmp 61) (.tmp 62) 29 rfl wr.heap.size 39 i0 (.agg #[.int .i64 0, .int .i64 0, .string ⟨#[]⟩]) 3 32 Try.underlying29 hi0 hz0 hz1 hz2 rfl (by decide) _ 0 [] rfl HE.out (some ⟨b, off, none⟩) l.length c (dcs l) rfl HR.out.row.len HR.out.row.nil HR.out.row.news (dcs_one l) (by unfold maxLen; omega) (by omega) (by simp) ?_); intro v2 w2 hown2 hgrow2 hat2
             have hown : w2.ownsRow wr.heap.size 39 3 v2 l.length (dcs l) := by simpa using hown2
             have hb2 : Below wr.heap.size wr w2 := ((Below.refl _ _).alloc (Nat.le_refl _) _).grown hgrow2 (by simp) (by rintro p hp; injection hp with hp; rw [← hp]; exact Nat.le_refl _)
             obtain ⟨r, rc, hrv, hrc, _⟩ := hown.form (by omega)
             subst hrv
             have hi2 := (dcs_at HI.out).2.2
             have s0 : w2.cell? ⟨r, i * 3 + 2, none⟩ = some (.string S) := (by have := hown.cells (g := r) rfl _ _ hi2; rwa [add_plain, Nat.zero_add] at this)
             have s1 := hown.frozenAt (i * 3 + 2)
             have hwd1 : IntKind.i64.wrap (d : Int) = (d : Int) := IntWalk.i64_in _ (by omega)
             have hwu : IntKind.u8.wrap y = y := (by rw [IntKind.wrap_u8]; omega)
             have HO := Lib.hid hown; have HB2 := Lib.hid hb2
             clear hown2 hgrow2 hat2 hown hb2))
        go_region
        go_wp2
        go_ret2
        have hT : S.extract 0 d ++ strOfNums [y] ++ S.extract (d + 1) xs.length = strOfNums (xs.set d (fb x j)) := by
          rw [← HY.out, ← HST.out, hsz]
        have ho := ((HO.out.stored (i * 3 + 2) (.string (S.extract 0 d ++ strOfNums [y] ++ S.extract (d + 1) xs.length))).1.alloc (.cells #[.int .u8 y] 5)).drew
        rw [dcs_set l fr dst S _ i HI.out, hT] at ho
        obtain ⟨a', c', hv', hD⟩ := Ds.owned (l := l.set i (fr, dst, strOfNums (xs.set d (fb x j)))) (by rw [List.length_set]; exact ho)
        rw [List.length_set] at hv'
        rw [hT]
        refine ⟨⟨a', c', by rw [hv']; rfl, hD⟩, ?_⟩
        exact ((HB2.out.setCell (p := ⟨r, i * 3 + 2, none⟩) (HO.out.lt r rfl).1 _).trans ((below_alloc _ _).mono (by simp [World.setCell]; exact HB2.out.size))).trans ⟨rfl, rfl, rfl, Nat.le_refl _, fun _ _ => rfl⟩
end
end Go.Proofs.Ytmmjgpdclodlfaa
