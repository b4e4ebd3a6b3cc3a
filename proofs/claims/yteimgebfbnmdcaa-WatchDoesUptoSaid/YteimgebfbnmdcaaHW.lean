/- The laws' awake, and how answers are handed on. -/
import Derived.Test.YteimgebfbnmdcaaHV
namespace Go.Proofs.Yteimgebfbnmdcaa
open Go.RowKit Go.Shelf
open Go.Maps (Keyed)

theorem stb_of_sorted {α : Type} {lt : α → α → Bool} {l : List α} (h : l.Pairwise fun a b => lt b a = false) : Stb lt l l := by
  refine ⟨l.zipIdx, List.Perm.refl _, ?_, by rw [List.zipIdx_map_fst]⟩
  rw [List.pairwise_iff_getElem]
  intro i j hi hj hij
  rw [tagL_iff, List.getElem_zipIdx, List.getElem_zipIdx]
  refine .inr ⟨?_, by simpa using hij⟩
  have hi2 : i < l.length := by simpa using hi
  have hj2 : j < l.length := by simpa using hj
  exact List.pairwise_iff_getElem.1 h i j hi2 hj2 hij
theorem OutE.lies {α : Type} {T : TypeId} {k : Nat} {enc : α → List Value} {w wr : World} {v : Value} {L : List α} (h : OutE T k enc w wr v L) : ∃ a c, v = .slice a L.length c ∧ Lies wr T k 0 a L.length c (L.flatMap enc) := by
  obtain ⟨a, c, e, h⟩ := Lies.owned h.row
  exact ⟨a, c, e, h.mono (Nat.zero_le _)⟩
theorem lies_one {α : Type} {enc : α → List Value} {T : TypeId} {k : Nat} (W : World) (x : α) (hk : (enc x).length = k) : Lies (W.alloc (.cells (enc x).toArray T)) T k 0 (some ⟨W.heap.size, 0, none⟩) 1 1 ([x].flatMap enc) := by
  have h := own_new W (enc x).toArray T k 1 0 (by simp [hk]) (Nat.zero_le _) (by decide)
  obtain ⟨a, c, e, hl⟩ := Lies.owned h
  injection e with e1 _ e2
  subst e1
  subst e2
  simpa using hl
def tV : Tp := ⟨⟨#[100, 111, 99, 58, 97]⟩, ⟨#[118, 105, 101, 119, 101, 114]⟩, ⟨#[117, 115, 101, 114, 58, 97, 110, 110]⟩⟩
def rV : Rw := ⟨tV, 3, 5⟩
theorem tV_fits : tV.fits := by unfold Tp.fits tV; refine ⟨?_, ?_, ?_⟩ <;> decide
set_option maxRecDepth 100000 in
set_option maxHeartbeats 4000000 in
theorem viewer_any (u : ByteArray) (w : World) : Calls Try.prog 25 #[.string u] w fun e w' => e = .returned (.agg #[.string ⟨#[100, 111, 99, 58, 97]⟩, .string ⟨#[118, 105, 101, 119, 101, 114]⟩, .string u]) ∧ Below w.heap.size w w' := by
  go_enter Try.func25, Try.ntmps25
  go_wp2
  have hW : Whole (w.alloc (.cells #[.string ⟨#[100, 111, 99, 58, 97]⟩, .string ⟨#[118, 105, 101, 119, 101, 114]⟩, .string u] 47)) w.heap.size 47 #[.string ⟨#[100, 111, 99, 58, 97]⟩, .string ⟨#[118, 105, 101, 119, 101, 114]⟩, .string u] := heap_alloc_new _ _
  exact bodyPost_ret (v := .agg #[.string ⟨#[100, 111, 99, 58, 97]⟩, .string ⟨#[118, 105, 101, 119, 101, 114]⟩, .string u]) (results_cell_row Try.results25 _ _ w.heap.size 47 _ (0, 0) _ rfl hW Try.underlying47 rfl (by kernel_rfl)) rfl ⟨rfl, below_alloc _ _⟩
def aV : List Ch := [⟨3, false, tV⟩, ⟨5, true, tV⟩]
theorem aV_eq : chF 0 9 [rV] = aV := by decide
theorem aV_stb {out : List Ch} (h : Stb clt (chF 0 9 [rV]) out) : out = aV := by
  rw [aV_eq] at h
  exact h.unique swoC (stb_of_sorted (by decide))
theorem atV {ts : List Tp} (h : Ord (fun t => ∃ r ∈ [rV], thB r 4 = true ∧ r.t = t) ts) : ts = [tV] := h.unique ⟨by decide, fun x => by
  simp only [List.mem_singleton]
  constructor
  · rintro rfl; exact ⟨rV, rfl, by decide, rfl⟩
  · rintro ⟨r, rfl, _, rfl⟩; rfl⟩
set_option maxRecDepth 100000 in
set_option maxHeartbeats 8000000 in
theorem awake_any (w : World) : Calls Try.prog 8 #[] w fun e w' => e = .returned (.bool true) ∧ Below w.heap.size w w' := by
  go_enter Try.func8, Try.ntmps8
  go_wp2_with fail
  refine (viewer_any _ w).mono ?_
  rintro _ w1 ⟨rfl, hb1⟩
  have HB1 := Lib.hid hb1
  clear hb1
  have hl1 := lies_one (T := 49) (enc := rw1) (k := 5) w1 rV rfl
  have HC := Lib.hid (changes_any hl1 rfl (by decide) 0 9)
  have HA := Lib.hid hl1
  have HB2 := Lib.hid (bell_alloc HB1.out (.cells (rw1 rV).toArray 49))
  obtain ⟨W2, hW2⟩ : ∃ W2, W2 = w1.alloc (.cells (rw1 rV).toArray 49) := ⟨_, rfl⟩
  rw [← hW2] at HC HA HB2
  unfold rw1 rV tV at hW2
  clear hl1
  go_upto_region 1 with fail
  rw [← hW2]
  clear hW2
  go_wp2_with fail
  refine HC.out.mono ?_
  rintro _ w3 ⟨_, out, rfl, hst, hO⟩
  obtain rfl := aV_stb hst
  obtain ⟨a3, c3, rfl, hL3⟩ := hO.lies
  obtain ⟨b3, o3, rfl, hb3, hc0⟩ := lies_cells chc_len (by decide) hL3 (show aV[0]? = some ⟨3, false, tV⟩ from rfl)
  obtain ⟨b3', o3', he, _, hc1⟩ := lies_cells chc_len (by decide) hL3 (show aV[1]? = some ⟨5, true, tV⟩ from rfl)
  injection he with he
  injection he with he1 he2 _
  subst he1
  subst he2
  have p0 : w3.cell? ⟨b3, o3, none⟩ = some (.int .i64 3) := by simpa using hc0 0 _ rfl
  have p1 : w3.cell? ⟨b3, o3 + 1, none⟩ = some (.bool false) := by simpa using hc0 1 _ rfl
  have p2 : w3.cell? ⟨b3, o3 + 5, none⟩ = some (.int .i64 5) := by simpa using hc1 0 _ rfl
  have p3 : w3.cell? ⟨b3, o3 + 5 + 1, none⟩ = some (.bool true) := by simpa using hc1 1 _ rfl
  have HB3 := Lib.hid (bell_up HB2.out hO.below)
  have HL3 := Lib.hid hL3
  have HA3 := Lib.hid (at_any (HA.out.below hO.below) rfl (fun r hr => by rw [List.mem_singleton.1 hr]; exact tV_fits) (by decide) 4)
  clear hc0 hc1 hL3 hO HC hst
  go_wp2_with fail
  refine HA3.out.mono ?_
  rintro _ w4 ⟨_, ts, rfl, hts, hown4, hb4⟩
  obtain rfl := atV hts
  obtain ⟨a4, c4, rfl, _, _⟩ := owned_anyE hown4
  have HB4 := Lib.hid (bell_up HB3.out hb4)
  have HL4 := Lib.hid (HL3.out.below hb4)
  have HR4 := Lib.hid (rows_ch_any HL4.out rfl (fun c hc => by simp [aV] at hc; rcases hc with rfl | rfl <;> exact tV_fits) (by decide))
  clear hts hown4 hb4 HL3 HA3
  go_wp2_with fail
  refine HR4.out.mono ?_
  rintro _ w5 ⟨_, out, rfl, hst, hO⟩
  obtain ⟨a5, c5, rfl, _⟩ := hO.lies
  have hlen5 : out.length = 1 := hst.length.trans (by decide)
  rw [hlen5]
  have HB5 := Lib.hid (bell_up HB4.out hO.below)
  have HK5 := Lib.hid (back_any (HL4.out.below hO.below) rfl (by decide))
  clear hst hO HR4 HL4
  go_wp2_with fail
  refine HK5.out.mono ?_
  rintro _ w6 ⟨_, rfl, hO⟩
  obtain ⟨a6, c6, rfl, _⟩ := hO.lies
  have hlen6 : (backL aV).length = 2 := rfl
  rw [hlen6]
  have HB6 := Lib.hid (bell_up HB5.out hO.below)
  clear hO HK5
  go_wp2
  go_ret
  exact ⟨rfl, HB6.out⟩
end Go.Proofs.Yteimgebfbnmdcaa
