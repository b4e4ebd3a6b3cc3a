/- CodeInts: numbers are written behind a list, and raw bytes are read as numbers or refused, as the document says. -/
import Derived.Test.YtbckccgcjmanlaaCRefG
namespace Go.Proofs.Ytbckccgcjmanlaa
open Go.RowKit

theorem IsB.bytes {w : World} {a : Option Addr} {n : Nat} {xs : List Int} (h : IsB w a n xs) : BytesAt w w.heap.size a n xs := by
  refine ⟨h.1, ?_⟩
  rcases h.2.2 with h0 | ⟨b, off, rfl, hc⟩
  · exact .inl h0
  · rcases Nat.eq_zero_or_pos n with h0 | h0
    · exact .inl h0
    · refine .inr ⟨b, off, rfl, World.block_lt_of_cell? w ⟨b, off + 0, none⟩ (hc 0 h0), fun i x hi => ?_⟩
      have hil : i < n := by have := (List.getElem?_eq_some_iff.1 hi).1; have := h.1; omega
      have e : xs.getD i 0 = x := by rw [List.getD_eq_getElem?_getD, hi]; rfl
      have := hc i hil
      rw [e] at this
      exact ⟨this, h.2.1 x (List.mem_of_getElem? hi)⟩
theorem getint_isb (a : Option Addr) (n c : Nat) (xs : List Int) (w : World) (h : IsB w a n xs) (hn : n ≤ 9223372036854775807) :
    Calls Try.prog 12 #[.slice a n c] w fun e w' => e = .returned (.tuple #[.int .i64 (Vi.get 0 0 xs).1, .int .i64 ((Vi.get 0 0 xs).2.1 : Nat), .int .i64 (Vi.get 0 0 xs).2.2]) ∧ w = w' :=
  (getint_any w.heap.size a n c xs w h.bytes hn).mono (by rintro e w' ⟨rfl, rfl⟩; exact ⟨rfl, rfl⟩)
theorem get_int {k : Int} (h1 : -9223372036854775808 ≤ k) (h2 : k ≤ 9223372036854775807) : Vi.get 0 0 (Vi.int k) = (k, (Vi.int k).length, 0) := by
  have hz := Vi.zig_lt k h1 h2
  have := Vi.get_vi (Vi.zig k) (Vi.zig k) 0 0 [] (Nat.le_refl _) (by omega) (by simpa using hz) (.inl rfl)
  simp only [Nat.zero_add, Nat.pow_zero, Nat.mul_one, Vi.unzig_zig, List.append_nil] at this
  exact this
theorem int_pos (k : Int) : 0 < (Vi.int k).length := by have := Vi.vi_pos (Vi.zig k); rw [Vi.int]; omega

/-- What is held of the world in the last region. -/
abbrev HeldI (w V : World) (g3 n g4 m c4 : Nat) (a : Option Addr) (c : Nat) (X xs : List Int) : Prop :=
  V.cell? ⟨g3, n, none⟩ = some (.int .u8 77) ∧ (convert 22 9 (.slice (some ⟨g4, 0, none⟩) m c4)).run Try.prog V = .ok (.string (strOfNums X)) V ∧ (convert 22 9 (.slice a n c)).run Try.prog V = .ok (.string (strOfNums xs)) V ∧
  Below w.heap.size w V ∧ IsB V (some ⟨g4, 0, none⟩) m X ∧ IsB V a n xs
theorem heldI_mk {w V : World} {g3 n g4 m c4 : Nat} {a : Option Addr} {c : Nat} {X xs : List Int} (h1 : V.cell? ⟨g3, n, none⟩ = some (.int .u8 77)) (h2 : Below w.heap.size w V) (h3 : IsB V (some ⟨g4, 0, none⟩) m X) (h4 : IsB V a n xs) : HeldI w V g3 n g4 m c4 a c X xs :=
  ⟨h1, h3.str c4, h4.str c, h2, h3, h4⟩
theorem heldI_keep {w V V' : World} {g3 n g4 m c4 : Nat} {a : Option Addr} {c : Nat} {X xs : List Int} (h : HeldI w V g3 n g4 m c4 a c X xs) (hb : Below V.heap.size V V') : HeldI w V' g3 n g4 m c4 a c X xs :=
  heldI_mk ((hb.cell (p := ⟨g3, n, none⟩) (World.block_lt_of_cell? V ⟨g3, n, none⟩ h.1)).trans h.1) (h.2.2.2.1.trans (hb.mono h.2.2.2.1.size)) (h.2.2.2.2.1.below hb) (h.2.2.2.2.2.below hb)

set_option maxRecDepth 100000 in
set_option maxHeartbeats 2000000 in
theorem ints_walk (a : Option Addr) (n c : Nat) (xs : List Int) (k : Int) (b : Option Addr) (m d : Nat) (ys : List Int) (w : World) (hx : IsB w a n xs) (hnil : a = none → n = 0 ∧ c = 0) (hnc : n ≤ c) (_ : c ≤ maxLen) (hc : c ≤ 140737488351232) (hk : -9223372036854775808 ≤ k ∧ k ≤ 9223372036854775807)
    (hy : IsB w b m ys) (_ : b = none → m = 0 ∧ d = 0) (hmd : m ≤ d) (_ : d ≤ maxLen) (hd : d ≤ 140737488351232) :
    Calls Try.prog 3 #[.slice a n c, .int .i64 k, .slice b m d] w fun e w' => e = .returned (.bool true) ∧ Below w.heap.size w w' := by
  obtain ⟨i0, hi, hz0, hz1, hz2⟩ := info_parts Try.infoB
  have hn : n ≤ 140737488351232 := by omega
  have hm : m ≤ 140737488351232 := by omega
  have hil := Vi.int_length k hk.1 hk.2
  have hip := int_pos k
  have HX := Lib.hid hx
  have HY := Lib.hid hy
  have HNIL := Lib.hid hnil
  have HLN := Lib.hid (show (xs.map (Value.int .u8)).length = n * 1 by simpa using hx.1)
  have hk1 := hk.1
  have hk2 := hk.2
  have hxl := hx.1
  have HXL := Lib.hid hxl
  clear hx hy hnil hk hxl
  go_enter Try.func3, Try.ntmps3
  go_wp2_with fail
  refine (awake_any _).mono ?_
  rintro e w1 ⟨rfl, hb1⟩
  have hsz1 := hb1.size
  have hx1 := (HX.out.below hb1).alloc (.cells #[] 5)
  have hmade := World.ownsRow_made (base := w.heap.size) (e := 5) (size := 1) w1 #[] 0 hsz1 (by simp [maxLen]) rfl
  have HB1 := Lib.hid hb1
  have HNW := Lib.hid hx1.news
  have HM := Lib.hid hmade
  clear hb1 hx1 hmade
  have hsh := fun (a' : Option Addr) (n' c' : Nat) (h : n ≤ c') w => slice_head a' n' c' n h w
  have HSH := Lib.hid hsh
  clear hsh
  go_wp2_with (first
    | (at_builtin; refine wpList_append_own_any _ rfl (.tmp 20) (.tmp 21) 22 rfl w.heap.size 5 i0 (.int .u8 0) 1 1 Try.underlying22 hi hz0 hz1 hz2 rfl (by decide) _ 0 [] rfl HM.out a n c (xs.map (Value.int .u8)) rfl HLN.out HNIL.out HNW.out (oneCell_map xs) (by unfold maxLen; omega) (by omega) (by simp; omega) ?_; intro v2 w2 hown2 hgrow2)
    | (at_builtin; refine wpList_append_own _ rfl (.tmp 22) (.tmp 23) 22 rfl w.heap.size 5 i0 (.int .u8 0) 1 1 Try.underlying22 hi hz0 hz1 hz2 rfl (by decide) _ (0 + n) _ rfl (hown2.alloc _) ⟨w2.heap.size, 0, none⟩ 1 1 [.int .u8 77] rfl rfl (cell_one_new _ _ _) (by intro u hu; simp at hu; subst hu; rfl) (by unfold maxLen; omega) (by omega) (by have := hgrow2.size; simp at this; simp; omega) ?_; intro v3 w3 hown3 hgrow3 _; obtain ⟨g3, c3, rfl, hc3, hm3⟩ := owns_shape hown3 (by omega); have hs3 := HSH.out (some ⟨g3, 0, none⟩) (0 + n + 1) c3 (by omega)))
  have hb2 : Below w.heap.size w w2 := (HB1.out.alloc hsz1 _).grown hgrow2 (by simp; omega) (fun k hk => (HM.out.lt k hk).1)
  have hb3 : Below w.heap.size w w3 := (hb2.alloc hb2.size _).grown hgrow3 (by have := hb2.size; simp; omega) (fun k hk => (hown2.lt k hk).1)
  have hx77 : [] ++ xs.map (Value.int .u8) ++ [Value.int .u8 77] = (xs ++ [77]).map (Value.int .u8) := by simp
  rw [hx77, Nat.zero_add] at hown3
  have hby : ∀ x ∈ xs ++ [77], 0 ≤ x ∧ x < 256 := by
    intro x hx
    rcases List.mem_append.1 hx with hx | hx
    · exact HX.out.2.1 x hx
    · obtain rfl : x = 77 := by simpa using hx
      decide
  have hi3 := IsB.owned hown3 hby
  have hi3n := hi3.head n (by omega)
  have htk : List.take n (xs ++ [(77 : Int)]) = xs := by rw [← HXL.out, List.take_left]
  rw [htk] at hi3n
  have h77 : w3.cell? ⟨g3, n, none⟩ = some (.int .u8 77) := by
    have := hown3.cells (g := g3) rfl n (.int .u8 77) (by rw [List.getElem?_map, List.getElem?_append_right (by rw [HXL.out]; exact Nat.le_refl _), HXL.out, Nat.sub_self]; rfl)
    rwa [add_plain, Nat.zero_add] at this
  have HI3 := Lib.hid hi3
  have H77 := Lib.hid h77
  have HB3 := Lib.hid hb3
  have HP := Lib.hid (putint_any (some ⟨g3, 0, none⟩) n c3 xs k w3 hi3n hk1 hk2 (by omega))
  have hc3n : n + 1 ≤ c3 := by omega
  clear hown2 hgrow2 hown3 hgrow3 hb2 hb3 hx77 hby hi3 hi3n h77 hs3 hc3 HSH HM HNW HB1 hsz1
  refine HP.out.mono ?_
  rintro e w4 ⟨v', rfl, hown, hb4⟩
  obtain ⟨L, hL⟩ : ∃ L, L = (Vi.int k).length := ⟨_, rfl⟩
  have HL := Lib.hid hL
  have hlen : (xs ++ Vi.int k).length = n + L := by rw [List.length_append, HXL.out, hL]
  rw [hlen] at hown
  rw [← hL] at hil hip
  obtain ⟨g4, c4, rfl, hc4, hm4⟩ := owns_shape hown (by omega)
  have hbyx : ∀ x ∈ xs ++ Vi.int k, 0 ≤ x ∧ x < 256 := byte_app HX.out.2.1 (Vi.int_byte k)
  have HI4 := Lib.hid (IsB.owned hown hbyx)
  have HB4 := Lib.hid (HB3.out.trans (hb4.mono HB3.out.size))
  have H77b := Lib.hid ((hb4.cell (p := ⟨g3, n, none⟩) (World.block_lt_of_cell? w3 ⟨g3, n, none⟩ H77.out)).trans H77.out)
  have HY4 := Lib.hid (HY.out.below HB4.out)
  have HX4 := Lib.hid (HX.out.below HB4.out)
  unfold maxLen at hm4 hm3
  clear hown hb4 hlen hbyx hL HP HB3 HI3 H77 HY HX
  go_wp2_with fail
  refine (getint_isb b m d ys w4 HY4.out (by omega)).mono ?_
  rintro e w5 ⟨rfl, rfl⟩
  have hcvb := HY4.out.str d
  have HRG := Lib.hid (refget_any ys w4 HY4.out.2.1 (by have := HY4.out.1; omega))
  generalize Vi.get 0 0 ys = G at *
  generalize strOfNums ys = SB at *
  go_wp2_with fail
  refine HRG.out.mono ?_
  rintro e w6 ⟨rfl, hb6⟩
  have hst : ∀ w, (Instr.slice 22 (.slice (some ⟨g4, 0, none⟩) (n + L) c4) (some (.int .i64 (n : Int))) none none).run Try.prog w = .ok (.slice (some ⟨g4, n, none⟩) L (c4 - n)) w := by
    intro w
    have := slice_tail (some ⟨g4, 0, none⟩) (n + L) c4 n (by omega) w
    rw [tailAt, if_neg (by omega), Option.map_some, add_plain, Nat.zero_add, show n + L - n = L by omega] at this
    exact this
  have HI6 := Lib.hid (HI4.out.below hb6)
  have HIT := Lib.hid (show IsB w6 (some ⟨g4, n, none⟩) L (Vi.int k) by
    have := (HI4.out.below hb6).tail c4 n (by omega) hc4
    rw [tailAt, if_neg (by omega), Option.map_some, add_plain, Nat.zero_add, show n + L - n = L by omega, ← HXL.out, List.drop_left] at this
    rw [← HXL.out]
    exact this)
  have HX6 := Lib.hid (HX4.out.below hb6)
  have HB6 := Lib.hid (HB4.out.trans (hb6.mono HB4.out.size))
  have H77c := Lib.hid ((hb6.cell (p := ⟨g3, n, none⟩) (World.block_lt_of_cell? w4 ⟨g3, n, none⟩ H77b.out)).trans H77b.out)
  clear hb6 hcvb HRG HI4 HY4 HX4 HB4 H77b
  have hGI := getint_isb (some ⟨g4, n, none⟩) L (c4 - n) (Vi.int k) w6 HIT.out (by omega)
  rw [get_int hk1 hk2] at hGI
  rw [← HL.out] at hGI
  have HGI := Lib.hid hGI
  clear hGI
  go_wp2_with fail
  refine HGI.out.mono ?_
  rintro e w7 ⟨rfl, rfl⟩
  go_wp2_with fail
  have HS0 := Lib.hid (heldI_mk (c4 := c4) (c := c) H77c.out HB6.out HI6.out HX6.out)
  have HSS := Lib.hid (show strOfNums (xs ++ Vi.int k) = strOfNums xs ++ strOfNums (Vi.int k) by rw [str_append])
  have HRI := Lib.hid (fun w => refint_any k w hk1 hk2)
  have hsx : (strOfNums xs).size ≤ 140737488351232 := by rw [strOfNums_size, HXL.out]; exact hn
  have hsi : (strOfNums (Vi.int k)).size ≤ 10 := by rw [strOfNums_size, ← HL.out]; exact hil
  have hcmp : ((strOfNums (xs ++ Vi.int k)).toList == (strOfNums xs ++ strOfNums (Vi.int k)).toList) = true := by rw [HSS.out]; simp
  have hs1 : ∀ w, (Instr.slice 22 (.slice (some ⟨g3, 0, none⟩) n c3) none (some (.int .i64 ((n : Int) + 1))) none).run Try.prog w = .ok (.slice (some ⟨g3, 0, none⟩) (n + 1) c3) w := by
    intro w
    have := slice_head (some ⟨g3, 0, none⟩) n c3 (n + 1) (by omega) w
    rwa [show ((n + 1 : Nat) : Int) = (n : Int) + 1 by omega] at this
  have hw1 : IntKind.i64.wrap ((n : Int) + 1) = (n : Int) + 1 := IntWalk.i64_in _ (by omega)
  have hw2 : IntKind.i64.wrap (((n + L : Nat) : Int) - (n : Int)) = (L : Int) := by rw [IntWalk.i64_in _ (by omega)]; omega
  have hw3 : IntKind.i64.wrap ((n : Int) + (L : Int) - (n : Int)) = (L : Int) := by rw [IntWalk.i64_in _ (by omega)]; omega
  have e1 : (G.1 == G.1) = true := by simp
  have e2 : (((G.2.1 : Nat) : Int) == ((G.2.1 : Nat) : Int)) = true := by simp
  have e3 : (G.2.2 == G.2.2) = true := by simp
  have e4 : (k == k) = true := by simp
  have e5 : ((L : Int) == (L : Int)) = true := by simp
  have hadd := fun w : World => run_string_add_sum (P := Try.prog) w (strOfNums xs) (strOfNums (Vi.int k)) (by omega)
  have hb0 : (0 : Int) ≤ (n : Int) := by omega
  have hb1 : (n : Int) < (n : Int) + 1 := by omega
  have hb2 : (n : Int) < ((n + 1 : Nat) : Int) := by omega
  clear HI6 HIT HX6 HB6 H77c HGI hst
  generalize strOfNums (Vi.int k) = SI at *
  go_region_held3 (fun V => HeldI w V g3 n g4 (n + L) c4 a c (xs ++ Vi.int k) xs) (first
      | exact heldI_keep HS0.out (below_drewN _ 1)
      | assumption
      | exact heldI_keep (by assumption) (by assumption)) (first
    | (go_at_call 14; (with_reducible refine (HRI.out _).mono ?_); rintro e w' ⟨rfl, hbn⟩))
  have HF := Lib.hid (show HeldI w w' g3 n g4 (n + L) c4 a c (xs ++ Vi.int k) xs by assumption)
  go_wp2
  go_ret
  exact ⟨rfl, HF.out.2.2.2.1⟩
end Go.Proofs.Ytbckccgcjmanlaa
