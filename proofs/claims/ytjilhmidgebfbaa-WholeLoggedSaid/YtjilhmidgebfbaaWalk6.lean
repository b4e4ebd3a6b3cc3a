/- The walk of frame.Open. -/
import Derived.Test.YtjilhmidgebfbaaWalk5
import Derived.RegionTactic
import Derived.ChangeAlike
import Derived.Deep.RegionWith
import Derived.BigQuiet
namespace Go.Proofs.Ytjilhmidgebfbaa.Fr
open Go.RowKit

theorem IsB.sub {w : World} {b off n : Nat} {xs : List Int} (h : IsB w (some ⟨b, off, none⟩) n xs) (i k : Nat) (hik : i + k ≤ n) : IsB w (some ⟨b, off + i, none⟩) k ((xs.drop i).take k) := by
  obtain ⟨h1, h2, h3⟩ := h
  refine ⟨by simp; omega, fun x hx => h2 x (List.mem_of_mem_drop (List.mem_of_mem_take hx)), ?_⟩
  rcases h3 with h3 | ⟨b', off', he, hc⟩
  · exact .inl (by omega)
  · injection he with he
    injection he with e1 e2 e3
    subst e1 e2
    refine .inr ⟨b, off + i, rfl, fun j hj => ?_⟩
    rw [Nat.add_assoc, hc (i + j) (by omega)]
    have hl : i + j < xs.length := by omega
    simp [List.getD, hj]
theorem IsB.empty (w : World) (a : Option Addr) : IsB w a 0 [] := ⟨rfl, by simp, .inl rfl⟩

/-- The payload with which these bytes begin, if they begin with a frame. -/
def pay (xs : List Int) : List Int := (xs.drop 8).take (wd xs 4)
/-- What is wrong with the first frame of these bytes. -/
def err (xs : List Int) : Nat :=
  if xs.length < 8 then 10 else if 16384 < wd xs 4 then 2 else if xs.length < 8 + wd xs 4 then 10 else if Mt.sum ((xs.drop 0).take 4 ++ pay xs) = wd (xs.drop 4) 4 then 0 else 11

set_option maxRecDepth 100000 in
set_option maxHeartbeats 1000000 in
theorem open_short (a : Option Addr) (n c : Nat) (w : World) (hn : n < 8) :
    Calls Try.prog 44 #[.slice a n c] w fun e w' => e = .returned (.tuple #[.slice none 0 0, .int .i64 0, .int .i64 10]) ∧ w = w' := by
  go_enter Try.func44, Try.ntmps44
  go_wp2
  go_ret3
  exact ⟨rfl, rfl⟩

set_option maxRecDepth 100000 in
set_option maxHeartbeats 1000000 in
theorem open_long (b off n c : Nat) (xs : List Int) (w : World) (hn : 8 ≤ n) (hmx : n ≤ maxLen) (hxs : IsB w (some ⟨b, off, none⟩) n xs) (hlong : 16384 < wd xs 4) :
    Calls Try.prog 44 #[.slice (some ⟨b, off, none⟩) n c] w fun e w' => e = .returned (.tuple #[.slice none 0 0, .int .i64 0, .int .i64 2]) ∧ w = w' := by
  have hlen := hxs.1
  have hw := word_any b off n c xs w (by omega) hmx hxs
  have HW := Lib.hid hw
  unfold maxLen at hmx
  generalize wd xs 4 = t at *
  clear hw hlen hxs
  go_enter Try.func44, Try.ntmps44
  go_wp2_with (go_at_call 61; refine HW.out.mono ?_; rintro e w' ⟨rfl, rfl⟩)
  go_ret3
  exact ⟨rfl, rfl⟩

set_option maxRecDepth 100000 in
set_option maxHeartbeats 1000000 in
theorem open_short2 (b off n c : Nat) (xs : List Int) (w : World) (hn : 8 ≤ n) (hmx : n ≤ maxLen) (hxs : IsB w (some ⟨b, off, none⟩) n xs) (hlong : wd xs 4 ≤ 16384) (hs : n < 8 + wd xs 4) :
    Calls Try.prog 44 #[.slice (some ⟨b, off, none⟩) n c] w fun e w' => e = .returned (.tuple #[.slice none 0 0, .int .i64 0, .int .i64 10]) ∧ w = w' := by
  have hw := word_any b off n c xs w (by omega) hmx hxs
  have HW := Lib.hid hw
  unfold maxLen at hmx
  generalize wd xs 4 = t at *
  clear hw hxs
  go_enter Try.func44, Try.ntmps44
  go_wp2_with (go_at_call 61; refine HW.out.mono ?_; rintro e w' ⟨rfl, rfl⟩)
  go_ret3
  exact ⟨rfl, rfl⟩

theorem Parts.two {w : World} {v1 v2 : Value} {x1 x2 : List Int} (h1 : IsV w v1 x1) (h2 : IsV w v2 x2) : Parts (w.alloc (.cells #[v1, v2] 41)) w.heap.size 2 [x1, x2] :=
  Parts.lit [v1, v2] [x1, x2] 41 rfl (by simp [maxLen]) (by
    intro i hi
    match i, hi with
    | 0, _ => exact h1
    | 1, _ => exact h2)

/-- What a call of Open comes to. -/
def OpenPost (w : World) (xs : List Int) (e : Ending) (w' : World) : Prop :=
  Below w.heap.size w w' ∧
  ((err xs = 0 ∧ ∃ v, e = .returned (.tuple #[v, .int .i64 ((8 + wd xs 4 : Nat)), .int .i64 0]) ∧ w'.ownsRow w.heap.size 5 1 v (wd xs 4) ((pay xs).map (Value.int .u8))) ∨
   (err xs ≠ 0 ∧ e = .returned (.tuple #[.slice none 0 0, .int .i64 0, .int .i64 (err xs : Nat)])))
theorem OpenPost.bad {w w' : World} {xs : List Int} {e : Ending} {k : Nat} (hb : Below w.heap.size w w') (h : err xs = k) (hk : k ≠ 0) (he : e = .returned (.tuple #[.slice none 0 0, .int .i64 0, .int .i64 (k : Nat)])) : OpenPost w xs e w' :=
  ⟨hb, .inr ⟨by omega, by rw [he, h]⟩⟩

set_option maxRecDepth 100000 in
set_option maxHeartbeats 4000000 in
theorem open_full (b off n c : Nat) (xs : List Int) (w : World) (hn : 8 ≤ n) (hmx : n ≤ maxLen) (hnc : n ≤ c) (hc8 : 8 < c) (hcm : c ≤ maxLen) (hxs : IsB w (some ⟨b, off, none⟩) n xs) (hlong : wd xs 4 ≤ 16384) (hs : 8 + wd xs 4 ≤ n) :
    Calls Try.prog 44 #[.slice (some ⟨b, off, none⟩) n c] w (OpenPost w xs) := by
  obtain ⟨i0, hi, hz0, hz1, hz2⟩ := info_parts Try.infoB
  have hw := word_any b off n c xs w (by omega) hmx hxs
  have HW := Lib.hid hw
  have hpb := hxs.sub 8 (wd xs 4) (by omega)
  have h1 : IsV w (.slice (some ⟨b, off, none⟩) 4 c) ((xs.drop 0).take 4) := ⟨_, _, _, rfl, by unfold maxLen; omega, hxs.sub 0 4 (by omega)⟩
  have h2 : IsV w (.slice (some ⟨b, off + 8, none⟩) (wd xs 4) (c - 8)) (pay xs) := ⟨_, _, _, rfl, by unfold maxLen; omega, hpb⟩
  have h3 : IsB w (some ⟨b, off + 4, none⟩) (n - 4) (xs.drop 4) := by
    have := hxs.sub 4 (n - 4) (by omega)
    rwa [List.take_of_length_le (by simp; have := hxs.1; omega)] at this
  have hps : Parts (w.alloc (.cells #[.slice (some ⟨b, off, none⟩) 4 c, .slice (some ⟨b, off + 8, none⟩) (wd xs 4) (c - 8)] 41)).drew w.heap.size 2 [(xs.drop 0).take 4, pay xs] := Parts.two h1 h2
  have HP := Lib.hid hps
  have h4 : IsB (w.alloc (.cells #[.slice (some ⟨b, off, none⟩) 4 c, .slice (some ⟨b, off + 8, none⟩) (wd xs 4) (c - 8)] 41)).drew (some ⟨b, off + 4, none⟩) (n - 4) (xs.drop 4) := h3.alloc _
  have h5 : IsB (w.alloc (.cells #[.slice (some ⟨b, off, none⟩) 4 c, .slice (some ⟨b, off + 8, none⟩) (wd xs 4) (c - 8)] 41)).drew (some ⟨b, off + 8, none⟩) (wd xs 4) (pay xs) := hpb.alloc _
  have h6 : Below w.heap.size w (w.alloc (.cells #[.slice (some ⟨b, off, none⟩) 4 c, .slice (some ⟨b, off + 8, none⟩) (wd xs 4) (c - 8)] 41)).drew := ((Below.refl _ _).alloc (Nat.le_refl _) _).drew
  have hp : ((pay xs).map (Value.int .u8)).length = wd xs 4 * 1 := by simp [pay]; have := hxs.1; omega
  have he0 : Mt.sum ((xs.drop 0).take 4 ++ pay xs) = wd (xs.drop 4) 4 → err xs = 0 := by
    intro h
    have := hxs.1
    simp only [err]
    rw [if_neg (by omega), if_neg (by omega), if_neg (by omega), if_pos h]
  have he1 : ¬ Mt.sum ((xs.drop 0).take 4 ++ pay xs) = wd (xs.drop 4) 4 → err xs = 11 := by
    intro h
    have := hxs.1
    simp only [err]
    rw [if_neg (by omega), if_neg (by omega), if_neg (by omega), if_neg h]
  have HE0 := Lib.hid he0
  have HE1 := Lib.hid he1
  have H3 := Lib.hid (show IsB w.drew _ _ _ from h3)
  have H4 := Lib.hid h4
  have H5 := Lib.hid h5.news
  have H6 := Lib.hid h6
  have HL := Lib.hid hp
  unfold maxLen at hmx hcm
  generalize ht : wd xs 4 = t at *
  have HT := Lib.hid ht
  clear hw hxs h1 h2 h3 h4 h5 h6 hp hps ht he0 he1 hpb
  go_enter Try.func44, Try.ntmps44
  go_wp2_with (go_at_call 61; refine HW.out.mono ?_; rintro e w' ⟨rfl, rfl⟩)
  go_region_with (first
    | (go_at_call 48; refine (sum_any _ _ _ _ _ HP.out).mono ?_; rintro e w' ⟨rfl, rfl⟩)
    | (go_at_call 61; refine (word_any _ _ _ _ _ _ (by omega) (by unfold maxLen; omega) H4.out).mono ?_; rintro e w' ⟨rfl, rfl⟩)
    | (go_at_call 61; refine (word_any _ _ _ _ _ _ (by omega) (by unfold maxLen; omega) H3.out).mono ?_; rintro e w' ⟨rfl, rfl⟩))
  all_goals
    by_cases hq : Mt.sum (xs.take 4 ++ pay xs) = wd (xs.drop 4) 4
    · have hq' : (((Mt.sum (xs.take 4 ++ pay xs) : Nat) : Int) != ((wd (xs.drop 4) 4 : Nat) : Int)) = false := by simp [hq]
      have HQ := Lib.hid hq
      clear hq
      go_wp2_with (at_builtin; refine wpList_append_own _ rfl _ _ 41 rfl w.heap.size 5 i0 (.int .u8 0) 1 1 Try.underlying41 hi hz0 hz1 hz2 rfl (by decide) _ 0 [] rfl (World.ownsRow_nil _ _ _ _) ⟨b, off + 8, none⟩ t (c - 8) ((pay xs).map (Value.int .u8)) rfl HL.out (H5.out _ rfl) (oneCell_map _) (by unfold maxLen; omega) (by omega) H6.out.size ?_; intro v1 w1 hown1 hgrow1 _)
      have HB := Lib.hid (H6.out.grown hgrow1 H6.out.size (by intro k hk; cases hk))
      have HO := Lib.hid hown1
      clear hown1 hgrow1
      go_wp2
      go_ret3
      exact ⟨HB.out, .inl ⟨HE0.out HQ.out, v1, by rw [HT.out]; go_num, by rw [HT.out]; simpa using HO.out⟩⟩
    · have hq' : (((Mt.sum (xs.take 4 ++ pay xs) : Nat) : Int) != ((wd (xs.drop 4) 4 : Nat) : Int)) = true := by simp; omega
      have HQ := Lib.hid hq
      clear hq
      go_wp2
      go_ret3
      exact OpenPost.bad H6.out (HE1.out HQ.out) (by decide) rfl

set_option maxRecDepth 100000 in
set_option maxHeartbeats 4000000 in
theorem open_eight (b off : Nat) (xs : List Int) (w : World) (hxs : IsB w (some ⟨b, off, none⟩) 8 xs) (h0 : wd xs 4 = 0) :
    Calls Try.prog 44 #[.slice (some ⟨b, off, none⟩) 8 8] w (OpenPost w xs) := by
  obtain ⟨i0, hi, hz0, hz1, hz2⟩ := info_parts Try.infoB
  have hw := word_any b off 8 8 xs w (by omega) (by simp [maxLen]) hxs
  have HW := Lib.hid hw
  have hpe : pay xs = [] := by simp [pay, h0]
  have hpb : IsB w (some ⟨b, off, none⟩) 0 (pay xs) := by rw [hpe]; exact IsB.empty _ _
  have h1 : IsV w (.slice (some ⟨b, off, none⟩) 4 8) ((xs.drop 0).take 4) := ⟨_, _, _, rfl, by unfold maxLen; omega, hxs.sub 0 4 (by omega)⟩
  have h2 : IsV w (.slice (some ⟨b, off, none⟩) 0 0) (pay xs) := ⟨_, _, _, rfl, by unfold maxLen; omega, hpb⟩
  have h3 : IsB w (some ⟨b, off + 4, none⟩) 4 (xs.drop 4) := by
    have := hxs.sub 4 4 (by omega)
    rwa [List.take_of_length_le (by simp; have := hxs.1; omega)] at this
  have hps : Parts (w.alloc (.cells #[.slice (some ⟨b, off, none⟩) 4 8, .slice (some ⟨b, off, none⟩) 0 0] 41)).drew w.heap.size 2 [(xs.drop 0).take 4, pay xs] := Parts.two h1 h2
  have HP := Lib.hid hps
  have h4 : IsB (w.alloc (.cells #[.slice (some ⟨b, off, none⟩) 4 8, .slice (some ⟨b, off, none⟩) 0 0] 41)).drew (some ⟨b, off + 4, none⟩) 4 (xs.drop 4) := h3.alloc _
  have h5 : IsB (w.alloc (.cells #[.slice (some ⟨b, off, none⟩) 4 8, .slice (some ⟨b, off, none⟩) 0 0] 41)).drew (some ⟨b, off, none⟩) 0 (pay xs) := hpb.alloc _
  have h6 : Below w.heap.size w (w.alloc (.cells #[.slice (some ⟨b, off, none⟩) 4 8, .slice (some ⟨b, off, none⟩) 0 0] 41)).drew := ((Below.refl _ _).alloc (Nat.le_refl _) _).drew
  have hp : ((pay xs).map (Value.int .u8)).length = 0 * 1 := by simp [hpe]
  have he0 : Mt.sum ((xs.drop 0).take 4 ++ pay xs) = wd (xs.drop 4) 4 → err xs = 0 := by
    intro h
    have := hxs.1
    simp only [err]
    rw [if_neg (by omega), if_neg (by omega), if_neg (by omega), if_pos h]
  have he1 : ¬ Mt.sum ((xs.drop 0).take 4 ++ pay xs) = wd (xs.drop 4) 4 → err xs = 11 := by
    intro h
    have := hxs.1
    simp only [err]
    rw [if_neg (by omega), if_neg (by omega), if_neg (by omega), if_neg h]
  have HE0 := Lib.hid he0
  have HE1 := Lib.hid he1
  have H3 := Lib.hid (show IsB w.drew _ _ _ from h3)
  have H4 := Lib.hid h4
  have H5 := Lib.hid h5.news
  have H6 := Lib.hid h6
  have HL := Lib.hid hp
  have HT := Lib.hid h0
  rw [h0] at HW
  clear hw hxs h1 h2 h3 h4 h5 h6 hp hps h0 he0 he1 hpb hpe
  go_enter Try.func44, Try.ntmps44
  go_wp2_with (go_at_call 61; refine HW.out.mono ?_; rintro e w' ⟨rfl, rfl⟩)
  go_region_with (first
    | (go_at_call 48; refine (sum_any _ _ _ _ _ HP.out).mono ?_; rintro e w' ⟨rfl, rfl⟩)
    | (go_at_call 61; refine (word_any _ _ _ _ _ _ (by omega) (by unfold maxLen; omega) H4.out).mono ?_; rintro e w' ⟨rfl, rfl⟩)
    | (go_at_call 61; refine (word_any _ _ _ _ _ _ (by omega) (by unfold maxLen; omega) H3.out).mono ?_; rintro e w' ⟨rfl, rfl⟩))
  all_goals
    by_cases hq : Mt.sum (xs.take 4 ++ pay xs) = wd (xs.drop 4) 4
    · have hq' : (((Mt.sum (xs.take 4 ++ pay xs) : Nat) : Int) != ((wd (xs.drop 4) 4 : Nat) : Int)) = false := by simp [hq]
      have HQ := Lib.hid hq
      clear hq
      go_wp2_with (at_builtin; refine wpList_append_own _ rfl _ _ 41 rfl w.heap.size 5 i0 (.int .u8 0) 1 1 Try.underlying41 hi hz0 hz1 hz2 rfl (by decide) _ 0 [] rfl (World.ownsRow_nil _ _ _ _) ⟨b, off, none⟩ 0 0 ((pay xs).map (Value.int .u8)) rfl HL.out (H5.out _ rfl) (oneCell_map _) (by unfold maxLen; omega) (by omega) H6.out.size ?_; intro v1 w1 hown1 hgrow1 _)
      have HB := Lib.hid (H6.out.grown hgrow1 H6.out.size (by intro k hk; cases hk))
      have HO := Lib.hid hown1
      clear hown1 hgrow1
      go_wp2
      go_ret3
      exact ⟨HB.out, .inl ⟨HE0.out HQ.out, v1, by rw [HT.out]; go_num, by rw [HT.out]; simpa using HO.out⟩⟩
    · have hq' : (((Mt.sum (xs.take 4 ++ pay xs) : Nat) : Int) != ((wd (xs.drop 4) 4 : Nat) : Int)) = true := by simp; omega
      have HQ := Lib.hid hq
      clear hq
      go_wp2
      go_ret3
      exact OpenPost.bad H6.out (HE1.out HQ.out) (by decide) rfl

set_option maxRecDepth 100000 in
theorem open_any (a : Option Addr) (n c : Nat) (xs : List Int) (w : World) (hmx : n ≤ maxLen) (hnc : n ≤ c) (hcm : c ≤ maxLen) (hxs : IsB w a n xs) :
    Calls Try.prog 44 #[.slice a n c] w (OpenPost w xs) := by
  have hl := hxs.1
  by_cases h8 : n < 8
  · refine (open_short a n c w h8).mono ?_
    rintro e w' ⟨rfl, rfl⟩
    exact OpenPost.bad (Below.refl _ _) (k := 10) (by simp only [err]; rw [if_pos (by omega)]) (by decide) rfl
  · obtain ⟨b, off, rfl, _⟩ := hxs.2.2.resolve_left (by omega)
    by_cases h1 : 16384 < wd xs 4
    · refine (open_long b off n c xs w (by omega) hmx hxs h1).mono ?_
      rintro e w' ⟨rfl, rfl⟩
      exact OpenPost.bad (Below.refl _ _) (k := 2) (by simp only [err]; rw [if_neg (by omega), if_pos h1]) (by decide) rfl
    · by_cases h2 : n < 8 + wd xs 4
      · refine (open_short2 b off n c xs w (by omega) hmx hxs (by omega) h2).mono ?_
        rintro e w' ⟨rfl, rfl⟩
        exact OpenPost.bad (Below.refl _ _) (k := 10) (by simp only [err]; rw [if_neg (by omega), if_neg h1, if_pos (by omega)]) (by decide) rfl
      · by_cases h3 : c = 8
        · obtain rfl : n = 8 := by omega
          subst h3
          exact open_eight b off xs w hxs (by omega)
        · exact open_full b off n c xs w (by omega) hmx hnc (by omega) hcm hxs (by omega) (by omega)
end Go.Proofs.Ytjilhmidgebfbaa.Fr
