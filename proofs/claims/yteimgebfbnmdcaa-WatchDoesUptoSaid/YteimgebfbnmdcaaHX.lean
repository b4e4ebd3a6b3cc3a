/- WatchEmpty. -/
import Derived.Test.YteimgebfbnmdcaaHW
namespace Go.Proofs.Yteimgebfbnmdcaa
open Go.RowKit Go.Shelf
open Go.Maps (Keyed)

/-- What came in. -/
structure InL {α : Type} (T : TypeId) (k : Nat) (enc : α → List Value) (tp : α → Tp) (w : World) (a : Option Addr) (n c : Nat) (l : List α) : Prop where
  lies : Lies w T k 0 a n c (l.flatMap enc)
  len : l.length = n
  fits : ∀ x ∈ l, (tp x).fits
theorem InL.below {α : Type} {T : TypeId} {k : Nat} {enc : α → List Value} {tp : α → Tp} {w w' : World} {a : Option Addr} {n c : Nat} {l : List α} (h : InL T k enc tp w a n c l) (hb : Below w.heap.size w w') : InL T k enc tp w' a n c l := ⟨h.lies.below hb, h.len, h.fits⟩
theorem InL.own {α : Type} {T : TypeId} {k : Nat} {enc : α → List Value} {tp : α → Tp} {w : World} {B : Nat} {v : Value} {l : List α} (h : w.ownsRow B T k v l.length (l.flatMap enc)) (hf : ∀ x ∈ l, (tp x).fits) : ∃ a c, v = .slice a l.length c ∧ InL T k enc tp w a l.length c l := by
  obtain ⟨a, c, e, h⟩ := Lies.owned h
  exact ⟨a, c, e, h.mono (Nat.zero_le _), rfl, hf⟩
theorem InL.none {α : Type} (T : TypeId) (k : Nat) (enc : α → List Value) (tp : α → Tp) (w : World) : InL T k enc tp w .none 0 0 [] := ⟨Lies.none w T k 0, rfl, fun _ h => by cases h⟩
theorem chF_none {f t : Int} (h : t ≤ f) (l : List Rw) : chF f t l = [] := by
  unfold chF
  rw [List.filter_eq_nil_iff]
  intro c _
  unfold inB
  simp
  omega
theorem Ord.len_le {p : Tp → Prop} {ts l : List Tp} (h : Ord p ts) (hl : ∀ t, p t → t ∈ l) : ts.length ≤ l.length := nd_len h.nd (fun t ht => hl t ((h.mem t).1 ht))
theorem net_same {A : List Tp} {ms : List Mu} (h : NetO A A ms) : ms = [] := by
  rw [List.eq_nil_iff_forall_not_mem]
  intro m hm
  rcases (h.mem m).1 hm with ⟨_, h1, h2⟩ | ⟨_, h1, h2⟩ <;> exact h2 h1
set_option maxRecDepth 100000 in
set_option maxHeartbeats 8000000 in
theorem empty_walk (a : Option Addr) (n c : Nat) (x y : Int) (w : World) (hl : ∃ l, InL 49 5 rw1 Rw.t w a n c l) (hn : n ≤ 1048576) :
    Calls Try.prog 7 #[.slice a n c, .int .i64 x, .int .i64 y] w fun e w' => e = .returned (.bool true) ∧ Below w.heap.size w w' := by
  obtain ⟨l, hl⟩ := hl
  have HI := Lib.hid hl
  clear hl
  go_enter Try.func7, Try.ntmps7
  go_wp2_with fail
  refine (awake_any w).mono ?_
  rintro _ w1 ⟨rfl, hb1⟩
  have HB1 := Lib.hid hb1
  have HI1 := Lib.hid (HI.out.below hb1)
  clear hb1
  have HC1 := Lib.hid (changes_any HI1.out.lies HI1.out.len (by omega) x x)
  go_wp2_with fail
  refine HC1.out.mono ?_
  rintro _ w2 ⟨_, out, rfl, hst, hO⟩
  rw [chF_none (Int.le_refl _)] at hst
  obtain rfl := hst.unique swoC Stb.nil
  obtain ⟨a2, c2, rfl, _⟩ := hO.lies
  rw [show ([] : List Ch).length = 0 from rfl]
  have HB2 := Lib.hid (bell_up HB1.out hO.below)
  have HI2 := Lib.hid (HI1.out.below hO.below)
  clear hst hO HC1 HI1
  by_cases hxy : x ≥ y
  · have HC2 := Lib.hid (changes_any HI2.out.lies HI2.out.len (by omega) x y)
    go_wp2_with fail
    refine HC2.out.mono ?_
    rintro _ w3 ⟨_, out, rfl, hst, hO⟩
    rw [chF_none hxy] at hst
    obtain rfl := hst.unique swoC Stb.nil
    obtain ⟨a3, c3, rfl, _⟩ := hO.lies
    rw [show ([] : List Ch).length = 0 from rfl]
    have HB3 := Lib.hid (bell_up HB2.out hO.below)
    have HI3 := Lib.hid (HI2.out.below hO.below)
    clear hst hO HC2 HI2
    have HA := Lib.hid (at_any HI3.out.lies HI3.out.len (fun r hr => HI3.out.fits r hr) (by omega) x)
    go_wp2_with fail
    refine HA.out.mono ?_
    rintro _ w4 ⟨_, ts, rfl, hts, hown, hb4⟩
    have hlen : ts.length ≤ 1048576 := by
      have h1 := hts.len_le (l := l.map Rw.t) (fun t ⟨r, hr, _, e⟩ => List.mem_map.2 ⟨r, hr, e⟩)
      rw [List.length_map, HI3.out.len] at h1
      omega
    have hfit : ∀ t ∈ ts, t.fits := fun t ht => by
      obtain ⟨r, hr, _, rfl⟩ := (hts.mem t).1 ht
      exact HI3.out.fits r hr
    obtain ⟨a4, c4, rfl, hI⟩ := InL.own (tp := fun t => t) hown hfit
    have HB4 := Lib.hid (bell_up HB3.out hb4)
    have HT4 := Lib.hid hI
    have HTS := Lib.hid hts
    have HLE := Lib.hid hlen
    have HP := Lib.hid (play_any HT4.out.lies HT4.out.len HT4.out.fits HLE.out (l := []) (Lies.none w4 53 5 0) rfl (fun _ h => by cases h) (by decide))
    clear hown hfit hI hb4 hts hlen HA HI3
    go_wp2_with fail
    refine HP.out.mono ?_
    rintro _ w5 ⟨_, ts5, rfl, hts5, hown5, hb5⟩
    obtain rfl : ts5 = ts := hts5.unique ⟨HTS.out.asc, fun t => by rw [show playS (ts.foldl addS []) [] = ts.foldl addS [] from rfl, mem_adds]; simp⟩
    obtain ⟨a5, c5, rfl, hI5⟩ := InL.own (tp := fun t => t) hown5 HT4.out.fits
    have HB5 := Lib.hid (bell_up HB4.out hb5)
    have HT5 := Lib.hid (HT4.out.below hb5)
    have HE := Lib.hid (tuples_eq hI5.lies HT5.out.lies rfl (by have := HLE.out; omega))
    clear hts5 hown5 hI5 hb5 HP HT4
    go_wp2_with fail
    refine HE.out.mono ?_
    rintro _ w6 ⟨rfl, hb6⟩
    have HB6 := Lib.hid (bell_up HB5.out hb6)
    have HT6 := Lib.hid (HT5.out.below hb6)
    have HN := Lib.hid (net_any HT6.out.lies HT6.out.len HT6.out.fits (by have := HLE.out; omega) HT6.out.lies HT6.out.len HT6.out.fits HLE.out HLE.out)
    clear hb6 HE HT5
    go_wp2_with fail
    refine HN.out.mono ?_
    rintro _ w7 ⟨_, ms, rfl, hms, hO7⟩
    obtain rfl := net_same hms
    obtain ⟨a7, c7, rfl, _⟩ := hO7.lies
    rw [show ([] : List Mu).length = 0 from rfl]
    have HB7 := Lib.hid (bell_up HB6.out hO7.below)
    have HK := Lib.hid (back_any (l := []) (Lies.none w7 53 5 0) rfl (by decide))
    clear hms hO7 HN HT6
    go_wp2_with fail
    refine HK.out.mono ?_
    rintro _ w8 ⟨_, rfl, hO8⟩
    obtain ⟨a8, c8, rfl, _⟩ := hO8.lies
    rw [show (backL []).length = 0 from rfl]
    have HB8 := Lib.hid (bell_up HB7.out hO8.below)
    have HR := Lib.hid (rows_ch_any (l := []) (Lies.none w8 53 5 0) rfl (fun _ h => by cases h) (by decide))
    clear hO8 HK
    go_wp2_with fail
    refine HR.out.mono ?_
    rintro _ w9 ⟨_, out9, rfl, hst9, hO9⟩
    obtain ⟨a9, c9, rfl, _⟩ := hO9.lies
    rw [show out9.length = 0 from hst9.length]
    have HB9 := Lib.hid (bell_up HB8.out hO9.below)
    clear hst9 hO9 HR
    go_wp2
    go_ret
    exact ⟨rfl, HB9.out⟩
  · have HA := Lib.hid (at_any HI2.out.lies HI2.out.len (fun r hr => HI2.out.fits r hr) (by omega) x)
    go_wp2_with fail
    refine HA.out.mono ?_
    rintro _ w4 ⟨_, ts, rfl, hts, hown, hb4⟩
    have hlen : ts.length ≤ 1048576 := by
      have h1 := hts.len_le (l := l.map Rw.t) (fun t ⟨r, hr, _, e⟩ => List.mem_map.2 ⟨r, hr, e⟩)
      rw [List.length_map, HI2.out.len] at h1
      omega
    have hfit : ∀ t ∈ ts, t.fits := fun t ht => by
      obtain ⟨r, hr, _, rfl⟩ := (hts.mem t).1 ht
      exact HI2.out.fits r hr
    obtain ⟨a4, c4, rfl, hI⟩ := InL.own (tp := fun t => t) hown hfit
    have HB4 := Lib.hid (bell_up HB2.out hb4)
    have HT4 := Lib.hid hI
    have HTS := Lib.hid hts
    have HLE := Lib.hid hlen
    have HP := Lib.hid (play_any HT4.out.lies HT4.out.len HT4.out.fits HLE.out (l := []) (Lies.none w4 53 5 0) rfl (fun _ h => by cases h) (by decide))
    clear hown hfit hI hb4 hts hlen HA HI2
    go_wp2_with fail
    refine HP.out.mono ?_
    rintro _ w5 ⟨_, ts5, rfl, hts5, hown5, hb5⟩
    obtain rfl : ts5 = ts := hts5.unique ⟨HTS.out.asc, fun t => by rw [show playS (ts.foldl addS []) [] = ts.foldl addS [] from rfl, mem_adds]; simp⟩
    obtain ⟨a5, c5, rfl, hI5⟩ := InL.own (tp := fun t => t) hown5 HT4.out.fits
    have HB5 := Lib.hid (bell_up HB4.out hb5)
    have HT5 := Lib.hid (HT4.out.below hb5)
    have HE := Lib.hid (tuples_eq hI5.lies HT5.out.lies rfl (by have := HLE.out; omega))
    clear hts5 hown5 hI5 hb5 HP HT4
    go_wp2_with fail
    refine HE.out.mono ?_
    rintro _ w6 ⟨rfl, hb6⟩
    have HB6 := Lib.hid (bell_up HB5.out hb6)
    have HT6 := Lib.hid (HT5.out.below hb6)
    have HN := Lib.hid (net_any HT6.out.lies HT6.out.len HT6.out.fits (by have := HLE.out; omega) HT6.out.lies HT6.out.len HT6.out.fits HLE.out HLE.out)
    clear hb6 HE HT5
    go_wp2_with fail
    refine HN.out.mono ?_
    rintro _ w7 ⟨_, ms, rfl, hms, hO7⟩
    obtain rfl := net_same hms
    obtain ⟨a7, c7, rfl, _⟩ := hO7.lies
    rw [show ([] : List Mu).length = 0 from rfl]
    have HB7 := Lib.hid (bell_up HB6.out hO7.below)
    have HK := Lib.hid (back_any (l := []) (Lies.none w7 53 5 0) rfl (by decide))
    clear hms hO7 HN HT6
    go_wp2_with fail
    refine HK.out.mono ?_
    rintro _ w8 ⟨_, rfl, hO8⟩
    obtain ⟨a8, c8, rfl, _⟩ := hO8.lies
    rw [show (backL []).length = 0 from rfl]
    have HB8 := Lib.hid (bell_up HB7.out hO8.below)
    have HR := Lib.hid (rows_ch_any (l := []) (Lies.none w8 53 5 0) rfl (fun _ h => by cases h) (by decide))
    clear hO8 HK
    go_wp2_with fail
    refine HR.out.mono ?_
    rintro _ w9 ⟨_, out9, rfl, hst9, hO9⟩
    obtain ⟨a9, c9, rfl, _⟩ := hO9.lies
    rw [show out9.length = 0 from hst9.length]
    have HB9 := Lib.hid (bell_up HB8.out hO9.below)
    clear hst9 hO9 HR
    go_wp2
    go_ret
    exact ⟨rfl, HB9.out⟩
end Go.Proofs.Yteimgebfbnmdcaa
