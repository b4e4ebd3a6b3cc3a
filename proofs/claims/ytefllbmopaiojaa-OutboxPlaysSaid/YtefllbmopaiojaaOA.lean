/- The law's bench: a thing is due at once, and again, until it is answered. -/
import Derived.Test.YtefllbmopaiojaaO6SI
import Derived.Test.YtefllbmopaiojaaS1
namespace Go.Proofs.Ytefllbmopaiojaa
open Go.RowKit

theorem OI.up {w W W' : World} {g b period size : Nat} {row : Value} {es : List OI.En} (h : OI.OAt W w.heap.size g b period size row es) (hb : Below w.heap.size w W) (hc : Chg W W' (OI.Blk g b row es)) : Below w.heap.size w W' :=
  hb.trans (hc.below (fun _ hk => h.ge hk) hb.size)
theorem KI.up {w W W' : World} {s g b size : Nat} {es : List KI.En} {f m : Int} (h : KI.SAt W w.heap.size s g b size es f m) (hb : Below w.heap.size w W) (hc : KI.Chg W W' (KI.CB g b es)) : Below w.heap.size w W' :=
  hb.trans (hc.below (fun _ hk => h.cat.geCB hk) hb.size)
/-- A row of integers of the call's own stays where the outbox is worked on. -/
theorem ints_stay {w w' : World} {B B' g b period size n : Nat} {row v : Value} {es : List OI.En} {l : List Value} (h : OI.OAt w B g b period size row es) (hv : w.ownsRow B' 3 1 v n l) (hc : Chg w w' (OI.Blk g b row es)) : w'.ownsRow B' 3 1 v n l :=
  owns_kept hv fun k hk => by
    obtain ⟨_, cur, hW⟩ := owned_block hv hk
    exact hc.block k hW.lt (h.other hW (by decide) (by decide) (by decide))
theorem bell_up {w W W' : World} (hb : Below w.heap.size w W) (h : Below W.heap.size W W') : Below w.heap.size w W' := hb.trans (h.mono hb.size)
theorem KI.CAt.kept {w w' : World} {B g b size : Nat} {es : List KI.En} {f m : Int} (h : KI.CAt w B g b size es f m) (hb : ∀ k, KI.CB g b es k → w'.heap[k]? = w.heap[k]?) : KI.CAt w' B g b size es f m := by
  obtain ⟨mm, hm, hf⟩ := h.map
  obtain ⟨N, ⟨⟨k0, v0, hk⟩, he⟩, hl⟩ := h.ring.ex
  exact ⟨⟨⟨N, ⟨⟨k0, v0, hk.kept (hb g (.inl rfl))⟩, fun p k v hp => (he p k v hp).kept (hb p (.inr (.inr (List.mem_map.2 ⟨_, hp, rfl⟩))))⟩, hl⟩, h.ring.nd⟩, ⟨mm, hm.kept (hb b (.inr (.inl rfl))), hf⟩, h.keys, h.kr, h.len, h.lo, h.hi, h.geg, h.geb, h.gep⟩
/-- What was seen stays where the outbox is worked on. -/
theorem seen_stay {w w' : World} {B B' s sg sb size g b period size' : Nat} {row : Value} {es : List OI.En} {fs : List KI.En} {f m : Int} (h : KI.SAt w B s sg sb size fs f m) (hO : OI.OAt w B' g b period size' row es) (hne : sb ≠ b) (hc : Chg w w' (OI.Blk g b row es)) : KI.SAt w' B s sg sb size fs f m := by
  obtain ⟨N, ⟨⟨k0, v0, hk⟩, he⟩, hl⟩ := h.cat.ring.ex
  obtain ⟨mm, hm, _⟩ := h.cat.map
  refine ⟨h.own.kept (hc.block s h.own.lt (hO.other h.own (by decide) (by decide) (by decide))), h.cat.kept fun k hcb => ?_, h.ges⟩
  rcases hcb with rfl | rfl | hcb
  · exact hc.block _ hk.lt (hO.other hk (by decide) (by decide) (by decide))
  · refine hc.block _ hm.lt ?_
    rintro (h1 | h1 | h1 | h1)
    · exact hm.ne hO.own h1.symm
    · exact hne h1
    · obtain ⟨_, cur, hW⟩ := owned_block hO.row h1
      exact hm.ne hW rfl
    · obtain ⟨x, hx, h2⟩ := List.mem_map.1 h1
      exact hm.ne (hO.ent x hx) h2
  · obtain ⟨⟨p, k', v'⟩, hp, rfl⟩ := List.mem_map.1 hcb
    have hw := he p k' v' hp
    exact hc.block _ hw.lt (hO.other hw (by decide) (by decide) (by decide))
theorem KI.kv_of {es : List KI.En} {k v : Int} {L : List (Int × Int)} (h : KI.kv es = (k, v) :: L) : (k, v) ∈ KI.kv es := by rw [h]; simp
set_option maxRecDepth 100000 in
set_option maxHeartbeats 8000000 in
theorem awake_any (w : World) : Calls Try.prog 7 #[] w fun e w' => e = .returned (.bool true) ∧ Below w.heap.size w w' := by
  have HN := Lib.hid (OI.new_good w.heap.size 2 3 w (by omega) (by omega) (by omega) (by omega) (Nat.le_refl _))
  go_enter Try.func7, Try.ntmps7
  go_wp2_with fail
  refine HN.out.mono ?_
  rintro x w1 ⟨rfl, hO, hb⟩
  have HO := Lib.hid hO
  have HB := Lib.hid hb
  have HP := Lib.hid (OI.put_any (⟨#[97]⟩ : ByteArray) 7 w1 hO (by decide) hb.size)
  clear hO hb HN
  generalize w.heap.size + 1 = g at *
  go_wp2_with fail
  refine HP.out.mono ?_
  rintro x w2 ⟨code, row2, es2, rfl, hO, hp, hc⟩
  obtain ⟨p, rfl, rfl⟩ : ∃ p, code = 0 ∧ es2 = [⟨p, ⟨#[97]⟩, 7, 0⟩] := by
    rcases hp with ⟨e1, y, e2, he, _⟩ | ⟨_, h3, _⟩ | ⟨_, _, h4, p, _, h5⟩
    · exact absurd (congrArg List.length he) (by simp)
    · exact absurd h3 (by simp)
    · exact ⟨p, h4, h5⟩
  have HB2 := Lib.hid (OI.up HO.out HB.out hc)
  have HT := Lib.hid (OI.tick_any w2 hO)
  have HO2 := Lib.hid hO
  clear hO hp hc HO HB HP
  go_wp2_with fail
  refine HT.out.mono ?_
  rintro x w3 ⟨v3, rfl, hv, hO, hc⟩
  have HB3 := Lib.hid (OI.up HO2.out HB2.out hc)
  have HV3 := Lib.hid (show w3.ownsRow w2.heap.size 3 1 v3 1 [.int .i64 7] from hv)
  have hO : OI.OAt w3 w.heap.size g w.heap.size 2 3 row2 [⟨p, ⟨#[97]⟩, 7, 1⟩] := hO
  have HT3 := Lib.hid (OI.tick_any w3 hO)
  have HO3 := Lib.hid hO
  clear hO hv hc HO2 HB2 HT
  go_wp2_with fail
  refine HT3.out.mono ?_
  rintro x w4 ⟨v4, rfl, hv, hO, hc⟩
  have HB4 := Lib.hid (OI.up HO3.out HB3.out hc)
  have HV34 := Lib.hid (ints_stay HO3.out HV3.out hc)
  obtain ⟨a4, c4, rfl, _, _⟩ := owned_any hv
  have hO : OI.OAt w4 w.heap.size g w.heap.size 2 3 row2 [⟨p, ⟨#[97]⟩, 7, 0⟩] := hO
  have HT4 := Lib.hid (OI.tick_any w4 hO)
  have HO4 := Lib.hid hO
  clear hO hv hc HO3 HB3 HT3 HV3
  go_wp2_with fail
  refine HT4.out.mono ?_
  rintro x w5 ⟨v5, rfl, hv, hO, hc⟩
  have HB5 := Lib.hid (OI.up HO4.out HB4.out hc)
  have HV35 := Lib.hid (ints_stay HO4.out HV34.out hc)
  obtain ⟨a5, c5, rfl, _, _⟩ := owned_any hv
  have hO : OI.OAt w5 w.heap.size g w.heap.size 2 3 row2 [⟨p, ⟨#[97]⟩, 7, 1⟩] := hO
  have HO5 := Lib.hid hO
  have HNS := Lib.hid (KI.newseen_good w.heap.size 2 w5 (by omega) (by omega) HB5.out.size)
  clear hO hv hc HO4 HB4 HT4 HV34
  go_wp2_with fail
  refine HNS.out.mono ?_
  rintro x w6 ⟨s, sg, sb, rfl, hS, hb, hsb⟩
  have HB6 := Lib.hid (bell_up HB5.out hb)
  have hO6 := HO5.out.below hb
  have hV6 := owns_kept HV35.out (fun k hk => hb.block k (HV35.out.lt k hk).2)
  obtain ⟨a3, c3, rfl, _, _⟩ := owned_any hV6
  obtain ⟨d3, rfl, hd3, _, q3⟩ := owned_at (i := 0) (u := .int .i64 7) hV6 rfl
  have HA := Lib.hid (OI.ack_any (⟨#[97]⟩ : ByteArray) w6 hO6 (by decide))
  have HO6 := Lib.hid hO6
  have HV6 := Lib.hid hV6
  have HS := Lib.hid hS
  have HNE := Lib.hid (show sb ≠ w.heap.size by
    obtain ⟨mm, hm, _⟩ := HO5.out.map
    have := hm.lt
    omega)
  clear hS hb hsb hO6 hV6 HO5 HB5 HV35 HNS
  go_wp2_with fail
  refine HA.out.mono ?_
  rintro x w7 ⟨rfl, row7, hO, hc⟩
  have HB7 := Lib.hid (OI.up HO6.out HB6.out hc)
  have hO : OI.OAt w7 w.heap.size g w.heap.size 2 3 row7 [] := hO
  have HS7 := Lib.hid (seen_stay HS.out HO6.out HNE.out hc)
  have q3' : w7.cell? ⟨d3, 0, none⟩ = some (.int .i64 7) := by
    obtain ⟨_, cur, hW⟩ := owned_block HV6.out (k := d3) rfl
    have h7 := hW.kept (hc.block d3 hW.lt (HO6.out.other hW (by decide) (by decide) (by decide)))
    rw [h7.cell, ← hW.cell]
    exact q3
  have HA7 := Lib.hid (OI.ack_any (⟨#[97]⟩ : ByteArray) w7 hO (by decide))
  have HO7 := Lib.hid hO
  clear hO hc HO6 HB6 HA HS
  go_wp2_with fail
  refine HA7.out.mono ?_
  rintro x w8 ⟨rfl, row8, hO, hc⟩
  have HB8 := Lib.hid (OI.up HO7.out HB7.out hc)
  have HS8 := Lib.hid (seen_stay HS7.out HO7.out HNE.out hc)
  have hO : OI.OAt w8 w.heap.size g w.heap.size 2 3 row8 [] := hO
  have HLN := Lib.hid (OI.len_any w8 hO)
  have HF := Lib.hid (KI.first_none (k := 5) w8 HS8.out (by omega) (by simp [KI.kv]) (by omega) HB8.out.size)
  clear hO hc HO7 HB7 HA7 HS7
  go_wp2_with fail
  refine HLN.out.mono ?_
  rintro x w9 ⟨rfl, rfl⟩
  go_wp2_with fail
  refine HF.out.mono ?_
  rintro x w9 ⟨rfl, ⟨es9, hS9, hk9⟩, hc⟩
  have HB9 := Lib.hid (KI.up HS8.out HB8.out hc)
  have hk9 : KI.kv es9 = [(5, 1)] := hk9
  have HF9 := Lib.hid (KI.first_there (k := 5) (v := 1) w9 hS9 (KI.kv_of hk9) (by omega) (by simp) HB9.out.size)
  have HS9 := Lib.hid hS9
  have HK9 := Lib.hid hk9
  clear hS9 hk9 hc HS8 HB8 HF HLN
  go_wp2_with fail
  refine HF9.out.mono ?_
  rintro x w10 ⟨rfl, ⟨es10, hS10, hk10⟩, hc⟩
  have HB10 := Lib.hid (KI.up HS9.out HB9.out hc)
  have hk10 : KI.kv es10 = [(5, 1 + 1)] := by
    rw [hk10, HK9.out]
    rfl
  have HT10 := Lib.hid (KI.times_there (k := 5) (v := 1 + 1) w10 hS10 (KI.kv_of hk10) (by simp))
  have HS10 := Lib.hid hS10
  clear hS10 hk10 hc HS9 HB9 HF9 HK9
  go_wp2_with fail
  refine HT10.out.mono ?_
  rintro x w11 ⟨rfl, _, hc⟩
  have HB11 := Lib.hid (KI.up HS10.out HB10.out hc)
  clear hc HS10 HB10 HT10
  go_wp2
  go_ret
  exact ⟨rfl, HB11.out⟩
end Go.Proofs.Ytefllbmopaiojaa
