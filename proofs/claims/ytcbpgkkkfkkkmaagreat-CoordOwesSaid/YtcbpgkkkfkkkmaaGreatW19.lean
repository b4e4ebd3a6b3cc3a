/- CoordOwes: the walk. -/
import Derived.Test.YtcbpgkkkfkkkmaaGreatWf
namespace Go.Proofs.YtcbpgkkkfkkkmaaGreat
open Go.RowKit
open Go.Maps (Keyed)

def B0 : Co := ctake (rep 0 []) (bootM (rep 0 []))
def idw : Int := newId B0
theorem w_id : -9223372036854775808 ≤ idw ∧ idw ≤ 9223372036854775807 := by decide +kernel
theorem w_b0 : B0.begun = 0 ∧ B0.com = 0 ∧ B0.deb.length = 0 ∧ (B0.don idw).isNone := by decide +kernel
theorem w_fr : dget B0.deb idw = none ∧ B0.don idw = none := by
  obtain ⟨_, _, h3, h4⟩ := w_b0
  refine ⟨by rw [List.eq_nil_of_length_eq_zero h3]; rfl, ?_⟩
  cases h : B0.don idw with
  | none => rfl
  | some r => rw [h] at h4; cases h4
theorem w_voi (l : List Int) : VoI (cbegin B0 l) idw (sset l) (sset l) := by
  obtain ⟨_, h2, h3, h4⟩ := w_b0
  refine ⟨by simp [cbegin, updF, idw], List.eq_nil_of_length_eq_zero h3, ?_, h2⟩
  show B0.don idw = none
  exact w_fr.2
/-- The law's state behind the commit. -/
def OA (w wr : World) (gc gl b1 b2 b3 g lb : Nat) (id : Int) (S : Nat) (cm : MsgD) (s : Nat) : Prop :=
  ∃ v c ms, OL w wr gc gl b1 b2 b3 g v c ms lb s ∧ (∀ k, shas s k = true → shas S k = true) ∧ ((s ≠ 0 ∧ AkI c id S s ∧ ms = [bootM (rep 0 []), cm]) ∨ (s = 0 ∧ DnI c id))
/-- .. behind Ack, ahead of the delete. -/
def OX (w wr : World) (gc gl b1 b2 b3 g lb : Nat) (id : Int) (S : Nat) (cm : MsgD) (s : Nat) (z : Int) : Prop :=
  ∃ v c ms, OL w wr gc gl b1 b2 b3 g v c ms lb s ∧ (∀ k, shas s k = true → shas S k = true) ∧ ((swo s z ≠ 0 ∧ AkI c id S (swo s z) ∧ ms = [bootM (rep 0 []), cm]) ∨ (swo s z = 0 ∧ DnI c id))
theorem swo_none {s : Nat} (hs : s < 256) {z : Int} (h : shas s z = false) : swo s z = s := set_ext (swo_lt hs z) hs fun k _ => by
  rw [shas_swo]
  by_cases e : k = z
  · subst e; simp [h]
  · simp [e]
theorem swo_zero (z : Int) : swo 0 z = 0 := Nat.zero_and _
theorem ack_oa {w wr : World} {gc gl b1 b2 b3 g lb : Nat} {id : Int} {S s : Nat} {cm : MsgD} (h : OA w wr gc gl b1 b2 b3 g lb id S cm s) (hid : InI id) (hfit : (cat [bootM (rep 0 []), cm]).length + 148 ≤ 5000) (z : Int) (hz : InI z) :
    Calls Tryz.prog 15 #[.pointer (some ⟨gc, 0, none⟩), .int .i64 id, .int .i64 z] wr fun e w' => ∃ k : Int, e = .returned (.int .i64 k) ∧ (s = 0 → k = 0) ∧ (s ≠ 0 → (k = 0 ↔ shas S z = true)) ∧ OX w w' gc gl b1 b2 b3 g lb id S cm s z := by
  obtain ⟨v, c, ms, hol, hsub, ⟨hs, hA, rfl⟩ | ⟨rfl, hD⟩⟩ := h
  · refine (ack_owes wr hol.cs hid hA hfit z hz).mono ?_
    rintro e w' ⟨k, v', c', ms', rfl, h1, h2, ⟨h3, h4, h5, rfl⟩ | ⟨h3, h4, h5, h6, rfl⟩ | ⟨h3, h4, h5, h6⟩⟩
    · have hsz : shas s z = false := by
        cases hq : shas s z with
        | false => rfl
        | true => rw [hsub z hq] at h3; cases h3
      have he := swo_none hol.map.1 hsz
      exact ⟨k, rfl, fun e => absurd e hs, fun _ => ⟨fun e => absurd e h4, fun e => by rw [h3] at e; cases e⟩, v', c', _, hol.chg h1 h2, hsub, .inl ⟨by rw [he]; exact hs, by rw [he]; exact h5, rfl⟩⟩
    · exact ⟨k, rfl, fun e => absurd e hs, fun _ => ⟨fun _ => h3, fun _ => h4⟩, v', c', _, hol.chg h1 h2, hsub, .inl ⟨h5, h6, rfl⟩⟩
    · exact ⟨k, rfl, fun e => absurd e hs, fun _ => ⟨fun _ => h3, fun _ => h4⟩, v', c', _, hol.chg h1 h2, hsub, .inr ⟨h5, h6⟩⟩
  · refine (ack_done wr hol.cs hid hD z hz).mono ?_
    rintro e w' ⟨rfl, h1, h2⟩
    exact ⟨0, rfl, fun _ => rfl, fun e => absurd rfl e, v, c, ms, hol.below h2, hsub, .inr ⟨swo_zero z, hD⟩⟩
theorem replay_owes {id : Int} {S : Nat} (hS : S < 256) : (ctake (rep 0 [bootM (rep 0 []), oC 6 id 9 (slist S)]) (bootM (rep 0 [bootM (rep 0 []), oC 6 id 9 (slist S)]))).deb = [⟨id, S, S, 0, 9⟩] := by
  have e0 : rep 0 [bootM (rep 0 []), oC 6 id 9 (slist S)] = ctake B0 (oC 6 id 9 (slist S)) := rfl
  have hst : stat B0 id = (0, 0) := rfl
  rw [ctake_boot _ _ rfl]
  show (rep 0 [bootM (rep 0 []), oC 6 id 9 (slist S)]).deb = _
  rw [e0]
  unfold ctake
  rw [if_neg (by simp [oC]), if_pos ⟨rfl, .inl (by rw [show (oC 6 id 9 (slist S)).id = id from rfl, hst])⟩]
  show B0.deb ++ [_] = _
  have h1 : B0.deb = [] := rfl
  have h2 : B0.com = 0 := rfl
  rw [h1, h2]
  simp [oC, sset_slist hS]
theorem OX.oa {w wr w' : World} {gc gl b1 b2 b3 g lb : Nat} {id : Int} {S s : Nat} {cm : MsgD} {z : Int} (h : OX w wr gc gl b1 b2 b3 g lb id S cm s z) (hm : LSet w' lb (swo s z)) (hg : wr.grownBy w' (some lb)) : OA w w' gc gl b1 b2 b3 g lb id S cm (swo s z) := by
  obtain ⟨v, c, ms, hol, hsub, hr⟩ := h
  refine ⟨v, c, ms, hol.grown hm hg, fun k hk => hsub k ?_, hr⟩
  rw [shas_swo] at hk
  simp at hk
  exact hk.1
theorem OX.map {w wr : World} {gc gl b1 b2 b3 g lb : Nat} {id : Int} {S s : Nat} {cm : MsgD} {z : Int} (h : OX w wr gc gl b1 b2 b3 g lb id S cm s z) : LSet wr lb s := by
  obtain ⟨v, c, ms, hol, _⟩ := h
  exact hol.map
theorem OX.bel {w wr : World} {gc gl b1 b2 b3 g lb : Nat} {id : Int} {S s : Nat} {cm : MsgD} {z : Int} (h : OX w wr gc gl b1 b2 b3 g lb id S cm s z) : Below w.heap.size w wr := by
  obtain ⟨v, c, ms, hol, _⟩ := h
  exact hol.bel
set_option maxRecDepth 100000 in
set_option maxHeartbeats 16000000 in
theorem owes_walk (a : Option Addr) (n cp : Nat) (l : List Int) (a2 : Option Addr) (n2 cp2 : Nat) (l2 : List Int) (crash : Bool) (w : World) (hx : IntsAt w w.heap.size a n l) (hn : n ≤ 140737488351232) (hx2 : IntsAt w w.heap.size a2 n2 l2) (hn2 : n2 ≤ 140737488351232) :
    Calls Tryz.prog 4 #[.slice a n cp, .slice a2 n2 cp2, .bool crash] w fun e w' => e = .returned (.bool true) ∧ Below w.heap.size w w' := by
  have HX := Lib.hid hx
  have HX2 := Lib.hid hx2
  have hmm := @run_makeMap Tryz.prog
  clear hx hx2
  go_enter Tryz.func4, Tryz.ntmps4
  go_wp2_with fail
  refine (awake_any _).mono ?_
  rintro e w1 ⟨rfl, hb1⟩
  have HN := Lib.hid (Dk.new_good w.heap.size 5000 w1 (by decide) hb1.size)
  have HB1 := Lib.hid hb1
  clear hb1
  go_wp2_with fail
  refine HN.out.mono ?_
  rintro e w2 ⟨rfl, hd2, hb2⟩
  have HB2 := Lib.hid (bell_up HB1.out hb2)
  have HGE := Lib.hid HB1.out.size
  have HO2 := Lib.hid (opened_any (ms := []) w2 0 hd2 (by simp) HB2.out.size 0 ⟨by omega, by omega⟩)
  clear hd2 hb2 HN
  generalize w1.heap.size = g at *
  go_wp2_with fail
  refine HO2.out.mono ?_
  rintro e w3 (⟨_, gc, gl, b1, b2, b3, v3, rfl, hcs, hch, _⟩ | ⟨hlt, _⟩)
  rotate_left
  · exfalso
    have h1 : (rcd (bootM (rep 0 []))).length ≤ 29 := boot_len (by simp)
    have h2 : (cat []).length = 0 := rfl
    omega
  have HB3 := Lib.hid (show Below w.heap.size w w3 from HB2.out.trans (hch.below (fun k hk => by rcases hk with h | h; exact (by rw [h]; exact HGE.out); cases h) HB2.out.size))
  have HC3 := Lib.hid (show CS w3 w.heap.size gc gl b1 b2 b3 g v3 B0 [bootM (rep 0 [])] 5000 from hcs)
  clear hcs hch HO2
  have HX3 := Lib.hid (HX.out.below HB3.out)
  by_cases hok : beginOk B0 l
  rotate_left
  · have HBB := Lib.hid (begin_bad w3 HC3.out.co a n cp l w.heap.size HX3.out (by omega) hok)
    clear hok
    go_wp2_with fail
    refine HBB.out.mono ?_
    rintro e w4 ⟨rfl, hw4⟩
    rw [hw4]
    clear hw4 w4
    go_wp2
    go_ret
    exact ⟨rfl, HB3.out⟩
  have HOK := Lib.hid hok
  have HBG := Lib.hid (begin_good w3 HC3.out.co a n cp l w.heap.size HX3.out HB3.out.size (fun b off e hcb => by
    have h1 := HC3.out.co.geB hcb
    rcases Nat.eq_zero_or_pos n with h0 | h0
    · have := HX.out.1
      rw [h0] at this
      exact hok.1 (List.eq_nil_of_length_eq_zero this)
    · obtain ⟨b', off', _, e', hb', _⟩ := HX.out.cellp h0
      rw [e] at e'
      injection e' with e'
      injection e' with e'
      omega) (by omega) hok w_fr)
  clear hok
  go_wp2_with fail
  refine HBG.out.mono ?_
  rintro e w4 ⟨rfl, hc4, hch4⟩
  obtain ⟨hcs4, hch4'⟩ := HC3.out.step hc4 hch4 HC3.out.few
  have HOL := Lib.hid (show OL w (w4.alloc (.map #[] 0)) gc gl b1 b2 b3 g v3 (cbegin B0 l) [bootM (rep 0 [])] w4.heap.size 0 from by
    have hb := below_alloc w4 (.map #[] 0)
    have hbe := HB3.out.trans (HC3.out.sb_below hch4')
    have hl : ∀ k, CB gc b1 b2 b3 k → k < w4.heap.size := fun k hk => hcs4.co.lt hk
    have e1 := hl b1 (.inr (.inl rfl))
    have e2 := hl b2 (.inr (.inr (.inl rfl)))
    have e3 := hl b3 (.inr (.inr (.inr rfl)))
    exact ⟨hcs4.below hb, hbe.trans (hb.mono hbe.size), LSet.made w4, ⟨by omega, by omega, by omega⟩, hbe.size⟩)
  clear hc4 hch4 hcs4 hch4' HBG
  have HV0 := Lib.hid (show VoI (cbegin B0 l) (newId B0) (sset l) (sset l) from w_voi l)
  have HID := Lib.hid (show InI (newId B0) from w_id)
  generalize newId B0 = id0 at *
  go_wp2_with fail
  generalize w4.heap.size = lb at *
  generalize w4.alloc (.map #[] 0) = w5 at *
  have hS := sset_lt l
  generalize hSS : sset l = S at *
  have HSS := Lib.hid hSS
  clear hSS
  go_loopw [54] (fun iv wr => ∃ (i : Nat) (c : Co), i ≤ n ∧ iv = .int .i64 i ∧ OL w wr gc gl b1 b2 b3 g v3 c [bootM (rep 0 [])] lb (sset (l.take i)) ∧ VoI c id0 S ((l.take i).foldl swo S)) (fun iv _ => n - (intOf iv).toNat)
  case atStart => exact ⟨0, _, by omega, rfl, HOL.out, HV0.out⟩
  case round =>
    obtain ⟨i, c, hin, rfl, hol, hvo⟩ := hrel
    have HO := Lib.hid hol
    have HV := Lib.hid hvo
    clear hol hvo
    by_cases hil : i < n
    · obtain ⟨b, off, z, rfl, hb, hz, hc0, hzi⟩ := (HX.out.below HO.out.bel).cellp hil
      have hc : wr.cell? ⟨b, off + i, none⟩ = some (.int .i64 z) := hc0
      have hzl : z ∈ l := List.mem_of_getElem? hz
      have hzn : isN z := HOK.out.2.1 z hzl
      have hsz : shas S z = true := by rw [← HSS.out, shas_sset l hzn]; simpa using hzl
      have htk : l.take (i + 1) = l.take i ++ [z] := take_snoc hz
      obtain ⟨hv0, hvn⟩ := HV.out.vote hsz
      have hvo := vote_cs wr HO.out.cs id0 z true HID.out hzi
      rw [hv0] at hvo
      have HVO := Lib.hid hvo
      have HVN := Lib.hid hvn
      have HTK := Lib.hid htk
      have HZN := Lib.hid hzn
      have HZI := Lib.hid hzi
      have hij : (0:Int) ≤ (i:Int) ∧ (i:Int) < (n:Int) := by omega
      clear hc0 hz hzl hzn hsz htk hv0 hvn hvo hzi
      go_wp2_with fail
      refine HVO.out.mono ?_
      rintro e wv ⟨rfl, hcv, hchv⟩
      have HO2 := Lib.hid (HO.out.chg hcv hchv)
      clear hcv hchv hc
      obtain ⟨hs0, mm, hmp, hf⟩ := HO2.out.map
      have HF := Lib.hid hf
      have HMP := Lib.hid hmp
      have hcd : card (sset (l.take i)) < maxLen := by have := slist_len (sset (l.take i)); unfold maxLen card; omega
      clear hf
      go_wp2_with (at_mapUpdate; refine wpList_store_map _ rfl _ _ _ 41 rfl 3 4 Tryz.keyI Tryz.underlying41 _ (Tryz.zeroBo _) lb _ mm rfl HMP.out hcd (.int .i64 z) (.bool true) (.int .i64 z) rfl rfl (key_int z HZI.out) ?_; intro w6 hm6 hg6 hs6; have HO6 := Lib.hid (HO2.out.grown (LSet.put HO2.out.map.1 HF.out HZN.out hm6 rfl) hg6); clear hm6 hg6 hs6)
      go_roundw
      case rel =>
        refine ⟨i + 1, (cvote c id0 z true).2, by omega, by go_num, ?_, ?_⟩
        · have := HO6.out
          have e : sset (l.take (i + 1)) = sadd (sset (l.take i)) z := by rw [HTK.out, sset, List.foldl_append]; rfl
          rw [e]
          exact this
        · rw [HTK.out, List.foldl_append]
          exact HVN.out
      case measure => simp [intOf]; omega
    · obtain rfl : n = i := by omega
      have htk : l.take n = l := List.take_of_length_le (by rw [HX.out.1]; omega)
      rw [htk] at HO HV
      have hfz := foldl_swo_zero l
      rw [HSS.out] at hfz HO
      rw [hfz] at HV
      clear htk hfz
      obtain ⟨_, mm0, hm0, _⟩ := HO.out.map
      have hlen := hm0.len Tryz.underlying41 3
      have HCM := Lib.hid (commit_any wr HO.out.cs id0 9 HID.out ⟨by omega, by omega⟩)
      clear hm0
      go_wp2_with fail
      refine HCM.out.mono ?_
      rintro e wc ⟨k, rfl, ⟨_, hno, _, _⟩ | ⟨s, hbs, _, _, hwr⟩⟩
      · exact absurd ⟨S, HV.out.bal, by omega, by omega⟩ hno
      obtain rfl : s = S := by rw [HV.out.bal] at hbs; injection hbs with hbs; injection hbs with hbs; exact hbs.symm
      rcases hwr with ⟨rfl, _, vc, hcc, hchc⟩ | ⟨_, hlt, _, _⟩
      rotate_left
      · exfalso
        have h1 : (rcd (bootM (rep 0 []))).length ≤ 29 := boot_len (by simp)
        have h2 := oc_rcd (k := 6) (id := id0) (rev := 9) ⟨by omega, by omega⟩ HID.out ⟨by omega, by omega⟩ (slist_node (s := s)) (slist_len s)
        have h3 := cat_one (bootM (rep 0 []))
        omega
      have HA := Lib.hid (show OA w wc gc gl b1 b2 b3 g lb id0 s (oC 6 id0 9 (slist s)) s from ⟨vc, _, _, HO.out.chg hcc hchc, fun _ h => h, .inl ⟨by
        intro e0
        have h1 : l ≠ [] := HOK.out.1
        obtain ⟨x, hx⟩ := List.exists_mem_of_ne_nil l h1
        have h2 := shas_sset l (HOK.out.2.1 x hx)
        rw [HSS.out, e0] at h2
        simp [shas, hx] at h2, VoI.commit hS HV.out, rfl⟩⟩)
      have HFT := Lib.hid (show (cat [bootM (rep 0 []), oC 6 id0 9 (slist s)]).length + 148 ≤ 5000 from by
        have h1 : (rcd (bootM (rep 0 []))).length ≤ 29 := boot_len (by simp)
        have h2 := oc_rcd (k := 6) (id := id0) (rev := 9) ⟨by omega, by omega⟩ HID.out ⟨by omega, by omega⟩ (slist_node (s := s)) (slist_len s)
        have h4 : (cat [bootM (rep 0 []), oC 6 id0 9 (slist s)]).length = (rcd (bootM (rep 0 []))).length + (rcd (oC 6 id0 9 (slist s))).length := by simp [cat]
        omega)
      clear hcc hchc hbs hlen HCM
      go_wp2_with fail
      go_loopw [74] (fun iv wr => ∃ (i : Nat) (q : Nat), i ≤ n2 ∧ iv = .int .i64 i ∧ OA w wr gc gl b1 b2 b3 g lb id0 s (oC 6 id0 9 (slist s)) q) (fun iv _ => n2 - (intOf iv).toNat)
      case atStart => exact ⟨0, s, by omega, rfl, HA.out⟩
      case round =>
        obtain ⟨i, q, hin, rfl, hoa⟩ := hrel
        have HOA := Lib.hid hoa
        obtain ⟨_, _, _, hol0, _, hcase⟩ := hoa
        have hbel := hol0.bel
        obtain ⟨hq0, mmq, hmq, _⟩ := hol0.map
        have hlen := hmq.len Tryz.underlying41 3
        clear hol0 hmq
        by_cases hil : i < n2
        · obtain ⟨b, off, z, rfl, hb, hz, hc, hzi⟩ := (HX2.out.below hbel).cellp hil
          have hij : (0:Int) ≤ (i:Int) ∧ (i:Int) < (n2:Int) := by omega
          have HAK := Lib.hid (ack_oa HOA.out HID.out HFT.out z hzi)
          have HZI := Lib.hid hzi
          have hzm : shas s z = decide (z ∈ l) := by
            by_cases hzn : isN z
            · rw [← HSS.out, shas_sset l hzn]
            · rw [shas_no _ hzn]
              exact (decide_eq_false fun hm => hzn (HOK.out.2.1 z hm)).symm
          have HZM := Lib.hid hzm
          clear hz hzi hbel hzm hcase
          by_cases hq : q = 0
          · have hcq : ((card q : Nat) : Int) = 0 := by rw [hq]; rfl
            rw [hcq] at hlen
            have HQ := Lib.hid hq
            clear hq hcq hq0
            go_wp2_with fail
            refine HAK.out.mono ?_
            rintro e wk ⟨k, rfl, hk1, _, hox⟩
            obtain rfl := hk1 HQ.out
            have HOX := Lib.hid hox
            clear hk1 hox hc hlen
            go_wp2_with fail
            go_loopw [21, 87] (fun bv jv wx => wx = wk ∧ ∃ j : Nat, j ≤ n ∧ jv = .int .i64 j ∧ bv = .bool (decide (z ∈ l.take j))) (fun _ jv _ => n - (intOf jv).toNat)
            case atStart => exact ⟨rfl, 0, by omega, rfl, by simp⟩
            case round =>
              obtain ⟨rfl, j, hjn, rfl, rfl⟩ := hrel
              by_cases hjl : j < n
              · obtain ⟨b4, off4, y, rfl, hb4, hy, hc4, hyi⟩ := (HX.out.below HOX.out.bel).cellp hjl
                have htk4 : l.take (j + 1) = l.take j ++ [y] := take_snoc hy
                have hjj : (0:Int) ≤ (j:Int) ∧ (j:Int) < (n:Int) := by omega
                by_cases hm4 : z ∈ l.take j
                · have hd4 : decide (z ∈ l.take j) = true := decide_eq_true hm4
                  have HR4 := Lib.hid (show decide (z ∈ l.take (j + 1)) = true from decide_eq_true (by rw [htk4]; exact List.mem_append_left _ hm4))
                  rw [hd4]
                  clear hy htk4 hm4 hd4
                  go_wp2_with fail
                  go_roundw
                  case rel => exact ⟨trivial, j + 1, by omega, by go_num, by rw [HR4.out]⟩
                  case measure => simp [intOf]; omega
                · have hd4 : decide (z ∈ l.take j) = false := decide_eq_false hm4
                  by_cases hyz : y = z
                  · have HR4 := Lib.hid (show decide (z ∈ l.take (j + 1)) = true from decide_eq_true (by rw [htk4, hyz]; simp))
                    rw [hd4]
                    subst hyz
                    clear hy htk4 hm4 hd4
                    go_wp2_with fail
                    go_roundw
                    case rel => exact ⟨trivial, j + 1, by omega, by go_num, by rw [HR4.out]⟩
                    case measure => simp [intOf]; omega
                  · have HR4 := Lib.hid (show decide (z ∈ l.take (j + 1)) = false from decide_eq_false (by rw [htk4]; intro h4; rcases List.mem_append.1 h4 with h5 | h5; exact hm4 h5; rw [List.mem_singleton] at h5; exact hyz h5.symm))
                    rw [hd4]
                    have hyb : (y == z) = false := by simpa using hyz
                    clear hy htk4 hm4 hd4
                    go_wp2_with fail
                    go_roundw
                    case rel => exact ⟨trivial, j + 1, by omega, by go_num, by rw [HR4.out]⟩
                    case measure => simp [intOf]; omega
              · obtain rfl : j = n := by omega
                have htk4 : l.take j = l := List.take_of_length_le (by rw [HX.out.1]; omega)
                rw [htk4]
                clear htk4
                obtain ⟨hs0, mm, hmp, hf⟩ := HOX.out.map
                have HF := Lib.hid hf
                have HMP := Lib.hid hmp
                clear hf hmp hs0
                go_wp2_with (at_delete; refine wpList_drop_map _ rfl _ _ 41 3 rfl 4 Tryz.keyI Tryz.underlying41 _ (Tryz.zeroBo _) lb _ mm rfl HMP.out (.int .i64 z) (.int .i64 z) rfl (key_int z HZI.out) ?_; intro w6 hm6 hg6 hs6; have HO6 := Lib.hid (HOX.out.oa (LSet.drop HOX.out.map.1 HF.out HZI.out hm6 rfl) hg6); clear hm6 hg6 hs6)
                go_roundw
                case rel => exact ⟨i + 1, _, by omega, by go_num, HO6.out⟩
                case measure => simp [intOf]; omega

          · have hcq : (((card q : Nat) : Int) == 0) = false := by
              have : ¬ card q = 0 := fun e => hq ((card_pos_all q hq0).1 e)
              simpa using this
            have HQ := Lib.hid hq
            clear hq hq0
            cases hsz : shas s z
            · have HSZ := Lib.hid hsz
              clear hsz
              go_wp2_with fail
              refine HAK.out.mono ?_
              rintro e wk ⟨k, rfl, _, hk2, hox⟩
              have hk0 : (k == 0) = false := by
                have : ¬ k = 0 := fun e => by have h5 := (hk2 HQ.out).1 e; rw [HSZ.out] at h5; cases h5
                simpa using this
              have HOX := Lib.hid hox
              clear hk2 hox hc hlen hcq
              go_wp2_with fail
              go_loopw [21, 87] (fun bv jv wx => wx = wk ∧ ∃ j : Nat, j ≤ n ∧ jv = .int .i64 j ∧ bv = .bool (decide (z ∈ l.take j))) (fun _ jv _ => n - (intOf jv).toNat)
              case atStart => exact ⟨rfl, 0, by omega, rfl, by simp⟩
              case round =>
                obtain ⟨rfl, j, hjn, rfl, rfl⟩ := hrel
                by_cases hjl : j < n
                · obtain ⟨b4, off4, y, rfl, hb4, hy, hc4, hyi⟩ := (HX.out.below HOX.out.bel).cellp hjl
                  have htk4 : l.take (j + 1) = l.take j ++ [y] := take_snoc hy
                  have hjj : (0:Int) ≤ (j:Int) ∧ (j:Int) < (n:Int) := by omega
                  by_cases hm4 : z ∈ l.take j
                  · have hd4 : decide (z ∈ l.take j) = true := decide_eq_true hm4
                    have HR4 := Lib.hid (show decide (z ∈ l.take (j + 1)) = true from decide_eq_true (by rw [htk4]; exact List.mem_append_left _ hm4))
                    rw [hd4]
                    clear hy htk4 hm4 hd4
                    go_wp2_with fail
                    go_roundw
                    case rel => exact ⟨trivial, j + 1, by omega, by go_num, by rw [HR4.out]⟩
                    case measure => simp [intOf]; omega
                  · have hd4 : decide (z ∈ l.take j) = false := decide_eq_false hm4
                    by_cases hyz : y = z
                    · have HR4 := Lib.hid (show decide (z ∈ l.take (j + 1)) = true from decide_eq_true (by rw [htk4, hyz]; simp))
                      rw [hd4]
                      subst hyz
                      clear hy htk4 hm4 hd4
                      go_wp2_with fail
                      go_roundw
                      case rel => exact ⟨trivial, j + 1, by omega, by go_num, by rw [HR4.out]⟩
                      case measure => simp [intOf]; omega
                    · have HR4 := Lib.hid (show decide (z ∈ l.take (j + 1)) = false from decide_eq_false (by rw [htk4]; intro h4; rcases List.mem_append.1 h4 with h5 | h5; exact hm4 h5; rw [List.mem_singleton] at h5; exact hyz h5.symm))
                      rw [hd4]
                      have hyb : (y == z) = false := by simpa using hyz
                      clear hy htk4 hm4 hd4
                      go_wp2_with fail
                      go_roundw
                      case rel => exact ⟨trivial, j + 1, by omega, by go_num, by rw [HR4.out]⟩
                      case measure => simp [intOf]; omega
                · obtain rfl : j = n := by omega
                  have htk4 : l.take j = l := List.take_of_length_le (by rw [HX.out.1]; omega)
                  rw [htk4]
                  clear htk4
                  have hdz : decide (z ∈ l) = false := by rw [← HZM.out]; exact HSZ.out
                  rw [hdz]
                  clear hdz
                  obtain ⟨hs0, mm, hmp, hf⟩ := HOX.out.map
                  have HF := Lib.hid hf
                  have HMP := Lib.hid hmp
                  clear hf hmp hs0
                  go_wp2_with (at_delete; refine wpList_drop_map _ rfl _ _ 41 3 rfl 4 Tryz.keyI Tryz.underlying41 _ (Tryz.zeroBo _) lb _ mm rfl HMP.out (.int .i64 z) (.int .i64 z) rfl (key_int z HZI.out) ?_; intro w6 hm6 hg6 hs6; have HO6 := Lib.hid (HOX.out.oa (LSet.drop HOX.out.map.1 HF.out HZI.out hm6 rfl) hg6); clear hm6 hg6 hs6)
                  go_roundw
                  case rel => exact ⟨i + 1, _, by omega, by go_num, HO6.out⟩
                  case measure => simp [intOf]; omega

            · have HSZ := Lib.hid hsz
              clear hsz
              go_wp2_with fail
              refine HAK.out.mono ?_
              rintro e wk ⟨k, rfl, _, hk2, hox⟩
              obtain rfl := (hk2 HQ.out).2 HSZ.out
              have HOX := Lib.hid hox
              clear hk2 hox hc hlen hcq
              go_wp2_with fail
              go_loopw [21, 87] (fun bv jv wx => wx = wk ∧ ∃ j : Nat, j ≤ n ∧ jv = .int .i64 j ∧ bv = .bool (decide (z ∈ l.take j))) (fun _ jv _ => n - (intOf jv).toNat)
              case atStart => exact ⟨rfl, 0, by omega, rfl, by simp⟩
              case round =>
                obtain ⟨rfl, j, hjn, rfl, rfl⟩ := hrel
                by_cases hjl : j < n
                · obtain ⟨b4, off4, y, rfl, hb4, hy, hc4, hyi⟩ := (HX.out.below HOX.out.bel).cellp hjl
                  have htk4 : l.take (j + 1) = l.take j ++ [y] := take_snoc hy
                  have hjj : (0:Int) ≤ (j:Int) ∧ (j:Int) < (n:Int) := by omega
                  by_cases hm4 : z ∈ l.take j
                  · have hd4 : decide (z ∈ l.take j) = true := decide_eq_true hm4
                    have HR4 := Lib.hid (show decide (z ∈ l.take (j + 1)) = true from decide_eq_true (by rw [htk4]; exact List.mem_append_left _ hm4))
                    rw [hd4]
                    clear hy htk4 hm4 hd4
                    go_wp2_with fail
                    go_roundw
                    case rel => exact ⟨trivial, j + 1, by omega, by go_num, by rw [HR4.out]⟩
                    case measure => simp [intOf]; omega
                  · have hd4 : decide (z ∈ l.take j) = false := decide_eq_false hm4
                    by_cases hyz : y = z
                    · have HR4 := Lib.hid (show decide (z ∈ l.take (j + 1)) = true from decide_eq_true (by rw [htk4, hyz]; simp))
                      rw [hd4]
                      subst hyz
                      clear hy htk4 hm4 hd4
                      go_wp2_with fail
                      go_roundw
                      case rel => exact ⟨trivial, j + 1, by omega, by go_num, by rw [HR4.out]⟩
                      case measure => simp [intOf]; omega
                    · have HR4 := Lib.hid (show decide (z ∈ l.take (j + 1)) = false from decide_eq_false (by rw [htk4]; intro h4; rcases List.mem_append.1 h4 with h5 | h5; exact hm4 h5; rw [List.mem_singleton] at h5; exact hyz h5.symm))
                      rw [hd4]
                      have hyb : (y == z) = false := by simpa using hyz
                      clear hy htk4 hm4 hd4
                      go_wp2_with fail
                      go_roundw
                      case rel => exact ⟨trivial, j + 1, by omega, by go_num, by rw [HR4.out]⟩
                      case measure => simp [intOf]; omega
                · obtain rfl : j = n := by omega
                  have htk4 : l.take j = l := List.take_of_length_le (by rw [HX.out.1]; omega)
                  rw [htk4]
                  clear htk4
                  have hdz : decide (z ∈ l) = true := by rw [← HZM.out]; exact HSZ.out
                  rw [hdz]
                  clear hdz
                  obtain ⟨hs0, mm, hmp, hf⟩ := HOX.out.map
                  have HF := Lib.hid hf
                  have HMP := Lib.hid hmp
                  clear hf hmp hs0
                  go_wp2_with (at_delete; refine wpList_drop_map _ rfl _ _ 41 3 rfl 4 Tryz.keyI Tryz.underlying41 _ (Tryz.zeroBo _) lb _ mm rfl HMP.out (.int .i64 z) (.int .i64 z) rfl (key_int z HZI.out) ?_; intro w6 hm6 hg6 hs6; have HO6 := Lib.hid (HOX.out.oa (LSet.drop HOX.out.map.1 HF.out HZI.out hm6 rfl) hg6); clear hm6 hg6 hs6)
                  go_roundw
                  case rel => exact ⟨i + 1, _, by omega, by go_num, HO6.out⟩
                  case measure => simp [intOf]; omega

        · obtain ⟨v, c, ms, hol, _, hcase⟩ := HOA.out
          clear hcase hq0 hbel
          have hfin : ¬ i < n2 := hil
          obtain ⟨v, c, ms, hol, _, ⟨hq, hA, rfl⟩ | ⟨rfl, hD⟩⟩ := HOA.out
          · have HOL := Lib.hid hol
            have HAK := Lib.hid hA
            have hgt : decide (((card q : Nat) : Int) > 0) = true := decide_eq_true (by
              have : ¬ card q = 0 := fun e => hq ((card_pos_all q hol.map.1).1 e)
              omega)
            have hpos : 0 < card q := by
              have : ¬ card q = 0 := fun e => hq ((card_pos_all q hol.map.1).1 e)
              omega
            have hpos2 : (0 : Int) < ((card q : Nat) : Int) := by omega
            have hnz : (((card q : Nat) : Int) == 0) = false := by
              have : ¬ card q = 0 := fun e => hq ((card_pos_all q hol.map.1).1 e)
              simpa using this
            have HNZ := Lib.hid hnz
            clear hnz hol hA hq
            cases crash
            · have HOD := Lib.hid (owed_any wr HOL.out.cs.co)
              go_wp2_with fail
              refine HOD.out.mono ?_
              rintro e wo ⟨u, rfl, ⟨qs, hqs, hrow⟩, hbo⟩
              rw [HAK.out.deb] at hrow hqs
              match qs, hqs with
              | [qq], _ =>
                obtain ⟨ub, ucap, hv, hL⟩ := Lies.owned hrow
                subst hv
                obtain ⟨kb, koff, rfl, hkb, _⟩ := hL.addr (by simp)
                have hc8 : wo.cell? ⟨kb, koff + 8, none⟩ = some (.slice qq.1 (card q) qq.2) := hL.cell (j := 8) rfl
                have HB9 := Lib.hid (HOL.out.bel.trans (hbo.mono HOL.out.bel.size))
                obtain ⟨_, mmo, hmo, _⟩ := HOL.out.map.below hbo
                have hlen2 := hmo.len Tryz.underlying41 3
                have hlenq : ∀ x, (Builtin.len_ #[41] 3 #[.map (some lb)]).run Tryz.prog (wo.drewN x) = .ok (.int .i64 ((card q : Nat) : Int)) (wo.drewN x) := fun x => (hmo.below (below_drewN wo x)).len Tryz.underlying41 3
                have hnz := HNZ.out
                clear hrow hL hbo hmo hlen hgt hqs
                simp only [List.length_singleton]
                go_upto_region 47 with fail
                clear hlen2
                go_quiet (fail)
                go_wp2
                go_ret
                exact ⟨rfl, HB9.out.trans ((below_drewN _ _).mono HB9.out.size)⟩
            · have HCR := Lib.hid (crash_all wr HOL.out.cs)
              go_wp2_with fail
              refine HCR.out.mono ?_
              rintro e wx ⟨rfl, vx, hdx, hchx, hvx⟩
              have HBX := Lib.hid (show Below w.heap.size w wx from HOL.out.bel.trans (hchx.below (fun k hk => by rw [hk]; exact HGE.out) HOL.out.bel.size))
              have HOX := Lib.hid (opened_any wx _ hdx HOL.out.cs.fine HBX.out.size 0 ⟨by omega, by omega⟩)
              have HOB := Lib.hid (show ∀ k, vx.ownBlock = some k → w.heap.size ≤ k from fun k hk => (HOL.out.cs.ge (k := k) (.inr (.inr (.inl (by rw [← hvx]; exact hk))))).1)
              clear hdx hchx hvx HCR hlen
              go_wp2_with fail
              refine HOX.out.mono ?_
              rintro e wy (⟨_, gc2, gl2, c1, c2, c3, vy, rfl, hcy, hchy, _⟩ | ⟨hlt, _⟩)
              rotate_left
              · exfalso
                have h1 : (rcd (bootM (rep 0 [bootM (rep 0 []), oC 6 id0 9 (slist s)]))).length ≤ 29 := boot_len (by simp)
                have h2 := HFT.out
                omega
              have HBY := Lib.hid (show Below w.heap.size w wy from HBX.out.trans (hchy.below (fun k hk => by rcases hk with h | h; exact (by rw [h]; exact HGE.out); exact HOB.out k h) HBX.out.size))
              have HOD := Lib.hid (owed_any wy hcy.co)
              have HDB := Lib.hid (replay_owes (id := id0) hS)
              clear hcy hchy HOX
              go_wp2_with fail
              refine HOD.out.mono ?_
              rintro e wo ⟨u, rfl, ⟨qs, hqs, hrow⟩, hbo⟩
              rw [HDB.out] at hrow hqs
              match qs, hqs with
              | [qq], _ =>
                obtain ⟨ub, ucap, hv, hL⟩ := Lies.owned hrow
                subst hv
                obtain ⟨kb, koff, rfl, hkb, _⟩ := hL.addr (by simp)
                have hc3 : wo.cell? ⟨kb, koff + 3, none⟩ = some (.int .i64 id0) := hL.cell (j := 3) rfl
                have hc4 : wo.cell? ⟨kb, koff + 4, none⟩ = some (.int .i64 9) := hL.cell (j := 4) rfl
                have hc8 : wo.cell? ⟨kb, koff + 8, none⟩ = some (.slice qq.1 (card s) qq.2) := hL.cell (j := 8) rfl
                have HB9 := Lib.hid (HBY.out.trans (hbo.mono HBY.out.size))
                clear hrow hL hbo hqs hgt
                simp only [List.length_singleton]
                go_wp2
                go_ret
                exact ⟨rfl, HB9.out⟩
          · have HOL := Lib.hid hol
            have HDN := Lib.hid hD
            have hc0 : ((card 0 : Nat) : Int) = 0 := rfl
            rw [hc0] at hlen
            clear hol hD hc0
            have HOD := Lib.hid (owed_any wr HOL.out.cs.co)
            go_wp2_with fail
            refine HOD.out.mono ?_
            rintro e wo ⟨u, rfl, ⟨qs, hqs, hrow⟩, hbo⟩
            rw [HDN.out.deb] at hrow
            obtain ⟨ua, uc, rfl, _, _⟩ := owned_anyE hrow
            have hol2 := HOL.out.below hbo
            obtain ⟨_, mmo, hmo, _⟩ := hol2.map
            have hlen2 : (Builtin.len_ #[41] 3 #[.map (some lb)]).run Tryz.prog wo = .ok (.int .i64 0) wo := hmo.len Tryz.underlying41 3
            have hst : stat c id0 = (3, 9) := by
              unfold stat
              rw [HDN.out.bal, HDN.out.deb, HDN.out.don]
              rfl
            have hsa := status_any wo hol2.cs.co id0 HID.out
            rw [hst] at hsa
            have HSA := Lib.hid hsa
            have HB9 := Lib.hid hol2.bel
            clear hrow hbo hmo hlen hst hsa hol2 hqs
            simp only [List.length_nil]
            go_wp2_with fail
            refine HSA.out.mono ?_
            rintro e wz ⟨rfl, hbz⟩
            have HB10 := Lib.hid (HB9.out.trans (hbz.mono HB9.out.size))
            clear hbz
            go_wp2
            go_ret
            exact ⟨rfl, HB10.out⟩
end Go.Proofs.YtcbpgkkkfkkkmaaGreat
