/- watch.Net. -/
import Derived.Test.YteimgebfbnmdcaaHQ
namespace Go.Proofs.Yteimgebfbnmdcaa
open Go.RowKit Go.Shelf
open Go.Maps (Keyed)

/-- The mutations of some tuples that another set hasn't. -/
def sel (d : Bool) (O ss : List Tp) : List Mu := (ss.filter fun t => decide (t ∉ O)).map fun t => ⟨d, t⟩
theorem sel_no {d : Bool} {O ss : List Tp} {t : Tp} (h : t ∈ O) : sel d O (ss ++ [t]) = sel d O ss := by
  unfold sel
  rw [List.filter_append]
  simp [h]
theorem sel_yes {d : Bool} {O ss : List Tp} {t : Tp} (h : t ∉ O) : sel d O (ss ++ [t]) = sel d O ss ++ [⟨d, t⟩] := by
  unfold sel
  rw [List.filter_append, List.map_append]
  simp [h]
theorem sel_len (d : Bool) (O ss : List Tp) : (sel d O ss).length ≤ ss.length := by
  unfold sel
  rw [List.length_map]
  exact List.length_filter_le _ _
theorem below_grown {w w' : World} (h : Below w.heap.size w w') : w.grownBy w' none := ⟨h.os, h.tape, h.output, h.size, fun k hk _ => h.block k hk⟩
theorem set_not_row {w : World} {b : Nat} {S : List Tp} (h : SetAt w b S) {base m size : Nat} {e : TypeId} {v : Value} {xs : List Value} (hr : w.ownsRow base e size v m xs) : some b ≠ v.ownBlock := fun e2 => by
  obtain ⟨m, h1, _⟩ := h.map
  obtain ⟨_, cur, hW⟩ := owned_block hr e2.symm
  exact h1.ne hW rfl
/-- A range over one of two sets, under way. -/
structure NetS (w wr : World) (b1 b2 b r : Nat) (S1 S2 S : List Tp) (D : DataW Value) (left : Lit → Bool) (cnt : Nat) (ss : List Tp) (v : Value) (L : List Mu) : Prop where
  rng : wr.ranges Try.prog 47 heldR b r S.length D left cnt
  s1 : SetAt wr b1 S1
  s2 : SetAt wr b2 S2
  came : Came S left ss
  hl : ∀ kl, left kl = true → Maps.has D kl = true
  out : OutE 51 4 muc w wr v L
  lt1 : b1 < r
  lt2 : b2 < r
  base : w.heap.size ≤ r
section
variable {w wr w' : World} {b1 b2 b r : Nat} {S1 S2 S : List Tp} {D : DataW Value} {left : Lit → Bool} {cnt : Nat} {ss : List Tp} {v : Value} {L : List Mu}
theorem NetS.up (h : NetS w wr b1 b2 b r S1 S2 S D left cnt ss v L) (hb : Below wr.heap.size wr w') : NetS w w' b1 b2 b r S1 S2 S D left cnt ss v L :=
  ⟨h.rng.kept (below_grown hb) (by simp) (by simp), h.s1.below hb, h.s2.below hb, h.came, h.hl, h.out.up hb, h.lt1, h.lt2, h.base⟩
theorem NetS.turn (h : NetS w wr b1 b2 b r S1 S2 S D left cnt ss v L) {left' : Lit → Bool} {cnt' : Nat} {ss' : List Tp} (hr : w'.ranges Try.prog 47 heldR b r S.length D left' cnt') (hg : wr.grownBy w' (some r)) (hc : Came S left' ss') (hl : ∀ kl, left' kl = true → left kl = true) : NetS w w' b1 b2 b r S1 S2 S D left' cnt' ss' v L :=
  ⟨hr, h.s1.kept (hg.block _ h.s1.lt (fun e => by have := h.lt1; injection e; omega)), h.s2.kept (hg.block _ h.s2.lt (fun e => by have := h.lt2; injection e; omega)), hc, fun kl hk => h.hl kl (hl kl hk),
    ⟨h.out.below.grown hg h.out.below.size (fun k e => by injection e with e; rw [← e]; exact h.base), owns_keptN h.out.row (fun k hk => hg.block k (h.out.row.lt k hk).2 (fun e => (row_not_iter h.rng h.out.row).1 (by rw [hk, ← e])))⟩, h.lt1, h.lt2, h.base⟩
theorem NetS.app (h : NetS w wr b1 b2 b r S1 S2 S D left cnt ss v L) {v' : Value} (m : Mu) (hg : wr.grownBy w' v.ownBlock) (hown : w'.ownsRow w.heap.size 51 4 v' (L.length + 1) (L.flatMap muc ++ muc m)) : NetS w w' b1 b2 b r S1 S2 S D left cnt ss v' (L ++ [m]) := by
  have hn := row_not_iter h.rng h.out.row
  exact ⟨h.rng.kept hg hn.2 hn.1, h.s1.kept (hg.block _ h.s1.lt (set_not_row h.s1 h.out.row)), h.s2.kept (hg.block _ h.s2.lt (set_not_row h.s2 h.out.row)), h.came, h.hl, h.out.next m hg hown, h.lt1, h.lt2, h.base⟩
end
theorem set_has {w : World} {b : Nat} {S : List Tp} (hS : SetAt w b S) : ∃ D, w.ownsMap Try.prog 47 heldR b S.length D ∧ Maps.size D = S.length ∧ Came S (Maps.has D) [] ∧ ∀ (key : Value) (kl : Lit), keyOf Try.prog 47 key = some kl → Maps.has D kl = true → ∃ t ∈ S, key = tpV t ∧ kl = kT t := by
  obtain ⟨m, ⟨D, hown, hsz, hv⟩, h2, h3, h4⟩ := hS.map
  have hhas : ∀ {key : Value} {kl : Lit}, keyOf Try.prog 47 key = some kl → Maps.has D kl = (m kl).isSome := fun {key kl} hk => by rw [(mview_eq hown keyT Try.underlying68 (zeroU w) false hk).2, hv]
  refine ⟨D, hown, hsz, ⟨List.nodup_nil, fun t h => by (cases h), fun t ht => by rw [hhas (keyT_of (hS.fits t ht)), h2 t (hS.fits t ht)]; simp [ht]⟩, fun key kl hk hh => ?_⟩
  rw [hhas hk] at hh
  obtain ⟨t, ht, e⟩ := h3 kl hh
  subst e
  exact ⟨t, ht, keyT.inj hk (keyT_of (hS.fits t ht)), rfl⟩
theorem bound_of {S ss : List Tp} {left : Lit → Bool} (h : Came S left ss) : ss.length ≤ S.length := nd_len h.nd h.sub
/-- What Net says. -/
def netP (A B : List Tp) (m : Mu) : Prop := (m.d = true ∧ m.t ∈ A ∧ m.t ∉ B) ∨ (m.d = false ∧ m.t ∈ B ∧ m.t ∉ A)
structure NetO (A B : List Tp) (ms : List Mu) : Prop where
  asc : (ms.map Mu.t).Pairwise fun a b => ltT a b = true
  mem : ∀ m, m ∈ ms ↔ netP A B m

set_option maxRecDepth 100000 in
set_option maxHeartbeats 16000000 in
theorem net_any {w : World} {a0 a : Option Addr} {n0 c0 n c : Nat} {A B : List Tp} (hA : Lies w 47 3 0 a0 n0 c0 (A.flatMap tc)) (hAn : A.length = n0) (hAf : ∀ t ∈ A, t.fits) (hn0 : n0 ≤ 1099511000000) (hB : Lies w 47 3 0 a n c (B.flatMap tc)) (hBn : B.length = n) (hBf : ∀ t ∈ B, t.fits) (hn : n ≤ 1048576) (hn3 : n0 ≤ 1048576) :
    Calls Try.prog 22 #[.slice a0 n0 c0, .slice a n c] w fun e w' => ∃ v, ∃ ms : List Mu, e = .returned v ∧ NetO A B ms ∧ OutE 51 4 muc w w' v ms := by
  obtain ⟨j0, hj0, jz0, jz1, jz2⟩ := info_parts infoMu
  have HSA := Lib.hid (setOf_any hA hAn hAf (by omega))
  have HSB := Lib.hid (fun w1 (hb : Below w.heap.size w w1) => setOf_any (hB.below hb) hBn hBf (by omega))
  obtain ⟨S1, hS1⟩ : ∃ S1, S1 = A.foldl addS [] := ⟨_, rfl⟩
  obtain ⟨S2, hS2⟩ : ∃ S2, S2 = B.foldl addS [] := ⟨_, rfl⟩
  have HM1 := Lib.hid (show ∀ t, t ∈ S1 ↔ t ∈ A from fun t => by rw [hS1, mem_adds]; simp)
  have HM2 := Lib.hid (show ∀ t, t ∈ S2 ↔ t ∈ B from fun t => by rw [hS2, mem_adds]; simp)
  have HL1 := Lib.hid (show S1.length ≤ 1048576 from by have := len_adds [] A; rw [hS1]; simp at this; omega)
  have HL2 := Lib.hid (show S2.length ≤ 1048576 from by have := len_adds [] B; rw [hS2]; simp at this; omega)
  rw [← hS1] at HSA
  rw [← hS2] at HSB
  clear hA hAn hAf hB hBn hBf hS1 hS2 hn hn0 hn3
  go_enter Try.func22, Try.ntmps22
  go_wp2_with fail
  refine HSA.out.mono ?_
  rintro _ w1 ⟨b1, rfl, hs1, hbn1, hb1⟩
  have HS1 := Lib.hid hs1
  have HB1 := Lib.hid hb1
  have HSB := Lib.hid (HSB.out w1 hb1)
  clear hs1 hb1 HSA
  go_wp2_with fail
  refine HSB.out.mono ?_
  rintro _ w2 ⟨b2, rfl, hs2, hbn2, hb2⟩
  have hs1 := HS1.out.below hb2
  have hlt1 := HS1.out.lt
  have hlt2 := hs2.lt
  obtain ⟨D1, hown1, hsz1, hcm1, hh1⟩ := set_has hs1
  have HH1 := Lib.hid hh1
  have HC1 := Lib.hid hcm1
  have HF1 := Lib.hid hs1.fits
  have HF2 := Lib.hid hs2.fits
  have HND1 := Lib.hid hs1.nd
  have HND2 := Lib.hid hs2.nd
  have HS1 := Lib.hid hs1
  have HS2 := Lib.hid hs2
  have HB2 := Lib.hid (bell_up HB1.out hb2)
  have HSZ := Lib.hid hsz1
  clear hs1 hs2 hcm1 hh1 hb2 HB1 HSB hsz1
  go_wp2_with (first | (at_range; refine wpList_range_own _ rfl _ 68 rfl 47 93 keyT Try.underlying68 heldR b1 S1.length D1 rfl hown1 ?_; intro w3 hrg1 hg1 hs1) | go_in)
  go_frame
  have HG1 := Lib.hid (show NetS w w3 b1 b2 b1 w2.heap.size S1 S2 S1 D1 (Maps.has D1) (Maps.size D1) [] (.slice none 0 0) (sel true S2 []) from
    ⟨hrg1, HS1.out.kept (hg1.block _ HS1.out.lt (by simp)), HS2.out.kept (hg1.block _ HS2.out.lt (by simp)), HC1.out, fun _ h => h, ⟨HB2.out.grown hg1 HB2.out.size (by simp), World.ownsRow_nil _ _ _ _⟩, HS1.out.lt, HS2.out.lt, HB2.out.size⟩)
  clear hown1 hrg1 hg1 hs1
  obtain ⟨r1, hr⟩ : ∃ r, r = w2.heap.size := ⟨_, rfl⟩
  rw [← hr] at HG1 ⊢
  clear hr
  go_loopw [7, 8] (fun v _ wr => ∃ left cnt ss Q, Hid (Q = sel true S2 ss) ∧ NetS w wr b1 b2 b1 r1 S1 S2 S1 D1 left cnt ss v Q) (fun _ _ wr => wr.rangeLeft b1 r1)
  case atStart => exact ⟨_, _, [], _, rfl, HG1.out⟩
  case round =>
    clear HG1
    obtain ⟨left, cnt, ss, Q, HQ, hG⟩ := hrel
    have HG := Lib.hid hG
    have hrg := hG.rng
    obtain ⟨ra, rc, rfl, _, _⟩ := owned_anyE hG.out.row
    have hl1 := HL1.out
    have hl2 := HL2.out
    clear hG
    go_wp2_with (first | (at_next; refine wpList_next_ranges (α := Value) (β := Value) _ rfl (.tmp 15) rfl 47 keyT heldR id id (fun key kl _ => ⟨key, rfl⟩) (fun v y _ => ⟨v, rfl⟩) b1 _ S1.length D1 left cnt rfl hrg ?_ ?_) | go_in)
    · intro _ hl0
      have HP1 := Lib.hid (HG.out.came.perm HND1.out hl0)
      obtain ⟨P, hP⟩ : ∃ P, P = Q := ⟨_, rfl⟩
      subst hP
      have HPE := Lib.hid (show P = sel true S2 ss from HQ.out)
      have HPL := Lib.hid (show P.length ≤ 1048576 from by rw [HPE.out]; have := sel_len true S2 ss; have := HP1.out.length_eq; omega)
      obtain ⟨D2, hown2, hsz2, hcm2, hh2⟩ := set_has HG.out.s2
      have HH2 := Lib.hid hh2
      have HC2 := Lib.hid hcm2
      have HG2 := Lib.hid HG.out
      clear hcm2 hh2 hrg hl0 HG hsz2 HQ
      go_wp2_with (first | (at_range; refine wpList_range_own _ rfl _ 68 rfl 47 93 keyT Try.underlying68 heldR b2 S2.length D2 rfl hown2 ?_; intro w4 hrg2 hg2 hs2) | go_in)
      go_frame
      have HG3 := Lib.hid (show NetS w w4 b1 b2 b2 wr.heap.size S1 S2 S2 D2 (Maps.has D2) (Maps.size D2) [] (.slice ra P.length rc) P from by
        exact ⟨hrg2, HG2.out.s1.kept (hg2.block _ HG2.out.s1.lt (by simp)), HG2.out.s2.kept (hg2.block _ HG2.out.s2.lt (by simp)), HC2.out, fun _ h => h, ⟨HG2.out.out.below.grown hg2 HG2.out.out.below.size (by simp), owns_keptN HG2.out.out.row (fun k hk => hg2.block k (HG2.out.out.row.lt k hk).2 (by simp))⟩, HG2.out.s1.lt, HG2.out.s2.lt, HG2.out.out.below.size⟩)
      clear hown2 hrg2 hg2 hs2
      obtain ⟨r2, hr2⟩ : ∃ r, r = wr.heap.size := ⟨_, rfl⟩
      rw [← hr2] at HG3 ⊢
      clear hr2 HG2
      go_loopw [7, 9] (fun v _ wr => ∃ left cnt ss Q, Hid (Q = P ++ sel false S1 ss) ∧ NetS w wr b1 b2 b2 r2 S1 S2 S2 D2 left cnt ss v Q) (fun _ _ wr => wr.rangeLeft b2 r2)
      case atStart =>
        exact ⟨_, _, [], P, (show P = P ++ sel false S1 [] by simp [sel]), HG3.out⟩
      case round =>
        clear HG3
        obtain ⟨left, cnt, ss, Q, HQ, hG⟩ := hrel
        have HG := Lib.hid hG
        have hrg := hG.rng
        obtain ⟨ra, rc, rfl, _, _⟩ := owned_anyE hG.out.row
        clear hG
        go_wp2_with (first | (at_next; refine wpList_next_ranges (α := Value) (β := Value) _ rfl (.tmp 30) rfl 47 keyT heldR id id (fun key kl _ => ⟨key, rfl⟩) (fun v y _ => ⟨v, rfl⟩) b2 _ S2.length D2 left cnt rfl hrg ?_ ?_) | go_in)
        · intro _ hl0
          have hp2 := HG.out.came.perm HND2.out hl0
          have hms : ∀ m : Mu, m ∈ Q ↔ netP A B m := fun m => by
            rw [HQ.out, HPE.out]
            unfold sel netP
            simp only [List.mem_append, List.mem_map, List.mem_filter, decide_eq_true_eq, HP1.out.mem_iff, hp2.mem_iff, HM1.out, HM2.out]
            constructor
            · rintro (⟨t, ⟨h1, h2⟩, rfl⟩ | ⟨t, ⟨h1, h2⟩, rfl⟩)
              · exact .inl ⟨rfl, h1, h2⟩
              · exact .inr ⟨rfl, h1, h2⟩
            · obtain ⟨d, t⟩ := m
              rintro (⟨rfl, h1, h2⟩ | ⟨rfl, h1, h2⟩)
              · exact .inl ⟨t, ⟨h1, h2⟩, rfl⟩
              · exact .inr ⟨t, ⟨h1, h2⟩, rfl⟩
          have hnd : (Q.map Mu.t).Nodup := by
            rw [HQ.out, HPE.out]
            unfold sel
            rw [List.map_append, List.map_map, List.map_map]
            have e : ∀ d : Bool, (Mu.t ∘ fun t => (⟨d, t⟩ : Mu)) = id := fun d => rfl
            rw [e, e, List.map_id, List.map_id]
            refine List.nodup_append.2 ⟨(HP1.out.nodup_iff.2 HND1.out).filter _, (hp2.nodup_iff.2 HND2.out).filter _, fun x hx y hy e => ?_⟩
            subst e
            have h1 := (List.mem_filter.1 hx)
            have h2 := (List.mem_filter.1 hy)
            have h3 := h1.2
            simp only [decide_eq_true_eq] at h3
            exact h3 (hp2.mem_iff.1 h2.1)
          have hln : Q.length ≤ 1099511627776 := by
            rw [HQ.out]; have := HPL.out; have := sel_len false S1 ss; have := hp2.length_eq
            rw [List.length_append]; omega
          have HSM := Lib.hid (sortM HG.out.out.row hnd hln)
          have HMS := Lib.hid hms
          have HO := Lib.hid HG.out.out
          clear hms hnd hln hp2 hl0 HG hrg
          go_wp2_with fail
          refine HSM.out.mono ?_
          rintro _ w9 ⟨rfl, ms, q1, q2, q3, q4⟩
          have HE := Lib.hid (show NetO A B ms ∧ OutE 51 4 muc w w9 (.slice ra Q.length rc) ms from ⟨⟨q2, fun m => by rw [q1.mem_iff]; exact HMS.out m⟩, HO.out.below.grown q4 HO.out.below.size (fun k e => (HO.out.row.lt k e).1), q3⟩)
          clear q1 q2 q3 q4
          go_wp2
          go_ret
          exact ⟨_, ms, rfl, HE.out⟩
        · intro x cv kl y1 y2 w5 cnt1 hkx hlx hv hat hrg1 hg1l hg1 hs1 hen
          obtain ⟨t, htS, hx, rfl⟩ := HH2.out _ _ hkx (HG.out.hl _ hlx)
          have hx2 : x = tpV t := hx
          subst hx2
          have hfit := HF2.out t htS
          have hcl := bound_of HG.out.came
          have hql : Q.length ≤ 3000000 := by
            have := sel_len false S1 ss
            rw [HQ.out, List.length_append]
            have := HPL.out
            omega
          have HG5 := Lib.hid (HG.out.turn hrg1 hg1 (HG.out.came.step HF2.out htS hlx) (fun kl h => by simp at h; exact h.1))
          have HLT := Lib.hid hg1l
          have HRG := Lib.hid HG.out.rng
          obtain ⟨q, hq⟩ : ∃ q, q = w5.heap.size := ⟨_, rfl⟩
          obtain ⟨W6, hW6⟩ : ∃ W6, W6 = w5.alloc (.cells #[.string t.o, .string t.r, .string t.u] 47) := ⟨_, rfl⟩
          have hb6 : Below w5.heap.size w5 W6 := by rw [hW6]; exact below_alloc _ _
          have hX6 : Whole W6 q 47 #[.string t.o, .string t.r, .string t.u] := by rw [hW6, hq]; exact heap_alloc_new _ _
          have c0 : W6.cell? ⟨q, 0, none⟩ = some (.string t.o) := hX6.cell 0
          have c1 : W6.cell? ⟨q, 1, none⟩ = some (.string t.r) := hX6.cell 1
          have c2 : W6.cell? ⟨q, 2, none⟩ = some (.string t.u) := hX6.cell 2
          have HG6 := Lib.hid (HG5.out.up hb6)
          have HX6 := Lib.hid hX6
          have HHS := Lib.hid (has_any HG6.out.s1 hfit)
          have hn1 : Q.length + 1 ≤ maxLen := by unfold maxLen; omega
          have hn2 : (Q.length + 1) * 56 ≤ 140737488355328 := by omega
          clear hkx hat hrg1 hg1 hs1 hg1l hv hX6 hb6 hcl hlx hrg hql
          go_upto_region 11 with fail
          rw [← hq, ← hW6]
          clear hq hW6 hen
          go_wp2_with fail
          refine HHS.out.mono ?_
          rintro _ w7 ⟨rfl, hb7⟩
          have HG7 := Lib.hid (HG6.out.up hb7)
          have hX7 := HX6.out.kept (hb7.block _ HX6.out.lt)
          have d0 : w7.cell? ⟨q, 0, none⟩ = some (.string t.o) := hX7.cell 0
          have d1 : w7.cell? ⟨q, 1, none⟩ = some (.string t.r) := hX7.cell 1
          have d2 : w7.cell? ⟨q, 2, none⟩ = some (.string t.u) := hX7.cell 2
          have HBS := Lib.hid (show w.heap.size ≤ w7.heap.size from HG7.out.out.below.size)
          clear hb7 hX7 c0 c1 c2 HHS HG6 HG5
          by_cases hO : t ∈ S1
          · have hd : decide (t ∈ S1) = true := decide_eq_true hO
            have HN := Lib.hid (show NetS w w7 b1 b2 b2 r2 S1 S2 S2 D2 (fun z => left z && !z.sameKey (kT t)) cnt1 (ss ++ [t]) (.slice ra Q.length rc) Q from HG7.out)
            have HQ2 : Hid (Q = P ++ sel false S1 (ss ++ [t])) := by show _ = _; rw [sel_no hO]; exact HQ.out
            clear hO
            go_wp2
            go_roundw
            case rel => exact ⟨_, _, _, _, HQ2, HN.out⟩
            case measure => rw [HN.out.rng.left_eq, HRG.out.left_eq]; exact HLT.out
          · have hd : decide (t ∈ S1) = false := decide_eq_false hO
            have HQ2 : Hid (Q ++ [⟨false, t⟩] = P ++ sel false S1 (ss ++ [t])) := by show _ = _; rw [sel_yes hO, HQ.out, List.append_assoc]
            clear hO
            go_wp2_with (at_builtin; refine wpList_append_own_at _ rfl (.tmp 39) (.tmp 42) 43 rfl w.heap.size 51 j0 (.agg #[.bool false, .string ⟨#[]⟩, .string ⟨#[]⟩, .string ⟨#[]⟩]) 4 56 Try.underlying43 hj0 jz0 jz1 jz2 rfl (by decide) (.slice ra Q.length rc) Q.length (Q.flatMap muc) rfl (HG7.out.out.row.alloc _) ⟨w7.heap.size, 0, none⟩ 1 1 [.bool false, .string t.o, .string t.r, .string t.u] rfl rfl (fourE_new w7 _ _ _ _ 51) (by simp [Value.oneCell']) hn1 hn2 (by have := HBS.out; simp; omega) ?_; intro v' w8 hown8 hgr8 _ _
                         have HN := Lib.hid (show NetS w w8 b1 b2 b2 r2 S1 S2 S2 D2 (fun z => left z && !z.sameKey (kT t)) cnt1 (ss ++ [t]) v' (Q ++ [⟨false, t⟩]) from (HG7.out.up (below_alloc _ _)).app ⟨false, t⟩ hgr8 hown8)
                         clear hown8 hgr8)
            go_roundw
            case rel => exact ⟨_, _, _, _, HQ2, HN.out⟩
            case measure => rw [HN.out.rng.left_eq, HRG.out.left_eq]; exact HLT.out

    · intro x cv kl y1 y2 w5 cnt1 hkx hlx hv hat hrg1 hg1l hg1 hs1 hen
      obtain ⟨t, htS, hx, rfl⟩ := HH1.out _ _ hkx (HG.out.hl _ hlx)
      have hx2 : x = tpV t := hx
      subst hx2
      have hfit := HF1.out t htS
      have hcl := bound_of HG.out.came
      have hql : Q.length ≤ 3000000 := by
        have := sel_len true S2 ss
        rw [HQ.out]
        skip
        omega
      have HG5 := Lib.hid (HG.out.turn hrg1 hg1 (HG.out.came.step HF1.out htS hlx) (fun kl h => by simp at h; exact h.1))
      have HLT := Lib.hid hg1l
      have HRG := Lib.hid HG.out.rng
      obtain ⟨q, hq⟩ : ∃ q, q = w5.heap.size := ⟨_, rfl⟩
      obtain ⟨W6, hW6⟩ : ∃ W6, W6 = w5.alloc (.cells #[.string t.o, .string t.r, .string t.u] 47) := ⟨_, rfl⟩
      have hb6 : Below w5.heap.size w5 W6 := by rw [hW6]; exact below_alloc _ _
      have hX6 : Whole W6 q 47 #[.string t.o, .string t.r, .string t.u] := by rw [hW6, hq]; exact heap_alloc_new _ _
      have c0 : W6.cell? ⟨q, 0, none⟩ = some (.string t.o) := hX6.cell 0
      have c1 : W6.cell? ⟨q, 1, none⟩ = some (.string t.r) := hX6.cell 1
      have c2 : W6.cell? ⟨q, 2, none⟩ = some (.string t.u) := hX6.cell 2
      have HG6 := Lib.hid (HG5.out.up hb6)
      have HX6 := Lib.hid hX6
      have HHS := Lib.hid (has_any HG6.out.s2 hfit)
      have hn1 : Q.length + 1 ≤ maxLen := by unfold maxLen; omega
      have hn2 : (Q.length + 1) * 56 ≤ 140737488355328 := by omega
      clear hkx hat hrg1 hg1 hs1 hg1l hv hX6 hb6 hcl hlx hrg hql
      go_upto_region 6 with fail
      rw [← hq, ← hW6]
      clear hq hW6 hen
      go_wp2_with fail
      refine HHS.out.mono ?_
      rintro _ w7 ⟨rfl, hb7⟩
      have HG7 := Lib.hid (HG6.out.up hb7)
      have hX7 := HX6.out.kept (hb7.block _ HX6.out.lt)
      have d0 : w7.cell? ⟨q, 0, none⟩ = some (.string t.o) := hX7.cell 0
      have d1 : w7.cell? ⟨q, 1, none⟩ = some (.string t.r) := hX7.cell 1
      have d2 : w7.cell? ⟨q, 2, none⟩ = some (.string t.u) := hX7.cell 2
      have HBS := Lib.hid (show w.heap.size ≤ w7.heap.size from HG7.out.out.below.size)
      clear hb7 hX7 c0 c1 c2 HHS HG6 HG5
      by_cases hO : t ∈ S2
      · have hd : decide (t ∈ S2) = true := decide_eq_true hO
        have HN := Lib.hid (show NetS w w7 b1 b2 b1 r1 S1 S2 S1 D1 (fun z => left z && !z.sameKey (kT t)) cnt1 (ss ++ [t]) (.slice ra Q.length rc) Q from HG7.out)
        have HQ2 : Hid (Q = sel true S2 (ss ++ [t])) := by show _ = _; rw [sel_no hO]; exact HQ.out
        clear hO
        go_wp2
        go_roundw
        case rel => exact ⟨_, _, _, _, HQ2, HN.out⟩
        case measure => rw [HN.out.rng.left_eq, HRG.out.left_eq]; exact HLT.out
      · have hd : decide (t ∈ S2) = false := decide_eq_false hO
        have HQ2 : Hid (Q ++ [⟨true, t⟩] = sel true S2 (ss ++ [t])) := by show _ = _; rw [sel_yes hO, HQ.out]
        clear hO
        go_wp2_with (at_builtin; refine wpList_append_own_at _ rfl (.tmp 24) (.tmp 27) 43 rfl w.heap.size 51 j0 (.agg #[.bool false, .string ⟨#[]⟩, .string ⟨#[]⟩, .string ⟨#[]⟩]) 4 56 Try.underlying43 hj0 jz0 jz1 jz2 rfl (by decide) (.slice ra Q.length rc) Q.length (Q.flatMap muc) rfl (HG7.out.out.row.alloc _) ⟨w7.heap.size, 0, none⟩ 1 1 [.bool true, .string t.o, .string t.r, .string t.u] rfl rfl (fourE_new w7 _ _ _ _ 51) (by simp [Value.oneCell']) hn1 hn2 (by have := HBS.out; simp; omega) ?_; intro v' w8 hown8 hgr8 _ _
                     have HN := Lib.hid (show NetS w w8 b1 b2 b1 r1 S1 S2 S1 D1 (fun z => left z && !z.sameKey (kT t)) cnt1 (ss ++ [t]) v' (Q ++ [⟨true, t⟩]) from (HG7.out.up (below_alloc _ _)).app ⟨true, t⟩ hgr8 hown8)
                     clear hown8 hgr8)
        go_roundw
        case rel => exact ⟨_, _, _, _, HQ2, HN.out⟩
        case measure => rw [HN.out.rng.left_eq, HRG.out.left_eq]; exact HLT.out
end Go.Proofs.Yteimgebfbnmdcaa
