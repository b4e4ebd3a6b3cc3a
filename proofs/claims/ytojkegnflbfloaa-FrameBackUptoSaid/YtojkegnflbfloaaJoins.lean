/- FrameJoins: what is cut from frames and from what follows is cut from both together. -/
import Derived.Test.YtojkegnflbfloaaTexts
import Derived.Test.YtojkegnflbfloaaBulk
import Derived.BigFrame
namespace Go.Proofs.Ytojkegnflbfloaa
open Go.RowKit

theorem wd_append (xs r : List Int) (h : 4 ≤ xs.length) : wd (xs ++ r) 4 = wd xs 4 := by
  apply wd_congr
  intro i hi
  simp only [List.getD]
  rw [List.getElem?_append_left (by omega)]
theorem pay_append {xs : List Int} (h : err xs = 0) (r : List Int) : pay (xs ++ r) = pay xs := by
  obtain ⟨h1, h2, h3, _⟩ := err_zero h
  rw [pay, wd_append _ _ (by omega), List.drop_append_of_le_length (by omega), List.take_append_of_le_length (by simp; omega)]
  rfl
theorem err_append {xs : List Int} (h : err xs = 0) (r : List Int) : err (xs ++ r) = 0 := by
  obtain ⟨h1, h2, h3, h4⟩ := err_zero h
  have e1 : ((xs ++ r).drop 0).take 4 = (xs.drop 0).take 4 := by
    rw [List.drop_zero, List.drop_zero, List.take_append_of_le_length (by omega)]
  have e2 : wd ((xs ++ r).drop 4) 4 = wd (xs.drop 4) 4 := by
    rw [List.drop_append_of_le_length (by omega), wd_append _ _ (by simp; omega)]
  unfold err
  rw [if_neg (by simp; omega), wd_append _ _ (by omega), if_neg (by omega), if_neg (by simp; omega), pay_append h, e1, e2, if_pos h4]
theorem cutAll_short : ∀ (m : Nat) (xs : List Int), xs.length ≤ m → (cutAll xs).2.1 ≤ xs.length ∧ (8 * (cutAll xs).1.length ≤ xs.length) ∧ ((cutAll xs).2.2 = 0 → (cutAll xs).2.1 = xs.length) ∧ ((cutAll xs).2.2 ≠ 0 → (cutAll xs).2.1 < xs.length) ∧ ∀ p ∈ (cutAll xs).1, p.length ≤ xs.length := by
  intro m
  induction m with
  | zero =>
    intro xs h
    rw [cutAll_nil (by omega)]
    refine ⟨by simp, by simp, fun _ => ?_, fun h => absurd rfl h, by simp⟩
    show 0 = xs.length
    omega
  | succ m ih =>
    intro xs h
    rcases Nat.eq_zero_or_pos xs.length with h0 | h0
    · rw [cutAll_nil h0]
      exact ⟨by simp, by simp, fun _ => h0.symm, fun h => absurd rfl h, by simp⟩
    · by_cases he : err xs = 0
      · obtain ⟨h1, h2, h3, h4⟩ := err_zero he
        obtain ⟨a1, a2, a3, a4, a5⟩ := ih (xs.drop (8 + wd xs 4)) (by simp; omega)
        rw [cutAll_step he]
        simp only [List.length_drop, List.length_cons] at a1 a2 a3 a4 a5 ⊢
        refine ⟨by omega, by omega, fun h => ?_, fun h => ?_, ?_⟩
        · have := a3 h; omega
        · have := a4 h; omega
        · intro p hp
          rcases List.mem_cons.1 hp with rfl | hp
          · rw [pay_length he]; omega
          · have := a5 p hp; omega
      · rw [cutAll_bad h0 he]
        exact ⟨by simp, by simp, fun h => absurd h he, fun _ => h0, by simp⟩
theorem cutAll_append : ∀ (m : Nat) (xs r : List Int), xs.length ≤ m → (cutAll xs).2.2 = 0 → cutAll (xs ++ r) = joinCut (cutAll xs).1 xs.length (cutAll r) := by
  intro m
  induction m with
  | zero =>
    intro xs r h _
    have h0 : xs = [] := List.eq_nil_of_length_eq_zero (by omega)
    subst h0
    simp [joinCut, cutAll_nil]
  | succ m ih =>
    intro xs r h hz
    rcases Nat.eq_zero_or_pos xs.length with h0 | h0
    · have h0 : xs = [] := List.eq_nil_of_length_eq_zero h0
      subst h0
      simp [joinCut, cutAll_nil]
    · by_cases he : err xs = 0
      · obtain ⟨h1, h2, h3, h4⟩ := err_zero he
        have hz2 := hz
        rw [cutAll_step he] at hz2
        have hi := ih (xs.drop (8 + wd xs 4)) r (by simp; omega) hz2
        rw [cutAll_step (err_append he r), wd_append _ _ (by omega), pay_append he, List.drop_append_of_le_length (by omega), hi, cutAll_step he]
        simp [joinCut]
        omega
      · rw [cutAll_bad h0 he] at hz
        exact absurd hz he

theorem owns_news {w : World} {base n : Nat} {e : TypeId} {v : Value} {L : List Value} (h : w.ownsRow base e 1 v n L) :
    ∃ a c, v = .slice a n c ∧ (a = none → n = 0 ∧ c = 0) ∧ ∀ ad, a = some ad → ∀ j u, L[j]? = some u → w.cell? (ad.add j) = some u := by
  rcases h.2 with ⟨rfl, h0⟩ | ⟨g, cap, cur, rfl, _⟩
  · subst h0
    exact ⟨none, 0, rfl, fun _ => ⟨rfl, rfl⟩, fun ad h => by cases h⟩
  · refine ⟨_, _, rfl, (fun h => by cases h), fun ad had j u hu => ?_⟩
    injection had with had
    subst had
    exact h.cells (g := g) rfl j u hu
theorem RowOf.below {w w' : World} {v : Value} {P : List (List Int)} (h : RowOf w v P) (hb : Below w.heap.size w w') : RowOf w' v P := by
  obtain ⟨a, n, c, h1, h2, h3⟩ := h
  refine ⟨a, n, c, h1, h2, h3.imp_right ?_⟩
  rintro ⟨g, h4, h5⟩
  refine ⟨g, h4, fun i hi => ?_⟩
  obtain ⟨u, h6, h7⟩ := h5 i hi
  exact ⟨u, (hb.cell (p := ⟨g, i, none⟩) (World.block_lt_of_cell? w _ h6)).trans h6, h7.ext hb⟩
theorem strsOf_append (P Q : List (List Int)) : strsOf P ++ strsOf Q = strsOf (P ++ Q) := by simp [strsOf]
theorem strsOf_length (P : List (List Int)) : (strsOf P).length = P.length * 1 := by simp [strsOf]
theorem strsOf_one (P : List (List Int)) : ∀ u ∈ strsOf P, u.oneCell' = true := by
  intro u hu
  obtain ⟨x, _, rfl⟩ := List.mem_map.1 hu
  rfl

/-- The same law at an operation that its guard lets through. -/
theorem wpList_append_own_want {P : Program} (w : World) {ops : Array Oper} {rest : List Oper} {o : Oper} {a : Act} {Q : Exit → Act → World → Prop} (hw : Region.wanted o (yielded ops a.tmps) = true) (s x : Operand) (t : TypeId)
    (ho : o.op = .call { callee := .builtin .append, args := #[s, x], argTypes := #[t, t] })
    (base : Nat) (e : TypeId) (i : TypeInfo) (z : Value) (size bytes : Nat) (ht : P.underlying t = some (.slice e)) (hi : P.info? e = some i) (hz : i.zero = some z)
    (hsize : i.size = size) (hby : i.bytes = bytes) (hzs : z.cells.size = size) (hsz : 0 < size)
    (v : Value) (n : Nat) (xs : List Value) (hs : a.eval s = v) (hown : w.ownsRow base e size v n xs)
    (ao : Option Addr) (m c : Nat) (news : List Value) (hx : a.eval x = .slice ao m c) (hl : news.length = m * size) (hnone : ao = none → m = 0 ∧ c = 0)
    (hnews : ∀ ad, ao = some ad → ∀ j u, news[j]? = some u → w.cell? (ad.add j) = some u) (h1 : ∀ u ∈ news, u.oneCell' = true)
    (h63 : n + m ≤ maxLen) (hbytes : (n + m) * bytes ≤ 140737488355328) (hbase : base ≤ w.heap.size)
    (h : ∀ v' w', w'.ownsRow base e size v' (n + m) (xs ++ news) → w.grownBy w' v.ownBlock → wpList P ops Q rest (a.put o.dst v') w') : wpList P ops Q (o :: rest) a w := by
  refine Go.BigFrame.wpList_want hw fun K hK => ?_
  cases ao with
  | some ad => exact wp_append_own w s x t ho base e i z size bytes ht hi hz hsize hby hzs hsz v n xs hs hown ad m c news hx hl (hnews ad rfl) h1 h63 hbytes hbase fun v' w' h2 h3 _ => hK _ _ (h v' w' h2 h3)
  | none =>
    obtain ⟨rfl, rfl⟩ := hnone rfl
    have hn : news = [] := List.eq_nil_of_length_eq_zero (by simpa using hl)
    subst hn
    have hrun := run_append_owned_none (P := P) (w := w) base t o.type e i size ht hi v n xs hown
    have hgo := h v w (by simpa using hown) (World.grownBy.refl _ _)
    unfold Oper.wp
    simp [execOp, ho, resolve, invoke, builtin, hs, hx, hrun, Result.andThen]
    exact hK _ _ hgo

set_option maxHeartbeats 4000000 in
theorem joins_core (a1 a2 : Option Addr) (n1 c1 n2 c2 : Nat) (x1 x2 : List Int) (w : World) (h1 : IsB w a1 n1 x1) (h2 : IsB w a2 n2 x2) (z1 : a1 = none → n1 = 0 ∧ c1 = 0) (z2 : a2 = none → n2 = 0 ∧ c2 = 0)
    (k1 : n1 ≤ c1) (k2 : n2 ≤ c2) (r1 : c1 ≤ 1048576) (r2 : c2 ≤ 1048576) :
    Calls Try.prog 9 #[.slice a1 n1 c1, .slice a2 n2 c2] w fun e w' => e = .returned (.bool true) ∧ Below w.heap.size w w' := by
  obtain ⟨i0, hi, hz0, hz1, hz2⟩ := info_parts Try.infoB
  obtain ⟨j0, hj, jz0, jz1, jz2⟩ := info_parts Try.infoT
  have H1 := Lib.hid h1
  have H2 := Lib.hid h2
  have Z1 := Lib.hid z1
  have Z2 := Lib.hid z2
  have l1 := h1.1
  have l2 := h2.1
  have C1 := Lib.hid (cutAll_short _ x1 (Nat.le_refl _))
  have C2 := Lib.hid (cutAll_short _ x2 (Nat.le_refl _))
  have L1 := Lib.hid l1
  have L2 := Lib.hid l2
  clear h1 h2 z1 z2 l1 l2
  go_enter Try.func9, Try.ntmps9
  go_wp2_with fail
  refine (awake_any w).mono ?_
  rintro e w1 ⟨rfl, hb1⟩
  have q1 := H1.out.below hb1
  have HB1 := Lib.hid hb1
  have Q1 := Lib.hid q1
  clear hb1 q1
  go_wp2_with fail
  refine (cut_any a1 n1 c1 x1 _ Q1.out k1 (by unfold maxLen; omega) (by omega)).mono ?_
  rintro e w2 ⟨hb2, v1, rfl, hp1⟩
  have b2 := HB1.out.trans (hb2.mono HB1.out.size)
  have HB2 := Lib.hid b2
  have q2 := H2.out.below b2
  have Q2 := Lib.hid q2
  have P1 := Lib.hid hp1
  clear hb2 b2 q2 hp1
  go_wp2_with fail
  refine (cut_any a2 n2 c2 x2 _ Q2.out k2 (by unfold maxLen; omega) (by omega)).mono ?_
  rintro e w3 ⟨hb3, v2, rfl, hp2⟩
  have b3 := HB2.out.trans (hb3.mono HB2.out.size)
  have HB3 := Lib.hid b3
  have P1' := Lib.hid (P1.out.below hb3)
  have P2 := Lib.hid hp2
  clear hb3 b3 hp2
  by_cases he : (cutAll x1).2.2 = 0
  · have e1 := C1.out.2.2.1 he
    have hsz3 := HB3.out.size
    have hmade := World.ownsRow_made (base := w3.heap.size) (e := 5) (size := 1) w3 #[] 0 (Nat.le_refl _) (by simp [maxLen]) rfl
    have HM := Lib.hid hmade
    have x1' := (H1.out.below HB3.out).alloc (.cells #[] 5)
    have N1 := Lib.hid x1'.news
    have M1 := Lib.hid (show (x1.map (Value.int .u8)).length = n1 * 1 by simpa using L1.out)
    have M2 := Lib.hid (show (x2.map (Value.int .u8)).length = n2 * 1 by simpa using L2.out)
    have CA := Lib.hid (cutAll_append _ x1 x2 (Nat.le_refl _) he)
    have b4 := (Below.refl w3.heap.size w3).alloc (Nat.le_refl _) (.cells #[] 5)
    have HB4 := Lib.hid b4
    have HE := Lib.hid e1
    have HE0 := Lib.hid he
    rw [e1, he, L1.out]
    clear hmade x1' b4 e1 he
    go_wp2_with (first
      | (at_builtin; refine wpList_append_own_any _ rfl (.tmp 35) (.tmp 36) 22 rfl w3.heap.size 5 i0 (.int .u8 0) 1 1 Try.underlying22 hi hz0 hz1 hz2 rfl (by decide) _ 0 [] rfl HM.out a1 n1 c1 (x1.map (Value.int .u8)) rfl M1.out Z1.out N1.out (oneCell_map x1) (by unfold maxLen; omega) (by omega) (by simp) ?_; intro v3 w4 hown4 hgrow4; have hb4 := Lib.hid (HB4.out.grown hgrow4 (by simp) (fun q hq => (HM.out.lt q hq).1)); have hn4 := Lib.hid ((H2.out.below HB3.out).below hb4.out).news; have hs4 := hb4.out.size)
      | (at_builtin; refine wpList_append_own_any _ rfl (.tmp 37) (.tmp 38) 22 rfl w3.heap.size 5 i0 (.int .u8 0) 1 1 Try.underlying22 hi hz0 hz1 hz2 rfl (by decide) _ (0 + n1) _ rfl hown4 a2 n2 c2 (x2.map (Value.int .u8)) rfl M2.out Z2.out hn4.out (oneCell_map x2) (by unfold maxLen; omega) (by omega) hs4 ?_; intro v4 w5 hown5 hgrow5))
    have hmm : x1.map (Value.int .u8) ++ x2.map (Value.int .u8) = (x1 ++ x2).map (Value.int .u8) := by simp
    rw [List.nil_append, hmm, Nat.zero_add] at hown5
    have hby : ∀ x ∈ x1 ++ x2, 0 ≤ x ∧ x < 256 := by
      intro x hx
      rcases List.mem_append.1 hx with h | h
      · exact H1.out.2.1 x h
      · exact H2.out.2.1 x h
    have hb35 := hb4.out.grown hgrow5 hs4 (fun q hq => (hown4.lt q hq).1)
    have hb5 := HB3.out.trans (hb35.mono hsz3)
    obtain ⟨a4, c4, rfl, hi4, _, hnc4, hcm4⟩ := owned_slice hown5 hby
    have HB5 := Lib.hid hb5
    have HI4 := Lib.hid hi4
    have P1a := Lib.hid (P1'.out.below hb35)
    have P2a := Lib.hid (P2.out.below hb35)
    clear hmm hown5 hown4 hgrow4 hgrow5 hby hb5 hb35 hi4 hs4
    refine (cut_any a4 (n1 + n2) c4 (x1 ++ x2) _ HI4.out hnc4 hcm4 (by omega)).mono ?_
    rintro e w6 ⟨hb6, v5, rfl, hp5⟩
    rw [CA.out] at hp5 ⊢
    simp only [joinCut] at hp5 ⊢
    rw [L1.out]
    have hd2 := C2.out.2.2.2.2
    have hd1 := C1.out.2.2.2.2
    have hq1 := C1.out.2.1
    have hq2 := C2.out.2.1
    have hm2 := C2.out.1
    rw [L1.out] at hd1 hq1
    rw [L2.out] at hd2 hq2 hm2
    have P1b := Lib.hid (P1a.out.below hb6)
    have P2b := Lib.hid (P2a.out.below hb6)
    have HB6 := Lib.hid (HB5.out.trans (hb6.mono HB5.out.size))
    generalize (cutAll x1).1 = P at *
    generalize (cutAll x2).1 = Q at *
    generalize (cutAll x2).2.1 = m at *
    generalize (cutAll x2).2.2 = g0 at *
    have hlPQ : ∀ p ∈ P ++ Q, p.length ≤ maxLen := by
      intro p hp
      unfold maxLen
      rcases List.mem_append.1 hp with h | h
      · have := hd1 p h; omega
      · have := hd2 p h; omega
    have R5 := Lib.hid (hp5.rowOf hlPQ)
    have R1 := Lib.hid (P1b.out.rowOf (fun p hp => hlPQ p (List.mem_append_left _ hp)))
    have R2 := Lib.hid (P2b.out.rowOf (fun p hp => hlPQ p (List.mem_append_right _ hp)))
    have PB1 := P1b
    have hpl : (P ++ Q).length ≤ 1099511627776 := by simp; omega
    have hpl1 : P.length ≤ 1099511627776 := by omega
    have hpl2 : Q.length ≤ 1099511627776 := by omega
    have hPl : P.length ≤ 1048576 := by omega
    have hQl : Q.length ≤ 1048576 := by omega
    have f1 : (((n1 + m : Nat) : Int) == (n1 : Int) + (m : Int)) = true := by simp
    have HPL := Lib.hid hpl
    clear hb6 hp5 hd1 hd2 hq1 hq2 hlPQ hpl
    go_wp2_with fail
    refine (texts_any v5 _ _ R5.out HPL.out).mono ?_
    rintro e w7 ⟨t5, rfl, ho5, hb7⟩
    have HB7 := Lib.hid (HB6.out.trans (hb7.mono HB6.out.size))
    have R1' := Lib.hid (R1.out.below hb7)
    have R2' := Lib.hid (R2.out.below hb7)
    have O5 := Lib.hid (owns_strs ho5)
    clear ho5 hb7
    go_wp2_with fail
    refine (texts_any v1 _ _ R1'.out hpl1).mono ?_
    rintro e w8 ⟨t1, rfl, ho1, hb8⟩
    have HB8 := Lib.hid (HB7.out.trans (hb8.mono HB7.out.size))
    have R2'' := Lib.hid (R2'.out.below hb8)
    have O57 := Lib.hid O5.out
    have B78 := Lib.hid hb8
    have O1 := Lib.hid ho1
    have S7 := Lib.hid HB7.out.size
    have S78 := Lib.hid hb8.size
    clear ho1 hb8
    go_wp2_with fail
    refine (texts_any v2 _ _ R2''.out hpl2).mono ?_
    rintro e w9 ⟨t2, rfl, ho2, hb9⟩
    have HB9 := Lib.hid (HB8.out.trans (hb9.mono HB8.out.size))
    have B79 := Lib.hid (B78.out.trans (hb9.mono S78.out))
    have O1' := Lib.hid (owns_kept_below O1.out hb9)
    obtain ⟨t2a, t2c, rfl, tn, tnews⟩ := owns_news ho2
    have TN := Lib.hid tn
    have TNW := Lib.hid tnews
    have h79 : w7.heap.size ≤ w9.heap.size := Nat.le_trans S78.out hb9.size
    have HO9 := Lib.hid hb9.size
    clear ho2 hb9 tn tnews
    go_wp2_with (at_builtin; go_loud (refine wpList_append_own_want _ (by kernel_rfl) _ _ 40 rfl w7.heap.size 9 j0 (.string ByteArray.empty) 1 16 Try.underlying40 hj jz0 jz1 jz2 rfl (by decide) _ P.length _ rfl O1'.out t2a Q.length t2c (strsOf Q) rfl (strsOf_length Q) TN.out TNW.out (strsOf_one Q) (by unfold maxLen; omega) (by omega) h79 ?_); intro v6 w10 hown10 hgrow10)
    rw [strsOf_append] at hown10
    have hb710 : Below w7.heap.size w7 w10 := B79.out.trans ((Below.refl _ _).grown hgrow10 h79 (fun q hq => (O1'.out.lt q hq).1))
    have hb10 : Below w7.heap.size w9 w10 := (Below.refl _ _).grown hgrow10 h79 (fun q hq => (O1'.out.lt q hq).1)
    have HB10 := Lib.hid (HB9.out.trans (hb10.mono S7.out))
    have hs6 : StrsIn w10 v6 (strsOf (P ++ Q)) := owns_strs hown10
    have hs5 : StrsIn w10 t5 (strsOf (P ++ Q)) := O57.out.below hb710
    clear hown10 hgrow10
    refine (same_true t5 v6 (P ++ Q) _ hs5 hs6 HPL.out).mono ?_
    rintro e w11 ⟨rfl, hb11⟩
    have HB11 := Lib.hid (HB10.out.trans (hb11.mono HB10.out.size))
    clear hb11 hs5 hs6 hb10
    go_wp2
    go_ret
    exact ⟨rfl, HB11.out⟩
  · have hlt := C1.out.2.2.2.1 he
    rw [L1.out] at hlt
    have hne : ((((cutAll x1).2.2 : Nat) : Int) != 0) = true := by simp; omega
    generalize (cutAll x1).2.2 = q at *
    generalize (cutAll x1).2.1 = at1 at *
    have hd : decide ((at1 : Int) < (n1 : Int)) = true := by simp; omega
    go_wp2
    go_ret
    exact ⟨rfl, HB3.out⟩

theorem joins_walk {a1 a2 : Option Addr} {n1 c1 n2 c2 : Nat} {y1 y2 : List Int} (w : World) (h1 : IsRow .u8 w a1 n1 c1 y1) (h2 : IsRow .u8 w a2 n2 c2 y2) (r1 : c1 ≤ 1048576) (r2 : c2 ≤ 1048576) :
    Calls Try.prog 9 #[.slice a1 n1 c1, .slice a2 n2 c2] w fun e w' => e = .returned (.bool true) ∧ Below w.heap.size w w' := by
  obtain ⟨b1, z1, k1, _⟩ := h1.isB
  obtain ⟨b2, z2, k2, _⟩ := h2.isB
  exact joins_core a1 a2 n1 c1 n2 c2 _ _ w b1 b2 z1 z2 k1 k2 r1 r2
end Go.Proofs.Ytojkegnflbfloaa
