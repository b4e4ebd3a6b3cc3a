/- DiskParts: parts are written as they are together, or not at all. -/
import Derived.Test.YtnppnccokmcbpaaDMine
namespace Go.Proofs.Ytnppnccokmcbpaa
open Go.RowKit

theorem DAt.grown {w w' : World} {B B2 g d r n : Nat} {v u : Value} {xs : List Int} {l : List Value} (h : DAt w B g v xs d r) (hu : w.ownsRow B2 31 1 u n l) (hg : w.grownBy w' u.ownBlock) : DAt w' B g v xs d r := by
  refine ⟨h.blk.kept (hg.block _ h.blk.lt (fun e => whole_apart h.blk (by decide) hu e.symm)), h.ge, owns_kept h.own (fun k hk => hg.block k (h.own.lt k hk).2 (fun e => ?_)), h.byte, h.hd, h.hr, h.hm⟩
  obtain ⟨c1, h1⟩ := owned_type h.own k hk
  obtain ⟨c2, h2⟩ := owned_type hu k e.symm
  rw [h1] at h2
  injection h2 with h2
  injection h2 with _ h2
  exact absurd h2 (by decide)
theorem DAt.elsewhere {w : World} {B g d r q : Nat} {v : Value} {xs : List Int} (h : DAt w B g v xs d r) (hq : q ≠ g) (hv : v.ownBlock ≠ some q) (k : Nat) (x : Value) : DAt (w.setCell ⟨q, k, none⟩ x) B g v xs d r :=
  ⟨h.blk.kept (Below.heap_setCell w ⟨q, k, none⟩ x g hq.symm), h.ge, owns_far h.own q k hv x, h.byte, h.hd, h.hr, h.hm⟩
theorem MineAt.parts {w : World} {B B2 g d r n c : Nat} {a : Option Addr} {us : List Value} {P : List (List Int)} {xs : List Int} (h : MineAt w B (.slice a n c) us P 0) (hn : n = P.length) (hm : n ≤ maxLen) (hl : ∀ p ∈ P, p.length ≤ maxLen) (hd : DAt w B2 g (.slice none 0 0) xs d r) :
    PartsIn w (fun k => k = g ∨ some k = (Value.slice none 0 0).ownBlock) a n P := by
  subst hn
  refine ⟨rfl, hm, fun i hi => ?_⟩
  have hi' : i < P.length := hi
  have hul : us.length = P.length := by simpa using h.own.1
  obtain ⟨gi, ci, h1, h2, h3⟩ := h.row i hi'
  rcases h.own.2 with ⟨hv, h0⟩ | ⟨gm, cap, cur, hv, _, hh, _⟩
  · omega
  · injection hv with e1 e2 e3
    subst e1
    have hc := h.own.cellAt (g := gm) i (by omega)
    have hg1 : us[i]? = some (us.getD i undef) := by simp [List.getD, hul, hi']
    have hne : ∀ k t cur, w.heap[k]? = some (.cells cur t (0, 0)) → t ≠ 47 → ¬ (k = g ∨ some k = (Value.slice none 0 0).ownBlock) := by
      intro k t cur hc ht hk
      rcases hk with rfl | hk
      · have h4 := hd.blk
        unfold Whole at h4
        rw [hc] at h4
        injection h4 with h4
        injection h4 with _ h4
        exact ht h4
      · simp [Value.ownBlock] at hk
    obtain ⟨cur1, hc1⟩ := h2.typed
    refine ⟨gm, 0, some ⟨gi, 0, none⟩, (P.getD i []).length, ci, rfl, hne gm _ cur hh (by decide), ?_, hl _ ?_, (by intro h; cases h), h3 (Nat.zero_le _), .inr ?_⟩
    · rw [Nat.zero_add, hc, hg1, h1]
    · simp [List.getD, hi']
    · rintro ad he
      injection he with he
      subst he
      exact hne gi _ cur1 hc1 (by decide)
theorem owns_some {w : World} {base n g : Nat} {e : TypeId} {u : Value} {l : List Value} (h : w.ownsRow base e 1 u n l) (hg : u.ownBlock = some g) : ∃ c, u = .slice (some ⟨g, 0, none⟩) n c ∧ n ≤ c ∧ c ≤ maxLen := by
  rcases h.2 with ⟨rfl, _⟩ | ⟨k, cap, cur, rfl, _, _, h1, h2, _⟩
  · cases hg
  · have : k = g := by simpa [Value.ownBlock] using hg
    subst this
    exact ⟨cap, rfl, h1, h2⟩
theorem fresh_at {w : World} {o : Obj} {u : Value} {n c : Nat} (h : u.ownBlock = (Value.slice (some ⟨w.heap.size, 0, none⟩) n c).ownBlock ∨ u.ownBlock = some (w.alloc o).heap.size) : ∃ g, u.ownBlock = some g ∧ w.heap.size ≤ g := by
  rcases h with h | h
  · exact ⟨_, h, Nat.le_refl _⟩
  · exact ⟨_, h, by simp⟩
/-- The bytes of a row that may be nil. -/
def SomeV (w : World) (base : Nat) (v : Value) (n : Nat) : Prop := (v = .slice none 0 0 ∧ n = 0) ∨ ∃ g c, v = .slice (some ⟨g, 0, none⟩) n c ∧ SomeB w base g n c
theorem SomeV.owned {w : World} {base n : Nat} {v : Value} {xs : List Int} (h : w.ownsRow base 5 1 v n (xs.map (Value.int .u8))) (hb : ∀ x ∈ xs, 0 ≤ x ∧ x < 256) : SomeV w base v n := by
  rcases h.2 with ⟨h1, h2⟩ | ⟨g, cap, cur, rfl, _⟩
  · exact .inl ⟨h1, h2⟩
  · refine .inr ⟨g, cap, rfl, _, h, fun v hv => ?_⟩
    obtain ⟨x, hx, rfl⟩ := List.mem_map.1 hv
    have := hb x hx
    exact ⟨x.toNat, by omega, by rw [Int.toNat_of_nonneg this.1]⟩

set_option maxHeartbeats 2000000 in
theorem parts_bad (r : Int) (a : Option Addr) (n c : Nat) (w : World) (h : r < 0 ∨ 1048576 < r) :
    Calls Try.prog 5 #[.slice a n c, .int .i64 r] w fun e w' => e = .returned (.bool true) ∧ Below w.heap.size w w' := by
  have HH := Lib.hid h
  have hif : (if r < 0 ∨ 1048576 < r then (1 : Int) else 0) = 1 := if_pos h
  have HI := Lib.hid hif
  clear h hif
  go_enter Try.func5, Try.ntmps5
  go_wp2_with (first
    | (go_at_call 8; refine (awake_any _).mono ?_; rintro e w1 ⟨rfl, hb1⟩; have HB1 := Lib.hid hb1; clear hb1)
    | (go_at_call 9; refine (new_bad _ _ HH.out).mono ?_; rintro e w' ⟨rfl, rfl⟩)
    | (go_at_call 10; refine (wrong_any r _).mono ?_; rintro e w' ⟨rfl, rfl⟩; rw [HI.out]))
  go_ret
  exact ⟨rfl, HB1.out⟩

set_option maxRecDepth 100000 in
set_option maxHeartbeats 3000000 in
theorem parts_good (r : Nat) (a : Option Addr) (n c : Nat) (xss : List (List Int)) (w : World) (h : r ≤ 1048576) (hz : ListIn w a n xss) (hn : n ≤ 1048576) (ht : xss.flatten.length ≤ 1048576) :
    Calls Try.prog 5 #[.slice a n c, .int .i64 r] w fun e w' => e = .returned (.bool true) ∧ Below w.heap.size w w' := by
  obtain ⟨i0, hi, hz0, hz1, hz2⟩ := info_parts Try.infoB
  obtain ⟨j0, hj, jz0, jz1, jz2⟩ := info_parts Try.infoS
  obtain ⟨hxl, hzz⟩ := hz
  have HXL := Lib.hid hxl
  have HZ := Lib.hid hzz
  have HT := Lib.hid ht
  have hmem : ∀ p ∈ xss, p.length ≤ 1048576 := by
    intro p hp
    have := (List.sublist_flatten_of_mem hp).length_le
    omega
  have HMEM := Lib.hid hmem
  clear hxl hzz ht hmem
  go_enter Try.func5, Try.ntmps5
  go_wp2_with (first
    | (go_at_call 8; refine (awake_any _).mono ?_; rintro e w1 ⟨rfl, hb1⟩; have HB1 := Lib.hid hb1; clear hb1)
    | (go_at_call 9; refine (new_good w.heap.size r _ h HB1.out.size).mono ?_; rintro e w2 ⟨rfl, hd2, hb2⟩; have HD2 := Lib.hid hd2; have HB2 := Lib.hid (HB1.out.trans (hb2.mono HB1.out.size)); clear hd2 hb2))
  generalize w1.heap.size = g at *
  go_loopw [7, 8, 30] (fun t v i wr => ∃ (k : Nat) (us : List Value), k ≤ n ∧ i = .int .i64 k ∧ t = .string (strOfNums (xss.take k).flatten) ∧ MineAt wr w.heap.size v us (xss.take k) 0 ∧ DAt wr w.heap.size g (.slice none 0 0) [] 0 r ∧ Below w.heap.size w wr) (fun _ _ i _ => n - (intOf i).toNat)
  case atStart => exact ⟨0, [], by omega, rfl, rfl, MineAt.nil _ _, HD2.out, HB2.out⟩
  case round =>
    obtain ⟨k, us, hk, rfl, rfl, hM, hd, hb⟩ := hrel
    have hxlk : (xss.take k).length = k := by simp [HXL.out]; omega
    obtain ⟨va, vc, hv, hvc, hvm⟩ := owned_any hM.own
    rw [hxlk] at hv hvc
    subst hv
    have HM := Lib.hid hM
    have HD := Lib.hid hd
    have HB := Lib.hid hb
    have hbs := hb.size
    clear hM hd hb
    by_cases hkn : k < n
    · obtain ⟨b, off, rfl, hcc⟩ := HZ.out.resolve_left (by omega)
      obtain ⟨ua, m, uc, hc0, hm, hnil, hib⟩ := hcc k hkn
      have hcell := (HB.out.cell (p := ⟨b, off + k, none⟩) (World.block_lt_of_cell? w _ hc0)).trans hc0
      have hx1 := hib.below HB.out
      have hcv := hx1.str uc
      have hft := flat_take xss k (by rw [HXL.out]; exact hkn)
      have hfle := flat_le xss (k + 1)
      have htk : xss.take (k + 1) = xss.take k ++ [xss.getD k []] := by
        rw [List.take_succ_eq_append_getElem (by rw [HXL.out]; exact hkn)]
        simp [List.getD, show k < xss.length by rw [HXL.out]; exact hkn]
      have hpl := hib.1
      have hml : m ≤ 1048576 := by
        have := congrArg List.length hft
        rw [List.length_append, hpl] at this
        have := HT.out
        omega
      obtain ⟨S, hS⟩ : ∃ S, S = strOfNums (xss.take k).flatten := ⟨_, rfl⟩
      obtain ⟨X, hX⟩ : ∃ X, X = strOfNums (xss.getD k []) := ⟨_, rfl⟩
      obtain ⟨T, hT⟩ : ∃ T, T = strOfNums (xss.take (k + 1)).flatten := ⟨_, rfl⟩
      have hadd : ∀ w, (Op.stringOp .add S X).run Try.prog w = .ok (.string T) w := fun w => by
        rw [run_string_add_sum w S X (by
          rw [hS, hX, strOfNums_size, strOfNums_size, hpl]
          have := flat_le xss k
          have := HT.out
          omega), hS, hX, str_append, ← hft, ← hT]
      have HTT := Lib.hid hT
      rw [← hX] at hcv
      rw [← hS]
      have hmk := World.ownsRow_made (base := w.heap.size) (e := 5) (size := 1) wr #[] 0 hbs (by simp [maxLen]) rfl
      have HMK := Lib.hid hmk
      have HNW := Lib.hid ((hx1.alloc (.cells #[] 5)).news)
      have HLN := Lib.hid (show ((xss.getD k []).map (Value.int .u8)).length = m * 1 by simpa using hpl)
      have HNIL := Lib.hid hnil
      have HBY := Lib.hid hib.2.1
      have HPL := Lib.hid hpl
      have HTK := Lib.hid htk
      have HXK := Lib.hid hxlk
      unfold maxLen at hm
      clear hcc hc0 hnil hib hx1 hft hfle htk hpl hS hX hT hmk
      have hown0 := HM.out.own
      rw [hxlk] at hown0
      have HOW := Lib.hid hown0
      clear hown0 hxlk
      go_wp2_with (first
        | (at_builtin; refine wpList_append_at_any _ rfl (.tmp 39) (.tmp 40) 31 rfl w.heap.size 5 i0 (.int .u8 0) 1 1 Try.underlying31 hi hz0 hz1 hz2 rfl (by decide) _ 0 [] rfl HMK.out ua m uc ((xss.getD k []).map (Value.int .u8)) rfl HLN.out HNIL.out HNW.out (oneCell_map _) (by unfold maxLen; omega) (by omega) (by simp; omega) ?_; intro u w3 hown3 hgrow3 hat3; go_loud (obtain ⟨gu, hgu⟩ : ∃ gu, u.ownBlock = some gu ∧ wr.heap.size ≤ gu := fresh_at hat3); go_loud (obtain ⟨cu, rfl, hcu, hcum⟩ := owns_some hown3 hgu.1); go_loud (rw [Nat.zero_add, List.nil_append] at hown3); have HO3 := Lib.hid hown3; have HG3 := Lib.hid (show (wr.alloc (.cells #[] 5)).grownBy w3 (some wr.heap.size) from hgrow3); have HGU := Lib.hid hgu.2; clear hown3 hgrow3 hat3 hgu; go_loud (rw [Nat.zero_add]); go_loud (have hb3 : Below wr.heap.size wr w3 := (below_alloc wr _).trans ((Below.refl wr.heap.size _).grown HG3.out (by simp) (fun q hq => Nat.le_of_eq (Option.some.inj hq)))); have HB3 := Lib.hid hb3; go_loud (have hm4 := (HM.out.below hb3).below (below_alloc w3 (.cells #[.slice (some ⟨gu, 0, none⟩) m cu] 31))); have HM4 := Lib.hid hm4; go_loud (have hm5 : (w3.alloc (.cells #[.slice (some ⟨gu, 0, none⟩) m cu] 31)).ownsRow w.heap.size 31 1 (.slice va k vc) k us := by have := hm4.own; rw [HXK.out] at this; exact this); have HM5 := Lib.hid hm5; have hsz3 : w.heap.size ≤ w3.heap.size := Nat.le_trans hbs hb3.size; clear hb3 hm4 hm5)
        | (at_builtin; refine wpList_append_own _ rfl (.tmp 38) (.tmp 42) 51 rfl w.heap.size 31 j0 (.slice none 0 0) 1 24 Try.underlying51 hj jz0 jz1 jz2 rfl (by decide) _ k _ rfl HM5.out ⟨w3.heap.size, 0, none⟩ 1 1 [.slice (some ⟨gu, 0, none⟩) m cu] rfl rfl (cell_one_new _ _ _) (by intro q hq; simp at hq; subst hq; rfl) (by unfold maxLen; omega) (by omega) (by simp; omega) ?_; intro v5 w5 hown5 hgrow5 _; obtain ⟨va5, vc5, rfl, _, _⟩ := owned_any hown5; have HO5 := Lib.hid hown5; have HG5 := Lib.hid hgrow5; clear hown5 hgrow5))
      have hlt : ∀ j g' m' c', j < (xss.take k).length → us.getD j undef = .slice (some ⟨g', 0, none⟩) m' c' → g' ≠ gu := by
        intro j g' m' c' hj he
        obtain ⟨g1, c1, e1, s1, _⟩ := HM.out.row j hj
        rw [he] at e1
        injection e1 with e1
        injection e1 with e1
        injection e1 with e1
        have := s1.ge.2
        have := HGU.out
        omega
      have hmn := HM4.out.snoc (p := xss.getD k []) (g := gu) (c := cu) (by rw [HPL.out]; exact HO3.out.alloc _) HBY.out hlt (by rw [HPL.out, HXK.out]; exact HO5.out) HG5.out
      rw [HPL.out, ← HTK.out] at hmn
      have hdn := ((HD.out.below HB3.out).alloc (.cells #[.slice (some ⟨gu, 0, none⟩) m cu] 31)).grown HM5.out HG5.out
      have hb5 := ((HB.out.trans (HB3.out.mono hbs)).alloc hsz3 (.cells #[.slice (some ⟨gu, 0, none⟩) m cu] 31)).grown HG5.out (by simp; omega) (fun q hq => (HM5.out.lt q hq).1)
      have HMN := Lib.hid hmn
      have HDN := Lib.hid hdn
      have HBN := Lib.hid hb5
      clear hlt hmn hdn hb5
      go_roundw
      case rel => exact ⟨k + 1, _, by omega, by go_num, by rw [← HTT.out], HMN.out, HDN.out, HBN.out⟩
      case measure => simp [intOf]; omega
    · obtain rfl : k = n := by omega
      have hP : xss.take k = xss := List.take_of_length_le (by rw [HXL.out]; exact Nat.le_refl _)
      rw [hP] at HM
      rw [hP]
      have hpi := HM.out.parts (B2 := w.heap.size) HXL.out.symm (by unfold maxLen; omega) (fun p hp => by have := HMEM.out p hp; unfold maxLen; omega) HD.out
      have HPI := Lib.hid hpi
      obtain ⟨T, hT⟩ : ∃ T, T = strOfNums xss.flatten := ⟨_, rfl⟩
      have HTT := Lib.hid hT
      have HTZ : Hid (T.size = xss.flatten.length) := Lib.hid (by rw [hT, strOfNums_size])
      rw [← hT]
      have hus : ∀ j g1 c1 m1, j < xss.length → us.getD j undef = .slice (some ⟨g1, 0, none⟩) m1 c1 → g1 < wr.heap.size := by
        intro j g1 c1 m1 hj he
        obtain ⟨g2, c2, e1, s1, _⟩ := HM.out.row j hj
        rw [he] at e1
        injection e1 with e1
        injection e1 with e1
        injection e1 with e1
        have := s1.ge.2
        omega
      have HUS := Lib.hid hus
      clear hpi hP hT hus hxlk
      by_cases hf : xss.flatten.length ≤ r
      · have haa := append_fits va k vc xss wr HD.out HPI.out (by simpa using hf)
        have HAA := Lib.hid haa
        clear haa
        go_wp2_with fail
        refine HAA.out.mono ?_
        rintro e w4 ⟨rfl, vd, hd4, ht4, hv4⟩
        have hd4' : DAt w4 w.heap.size g vd xss.flatten 0 r := hd4
        have hvd : ∀ q, vd.ownBlock = some q → wr.heap.size ≤ q := by
          intro q hq
          rcases hv4 with h | ⟨q', h, hle⟩
          · rw [h] at hq
            cases hq
          · rw [h] at hq
            injection hq with hq
            omega
        have HD4 := Lib.hid hd4'
        have HM4 := Lib.hid (HM.out.turned HD.out ht4)
        have HB4 := Lib.hid (HB.out.trans (HD.out.turned ht4 hbs))
        have HVD := Lib.hid hvd
        clear hd4 hd4' ht4 hv4 hvd
        go_wp2_with fail
        go_loopw [50] (fun iv wr => ∃ i : Nat, i ≤ k ∧ iv = .int .i64 i ∧ MineAt wr w.heap.size (.slice va k vc) us xss i ∧ DAt wr w.heap.size g vd xss.flatten 0 r ∧ Below w.heap.size w wr) (fun iv _ => k - (intOf iv).toNat)
        case atStart => exact ⟨0, by omega, rfl, HM4.out, HD4.out, HB4.out⟩
        case round =>
          obtain ⟨wo, hwo⟩ : ∃ wo : World, wo = wr := ⟨_, rfl⟩
          obtain ⟨i, hi2, rfl, hM2, hd2, hb2⟩ := hrel
          rw [← hwo] at hM2 hd2 hb2
          subst hwo
          by_cases hik : i < k
          · obtain ⟨b, off, rfl, hcc⟩ := HZ.out.resolve_left (by omega)
            obtain ⟨ua, m, uc, hc0, hm, hnil, hib⟩ := hcc i hik
            have hpcell := (hb2.cell (p := ⟨b, off + i, none⟩) (World.block_lt_of_cell? w _ hc0)).trans hc0
            have hil : i < xss.length := by rw [HXL.out]; exact hik
            have hul : us.length = xss.length := by simpa using hM2.own.1
            have hui0 : us[i]? = some (us.getD i undef) := by simp [List.getD, hul, hil]
            obtain ⟨gi, ci, hui, hsb, hisb⟩ := hM2.row i hil
            have hpl := hib.1
            have hgm : ∃ gm, va = some ⟨gm, 0, none⟩ := by
              rcases hM2.own.2 with ⟨hv, h0⟩ | ⟨gm, cap, cur, hv, _⟩
              · omega
              · injection hv with e1
                exact ⟨gm, e1⟩
            obtain ⟨gm, rfl⟩ := hgm
            have hmcell : wo.cell? ⟨gm, i, none⟩ = some (.slice (some ⟨gi, 0, none⟩) m ci) := by
              have ho2 := hM2.own
              rw [HXL.out] at ho2
              have := ho2.cellAt (g := gm) i (by omega)
              rw [this, hui0, hui, hpl]
            have hq1 := fun q => IsB.str (w := wo.drewN q) (show IsB wo (some ⟨gi, 0, none⟩) m (xss.getD i []) from by have := hisb (Nat.le_refl _); rwa [hpl] at this) ci
            have hq2 := fun q => IsB.str (w := wo.drewN q) (show IsB wo ua m (xss.getD i []) from hib.below hb2) uc
            obtain ⟨Ti, hTi⟩ : ∃ Ti, Ti = strOfNums (xss.getD i []) := ⟨_, rfl⟩
            rw [← hTi] at hq1 hq2
            have hTT : (Ti.toList == Ti.toList) = true := by simp
            have hTN : (Ti.toList != Ti.toList) = false := by simp
            have i1 : (i : Int) < (k : Int) := by omega
            have i2 : (0 : Int) ≤ (i : Int) := by omega
            have hglt := HUS.out i gi ci m hil (by rw [hui, hpl])
            have hui' : us.getD i undef = .slice (some ⟨gi, 0, none⟩) m ci := by rw [hui, hpl]
            have hgg : gi ≠ g := by
              rintro rfl
              obtain ⟨cur, hc⟩ := hsb.typed
              have h4 := hd2.blk
              unfold Whole at h4
              rw [hc] at h4
              injection h4 with h4
              injection h4 with _ h4
              exact absurd h4 (by decide)
            have HM2 := Lib.hid hM2
            have HD2' := Lib.hid hd2
            have HBB := Lib.hid hb2
            have HUI := Lib.hid hui'
            have HGG := Lib.hid hgg
            have HIL := Lib.hid hil
            have HUI0 := Lib.hid hui0
            have HUL := Lib.hid hul
            unfold maxLen at hm
            clear hcc hc0 hnil hib hM2 hd2 hb2 hul hui0 hui hsb hisb hpl hTi hil hgg hui'
            go_wp2_with fail
            go_quiet (fail)
            have hqb : Below wo.heap.size wo (wo.drewN nq) := below_drewN wo nq
            have HM3 := Lib.hid (HM2.out.below hqb).next
            have HD3 := Lib.hid (HD2'.out.below hqb)
            have HB3 := Lib.hid (HBB.out.trans (hqb.mono HBB.out.size))
            have hmcell3 : (wo.drewN nq).cell? ⟨gm, i, none⟩ = some (.slice (some ⟨gi, 0, none⟩) m ci) := hmcell
            clear hqb hq1 hq2 hTT hTN hpcell hmcell
            go_wp2_with fail
            clear hmcell3
            go_loopw [69] (fun qv wr => ∃ q : Nat, q ≤ m ∧ qv = .int .i64 q ∧ MineAt wr w.heap.size (.slice (some ⟨gm, 0, none⟩) k vc) us xss (i + 1) ∧ DAt wr w.heap.size g vd xss.flatten 0 r ∧ Below w.heap.size w wr) (fun qv _ => m - (intOf qv).toNat)
            case atStart => exact ⟨0, by omega, rfl, HM3.out, HD3.out, HB3.out⟩
            case round =>
              obtain ⟨q, hq, rfl, hM5, hd5, hb5⟩ := hrel
              by_cases hqm : q < m
              · obtain ⟨g', c', e', s', _⟩ := hM5.row i HIL.out
                rw [HUI.out] at e'
                injection e' with e1 e2 e3
                injection e1 with e1
                injection e1 with e1
                subst e1 e3
                rw [← e2] at s'
                obtain ⟨y, hy, hycell, hyfr⟩ := s'.cell q (by omega)
                have hmc : wr.cell? ⟨gm, i, none⟩ = some (.slice (some ⟨gi, 0, none⟩) m ci) := by
                  have ho5 := hM5.own
                  rw [HXL.out] at ho5
                  have := ho5.cellAt (g := gm) i (by omega)
                  rw [this, HUI0.out, HUI.out]
                have hst := hM5.store (j := i) (by omega) HIL.out HUI.out q ((y + 1) % 256) (by omega)
                have hdt := hd5.elsewhere HGG.out (fun e => by have := HVD.out gi e; omega) q (.int .u8 (((y + 1) % 256 : Nat)))
                have hbt := hb5.setCell (p := ⟨gi, q, none⟩) s'.ge.1 (.int .u8 (((y + 1) % 256 : Nat)))
                have q1 : (q : Int) < (m : Int) := by omega
                have q2 : (0 : Int) ≤ (q : Int) := by omega
                have HST := Lib.hid hst
                have HDT := Lib.hid hdt
                have HBT := Lib.hid hbt
                clear hst hdt hbt hM5 hd5 hb5 s' e2
                go_wp2
                go_roundw
                case rel => exact ⟨q + 1, by omega, by go_num, HST.out, HDT.out, HBT.out⟩
                case measure => simp [intOf]; omega
              · have HM6 := Lib.hid hM5
                have HD6 := Lib.hid hd5
                have HB6 := Lib.hid hb5
                clear hM5 hd5 hb5
                go_wp2
                go_roundw
                case rel => exact ⟨i + 1, by omega, by go_num, HM6.out, HD6.out, HB6.out⟩
                case measure => simp [intOf]; omega
          · have HM6 := Lib.hid hM2
            have HD6 := Lib.hid hd2
            have HB6 := Lib.hid hb2
            clear hM2 hd2 hb2
            have hgt : decide ((r : Int) < (T.size : Int)) = false := by have := HTZ.out; simp; omega
            have hgt2 : ¬ (r : Int) < (T.size : Int) := by have := HTZ.out; omega
            go_wp2_with fail
            refine (bytes_any _ HD6.out).mono ?_
            rintro e w7 ⟨u7, rfl, hown7, hb7⟩
            obtain ⟨ua7, uc7, rfl, hui7, _⟩ := owned_slice hown7 HD6.out.byte
            have hsv7 := SomeV.owned hown7 HD6.out.byte
            obtain ⟨N, hN⟩ : ∃ N, N = xss.flatten.length := ⟨_, rfl⟩
            have HNN := Lib.hid hN
            rw [← hN] at hui7 hsv7
            rw [← hN]
            have hcu7 := hui7.str uc7
            rw [← HTT.out] at hcu7
            have hTT : (T.toList == T.toList) = true := by simp
            have hTN : (T.toList != T.toList) = false := by simp
            have hNle : N ≤ 1048576 := by have := HT.out; omega
            have HSV7 := Lib.hid hsv7
            have HD7 := Lib.hid (HD6.out.below hb7)
            have HB7 := Lib.hid (HB6.out.trans (hb7.mono HB6.out.size))
            have hbase : w.heap.size ≤ wo.heap.size := HB6.out.size
            have hgs : g < wo.heap.size := HD6.out.blk.lt
            have hvs : ∀ q, vd.ownBlock = some q → q < wo.heap.size := fun q hq => (HD6.out.own.lt q hq).2
            have HVS := Lib.hid hvs
            clear hown7 hb7 hui7 hsv7 hN hvs
            go_wp2_with fail
            clear hcu7
            generalize wo.heap.size = s5 at *
            go_loopw [110] (fun qv wr => ∃ q : Nat, q ≤ N ∧ qv = .int .i64 q ∧ SomeV wr s5 (.slice ua7 N uc7) N ∧ DAt wr w.heap.size g vd xss.flatten 0 r ∧ Below w.heap.size w wr) (fun qv _ => N - (intOf qv).toNat)
            case atStart => exact ⟨0, by omega, rfl, HSV7.out, HD7.out, HB7.out⟩
            case round =>
              obtain ⟨q, hq, rfl, hsv, hd8, hb8⟩ := hrel
              by_cases hqn : q < N
              · rcases hsv with ⟨_, h0⟩ | ⟨g3, c3, hv, hsm⟩
                · omega
                · injection hv with e1 e2 e3
                  subst e1 e3
                  obtain ⟨y, hy, hcell, hfr⟩ := hsm.cell q (by omega)
                  have hge := hsm.ge.1
                  have hst := hsm.store q ((y + 1) % 256) (by omega)
                  have hdt := hd8.elsewhere (show g3 ≠ g by omega) (fun e => by have := HVS.out g3 e; omega) q (.int .u8 (((y + 1) % 256 : Nat)))
                  have hbt := hb8.setCell (p := ⟨g3, q, none⟩) (show w.heap.size ≤ g3 by omega) (.int .u8 (((y + 1) % 256 : Nat)))
                  have HST := Lib.hid hst
                  have HDT := Lib.hid hdt
                  have HBT := Lib.hid hbt
                  have q1 : (q : Int) < (N : Int) := by omega
                  have q2 : (0 : Int) ≤ (q : Int) := by omega
                  clear hst hdt hbt hsm hd8 hb8 e2 hge
                  go_wp2
                  go_roundw
                  case rel => exact ⟨q + 1, by omega, by go_num, .inr ⟨g3, _, rfl, HST.out⟩, HDT.out, HBT.out⟩
                  case measure => simp [intOf]; omega
              · have HD8 := Lib.hid hd8
                have HB8 := Lib.hid hb8
                clear hsv hd8 hb8
                go_wp2_with fail
                refine (bytes_any _ HD8.out).mono ?_
                rintro e w9 ⟨u9, rfl, hown9, hb9⟩
                obtain ⟨ua9, uc9, rfl, hui9, _⟩ := owned_slice hown9 HD8.out.byte
                rw [← HNN.out] at hui9
                rw [← HNN.out]
                have hcu9 := hui9.str uc9
                rw [← HTT.out] at hcu9
                have HB9 := Lib.hid (HB8.out.trans (hb9.mono HB8.out.size))
                clear hown9 hb9 hui9
                go_wp2
                go_ret
                exact ⟨rfl, HB9.out⟩
      · have haa := append_full va k vc xss wr HD.out HPI.out (by show r < 0 + xss.flatten.length; omega)
        have HAA := Lib.hid haa
        clear haa
        go_wp2_with fail
        refine HAA.out.mono ?_
        rintro e w4 ⟨rfl, qd, hw4⟩
        have hqb : Below wr.heap.size wr w4 := by rw [hw4]; exact below_drewN wr qd
        have HM4 := Lib.hid (HM.out.below hqb)
        have HD4 := Lib.hid (HD.out.below hqb)
        have HB4 := Lib.hid (HB.out.trans (hqb.mono hbs))
        clear hqb hw4
        go_wp2_with fail
        go_loopw [50] (fun iv wr => ∃ i : Nat, i ≤ k ∧ iv = .int .i64 i ∧ MineAt wr w.heap.size (.slice va k vc) us xss i ∧ DAt wr w.heap.size g (.slice none 0 0) [] 0 r ∧ Below w.heap.size w wr) (fun iv _ => k - (intOf iv).toNat)
        case atStart => exact ⟨0, by omega, rfl, HM4.out, HD4.out, HB4.out⟩
        case round =>
          obtain ⟨wo, hwo⟩ : ∃ wo : World, wo = wr := ⟨_, rfl⟩
          obtain ⟨i, hi2, rfl, hM2, hd2, hb2⟩ := hrel
          rw [← hwo] at hM2 hd2 hb2
          subst hwo
          by_cases hik : i < k
          · obtain ⟨b, off, rfl, hcc⟩ := HZ.out.resolve_left (by omega)
            obtain ⟨ua, m, uc, hc0, hm, hnil, hib⟩ := hcc i hik
            have hpcell := (hb2.cell (p := ⟨b, off + i, none⟩) (World.block_lt_of_cell? w _ hc0)).trans hc0
            have hil : i < xss.length := by rw [HXL.out]; exact hik
            have hul : us.length = xss.length := by simpa using hM2.own.1
            have hui0 : us[i]? = some (us.getD i undef) := by simp [List.getD, hul, hil]
            obtain ⟨gi, ci, hui, hsb, hisb⟩ := hM2.row i hil
            have hpl := hib.1
            have hgm : ∃ gm, va = some ⟨gm, 0, none⟩ := by
              rcases hM2.own.2 with ⟨hv, h0⟩ | ⟨gm, cap, cur, hv, _⟩
              · omega
              · injection hv with e1
                exact ⟨gm, e1⟩
            obtain ⟨gm, rfl⟩ := hgm
            have hmcell : wo.cell? ⟨gm, i, none⟩ = some (.slice (some ⟨gi, 0, none⟩) m ci) := by
              have ho2 := hM2.own
              rw [HXL.out] at ho2
              have := ho2.cellAt (g := gm) i (by omega)
              rw [this, hui0, hui, hpl]
            have hq1 := fun q => IsB.str (w := wo.drewN q) (show IsB wo (some ⟨gi, 0, none⟩) m (xss.getD i []) from by have := hisb (Nat.le_refl _); rwa [hpl] at this) ci
            have hq2 := fun q => IsB.str (w := wo.drewN q) (show IsB wo ua m (xss.getD i []) from hib.below hb2) uc
            obtain ⟨Ti, hTi⟩ : ∃ Ti, Ti = strOfNums (xss.getD i []) := ⟨_, rfl⟩
            rw [← hTi] at hq1 hq2
            have hTT : (Ti.toList == Ti.toList) = true := by simp
            have hTN : (Ti.toList != Ti.toList) = false := by simp
            have i1 : (i : Int) < (k : Int) := by omega
            have i2 : (0 : Int) ≤ (i : Int) := by omega
            have hglt := HUS.out i gi ci m hil (by rw [hui, hpl])
            have hui' : us.getD i undef = .slice (some ⟨gi, 0, none⟩) m ci := by rw [hui, hpl]
            have hgg : gi ≠ g := by
              rintro rfl
              obtain ⟨cur, hc⟩ := hsb.typed
              have h4 := hd2.blk
              unfold Whole at h4
              rw [hc] at h4
              injection h4 with h4
              injection h4 with _ h4
              exact absurd h4 (by decide)
            have HM2 := Lib.hid hM2
            have HD2' := Lib.hid hd2
            have HBB := Lib.hid hb2
            have HUI := Lib.hid hui'
            have HGG := Lib.hid hgg
            have HIL := Lib.hid hil
            have HUI0 := Lib.hid hui0
            have HUL := Lib.hid hul
            unfold maxLen at hm
            clear hcc hc0 hnil hib hM2 hd2 hb2 hul hui0 hui hsb hisb hpl hTi hil hgg hui'
            go_wp2_with fail
            go_quiet (fail)
            have hqb : Below wo.heap.size wo (wo.drewN nq) := below_drewN wo nq
            have HM3 := Lib.hid (HM2.out.below hqb).next
            have HD3 := Lib.hid (HD2'.out.below hqb)
            have HB3 := Lib.hid (HBB.out.trans (hqb.mono HBB.out.size))
            have hmcell3 : (wo.drewN nq).cell? ⟨gm, i, none⟩ = some (.slice (some ⟨gi, 0, none⟩) m ci) := hmcell
            clear hqb hq1 hq2 hTT hTN hpcell hmcell
            go_wp2_with fail
            clear hmcell3
            go_loopw [69] (fun qv wr => ∃ q : Nat, q ≤ m ∧ qv = .int .i64 q ∧ MineAt wr w.heap.size (.slice (some ⟨gm, 0, none⟩) k vc) us xss (i + 1) ∧ DAt wr w.heap.size g (.slice none 0 0) [] 0 r ∧ Below w.heap.size w wr) (fun qv _ => m - (intOf qv).toNat)
            case atStart => exact ⟨0, by omega, rfl, HM3.out, HD3.out, HB3.out⟩
            case round =>
              obtain ⟨q, hq, rfl, hM5, hd5, hb5⟩ := hrel
              by_cases hqm : q < m
              · obtain ⟨g', c', e', s', _⟩ := hM5.row i HIL.out
                rw [HUI.out] at e'
                injection e' with e1 e2 e3
                injection e1 with e1
                injection e1 with e1
                subst e1 e3
                rw [← e2] at s'
                obtain ⟨y, hy, hycell, hyfr⟩ := s'.cell q (by omega)
                have hmc : wr.cell? ⟨gm, i, none⟩ = some (.slice (some ⟨gi, 0, none⟩) m ci) := by
                  have ho5 := hM5.own
                  rw [HXL.out] at ho5
                  have := ho5.cellAt (g := gm) i (by omega)
                  rw [this, HUI0.out, HUI.out]
                have hst := hM5.store (j := i) (by omega) HIL.out HUI.out q ((y + 1) % 256) (by omega)
                have hdt := hd5.elsewhere HGG.out (by simp [Value.ownBlock]) q (.int .u8 (((y + 1) % 256 : Nat)))
                have hbt := hb5.setCell (p := ⟨gi, q, none⟩) s'.ge.1 (.int .u8 (((y + 1) % 256 : Nat)))
                have q1 : (q : Int) < (m : Int) := by omega
                have q2 : (0 : Int) ≤ (q : Int) := by omega
                have HST := Lib.hid hst
                have HDT := Lib.hid hdt
                have HBT := Lib.hid hbt
                clear hst hdt hbt hM5 hd5 hb5 s' e2
                go_wp2
                go_roundw
                case rel => exact ⟨q + 1, by omega, by go_num, HST.out, HDT.out, HBT.out⟩
                case measure => simp [intOf]; omega
              · have HM6 := Lib.hid hM5
                have HD6 := Lib.hid hd5
                have HB6 := Lib.hid hb5
                clear hM5 hd5 hb5
                go_wp2
                go_roundw
                case rel => exact ⟨i + 1, by omega, by go_num, HM6.out, HD6.out, HB6.out⟩
                case measure => simp [intOf]; omega
          · have HM6 := Lib.hid hM2
            have HD6 := Lib.hid hd2
            have HB6 := Lib.hid hb2
            clear hM2 hd2 hb2
            have hgt : decide ((r : Int) < (T.size : Int)) = true := by have := HTZ.out; simp; omega
            have hgt2 : (r : Int) < (T.size : Int) := by have := HTZ.out; omega
            go_wp2_with (go_at_call 21; refine (size_any _ HD6.out).mono ?_; rintro e w' ⟨rfl, rfl⟩)
            go_ret
            exact ⟨rfl, HB6.out⟩
end Go.Proofs.Ytnppnccokmcbpaa
