/- FrameKeeps: what is handed in is left and not kept; answers are new memory. -/
import Derived.Test.YtojkegnflbfloaaSums
import Derived.Laws.AppendOwnNone
import Derived.Maps.AppendAt
namespace Go.Proofs.Ytojkegnflbfloaa
open Go.RowKit

theorem wpList_append_own_any {P : Program} (w : World) {ops : Array Oper} {rest : List Oper} {o : Oper} {a : Act} {Q : Exit → Act → World → Prop} (hgd : o.guard = none) (s x : Operand) (t : TypeId)
    (ho : o.op = .call { callee := .builtin .append, args := #[s, x], argTypes := #[t, t] })
    (base : Nat) (e : TypeId) (i : TypeInfo) (z : Value) (size bytes : Nat) (ht : P.underlying t = some (.slice e)) (hi : P.info? e = some i) (hz : i.zero = some z)
    (hsize : i.size = size) (hby : i.bytes = bytes) (hzs : z.cells.size = size) (hsz : 0 < size)
    (v : Value) (n : Nat) (xs : List Value) (hs : a.eval s = v) (hown : w.ownsRow base e size v n xs)
    (ao : Option Addr) (m c : Nat) (news : List Value) (hx : a.eval x = .slice ao m c) (hl : news.length = m * size) (hnone : ao = none → m = 0 ∧ c = 0)
    (hnews : ∀ ad, ao = some ad → ∀ j u, news[j]? = some u → w.cell? (ad.add j) = some u) (h1 : ∀ u ∈ news, u.oneCell' = true)
    (h63 : n + m ≤ maxLen) (hbytes : (n + m) * bytes ≤ 140737488355328) (hbase : base ≤ w.heap.size)
    (h : ∀ v' w', w'.ownsRow base e size v' (n + m) (xs ++ news) → w.grownBy w' v.ownBlock → wpList P ops Q rest (a.put o.dst v') w') : wpList P ops Q (o :: rest) a w := by
  cases ao with
  | some ad => exact wpList_append_own w hgd s x t ho base e i z size bytes ht hi hz hsize hby hzs hsz v n xs hs hown ad m c news hx hl (hnews ad rfl) h1 h63 hbytes hbase fun v' w' h2 h3 _ => h v' w' h2 h3
  | none =>
    obtain ⟨rfl, rfl⟩ := hnone rfl
    have hn : news = [] := List.eq_nil_of_length_eq_zero (by simpa using hl)
    subst hn
    exact wpList_append_own_none hgd s x t ho base e i size ht hi v n xs hs hown hx (h v w (by simpa using hown) (World.grownBy.refl _ _))

/-- An owned row of bytes, whatever they are. -/
def SomeB (w : World) (base g n c : Nat) : Prop := ∃ l : List Value, w.ownsRow base 5 1 (.slice (some ⟨g, 0, none⟩) n c) n l ∧ ∀ v ∈ l, ∃ y : Nat, y < 256 ∧ v = .int .u8 y
theorem SomeB.cell {w : World} {base g n c : Nat} (h : SomeB w base g n c) (k : Nat) (hk : k < n) : ∃ y : Nat, y < 256 ∧ w.cell? ⟨g, k, none⟩ = some (.int .u8 y) ∧ w.frozen? ⟨g, k, none⟩ = false := by
  obtain ⟨l, ho, hl⟩ := h
  have hlen : l.length = n := by simpa using ho.1
  have hc := ho.cellAt k (by omega)
  have he : l[k]? = some l[k] := by simp [hlen, hk]
  obtain ⟨y, hy, hv⟩ := hl l[k] (List.getElem_mem _)
  exact ⟨y, hy, by rw [hc, he, hv], ho.frozenAt k⟩
theorem SomeB.store {w : World} {base g n c : Nat} (h : SomeB w base g n c) (k y : Nat) (hy : y < 256) : SomeB (w.setCell ⟨g, k, none⟩ (.int .u8 y)) base g n c := by
  obtain ⟨l, ho, hl⟩ := h
  refine ⟨_, (ho.stored k (.int .u8 y)).1, fun v hv => ?_⟩
  rcases List.mem_or_eq_of_mem_set hv with h | h
  · exact hl v h
  · exact ⟨y, hy, h⟩

theorem owns_below {w w' : World} {base n g c : Nat} {e : TypeId} {l : List Value} (h : w.ownsRow base e 1 (.slice (some ⟨g, 0, none⟩) n c) n l) (hb : Below w.heap.size w w') : w'.ownsRow base e 1 (.slice (some ⟨g, 0, none⟩) n c) n l := by
  have hg := (h.lt g rfl).2
  obtain ⟨h1, h2⟩ := h
  refine ⟨h1, ?_⟩
  rcases h2 with h2 | ⟨g', cap', cur, hv, hg', hh, r⟩
  · exact .inl h2
  · injection hv with e1 e2 e3
    injection e1 with e1
    injection e1 with e1
    subst e1
    exact .inr ⟨g, cap', cur, by rw [e3], hg', by rw [hb.block g hg]; exact hh, r⟩
theorem SomeB.below {w w' : World} {base g n c : Nat} (h : SomeB w base g n c) (hb : Below w.heap.size w w') : SomeB w' base g n c := by
  obtain ⟨l, ho, hl⟩ := h
  exact ⟨l, owns_below ho hb, hl⟩
theorem SomeB.ge {w : World} {base g n c : Nat} (h : SomeB w base g n c) : base ≤ g ∧ g < w.heap.size := by
  obtain ⟨l, ho, _⟩ := h
  exact ho.lt g rfl
/-- The same of a value that may be nil. -/
def SomeV (w : World) (base : Nat) (v : Value) (n : Nat) : Prop := (v = .slice none 0 0 ∧ n = 0) ∨ ∃ g c, v = .slice (some ⟨g, 0, none⟩) n c ∧ SomeB w base g n c
theorem SomeV.owned {w : World} {base n : Nat} {v : Value} {xs : List Int} (h : w.ownsRow base 5 1 v n (xs.map (Value.int .u8))) (hb : ∀ x ∈ xs, 0 ≤ x ∧ x < 256) : SomeV w base v n := by
  rcases h.2 with ⟨h1, h2⟩ | ⟨g, cap, cur, rfl, _⟩
  · exact .inl ⟨h1, h2⟩
  · refine .inr ⟨g, cap, rfl, _, h, fun v hv => ?_⟩
    obtain ⟨x, hx, rfl⟩ := List.mem_map.1 hv
    have := hb x hx
    exact ⟨x.toNat, by omega, by rw [Int.toNat_of_nonneg this.1]⟩

theorem owns_shape {w : World} {base n : Nat} {e : TypeId} {v : Value} {l : List Value} (h : w.ownsRow base e 1 v n l) (hn : 0 < n) : ∃ g cap, v = .slice (some ⟨g, 0, none⟩) n cap ∧ n ≤ cap ∧ cap ≤ maxLen := by
  rcases h.2 with ⟨_, h0⟩ | ⟨g, cap, cur, hv, _, _, h3, h4, _⟩
  · omega
  · exact ⟨g, cap, hv, h3, h4⟩

set_option maxHeartbeats 4000000 in
theorem keeps_core (a : Option Addr) (n c : Nat) (xs : List Int) (w : World) (hxs : IsB w a n xs) (hnil : a = none → n = 0 ∧ c = 0) (hnc : n ≤ c) (hcm : c ≤ 140737488351232) :
    Calls Try.prog 7 #[.slice a n c] w fun e w' => e = .returned (.bool true) ∧ Below w.heap.size w w' := by
  obtain ⟨i0, hi, hz0, hz1, hz2⟩ := info_parts Try.infoB
  have HX := Lib.hid hxs
  have HN := Lib.hid hnil
  clear hxs hnil
  go_enter Try.func7, Try.ntmps7
  go_wp2_with fail
  refine (awake_any w).mono ?_
  rintro e w1 ⟨rfl, hb1⟩
  have hsz1 := hb1.size
  have hx1 := (HX.out.below hb1).alloc (.cells #[] 5)
  have hmade := World.ownsRow_made (base := w.heap.size) (e := 5) (size := 1) w1 #[] 0 hsz1 (by simp [maxLen]) rfl
  have HB1 := Lib.hid hb1
  have HNW := Lib.hid hx1.news
  have HLN := Lib.hid (show (xs.map (Value.int .u8)).length = n * 1 by simpa using HX.out.1)
  have HM := Lib.hid hmade
  clear hb1 hx1 hmade
  go_wp2_with (first
    | (at_builtin; refine wpList_append_own_any _ rfl (.tmp 17) (.tmp 18) 22 rfl w.heap.size 5 i0 (.int .u8 0) 1 1 Try.underlying22 hi hz0 hz1 hz2 rfl (by decide) _ 0 [] rfl HM.out a n c (xs.map (Value.int .u8)) rfl HLN.out HN.out HNW.out (oneCell_map xs) (by unfold maxLen; omega) (by omega) (by simp; omega) ?_; intro v2 w2 hown2 hgrow2)
    | (at_builtin; refine wpList_append_own _ rfl (.tmp 19) (.tmp 20) 22 rfl w.heap.size 5 i0 (.int .u8 0) 1 1 Try.underlying22 hi hz0 hz1 hz2 rfl (by decide) _ (0 + n) _ rfl (hown2.alloc _) ⟨w2.heap.size, 0, none⟩ 1 1 [.int .u8 77] rfl rfl (cell_one_new _ _ _) (by intro u hu; simp at hu; subst hu; rfl) (by unfold maxLen; omega) (by omega) (by have := hgrow2.size; simp at this; simp; omega) ?_; intro v3 w3 hown3 hgrow3 _; rw [Nat.zero_add] at hown3; obtain ⟨g, cap, hv3, hcap, hcapm⟩ := owns_shape hown3 (by omega); subst hv3; have hs1 := fun w => slice_head (some ⟨g, 0, none⟩) (n + 1) cap n (by omega) w))
  have hb2 : Below w.heap.size w w2 := (HB1.out.alloc hsz1 _).grown hgrow2 (by simp; omega) (fun k hk => (HM.out.lt k hk).1)
  have hb3 : Below w.heap.size w w3 := (hb2.alloc hb2.size _).grown hgrow3 (by have := hb2.size; simp; omega) (fun k hk => (hown2.lt k hk).1)
  have hx77 : xs.map (Value.int .u8) ++ [Value.int .u8 77] = (xs ++ [77]).map (Value.int .u8) := by simp
  rw [List.nil_append, hx77] at hown3
  have hby : ∀ x ∈ xs ++ [77], 0 ≤ x ∧ x < 256 := by
    intro x hx
    rcases List.mem_append.1 hx with h | h
    · exact HX.out.2.1 x h
    · simp at h; omega
  have hxl := HX.out.1
  have hmine1 : IsB w3 (some ⟨g, 0, none⟩) (n + 1) (xs ++ [77]) := IsB.owned hown3 hby
  have hmine : IsB w3 (some ⟨g, 0, none⟩) n xs := by
    have := hmine1.head n (by omega)
    rwa [List.take_append_of_le_length (by omega), List.take_of_length_le (by omega)] at this
  have hsome : SomeB w3 w.heap.size g (n + 1) cap := by
    rcases SomeV.owned hown3 hby with ⟨h, _⟩ | ⟨g', c', h1, h2⟩
    · cases h
    · injection h1 with e1 e2 e3
      injection e1 with e1
      injection e1 with e1
      rw [e1, e3]
      exact h2
  have h77 : w3.cell? ⟨g, n, none⟩ = some (.int .u8 77) := by
    rw [hown3.cellAt n (by omega), ← hx77, List.getElem?_append_right (by simp; omega)]
    simp [hxl]
  have hp3 := HX.out.below hb3
  have hs2 : ∀ w, (Instr.slice 22 (.slice (some ⟨g, 0, none⟩) n cap) none (some (.int .i64 ((n : Int) + 1))) none).run Try.prog w = .ok (.slice (some ⟨g, 0, none⟩) (n + 1) cap) w := fun w => slice_head (some ⟨g, 0, none⟩) n cap (n + 1) hcap w
  have hc1 := hmine.str cap
  have hc2 := hp3.str c
  obtain ⟨S, hS⟩ : ∃ S, S = strOfNums xs := ⟨_, rfl⟩
  rw [← hS] at hc1 hc2
  have hi0 : (n : Int) < (n : Int) + 1 := by omega
  have HS := Lib.hid hS
  have HB3 := Lib.hid hb3
  have HMI := Lib.hid hmine
  have HSM := Lib.hid hsome
  clear hb2 hb3 hx77 hby hown2 hown3 hgrow2 hgrow3 hmine1 hmine hsome hS hxl hp3
  unfold maxLen at hcapm
  by_cases hn : 16384 < n
  · go_wp2_with fail
    refine (seal_long _ n cap _ hn (by unfold maxLen; omega)).mono ?_
    rintro e w4 ⟨rfl, rfl⟩
    go_wp2
    go_ret
    exact ⟨rfl, HB3.out⟩
  · go_wp2_with fail
    refine (seal_fits _ n cap xs _ (by omega) (by intro h; cases h) HMI.out).mono ?_
    rintro e w4 ⟨g2, rfl, hown4, hb4⟩
    have hb4' := HB3.out.trans (hb4.mono HB3.out.size)
    have hc3 := (HMI.out.below hb4).str cap
    have hc4 := (HX.out.below hb4').str c
    rw [← HS.out] at hc3 hc4
    have hsb := sealed_byte xs HX.out.2.1 (by rw [HX.out.1]; omega)
    have hx4 : IsB w4 (some ⟨g2, 0, none⟩) (8 + n) (sealed xs) := IsB.owned hown4 hsb
    have hc5 := hx4.str (8 + n)
    obtain ⟨T, hT⟩ : ∃ T, T = strOfNums (sealed xs) := ⟨_, rfl⟩
    rw [← hT] at hc5
    have h774 : w4.cell? ⟨g, n, none⟩ = some (.int .u8 77) := (hb4.cell (p := ⟨g, n, none⟩) (HSM.out.ge).2).trans h77
    have hsm4 := HSM.out.below hb4
    have hgg : g ≠ g2 := by
      have h1 := (hown4.lt g2 rfl).1
      have h2 := (HSM.out.ge).2
      omega
    have hge2 := (hown4.lt g2 rfl).1
    have hbase2 : w.heap.size ≤ g2 := Nat.le_trans HB3.out.size hge2
    have HT := Lib.hid hT
    have HB4 := Lib.hid hb4'
    have HSB := Lib.hid hsb
    have HO4 := Lib.hid hown4
    have HSM4 := Lib.hid hsm4
    have HG := Lib.hid hgg
    have HB2 := Lib.hid hbase2
    clear hb4 hb4' hsb hx4 hT hsm4 hown4 hgg hge2 hbase2 h77 hc1 hc2
    go_wp2_with fail
    clear hc3 hc4 hc5 h774 hs2 hs1
    go_loopw [64] (fun v wr => ∃ k : Nat, k ≤ n ∧ v = .int .i64 k ∧ SomeB wr w.heap.size g (n + 1) cap ∧ wr.ownsRow w3.heap.size 5 1 (.slice (some ⟨g2, 0, none⟩) (8 + n) (8 + n)) (8 + n) ((sealed xs).map (Value.int .u8)) ∧ Below w.heap.size w wr)
      (fun v _ => n - (intOf v).toNat)
    case atStart => exact ⟨0, by omega, rfl, HSM4.out, HO4.out, HB4.out⟩
    case round =>
      obtain ⟨k, hk, rfl, hsm, hown, hbel⟩ := hrel
      by_cases hkn : k < n
      · obtain ⟨y, hy, hcell, hfr⟩ := hsm.cell k (by omega)
        have hst := hsm.store k ((y + 1) % 256) (by omega)
        have hot := owns_other hown ⟨g, k, none⟩ HG.out (.int .u8 (((y + 1) % 256 : Nat)))
        have hbt := hbel.setCell (p := ⟨g, k, none⟩) hsm.ge.1 (.int .u8 (((y + 1) % 256 : Nat)))
        have HST := Lib.hid hst
        have HOT := Lib.hid hot
        have HBT := Lib.hid hbt
        clear hst hot hbt hsm hown hbel
        go_wp2
        go_roundw
        case rel => exact ⟨k + 1, by omega, by go_num, HST.out, HOT.out, HBT.out⟩
        case measure => simp [intOf]; omega
      · have hx5 : IsB wr (some ⟨g2, 0, none⟩) (8 + n) (sealed xs) := IsB.owned hown HSB.out
        have HX5 := Lib.hid hx5
        have HO5 := Lib.hid hown
        have HB5 := Lib.hid hbel
        have hg2 := (hown.lt g2 rfl).2
        clear hsm hown hbel hx5
        go_wp2_with fail
        refine (open_any _ _ _ _ _ (by unfold maxLen; omega) (Nat.le_refl _) (by unfold maxLen; omega) HX5.out).mono ?_
        rintro e w6 ⟨hb6, h⟩
        have he := err_sealed xs (by rw [HX.out.1]; omega) []
        have hp := pay_sealed xs (by rw [HX.out.1]; omega) []
        have hw := wd_sealed xs (by rw [HX.out.1]; omega) []
        rw [List.append_nil] at he hp hw
        rw [HX.out.1] at hw
        obtain ⟨_, v, rfl, hown6⟩ := h.resolve_right (fun h => h.1 he)
        rw [hp, hw] at hown6
        rw [hw]
        obtain ⟨ya, yc, hyv, hyi, _⟩ := owned_slice hown6 HX.out.2.1
        have hsv := SomeV.owned hown6 HX.out.2.1
        have hb6' := HB5.out.trans (hb6.mono HB5.out.size)
        have hx6 : IsB w6 (some ⟨g2, 0, none⟩) (8 + n) (sealed xs) := HX5.out.below hb6
        have hc6 := hx6.str (8 + n)
        have hc7 := hyi.str yc
        have hc8 := (HX.out.below hb6').str c
        rw [← HT.out] at hc6
        rw [← HS.out] at hc7 hc8
        rw [← hyv] at hc7
        have hlen : (Builtin.lenOf v).run Try.prog w6 = .ok n w6 := by rw [hyv]; simp [Builtin.lenOf]
        have HO6 := Lib.hid (owns_below HO5.out hb6)
        have HSV := Lib.hid hsv
        have HB6 := Lib.hid hb6'
        have HSZ := Lib.hid hb6.size
        subst hyv
        clear hb6 hb6' h he hp hw hown6 hyi hsv hx6 hlen
        go_wp2_with fail
        clear hc6 hc7 hc8
        have hws : w.heap.size ≤ wr.heap.size := HB5.out.size
        generalize wr.heap.size = s5 at *
        go_loopw [97] (fun v wr => ∃ k : Nat, k ≤ n ∧ v = .int .i64 k ∧ SomeV wr s5 (.slice ya n yc) n ∧ wr.ownsRow w3.heap.size 5 1 (.slice (some ⟨g2, 0, none⟩) (8 + n) (8 + n)) (8 + n) ((sealed xs).map (Value.int .u8)) ∧ Below w.heap.size w wr)
          (fun v _ => n - (intOf v).toNat)
        case atStart => exact ⟨0, by omega, rfl, HSV.out, HO6.out, HB6.out⟩
        case round =>
          obtain ⟨k, hk, rfl, hsv, hown, hbel⟩ := hrel
          by_cases hkn : k < n
          · rcases hsv with ⟨_, h0⟩ | ⟨g3, c3, hv, hsm⟩
            · omega
            · injection hv with e1 e2 e3
              subst e1 e3
              obtain ⟨y, hy, hcell, hfr⟩ := hsm.cell k (by omega)
              have hge := hsm.ge.1
              have hst := hsm.store k ((y + 1) % 256) (by omega)
              have hot := owns_other hown ⟨g3, k, none⟩ (show g3 ≠ g2 by omega) (.int .u8 (((y + 1) % 256 : Nat)))
              have hbt := hbel.setCell (p := ⟨g3, k, none⟩) (show w.heap.size ≤ g3 by omega) (.int .u8 (((y + 1) % 256 : Nat)))
              have HST := Lib.hid hst
              have HOT := Lib.hid hot
              have HBT := Lib.hid hbt
              clear hst hot hbt hsm hown hbel e2 hge
              go_wp2
              go_roundw
              case rel => exact ⟨k + 1, by omega, by go_num, .inr ⟨g3, _, rfl, HST.out⟩, HOT.out, HBT.out⟩
              case measure => simp [intOf]; omega
          · have hx7 : IsB wr (some ⟨g2, 0, none⟩) (8 + n) (sealed xs) := IsB.owned hown HSB.out
            have HX7 := Lib.hid hx7
            have HB7 := Lib.hid hbel
            clear hsv hown hbel hx7
            go_wp2_with fail
            refine (open_any _ _ _ _ _ (by unfold maxLen; omega) (Nat.le_refl _) (by unfold maxLen; omega) HX7.out).mono ?_
            rintro e w8 ⟨hb8, h⟩
            have he := err_sealed xs (by rw [HX.out.1]; omega) []
            have hp := pay_sealed xs (by rw [HX.out.1]; omega) []
            have hw := wd_sealed xs (by rw [HX.out.1]; omega) []
            rw [List.append_nil] at he hp hw
            rw [HX.out.1] at hw
            obtain ⟨_, v, rfl, hown8⟩ := h.resolve_right (fun h => h.1 he)
            rw [hp, hw] at hown8
            rw [hw]
            obtain ⟨za, zc, rfl, hzi, _⟩ := owned_slice hown8 HX.out.2.1
            have hb8' := HB7.out.trans (hb8.mono HB7.out.size)
            have hc9 := hzi.str zc
            have hc10 := (HX.out.below hb8').str c
            rw [← HS.out] at hc9 hc10
            have HB8 := Lib.hid hb8'
            clear hb8 hb8' h he hp hw hown8 hzi
            go_wp2
            go_ret
            exact ⟨rfl, HB8.out⟩

theorem keeps_walk {a : Option Addr} {n c : Nat} {zs : List Int} (w : World) (h : IsRow .u8 w a n c zs) (hr : c ≤ 140737488351232) :
    Calls Try.prog 7 #[.slice a n c] w fun e w' => e = .returned (.bool true) ∧ Below w.heap.size w w' := by
  obtain ⟨hb, hnil, hnc, _⟩ := h.isB
  exact keeps_core a n c _ w hb hnil hnc hr
end Go.Proofs.Ytojkegnflbfloaa
