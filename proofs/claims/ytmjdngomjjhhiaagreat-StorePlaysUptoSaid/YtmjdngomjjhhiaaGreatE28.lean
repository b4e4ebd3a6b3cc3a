/- sort.Search, and was an entry there at a revision. -/
import Derived.Test.YtmjdngomjjhhiaaGreatE27
namespace Go.Proofs.YtmjdngomjjhhiaaGreat
open Go.RowKit
open Go.Maps (Keyed)

section
variable {w : World}
set_option maxRecDepth 100000 in
set_option maxHeartbeats 4000000 in
theorem search_any (n : Nat) (hn : n ≤ 1099511627776) (v2 v3 : Value) (p : Nat → Bool) (hmono : ∀ a b, a ≤ b → b < n → p a = true → p b = true)
    (hf : ∀ W i, Below w.heap.size w W → i < n → Calls Tryz.prog 62 #[.int .i64 (i : Int), v2, v3] W fun e w' => e = .returned (.bool (p i)) ∧ Below W.heap.size W w') :
    Calls Tryz.prog 61 #[.int .i64 (n : Int), .func (.func 62) #[] #[v2, v3]] w fun e w' => ∃ k, k ≤ n ∧ e = .returned (.int .i64 (k : Int)) ∧ (∀ i, i < k → p i = false) ∧ (∀ i, k ≤ i → i < n → p i = true) ∧ Below w.heap.size w w' := by
  have HF := Lib.hid hf
  clear hf
  go_enter Tryz.func61, Tryz.ntmps61
  go_wp2_with fail
  go_loopw [5, 6] (fun iv jv wr => ∃ i j : Nat, i ≤ j ∧ j ≤ n ∧ iv = .int .i64 i ∧ jv = .int .i64 j ∧ (∀ x, x < i → p x = false) ∧ (∀ x, j ≤ x → x < n → p x = true) ∧ Below w.heap.size w wr) (fun iv jv _ => (intOf jv).toNat - (intOf iv).toNat)
  case atStart => exact ⟨0, n, by omega, by omega, rfl, rfl, (fun x hx => absurd hx (by omega)), (fun x h1 h2 => absurd h1 (by omega)), Below.refl _ _⟩
  case round =>
    obtain ⟨i, j, hij, hjn, rfl, rfl, h1, h2, hb⟩ := hrel
    by_cases hl : i < j
    · have HB := Lib.hid hb
      have H1 := Lib.hid h1
      have H2 := Lib.hid h2
      obtain ⟨h, hh⟩ : ∃ h, h = (i + j) / 2 := ⟨_, rfl⟩
      have hc := HF.out wr h hb (by omega)
      have HC := Lib.hid hc
      clear h1 h2 hb hc
      go_wp2_with fail
      have hcast : ((i : Int) + (j : Int)) / 2 = ((h : Nat) : Int) := by omega
      rw [hcast]
      refine HC.out.mono ?_
      rintro _ w1 ⟨rfl, hb1⟩
      have HB1 := Lib.hid (bell_up HB.out hb1)
      clear hb1
      have hij2 : i ≤ h := by omega
      have hhj : h < j := by omega
      have hhn : h < n := by omega
      clear hh hcast
      generalize hp : p h = ph at *
      cases ph with
      | true =>
        go_wp2
        go_roundw
        case rel => exact ⟨i, h, hij2, by omega, rfl, rfl, H1.out, (fun x hx1 hx2 => hmono h x hx1 hx2 hp), HB1.out⟩
        case measure => simp [intOf]; omega
      | false =>
        go_wp2
        go_roundw
        case rel =>
          refine ⟨h + 1, j, by omega, hjn, by go_num, rfl, (fun x hx => ?_), H2.out, HB1.out⟩
          cases hpx : p x with
          | false => rfl
          | true => rw [hmono x h (by omega) hhn hpx] at hp; cases hp
        case measure => simp [intOf]; omega
    · have hej : j = i := by omega
      subst hej
      have HB := Lib.hid hb
      have HK := Lib.hid (show (∀ x, x < j → p x = false) ∧ (∀ x, j ≤ x → x < n → p x = true) from ⟨h1, h2⟩)
      clear h1 h2 hb
      go_wp2
      go_ret
      exact ⟨j, hjn, rfl, HK.out.1, HK.out.2, HB.out⟩
theorem begun_of {l : List Sp} {rev : Int} {k : Nat} (hk : k ≤ l.length) (h1 : ∀ i x, i < k → l[i]? = some x → x.s ≤ rev) (h2 : ∀ i x, k ≤ i → l[i]? = some x → rev < x.s) : begun l rev = k := by
  induction l generalizing k with
  | nil => simp at hk; subst hk; rfl
  | cons y l ih =>
    rw [begun_cons]
    cases k with
    | zero =>
      have := h2 0 y (Nat.le_refl _) rfl
      rw [if_neg (by omega)]
    | succ k =>
      have h3 := h1 0 y (by omega) rfl
      rw [if_pos h3, ih (k := k) (by simpa using hk) (fun i x hi hx => h1 (i + 1) x (by omega) (by simpa using hx)) (fun i x hi hx => h2 (i + 1) x (by omega) (by simpa using hx))]
theorem begun_mono {l : List Sp} (hp : l.Pairwise fun a b => a.u ≠ 0 ∧ a.u < b.s) (ha : ∀ x ∈ l, x.ok) {i j : Nat} {x y : Sp} (hij : i ≤ j) (hx : l[i]? = some x) (hy : l[j]? = some y) : x.s ≤ y.s := by
  rcases Nat.lt_or_eq_of_le hij with h | h
  · obtain ⟨i1, i2⟩ := List.getElem?_eq_some_iff.1 hx
    obtain ⟨j1, j2⟩ := List.getElem?_eq_some_iff.1 hy
    have := List.pairwise_iff_getElem.1 hp i j i1 j1 h
    rw [i2, j2] at this
    have := (ha x (List.mem_of_getElem? hx)).2.2
    omega
  · subst h
    rw [hx] at hy
    injection hy with hy
    rw [hy]; exact Int.le_refl _
set_option maxRecDepth 100000 in
set_option maxHeartbeats 4000000 in
/-- Was it there at a revision? -/
theorem thereAt_any {B g : Nat} {t : Tp} {l : List Sp} {p0 p1 p2 : Nat} {a : Option Addr} {n c : Nat} (h : EntAt w B g t l p0 p1 p2 a n c) (hok : SpOk l) (hn : n ≤ 1099511627776) (rev : Int) :
    Calls Tryz.prog 38 #[ptr g, .int .i64 rev] w fun e w' => e = .returned (.bool (spThere l rev)) ∧ Below w.heap.size w w' := by
  obtain ⟨w0, hw0⟩ : ∃ w0, w0 = (w.alloc (.cells #[ptr g] 81)).alloc (.cells #[.int .i64 rev] 2) := ⟨_, rfl⟩
  have hs1 : (w.alloc (.cells #[ptr g] 81)).heap.size = w.heap.size + 1 := by simp
  have hb0 : Below w.heap.size w w0 := by rw [hw0]; exact bell_alloc (below_alloc _ _) _
  have hX2 : Whole w0 w.heap.size 81 #[ptr g] := by
    rw [hw0]
    exact (show Whole (w.alloc (.cells #[ptr g] 81)) w.heap.size 81 _ from heap_alloc_new _ _).kept ((below_alloc _ _).block _ (by rw [hs1]; omega))
  have hX3 : Whole w0 (w.heap.size + 1) 2 #[.int .i64 rev] := by rw [hw0, ← hs1]; exact heap_alloc_new _ _
  have h0 := h.below hb0
  have HE := Lib.hid h0
  have HX2 := Lib.hid hX2
  have HX3 := Lib.hid hX3
  have HB0 := Lib.hid hb0
  have hlen := h.sp.len
  let p : Nat → Bool := fun i => match l[i]? with
    | some x => decide (rev < x.s)
    | none => true
  have hmono : ∀ i j, i ≤ j → j < n → p i = true → p j = true := by
    intro i j hij hj hp
    obtain ⟨y, hy⟩ : ∃ y, l[j]? = some y := ⟨_, List.getElem?_eq_getElem (by omega)⟩
    obtain ⟨x, hx⟩ : ∃ x, l[i]? = some x := ⟨_, List.getElem?_eq_getElem (by omega)⟩
    have := begun_mono hok.asc hok.all hij hx hy
    have hp2 : decide (rev < x.s) = true := by have := hp; simp only [p, hx] at this; exact this
    show (match l[j]? with
      | some x => decide (rev < x.s)
      | none => true) = true
    rw [hy]
    simp at hp2 ⊢
    omega
  have hcl : ∀ W i, Below w0.heap.size w0 W → i < n → Calls Tryz.prog 62 #[.int .i64 (i : Int), ptr w.heap.size, ptr (w.heap.size + 1)] W fun e w' => e = .returned (.bool (p i)) ∧ Below W.heap.size W w' := by
    intro W i hW hi
    obtain ⟨x, hx⟩ : ∃ x, l[i]? = some x := ⟨_, List.getElem?_eq_getElem (by omega)⟩
    have hp : p i = decide (rev < x.s) := by simp only [p, hx]
    rw [hp]
    have hE := HE.out.below hW
    obtain ⟨b, off, rfl, hb, g1, _⟩ := hE.sp.cells hx
    have g12 : W.drew.cell? ⟨b, off + i * 2, none⟩ = some (.int .i64 x.s) := g1
    have hc : W.drew.cell? ⟨g, 3, none⟩ = some (.slice (some ⟨b, off, none⟩) n c) := by show W.cell? _ = _; rw [hE.blk.cell]; rfl
    have k2 : W.drew.cell? ⟨w.heap.size, 0, none⟩ = some (ptr g) := by show W.cell? _ = _; rw [(HX2.out.kept (hW.block _ HX2.out.lt)).cell]; rfl
    have k3 : W.drew.cell? ⟨w.heap.size + 1, 0, none⟩ = some (.int .i64 rev) := by show W.cell? _ = _; rw [(HX3.out.kept (hW.block _ HX3.out.lt)).cell]; rfl
    have hi2 : (i : Int) < (n : Int) := by omega
    clear h h0 hX2 hX3 hb0 hE hb g1 hp hw0 hs1 hmono
    go_enter Tryz.func62, Tryz.ntmps62
    go_wp2_with fail
    go_region
    go_wp2
    go_ret
    exact ⟨rfl, below_drew1 _⟩
  have HS := Lib.hid (search_any (w := w0) n hn (ptr w.heap.size) (ptr (w.heap.size + 1)) p hmono hcl)
  have HOK := Lib.hid hok
  have HLN := Lib.hid hlen
  have HPD := Lib.hid (show ∀ i x, l[i]? = some x → p i = decide (rev < x.s) from fun i x hx => by simp only [p, hx])
  have c3 : w0.cell? ⟨g, 3, none⟩ = some (.slice a n c) := by rw [h0.blk.cell]; rfl
  have x2 : w0.cell? ⟨w.heap.size, 0, none⟩ = some (ptr g) := by rw [hX2.cell]; rfl
  clear_value p
  have HTH := Lib.hid (there_begun rev l hok.all hok.asc)
  generalize spThere l rev = th at *
  clear h h0 hX2 hX3 hb0 hs1 hmono hcl hok hlen
  go_enter Tryz.func38, Tryz.ntmps38
  go_upto_region 1 with fail
  rw [← hw0]
  clear hw0
  go_wp2_with fail
  refine HS.out.mono ?_
  rintro _ w1 ⟨k, hkn, rfl, q1, q2, hb1⟩
  have hbg : begun l rev = k := begun_of (by rw [HLN.out]; exact hkn) (fun i x hi hx => by
      have := q1 i hi
      rw [HPD.out i x hx] at this
      simp at this; omega) (fun i x hi hx => by
      have h3 := (List.getElem?_eq_some_iff.1 hx).1
      rw [HLN.out] at h3
      have := q2 i hi h3
      rw [HPD.out i x hx] at this
      simpa using this)
  have hth := HTH.out
  rw [hbg] at hth
  have HB1 := Lib.hid (bell_up HB0.out hb1)
  have hE1 := HE.out.below hb1
  cases k with
  | zero =>
    have hth2 : th = false := hth
    clear hth HTH
    subst hth2
    have x2' : w1.drew.cell? ⟨w.heap.size, 0, none⟩ = some (ptr g) := (hb1.cell (p := ⟨w.heap.size, 0, none⟩) HX2.out.lt).trans x2
    clear q1 q2 hb1 hbg hE1 c3 x2
    have hz : ((0 : Nat) : Int) = 0 := rfl
    rw [hz]
    go_upto_region 2 with fail
    go_region
    go_wp2
    go_ret
    exact ⟨rfl, bell_up HB1.out (below_drew1 _)⟩
  | succ k =>
    obtain ⟨x, hx⟩ : ∃ x, l[k]? = some x := ⟨_, List.getElem?_eq_getElem (by rw [HLN.out]; omega)⟩
    have hth2 : th = !x.over rev := by
      rw [hth]
      show (match l[k]? with
        | some x => !x.over rev
        | none => false) = _
      rw [hx]
    clear hth HTH
    subst hth2
    obtain ⟨b, off, rfl, hb, g1, g2⟩ := hE1.sp.cells hx
    have HOV := Lib.hid (fun W => over_any x rev W)
    have HHD := Lib.hid (fun W (hW : Below w1.heap.size w1 W) => (show (W.cell? ⟨w.heap.size, 0, none⟩ = some (ptr g) ∧ W.cell? ⟨w.heap.size + 1, 0, none⟩ = some (.int .i64 rev)) ∧ W.cell? ⟨g, 3, none⟩ = some (.slice (some ⟨b, off, none⟩) n c) ∧ W.cell? ⟨b, off + k * 2, none⟩ = some (.int .i64 x.s) ∧ W.cell? ⟨b, off + k * 2 + 1, none⟩ = some (.int .i64 x.u) from by
      have hbb := hb1.trans (hW.mono hb1.size)
      exact ⟨⟨by rw [(HX2.out.kept (hbb.block _ HX2.out.lt)).cell]; rfl, by rw [(HX3.out.kept (hbb.block _ HX3.out.lt)).cell]; rfl⟩, by rw [((HE.out.below hbb).blk).cell]; rfl, (hW.cell (p := ⟨b, off + k * 2, none⟩) hb).trans g1, (hW.cell (p := ⟨b, off + k * 2 + 1, none⟩) hb).trans g2⟩))
    obtain ⟨kk, hkk⟩ : ∃ kk : Int, kk = ((k + 1 : Nat) : Int) := ⟨_, rfl⟩
    rw [← hkk]
    have hw : IntKind.i64.wrap (kk - 1) = (k : Int) := by rw [IntWalk.i64_in _ (by omega)]; omega
    have hk0 : (0 : Int) < kk := by omega
    have hkn2 : (k : Int) < (n : Int) := by omega
    have hkn3 : (0 : Int) ≤ (k : Int) := by omega
    have hkn4 : (0 : Int) ≤ (k : Int) ∧ (k : Int) < (n : Int) := ⟨hkn3, hkn2⟩
    clear hkk
    clear q1 q2 hb1 hbg hE1 c3 x2 hx g1 g2 hb
    go_upto_region 2 with fail
    go_region_held3 (fun W : World => (W.cell? ⟨w.heap.size, 0, none⟩ = some (ptr g) ∧ W.cell? ⟨w.heap.size + 1, 0, none⟩ = some (.int .i64 rev)) ∧ W.cell? ⟨g, 3, none⟩ = some (.slice (some ⟨b, off, none⟩) n c) ∧ W.cell? ⟨b, off + k * 2, none⟩ = some (.int .i64 x.s) ∧ W.cell? ⟨b, off + k * 2 + 1, none⟩ = some (.int .i64 x.u)) (first | assumption | with_reducible exact HHD.out _ (below_drewN _ 1)) (first
      | (go_at_call 63; refine (HOV.out _).mono ?_; rintro e w2 ⟨rfl, hb2⟩
         have hb3 := bell_up (below_drewN w1 1) hb2
         have hc2 := HHD.out w2 hb3
         have HB2 := Lib.hid (bell_up HB1.out hb3)
         clear hb2 hb3))
    all_goals
      go_wp2
      go_ret
      exact ⟨rfl, HB2.out⟩
end
end Go.Proofs.YtmjdngomjjhhiaaGreat
