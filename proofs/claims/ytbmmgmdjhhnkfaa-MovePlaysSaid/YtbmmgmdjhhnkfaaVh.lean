/- MovePlays: rows with their contents; scripts that came in, opened. MovePlays: the move under way, with its rows. MovePlays: opened over any first table. MovePlays: the program's table as the document's; rows compared. MovePlays: what is known of both controllers. MovePlays: a table that came in, opened. -/
import Derived.Test.YtbmmgmdjhhnkfaaVe
import Derived.Test.YtbmmgmdjhhnkfaaCOpen
import Derived.Deep.Strs
import Derived.Deep.Slices
import Derived.ChangeSlices
import Derived.ChangeArms
import Derived.SizedLaws
import Derived.Test.YtbmmgmdjhhnkfaaVf
import Derived.Test.YtbmmgmdjhhnkfaaVd
import Derived.Test.YtbmmgmdjhhnkfaaVg
import Derived.Great.BuildSlice
import Derived.OpenShut
import Derived.DeepKeys
namespace Go.Proofs.Ytbmmgmdjhhnkfaa
open Go.RowKit Go.ChangeShapes Go.WideShapes

def rwc (m : RowD) : List Value := [.string m.a, .string m.b, .string m.c, .int .i64 m.s, .int .i64 m.u]
theorem rwc_five : ∀ y : RowD, (rwc y).length = 5 := fun _ => rfl
theorem rwc_len (zs : List RowD) : (zs.flatMap rwc).length = zs.length * 5 := fm_len rwc_five zs
theorem rwc_one (zs : List RowD) : ∀ u ∈ zs.flatMap rwc, u.oneCell' = true := fm_one (fun y u hu => by
  simp [rwc] at hu
  rcases hu with rfl | rfl | rfl | rfl | rfl <;> rfl) zs
/-- These rows can be read here. -/
def SrcC (w : World) (a : Option Addr) (n c : Nat) (zs : List RowD) : Prop := zs.length = n ∧ (a = none → n = 0 ∧ c = 0) ∧ (∀ ad, a = some ad → ∀ (j : Nat) u, (zs.flatMap rwc)[j]? = some u → w.cell? (ad.add j) = some u) ∧ n ≤ 2199023255552
/-- Ahead of B. -/
def SrcZ (w : World) (B : Nat) (a : Option Addr) (n c : Nat) (zs : List RowD) : Prop := SrcC w a n c zs ∧ ∀ ad, a = some ad → 0 < n → ad.block < B
theorem SrcZ.up {w w' : World} {B : Nat} {a : Option Addr} {n c : Nat} {zs : List RowD} (h : SrcZ w B a n c zs) (hb : Below B w w') : SrcZ w' B a n c zs := by
  obtain ⟨⟨h1, h2, h3, h5⟩, h6⟩ := h
  exact ⟨⟨h1, h2, fun ad hq j u hu => (hb.cell (p := ad.add j) (by have hj := (List.getElem?_eq_some_iff.1 hu).1; rw [rwc_len] at hj; have := h6 ad hq (by omega); unfold Addr.add; split <;> exact this)).trans (h3 ad hq j u hu), h5⟩, h6⟩
theorem SrcC.src {w : World} {a : Option Addr} {n c : Nat} {zs : List RowD} (h : SrcC w a n c zs) : Src w a n c := ⟨_, by rw [rwc_len, h.1], h.2.1, h.2.2.1, rwc_one zs, h.2.2.2⟩
theorem SrcC.none (w : World) : SrcC w .none 0 0 [] := ⟨rfl, fun _ => ⟨rfl, rfl⟩, fun _ hq => (by cases hq), by omega⟩
theorem SrcZ.none (w : World) (B : Nat) : SrcZ w B .none 0 0 [] := ⟨SrcC.none w, fun _ hq => (by cases hq)⟩
/-- They lie in a row of one's own. -/
def RwC (w : World) (B : Nat) (a : Option Addr) (n c : Nat) (zs : List RowD) : Prop := zs.length = n ∧ w.ownsRow B 99 5 (.slice a n c) n (zs.flatMap rwc) ∧ n ≤ 2199023255552
section
variable {w w' : World} {B gm gl g r : Nat} {v : Value} {M : Mv} {ms : List MsgD} {a : Option Addr} {n c : Nat} {zs : List RowD}
theorem RwC.none (w : World) (B : Nat) : RwC w B .none 0 0 [] := ⟨rfl, ⟨rfl, .inl ⟨rfl, rfl⟩⟩, by omega⟩
theorem RwC.src (h : RwC w B a n c zs) : SrcC w a n c zs := by
  obtain ⟨h0, h1, h3⟩ := h
  obtain ⟨a', c', hv, hL⟩ := Lies.owned h1
  injection hv with e1 e2 e3
  subst e1 e3
  exact ⟨h0, hL.nil, hL.news, h3⟩
theorem RwC.kept (h : RwC w B a n c zs) (hb : ∀ k T cs, Whole w k T cs → T = 99 → w'.heap[k]? = w.heap[k]?) : RwC w' B a n c zs := by
  obtain ⟨h0, h1, h3⟩ := h
  refine ⟨h0, ⟨h1.1, ?_⟩, h3⟩
  rcases h1.2 with h4 | ⟨q, cap, cur, h5, h6, h7, h8⟩
  · exact .inl h4
  · exact .inr ⟨q, cap, cur, h5, h6, (hb q _ cur h7 rfl).trans h7, h8⟩
theorem RwC.below (h : RwC w B a n c zs) (hb : Below w.heap.size w w') : RwC w' B a n c zs := h.kept fun k _ _ hW _ => hb.block k hW.lt
theorem RwC.lower (h : RwC w B a n c zs) {B' : Nat} (hB : B' ≤ B) : RwC w B' a n c zs := by
  obtain ⟨h0, h1, h3⟩ := h
  refine ⟨h0, ⟨h1.1, ?_⟩, h3⟩
  rcases h1.2 with h4 | ⟨q, cap, cur, h5, h6, h7, h8⟩
  · exact .inl h4
  · exact .inr ⟨q, cap, cur, h5, by omega, h7, h8⟩
theorem RwC.set (h : RwC w B a n c zs) {b : Nat} {T : TypeId} {cs : Array Value} (hW : Whole w b T cs) (hT : T ≠ 99) (i : Nat) (u : Value) : RwC (w.setCell ⟨b, i, .none⟩ u) B a n c zs :=
  h.kept fun _ _ _ hW2 hR => Below.heap_setCell _ _ _ _ (whole_ne hW2 hW (fun e => hT (e.symm.trans hR)))
theorem RwC.sets (h : RwC w B a n c zs) {b : Nat} {T : TypeId} {cs : Array Value} (hW : Whole w b T cs) (hT : T ≠ 99) (l : List Value) (o : Nat) : RwC (w.setCells b o l) B a n c zs :=
  h.kept fun k _ _ hW2 hR => heap_setCells k (whole_ne hW2 hW (fun e => hT (e.symm.trans hR))) l o
theorem MS.rowsC (h : MS w B gm gl g v M ms r) {B' : Nat} (hr : RwC w B' a n c zs) (hc : Chg w w' (SB gm gl g v)) : RwC w' B' a n c zs :=
  hr.kept fun k _ _ hW hT => hc.block k hW.lt (h.other hW (by rw [hT]; decide) (by rw [hT]; decide) (by rw [hT]; decide) (by rw [hT]; decide))
/-- What a copy of rows comes to. -/
def CloneC (zs : List RowD) (w : World) (e : Ending) (w' : World) : Prop := ∃ a n c, e = .returned (.slice a n c) ∧ RwC w' w.heap.size a n c zs ∧ Below w.heap.size w w'
set_option maxRecDepth 100000 in
set_option maxHeartbeats 2000000 in
theorem clone_rowsC (w : World) (h : SrcC w a n c zs) : Calls Try.prog 35 #[.slice a n c] w (CloneC zs w) := by
  obtain ⟨h0, h2, h3, h5⟩ := h
  have h1 : (zs.flatMap rwc).length = n * 5 := by rw [rwc_len, h0]
  have h4 := rwc_one zs
  have H0 := Lib.hid h0
  clear h0
  generalize hcs : zs.flatMap rwc = cs at *
  have HCS := Lib.hid hcs
  clear hcs
  cases a with
  | none =>
    obtain ⟨rfl, rfl⟩ := h2 rfl
    have he : ∀ w : World, (binOp .eql 43 (.slice none 0 0) (.slice none 0 0)).run Try.prog w = .ok (.bool true) w := fun _ => rfl
    clear h1 h2 h3 h4 h5
    go_enter Try.func35, Try.ntmps35
    go_wp2
    go_ret
    obtain rfl : zs = [] := List.eq_nil_of_length_eq_zero H0.out
    exact ⟨none, 0, 0, rfl, RwC.none _ _, Below.refl _ _⟩
  | some ad =>
    have he : ∀ w : World, (binOp .eql 43 (.slice (some ad) n c) (.slice none 0 0)).run Try.prog w = .ok (.bool false) w := fun _ => rfl
    obtain ⟨i0, hi0, hz0, hz1, hz2⟩ := info_of Try.infoRw
    have HC := Lib.hid (And.intro h1 (And.intro h3 (And.intro h4 h5)))
    have HB := Lib.hid (below_alloc w (.cells #[] 99))
    have HOW := Lib.hid (show (w.alloc (.cells #[] 99)).ownsRow w.heap.size 99 5 (.slice (some ⟨w.heap.size, 0, none⟩) 0 0) 0 [] from ⟨rfl, .inr ⟨w.heap.size, 0, #[], rfl, Nat.le_refl _, heap_alloc_new _ _, by omega, by simp [maxLen], rfl, rfl⟩⟩)
    have HCE := Lib.hid (show ∀ ad', some ad = some ad' → ∀ (j : Nat) u, cs[j]? = some u → (w.alloc (.cells #[] 99)).cell? (ad'.add j) = some u from fun ad' hq j u hu => by
      have h6 := h3 ad' hq j u hu
      exact (below_alloc w _).cell (World.block_lt_of_cell? w _ h6) |>.trans h6)
    clear h1 h2 h3 h4 h5
    go_enter Try.func35, Try.ntmps35
    go_wp2_with (at_builtin; refine wpList_append_at_any _ rfl _ _ 43 rfl w.heap.size 99 i0 (.agg #[.string ⟨#[]⟩, .string ⟨#[]⟩, .string ⟨#[]⟩, .int .i64 0, .int .i64 0]) 5 64 Try.underlying43 hi0 hz0 hz1 hz2 rfl (by decide) _ 0 _ rfl HOW.out (some ad) n c cs rfl HC.out.1 (by intro h; cases h) HCE.out HC.out.2.2.1 (by have := HC.out.2.2.2; unfold maxLen; omega) (by have := HC.out.2.2.2; omega) (by simp) ?_; intro v2 w2 hown2 hgrow2 hat2; have HO2 := Lib.hid hown2; have HG2 := Lib.hid (show (w.alloc (.cells #[] 99)).grownBy w2 (some w.heap.size) from hgrow2); clear hown2 hgrow2 hat2)
    obtain ⟨a2, c2, rfl, _⟩ := Lies.owned HO2.out
    have HE := Lib.hid (show CloneC zs w (.returned (.slice a2 (0 + n) c2)) w2 from ⟨a2, 0 + n, c2, rfl, ⟨by rw [H0.out]; omega, by rw [HCS.out]; exact HO2.out, by have := HC.out.2.2.2; omega⟩, HB.out.grown HG2.out HB.out.size (fun k hk => by injection hk with hk; omega)⟩)
    clear HO2 HG2
    go_wp2
    go_ret
    exact HE.out
set_option maxRecDepth 100000 in
set_option maxHeartbeats 4000000 in
theorem fenced_rowsC (w : World) (h : MS w B gm gl g v M ms r) (i : Int) (hs : M.st = 1 ∧ M.id = i) (hr : SrcC w a n c zs) :
    Calls Try.prog 14 #[.pointer (some ⟨gm, 0, none⟩), .int .i64 i, .slice a n c] w fun e w' => e = .returned (.int .i64 0) ∧ (∃ ra rn rc, MS w' B gm gl g v { M with ra := ra, rn := rn, rc := rc, st := 2 } ms r ∧ RwC w' w.heap.size ra rn rc zs) ∧ Chg w w' (SB gm gl g v) := by
  have HA := Lib.hid (at_any w h.mv 1 i)
  rw [decide_eq_true hs] at HA
  have HM := Lib.hid h
  have HCL := Lib.hid (clone_rowsC w hr)
  clear h hr
  go_enter Try.func14, Try.ntmps14
  go_wp2_with fail
  refine HA.out.mono ?_
  rintro e w1 ⟨rfl, rfl⟩
  go_wp2_with fail
  refine HCL.out.mono ?_
  rintro e w2 ⟨a2, n2, c2, rfl, hrw, hb⟩
  have HS2 := Lib.hid (HM.out.below hb)
  have HM3 := Lib.hid (HS2.out.mv.setRows a2 n2 c2)
  have HC3 := Lib.hid (show Chg w2 ((w2.setCell ⟨gm, 31, none⟩ (.slice a2 n2 c2)).setCell ⟨gm, 19, none⟩ (.int .i64 2)) (fun k => k = gm) from ((Chg.refl w2 (fun k => k = gm)).set rfl 31 _).set rfl 19 _)
  have HR3 := Lib.hid (HS2.out.rowsC hrw (HC3.out.mono fun _ _ hk => .inr (.inr (.inr hk))))
  have HB := Lib.hid hb
  have c31 := HS2.out.mv.mcells.2.2.2.2.2.2.2.2.2.2.2
  have z31 := HS2.out.mv.two.2.2 31
  have c19 := HM3.out.two.2.1
  have z19 := HM3.out.two.2.2 19
  clear hb HA HCL hrw
  go_wp2
  go_ret
  have h5 := HS2.out.step (HM3.out.setSt 2) HC3.out
  exact ⟨rfl, ⟨a2, n2, c2, h5.1, HR3.out⟩, (Chg.ofBelow _ HB.out).trans h5.2⟩
end
theorem rows_srcZ {H : Type} {enc : TypeId × Value → H} {W : World} {fuel : Nat} {v : Value} {x : DataW H × List MemPlace}
    (h : DataW.trod enc Try.prog W 0 (fun _ => true) true fuel 43 [v] = some x) (hw : ∀ k ∈ x.1.weights Try.prog 43, k ≤ 140737488351232) : ∃ a n c zs, v = .slice a n c ∧ SrcZ W W.heap.size a n c zs := by
  obtain ⟨a, n, c, zs, rfl, hr, _, _⟩ := rows_opened h
  refine ⟨a, n, c, zs, rfl, ?_⟩
  rcases Go.Deep.open_slice Try.underlying43 h with ⟨hcs, hx⟩ | ⟨ad, l, c', m, n', Dd, Pl, hcs, _, hl, hm, hmm, hx, hall⟩
  · simp at hcs
    obtain ⟨rfl, rfl, rfl⟩ := hcs
    obtain rfl : zs = [] := List.eq_nil_of_length_eq_zero hr.1
    exact SrcZ.none _ _
  · simp at hcs
    obtain ⟨rfl, rfl, rfl⟩ := hcs
    simp only [if_true] at hmm
    have hlen : m * 64 ≤ 140737488351232 := by
      refine hw (m * 64) ?_
      rw [hx]
      simp only [DataW.weights, Try.underlying43, List.mem_cons]
      left
      rw [show Try.prog.bytesOf 99 = 64 by kernel_rfl]
      simp
      omega
    obtain ⟨hzl, hz⟩ := hr
    have hfl : ∀ y : RowD, (rwc y).length = 5 := fun _ => rfl
    refine ⟨⟨hzl, fun hq => (by cases hq), fun ad' hq j u hu => ?_, by omega⟩, fun ad' hq h0 => ?_⟩
    · injection hq with hq
      subst hq
      have hj : j < zs.length * 5 := by
        have := (List.getElem?_eq_some_iff.1 hu).1
        rwa [fm_len hfl] at this
      obtain ⟨b, off, hab, hb, hcc⟩ := hz.resolve_left (by omega)
      injection hab with hab
      subst hab
      have hi : j / 5 < zs.length := by omega
      obtain ⟨y, hy⟩ : ∃ y, zs[j / 5]? = some y := ⟨_, List.getElem?_eq_getElem hi⟩
      have hjj : j = j / 5 * 5 + j % 5 := by omega
      have h5 : j % 5 < 5 := Nat.mod_lt _ (by omega)
      rw [hjj, fm_at hfl hy h5] at hu
      obtain ⟨q0, q1, q2, q3, q4, _⟩ := hcc _ y hy
      rw [add_plain]
      have hcase : j % 5 = 0 ∨ j % 5 = 1 ∨ j % 5 = 2 ∨ j % 5 = 3 ∨ j % 5 = 4 := by omega
      have hof : off + j = off + j / 5 * 5 + j % 5 := by omega
      rw [hof]
      rcases hcase with e | e | e | e | e <;> rw [e] at hu ⊢ <;> (simp [rwc] at hu; subst hu)
      · exact q0
      · exact q1
      · exact q2
      · exact q3
      · exact q4
    · injection hq with hq
      subst hq
      obtain ⟨b, off, hab, hb, hcc⟩ := hz.resolve_left (by omega)
      injection hab with hab
      subst hab
      exact hb
/-- A step. -/
structure OpD where
  k : Int
  sl : Int
  tw : Int
  id : Int
  ra : Option Addr
  rn : Nat
  rc : Nat
/-- It lies here. -/
def OpAt (W : World) (B b o : Nat) (d : OpD) : Prop := W.cell? ⟨b, o, none⟩ = some (.int .i64 d.k) ∧ W.cell? ⟨b, o + 1, none⟩ = some (.int .i64 d.sl) ∧ W.cell? ⟨b, o + 2, none⟩ = some (.int .i64 d.tw) ∧ W.cell? ⟨b, o + 3, none⟩ = some (.int .i64 d.id) ∧ W.cell? ⟨b, o + 4, none⟩ = some (.slice d.ra d.rn d.rc) ∧ InI d.id ∧ ∃ zs, SrcZ W B d.ra d.rn d.rc zs
def OpsIn (W : World) (a : Option Addr) (n : Nat) : Prop := n = 0 ∨ ∃ b off, a = some ⟨b, off, none⟩ ∧ b < W.heap.size ∧ ∀ i, i < n → ∃ d, OpAt W W.heap.size b (off + i * 5) d
set_option maxRecDepth 100000 in
set_option maxHeartbeats 2000000 in
theorem ops_opened {H : Type} {enc : TypeId × Value → H} {W : World} {fuel : Nat} {a : Option Addr} {len cap : Nat} {x : DataW H × List MemPlace}
    (h : DataW.trod enc Try.prog W 0 (fun _ => true) true fuel 25 (Value.slice a len cap).cells.toList = some x) (hw : ∀ k ∈ x.1.weights Try.prog 25, k ≤ 140737488351232) : OpsIn W a len ∧ len ≤ 140737488351232 := by
  have h' : DataW.trod enc Try.prog W 0 (fun _ => true) true fuel 25 [Value.slice a len cap] = some x := by simpa [Value.cells] using h
  rcases Go.Deep.open_slice Try.underlying25 h' with ⟨hcs, hx⟩ | ⟨ad, l, c, m, n, Dd, Pl, hcs, _, hl, hm, hmm, hx, hall⟩
  · simp at hcs
    obtain ⟨rfl, rfl, rfl⟩ := hcs
    exact ⟨.inl rfl, by omega⟩
  · simp at hcs
    obtain ⟨rfl, rfl, rfl⟩ := hcs
    have hcell : Try.prog.cellsOf 49 = 5 := by kernel_rfl
    rw [hcell] at hall
    simp only [if_true] at hmm
    have hlen : m * 56 ≤ 140737488351232 := by
      refine hw (m * 56) ?_
      rw [hx]
      simp only [DataW.weights, Try.underlying25, List.mem_cons]
      left
      rw [show Try.prog.bytesOf 49 = 56 by kernel_rfl]
      simp
      omega
    refine ⟨?_, by omega⟩
    rcases Nat.eq_zero_or_pos len with h0 | h0
    · exact .inl h0
    · obtain ⟨b, off, spot⟩ := ad
      have hs : spot = none := by
        obtain ⟨cs', hc, _⟩ := hall 0 (by omega)
        obtain ⟨_, hcl, hat⟩ := World.cells?_some hc
        have h1 := hat 0 (by omega)
        rw [List.getElem?_eq_getElem (by omega)] at h1
        simpa [Addr.add] using World.cell?_spot h1
      subst hs
      have hbl : b < W.heap.size := by
        obtain ⟨cs', hc, _⟩ := hall 0 (by omega)
        obtain ⟨_, hcl, hat⟩ := World.cells?_some hc
        have h1 := hat 0 (by omega)
        rw [List.getElem?_eq_getElem (by omega)] at h1
        have := World.block_lt_of_cell? W _ h1
        simpa [Addr.add] using this
      refine .inr ⟨b, off, rfl, hbl, fun i hi => ?_⟩
      obtain ⟨cs', hc, ht⟩ := hall i (by omega)
      obtain ⟨_, hcl, hat⟩ := World.cells?_some hc
      have hwi : ∀ k ∈ (Dd i).weights Try.prog 49, k ≤ 140737488351232 := fun k hk => hw k (by
        rw [hx]
        exact weights_slice Try.underlying25 (.inl (List.mem_map.2 ⟨i, List.mem_range.2 hi, rfl⟩)) hk)
      match cs', hcl with
      | [v0, v1, v2, v3, v4], _ =>
        have e0 := hat 0 (by omega)
        have e1 := hat 1 (by omega)
        have e2 := hat 2 (by omega)
        have e3 := hat 3 (by omega)
        have e4 := hat 4 (by omega)
        simp only [add_plain, Nat.add_zero, List.getElem?_cons_zero, List.getElem?_cons_succ] at e0 e1 e2 e3 e4
        obtain ⟨xs, n', _, hd, _, hlen, hf⟩ := DataW.trod_struct Try.underlying49 ht
        match xs, hlen with
        | [y0, y1, y2, y3, y4], _ =>
          have t0 := hf 0 _ rfl
          have t1 := hf 1 _ rfl
          have t2 := hf 2 _ rfl
          have t3 := hf 3 _ rfl
          have t4 := hf 4 _ rfl
          have k1 : Try.prog.cellsOf 3 = 1 := by kernel_rfl
          have k3 : Try.prog.cellsOf 43 = 1 := by kernel_rfl
          have k4 : Try.prog.cellsOf 2 = 1 := by kernel_rfl
          simp [k1, k3, k4] at t0 t1 t2 t3 t4
          obtain ⟨q0, h0, _, w0⟩ := DataW.trod_int Try.underlying3 t0
          obtain ⟨q1, h1, _, w1⟩ := DataW.trod_int Try.underlying3 t1
          obtain ⟨q2, h2, _, w2⟩ := DataW.trod_int Try.underlying3 t2
          obtain ⟨q3, h3, _, w3⟩ := DataW.trod_int Try.underlying2 t3
          simp at h0 h1 h2 h3
          subst h0 h1 h2 h3
          have hd1 := congrArg Prod.fst hd
          simp only at hd1
          obtain ⟨ra, rn, rc, zs, rfl, hsr⟩ := rows_srcZ t4 (fun k hk => hwi k (by
            rw [hd1]
            simp only [DataW.weights, Try.underlying49]
            exact DataW.weights_mem_each (j := 4) rfl rfl k hk))
          exact ⟨⟨q0, q1, q2, q3, ra, rn, rc⟩, e0, e1, e2, e3, e4, wf_i64 w3, zs, hsr⟩
end Go.Proofs.Ytbmmgmdjhhnkfaa

namespace Go.Proofs.Ytbmmgmdjhhnkfaa
open Go.RowKit

section
variable {w w' : World} {B gm gl g r : Nat} {v : Value} {M : Mv} {ms : List MsgD} {zs : List RowD}
set_option maxRecDepth 100000 in
set_option maxHeartbeats 8000000 in
theorem moving_rows (w : World) (h : MvAt w B gm gl M) (hcl : ∀ W, Below w.heap.size w W → Calls Try.prog 35 #[.slice M.ra M.rn M.rc] W (CloneC zs W)) :
    Calls Try.prog 23 #[.pointer (some ⟨gm, 0, none⟩)] w fun e w' => ∃ a n c, e = .returned (.tuple #[.agg (mcs (mrows M a n c)).toArray, .int .i64 M.st]) ∧ RwC w' w.heap.size a n c zs ∧ Below w.heap.size w w' := by
  obtain ⟨W0, hW0, hw0, hb0⟩ := box_new w 45 #[.int .i64 0, .int .i64 0, .int .i64 0, .int .i64 0, .int .i64 0, .int .i64 0, .int .i64 0, .bool false, .slice none 0 0, .slice none 0 0, .slice none 0 0, .slice none 0 0]
  obtain ⟨W1, hW1, hw1, hb1⟩ := box_new W0 45 #[.int .i64 0, .int .i64 0, .int .i64 0, .int .i64 0, .int .i64 0, .int .i64 0, .int .i64 0, .bool false, .slice none 0 0, .slice none 0 0, .slice none 0 0, .slice none 0 0]
  have hs0 : W0.heap.size = w.heap.size + 1 := by rw [hW0]; exact Array.size_push _
  have HX := Lib.hid ((h.below hb0).below hb1)
  have HX0 := Lib.hid (h.below hb0)
  have HGL := Lib.hid h.own.lt
  have HCL := Lib.hid hcl
  have HB1 := Lib.hid (bell_up hb0 hb1)
  have HR := Lib.hid (hw0.kept (hb1.block _ hw0.lt))
  have HY := Lib.hid hw1
  have HS0 := Lib.hid hs0
  clear h hcl hw0 hb0 hw1 hb1 hs0
  go_enter Try.func23, Try.ntmps23
  go_upto_region 1 with fail
  rw [← hW0]
  clear hW0
  have hmr : W0.rangeAt gm 20 (mcs M) := HX0.out.mov.1
  have h12 := whole_all HY.out
  have hth : W1.there W0.heap.size 0 (mcs M).toArray.size := h12
  clear h12
  have him : (Try.prog.info? 45).map (·.size) = some (mcs M).toArray.size := Try.infoMs
  have HIM := Lib.hid him
  clear him
  subst hW1
  go_upto_region 2 with (first
    | (refine wpList_load_mid rfl 45 (.tmp 7) rfl gm 20 rfl (mcs M) _ hmr Try.underlying45 rfl HIM.out ?_)
    | (refine wpList_store_mid rfl 45 (.tmp 4) (.tmp 8) rfl W0.heap.size 0 (mcs M).toArray rfl rfl hth HIM.out (mcs_one _) ?_; have HY2 := Lib.hid (show Whole ((W0.alloc (.cells #[.int .i64 0, .int .i64 0, .int .i64 0, .int .i64 0, .int .i64 0, .int .i64 0, .int .i64 0, .bool false, .slice none 0 0, .slice none 0 0, .slice none 0 0, .slice none 0 0] 45)).setCells W0.heap.size 0 (mcs M).toArray.toList) W0.heap.size 45 (mcs M).toArray from whole_row HY.out rfl); have HR2 := Lib.hid (show Whole ((W0.alloc (.cells #[.int .i64 0, .int .i64 0, .int .i64 0, .int .i64 0, .int .i64 0, .int .i64 0, .int .i64 0, .bool false, .slice none 0 0, .slice none 0 0, .slice none 0 0, .slice none 0 0] 45)).setCells W0.heap.size 0 (mcs M).toArray.toList) w.heap.size 45 _ from HR.out.kept (heap_setCells w.heap.size (by have := HS0.out; omega) _ _)); have HX2 := Lib.hid (show MvAt ((W0.alloc (.cells #[.int .i64 0, .int .i64 0, .int .i64 0, .int .i64 0, .int .i64 0, .int .i64 0, .int .i64 0, .bool false, .slice none 0 0, .slice none 0 0, .slice none 0 0, .slice none 0 0] 45)).setCells W0.heap.size 0 (mcs M).toArray.toList) B gm gl M from HX.out.kept (heap_setCells gm (by have := HS0.out; have := HGL.out; omega) _ _)); have HB2 := Lib.hid (show Below w.heap.size w ((W0.alloc (.cells #[.int .i64 0, .int .i64 0, .int .i64 0, .int .i64 0, .int .i64 0, .int .i64 0, .int .i64 0, .bool false, .slice none 0 0, .slice none 0 0, .slice none 0 0, .slice none 0 0] 45)).setCells W0.heap.size 0 (mcs M).toArray.toList) from Chg.below (B := w.heap.size) (Chg.sets (P := fun k => k = W0.heap.size) rfl _ _ (Chg.ofBelow _ HB1.out)) (fun k hk => by have h1 := HS0.out; have h2 : k = W0.heap.size := hk; omega) (Nat.le_refl _)); clear hth hmr; generalize World.setCells _ W0.heap.size 0 _ = W2 at *))
  have c11 := HY2.out.cell 11
  rw [show (mcs M).toArray[11]? = some (.slice M.ra M.rn M.rc) from rfl] at c11
  go_wp2_with fail
  refine (HCL.out W2 HB2.out).mono ?_
  rintro e w3 ⟨a, n, c, rfl, hrc, hb3⟩
  have HRC3 := Lib.hid (hrc.lower HB2.out.size)
  have HY3 := Lib.hid (HY2.out.kept (hb3.block _ HY2.out.lt))
  have HR3 := Lib.hid (HR2.out.kept (hb3.block _ HR2.out.lt))
  have HX3 := Lib.hid (HX2.out.below hb3)
  have HB3 := Lib.hid (bell_up HB2.out hb3)
  have HY4 := Lib.hid (show Whole (w3.setCell ⟨W0.heap.size, 11, none⟩ (.slice a n c)) W0.heap.size 45 (mcs (mrows M a n c)).toArray from HY3.out.store 11 (.slice a n c))
  have HR4 := Lib.hid (show Whole (w3.setCell ⟨W0.heap.size, 11, none⟩ (.slice a n c)) w.heap.size 45 _ from HR3.out.kept (Below.heap_setCell w3 ⟨W0.heap.size, 11, none⟩ (.slice a n c) w.heap.size (by have := HS0.out; show _ ≠ W0.heap.size; omega)))
  have HX4 := Lib.hid (show MvAt (w3.setCell ⟨W0.heap.size, 11, none⟩ (.slice a n c)) B gm gl M from HX3.out.kept (Below.heap_setCell w3 ⟨W0.heap.size, 11, none⟩ (.slice a n c) gm (by have := HS0.out; have := HGL.out; show _ ≠ W0.heap.size; omega)))
  have HRC4 := Lib.hid (HRC3.out.set HY3.out (by decide) 11 (.slice a n c))
  have HB4 := Lib.hid (show Below w.heap.size w (w3.setCell ⟨W0.heap.size, 11, none⟩ (.slice a n c)) from Chg.below (B := w.heap.size) ((Chg.ofBelow (fun k => k = W0.heap.size) HB3.out).set rfl 11 _) (fun k hk => by have h1 := HS0.out; have h2 : k = W0.heap.size := hk; omega) (Nat.le_refl _))
  have c11 := HY3.out.cell 11
  have z11 := HY3.out.free 11
  rw [show (mcs M).toArray[11]? = some (.slice M.ra M.rn M.rc) from rfl] at c11
  clear hb3
  go_upto_region 3 with fail
  clear c11 z11 HB3 HX3 HR3 HY3
  generalize World.setCell w3 _ _ = W4 at *
  obtain ⟨wd, hwd, hbd⟩ : ∃ wd, wd = W4.drew ∧ Below W4.heap.size W4 wd := ⟨_, rfl, below_drewN W4 1⟩
  have hne : gm ≠ w.heap.size ∧ W0.heap.size ≠ w.heap.size := by have := HGL.out; have := HS0.out; omega
  have HYD := Lib.hid (HY4.out.kept (hbd.block _ HY4.out.lt))
  have HRD := Lib.hid (HR4.out.kept (hbd.block _ HR4.out.lt))
  have HXD := Lib.hid (HX4.out.below hbd)
  have HBD := Lib.hid (bell_up HB4.out hbd)
  have HRCD := Lib.hid (HRC4.out.below hbd)
  have hS0 : wd.rangeAt W0.heap.size 0 (mcs (mrows M a n c)) ∧ wd.cell? ⟨gm, 19, none⟩ = some (.int .i64 M.st) := ⟨whole_all_range HYD.out, HXD.out.two.2.1⟩
  have htr := whole_all HRD.out
  have HTR := Lib.hid (show wd.there w.heap.size 0 (mcs (mrows M a n c)).toArray.size from htr)
  clear hbd htr
  subst hwd
  refine wp_region_held_drew (S := fun V : World => V.rangeAt W0.heap.size 0 (mcs (mrows M a n c)) ∧ V.cell? ⟨gm, 19, none⟩ = some (.int .i64 M.st)) (by kernel_rfl) (hS0) (fun hHeld => ?_)
  refine wpAnyH_take (i := 0) (oi := { dst := Option.some 13, op := Go.Op.load 45 (Go.Operand.tmp 4), type := 45, pos := "move.go:61", after := #[], guard := Option.none }) (v := .agg (mcs (mrows M a n c)).toArray) rfl (by kernel_rfl) (by kernel_rfl) (by kernel_rfl) (fun _ _ _ h => h) (Or.inl ⟨by rfl, fun V hV => exec_mid _ _ V 45 (.tmp 4) rfl W0.heap.size 0 rfl (mcs (mrows M a n c)) _ hV.1 Try.underlying45 rfl (show (Try.prog.info? 45).map (·.size) = some (mcs (mrows M a n c)).length from Try.infoMs)⟩) (by assumption) ?_
  try simp only [Act.put, List.setIfInBounds_toArray, List.set_cons_zero, List.set_cons_succ]
  refine wpAnyH_take (i := 1) (oi := { dst := Option.some 14, op := Go.Op.move (Go.Operand.tmp 0), type := 32, pos := "move.go:61", after := #[{ on := 5, ground := Go.Ground.gcOnly Go.Departure.lateStores }], guard := Option.none }) (v := ?_) rfl (by kernel_rfl) (by kernel_rfl) (by kernel_rfl) (fun _ _ _ h => h) (Or.inl ⟨by rfl, ?_⟩) (by assumption) ?_
  rotate_left
  · intro V hV; (try dsimp only at hV); go_simp; all_goals (with_reducible rfl)
  try simp only [Act.put, List.setIfInBounds_toArray, List.set_cons_zero, List.set_cons_succ]
  refine wpAnyH_take (i := 2) (oi := { dst := Option.some 15, op := Go.Op.nilCheck (Go.Operand.tmp 14), type := 0, pos := "move.go:61", after := #[{ on := 1, ground := Go.Ground.data }, { on := 5, ground := Go.Ground.gcOnly Go.Departure.lateStores }], guard := Option.none }) (v := ?_) rfl (by kernel_rfl) (by kernel_rfl) (by kernel_rfl) (fun _ _ _ h => h) (Or.inl ⟨by rfl, ?_⟩) (by assumption) ?_
  rotate_left
  · intro V hV; (try dsimp only at hV); go_simp; all_goals (with_reducible rfl)
  try simp only [Act.put, List.setIfInBounds_toArray, List.set_cons_zero, List.set_cons_succ]
  refine wpAnyH_take (i := 3) (oi := { dst := Option.some 16, op := Go.Op.fieldAddr 89 (Go.Operand.tmp 15) 3, type := 0, pos := "move.go:61", after := #[{ on := 2, ground := Go.Ground.data }, { on := 5, ground := Go.Ground.gcOnly Go.Departure.lateStores }], guard := Option.none }) (v := ?_) rfl (by kernel_rfl) (by kernel_rfl) (by kernel_rfl) (fun _ _ _ h => h) (Or.inl ⟨by rfl, ?_⟩) (by assumption) ?_
  rotate_left
  · intro V hV; (try dsimp only at hV); go_simp; all_goals (with_reducible rfl)
  try simp only [Act.put, List.setIfInBounds_toArray, List.set_cons_zero, List.set_cons_succ]
  refine wpAnyH_take (i := 4) (oi := { dst := Option.some 17, op := Go.Op.load 3 (Go.Operand.tmp 16), type := 3, pos := "move.go:61", after := #[{ on := 3, ground := Go.Ground.data }, { on := 5, ground := Go.Ground.gcOnly Go.Departure.lateStores }], guard := Option.none }) (v := ?_) rfl (by kernel_rfl) (by kernel_rfl) (by kernel_rfl) (fun _ _ _ h => h) (Or.inl ⟨by rfl, ?_⟩) (by assumption) ?_
  rotate_left
  · intro V hV; (try dsimp only at hV); obtain ⟨hV1, hV2⟩ := hV; go_simp; all_goals (with_reducible rfl)
  try simp only [Act.put, List.setIfInBounds_toArray, List.set_cons_zero, List.set_cons_succ]
  refine wpAnyH_ready (rs := [5]) (by kernel_rfl) (by simp) ?_
  refine AllReadyH.cons (o := { dst := Option.none, op := Go.Op.store 45 (Go.Operand.tmp 2) (Go.Operand.tmp 13), type := 0, pos := "move.go:61", after := #[{ on := 0, ground := Go.Ground.data }, { on := 0, ground := Go.Ground.phase }, { on := 1, ground := Go.Ground.textOnly Go.Departure.lateStores }, { on := 2, ground := Go.Ground.textOnly Go.Departure.lateStores }, { on := 3, ground := Go.Ground.textOnly Go.Departure.lateStores }, { on := 4, ground := Go.Ground.textOnly Go.Departure.lateStores }], guard := Option.none }) rfl (fun K hK => ?_) (AllReadyH.nil)
  refine wp_store_mid 45 (.tmp 2) (.tmp 13) rfl w.heap.size 0 (mcs (mrows M a n c)).toArray rfl rfl (HTR.out : World.there _ w.heap.size 0 (mcs (mrows M a n c)).toArray.size) (show (Try.prog.info? 45).map (·.size) = some (mcs (mrows M a n c)).toArray.size from Try.infoMs) (mcs_one _) ?_
  refine hK.out _ _ (⟨World.rangeAt_setCells_apart hHeld.1 _ _ _ (.inl hne.2), (World.cell?_setCells_out _ _ _ _ _ (fun h _ => absurd h hne.1)).trans hHeld.2⟩) (fun hHeld => ?_)
  clear hK K
  try simp only [Act.put]
  refine wpAnyH_ready (rs := [6]) (by kernel_rfl) (by simp) ?_
  refine AllReadyH.cons (o := { dst := Option.some 3, op := Go.Op.assign (Go.Operand.tmp 17), type := 3, pos := "move.go:61", after := #[{ on := 4, ground := Go.Ground.data }, { on := 5, ground := Go.Ground.chain }, { on := 0, ground := Go.Ground.phase }, { on := 1, ground := Go.Ground.phase }, { on := 2, ground := Go.Ground.phase }, { on := 3, ground := Go.Ground.phase }, { on := 4, ground := Go.Ground.phase }, { on := 5, ground := Go.Ground.phase }], guard := Option.none }) rfl (fun K hK => ?_) (AllReadyH.nil)
  go_simp
  refine hK.out _ _ (hHeld) (fun hHeld => ?_)
  clear hK K
  try simp only [Act.put, List.setIfInBounds_toArray, List.set_cons_zero, List.set_cons_succ]
  refine wpAnyH_done (by kernel_rfl) ?_ _
  have HF := Lib.hid (show Whole (W4.drew.setCells w.heap.size 0 (mcs (mrows M a n c)).toArray.toList) w.heap.size 45 (mcs (mrows M a n c)).toArray from whole_row HRD.out rfl)
  have HRCF := Lib.hid (HRCD.out.sets HRD.out (by decide) (mcs (mrows M a n c)).toArray.toList 0)
  have HBF := Lib.hid (show Below w.heap.size w (W4.drew.setCells w.heap.size 0 (mcs (mrows M a n c)).toArray.toList) from (Chg.sets (P := fun k => k = w.heap.size) rfl _ _ (Chg.ofBelow _ HBD.out)).below (fun k hk => by rw [hk]; exact Nat.le_refl _) (Nat.le_refl _))
  clear hHeld hS0 HTR HRD HYD HXD HBD
  generalize World.setCells W4.drew w.heap.size 0 _ = WF at *
  go_wp2_with fail
  refine bodyPost_ret (v := .tuple #[.agg (mcs (mrows M a n c)).toArray, .int .i64 M.st]) (res_two Try.results23 _ _ w.heap.size 45 (mcs (mrows M a n c)).toArray _ _ rfl rfl HF.out Try.underlying45 rfl (show (Try.prog.info? 45).map (·.size) = some (mcs (mrows M a n c)).toArray.size from Try.infoMs)) rfl ⟨a, n, c, rfl, HRCF.out, HBF.out⟩
end
end Go.Proofs.Ytbmmgmdjhhnkfaa

namespace Go.Proofs.Ytbmmgmdjhhnkfaa
open Go.RowKit

section
variable {w w' : World} {B gm gl g r : Nat} {v : Value} {M : Mv} {ms : List MsgD}
/-- That a move is undone. -/
def undoT (e : Int) (o : List Int) (ms : List MsgD) : MsgD := mM 13 0 0 (rep e o ms).id 0
/-- What opened comes to. -/
def OpdT (w : World) (B g : Nat) (v : Value) (e : Int) (o : List Int) (ms : List MsgD) (r : Nat) (x : Ending) (w' : World) : Prop :=
  (∃ gm gl v' ms', x = .returned (.tuple #[.pointer (some ⟨gm, 0, none⟩), .int .i64 0]) ∧ MS w' B gm gl g v' (rep e o ms') ms' r ∧ Chg w w' (DB g v) ∧ w.heap.size ≤ gm ∧ ((rep e o ms).st = 0 ∧ ms' = ms ∨ (rep e o ms).st ≠ 0 ∧ ms' = ms ++ [undoT e o ms])) ∨
    ((rep e o ms).st ≠ 0 ∧ r < (cat ms).length + (rcd (undoT e o ms)).length ∧ x = .returned (.tuple #[.pointer none, .int .i64 3]) ∧ (∃ v', Dk.DAt w' B g v' (cat ms) (cat ms).length r) ∧ Chg w w' (DB g v))
set_option maxRecDepth 100000 in
set_option maxHeartbeats 4000000 in
theorem opened_tab (w : World) (d : Nat) (e : Int) (o : List Int) (ho : o.length = 16) (hok : Mt.check e o 8 = 0) (h : Dk.DAt w B g v (cat ms) d r) (hf : ∀ m ∈ ms, m.fine) (hB : B ≤ w.heap.size) :
    Calls Try.prog 9 #[.pointer (some ⟨g, 0, none⟩), .agg (tcs e o)] w (OpdT w B g v e o ms r) := by
  obtain ⟨X, hX, hw, hb⟩ := box_new w 24 (tcs e o)
  have HL := Lib.hid (lopen_cat B g v ms d r X (h.below hb) hf)
  have HF := Lib.hid hf
  have HO := Lib.hid ho
  have HOK := Lib.hid hok
  have HB := Lib.hid (Nat.le_trans hB hb.size)
  have hne : w.heap.size ≠ g := by have := (show Whole w g 72 _ from h.blk).lt; omega
  have HW := Lib.hid hw
  have HBX := Lib.hid hb
  clear h hf hB hw hb ho hok
  go_enter Try.func9, Try.ntmps9
  go_upto_region 1 with fail
  rw [← hX]
  clear hX
  go_wp2_with fail
  refine HL.out.mono ?_
  rintro x w1 ⟨gl, ra, rc, v', rfl, h1, h2, h3, hls, h5, _, hms, ht⟩
  have HOP := Lib.hid (mopen_tab w1 hls HF.out (Nat.le_trans HB.out ht.size) ra ms.length rc hms e o HO.out HOK.out)
  have HCH := Lib.hid (show ∀ w2, Chg w1 w2 (LB gl g v') → Chg w w2 (DB g v) from fun w2 hc => (Chg.ofBelow _ HBX.out).trans ⟨hc.os.trans ht.os, hc.tape.trans ht.tape, hc.output.trans ht.output, Nat.le_trans ht.size hc.size, fun k hk hn => (hc.block k (Nat.lt_of_lt_of_le hk ht.size) (by
    rintro (e1 | e1 | e1)
    · omega
    · exact hn (.inl e1)
    · exact hn (.inr (by rw [← h5]; exact e1)))).trans (ht.block k hk (fun e1 => hn (.inl e1)) (by simp))⟩)
  have HSZ := Lib.hid (Nat.le_trans HBX.out.size ht.size)
  have HR := Lib.hid (show w1.rangeAt w.heap.size 0 (tL e o) from whole_all_range (HW.out.kept (ht.block _ HW.out.lt hne (by simp))))
  clear h1 h2 h3 hls h5 hms ht
  go_wp2_with (refine wpList_load_mid rfl 24 (.tmp 3) rfl w.heap.size 0 rfl (tL e o) _ HR.out Try.underlying24 rfl (tL_info _ HO.out) ?_)
  refine HOP.out.mono ?_
  rintro x w2 (⟨h1, gm, rfl, h3, h4, h5⟩ | ⟨h1, h2, gm, v2, rfl, h3, h4, h5⟩ | ⟨h1, h2, rfl, h3, h4⟩)
  · have HE := Lib.hid (show OpdT w B g v e o ms r (.returned (.tuple #[.pointer (some ⟨gm, 0, none⟩), .int .i64 0])) w2 from .inl ⟨gm, gl, v', ms, rfl, h3, HCH.out w2 h4, Nat.le_trans HSZ.out h5, .inl ⟨h1, rfl⟩⟩)
    clear h1 h3 h4 h5
    go_wp2
    go_ret2
    exact HE.out
  · have HE := Lib.hid (show OpdT w B g v e o ms r (.returned (.tuple #[.pointer (some ⟨gm, 0, none⟩), .int .i64 0])) w2 from .inl ⟨gm, gl, v2, ms ++ [undoT e o ms], rfl, by rw [rep_snoc]; exact h3, HCH.out w2 h4, Nat.le_trans HSZ.out h5, .inr ⟨h1, rfl⟩⟩)
    clear h1 h2 h3 h4 h5
    go_wp2
    go_ret2
    exact HE.out
  · have HE := Lib.hid (show OpdT w B g v e o ms r (.returned (.tuple #[.pointer none, .int .i64 3])) w2 from .inr ⟨h1, h2, rfl, ⟨v', (show Lg w2 B gl g v' (cat ms) (cat ms).length r ms.length from h3).disk⟩, HCH.out w2 h4⟩)
    clear h1 h2 h3 h4
    go_wp2
    go_ret2
    exact HE.out
set_option maxRecDepth 100000 in
set_option maxHeartbeats 4000000 in
theorem mopen_bad (w : World) (l : Value) (a : Value) (e : Int) (o : List Int) (ho : o.length = 16) (hok : Mt.check e o 8 = 1) :
    Calls Try.prog 30 #[l, .agg (tcs e o), a] w fun x w' => x = .returned (.tuple #[.pointer none, .int .i64 1]) ∧ Below w.heap.size w w' := by
  obtain ⟨W1, hW1, hw1, hb1⟩ := box_new w 24 (tcs e o)
  have hck := check_any 8 W1 (TabC.mk' e o ho)
  rw [hok] at hck
  have HCK := Lib.hid hck
  have HB1 := Lib.hid hb1
  have HR := Lib.hid (show W1.rangeAt w.heap.size 0 (tL e o) from whole_all_range hw1)
  have HO := Lib.hid ho
  clear hck hb1 hw1 hok ho
  go_enter Try.func30, Try.ntmps30
  go_upto_region 1 with fail
  rw [← hW1]
  clear hW1
  go_wp2_with (refine wpList_load_mid rfl 24 (.tmp 4) rfl w.heap.size 0 rfl (tL e o) _ HR.out Try.underlying24 rfl (tL_info _ HO.out) ?_)
  refine HCK.out.mono ?_
  rintro x w2 ⟨rfl, hb2⟩
  have HB2 := Lib.hid (bell_up HB1.out hb2)
  clear hb2
  go_wp2_with fail
  go_ret2
  exact ⟨rfl, HB2.out⟩
set_option maxRecDepth 100000 in
set_option maxHeartbeats 4000000 in
theorem opened_bad (w : World) (d : Nat) (e : Int) (o : List Int) (ho : o.length = 16) (hok : Mt.check e o 8 = 1) (h : Dk.DAt w B g v (cat ms) d r) (hf : ∀ m ∈ ms, m.fine) :
    Calls Try.prog 9 #[.pointer (some ⟨g, 0, none⟩), .agg (tcs e o)] w fun x w' => x = .returned (.tuple #[.pointer none, .int .i64 1]) ∧ Chg w w' (DB g v) := by
  obtain ⟨X, hX, hw, hb⟩ := box_new w 24 (tcs e o)
  have HL := Lib.hid (lopen_cat B g v ms d r X (h.below hb) hf)
  have HO := Lib.hid ho
  have HOK := Lib.hid hok
  have hne : w.heap.size ≠ g := by have := (show Whole w g 72 _ from h.blk).lt; omega
  have HW := Lib.hid hw
  have HBX := Lib.hid hb
  clear h hf hw hb ho hok
  go_enter Try.func9, Try.ntmps9
  go_upto_region 1 with fail
  rw [← hX]
  clear hX
  go_wp2_with fail
  refine HL.out.mono ?_
  rintro x w1 ⟨gl, ra, rc, v', rfl, h1, h2, h3, hls, h5, _, hms, ht⟩
  have HOP := Lib.hid (mopen_bad w1 (.pointer (some ⟨gl, 0, none⟩)) (.slice ra ms.length rc) e o HO.out HOK.out)
  have HCH := Lib.hid (show Chg w w1 (DB g v) from (Chg.ofBelow _ HBX.out).trans ⟨ht.os, ht.tape, ht.output, ht.size, fun k hk hn => ht.block k hk (fun e1 => hn (.inl e1)) (by simp)⟩)
  have HR := Lib.hid (show w1.rangeAt w.heap.size 0 (tL e o) from whole_all_range (HW.out.kept (ht.block _ HW.out.lt hne (by simp))))
  clear h1 h2 h3 hls h5 hms ht
  go_wp2_with (refine wpList_load_mid rfl 24 (.tmp 3) rfl w.heap.size 0 rfl (tL e o) _ HR.out Try.underlying24 rfl (tL_info _ HO.out) ?_)
  refine HOP.out.mono ?_
  rintro x w2 ⟨rfl, hb2⟩
  have HE := Lib.hid (HCH.out.trans (Chg.ofBelow _ hb2))
  clear hb2
  go_wp2_with fail
  go_ret2
  exact ⟨rfl, HE.out⟩
end
end Go.Proofs.Ytbmmgmdjhhnkfaa

namespace Go.Proofs.Ytbmmgmdjhhnkfaa
open Go.RowKit

theorem lits_tabR (e : Int) (o : List Int) (h : o.length = 16) (he : In64 e) (hin : ∀ y ∈ o, In64 y) : ∃ l, Try.prog.keyLits 3 36 (tcs e o).toList = some l := by
  obtain ⟨l, hl⟩ := lits_arr o h hin
  have k1 : Try.prog.cellsOf 2 = 1 := by kernel_rfl
  have k16 : Try.prog.cellsOf 22 = 16 := by kernel_rfl
  have k17 : Try.prog.cellsOf 36 = 17 := by kernel_rfl
  have h0 : Try.prog.keyLits 2 2 [.int .i64 e] = some [.int .i64 e] := by simp [Program.keyLits, Try.underlying2, in64_wf he]
  have h1 : ((tcs e o).toList.drop 0).take 1 = [.int .i64 e] := by simp [tcs]
  have h2 : ((tcs e o).toList.drop 1).take 16 = o.map (Value.int .i64) := by
    simp [tcs]
    rw [List.take_of_length_le (by simp [h])]
  refine ⟨[.int .i64 e] ++ l, ?_⟩
  unfold Program.keyLits
  rw [Try.underlying36]
  simp only
  rw [if_pos (by rw [k17]; simp [tcs, h])]
  simp only [List.mapM_cons, List.mapM_nil, k1, k16, h1, h2, h0, hl]
  simp
theorem eq_tabR (e : Int) (o : List Int) (h : o.length = 16) (he : In64 e) (hin : ∀ y ∈ o, In64 y) (w : World) : (Op.equalIn 10000 36 (.agg (tcs e o)) (.agg (tcs e o))).run Try.prog w = .ok true w := by
  obtain ⟨l, hl⟩ := lits_tabR e o h he hin
  obtain ⟨r, hr, hi⟩ := run_equalIn_deep (P := Try.prog) 9997 3 36 (by kernel_rfl) w 3 3 (.agg (tcs e o)) (.agg (tcs e o)) l l
    (by simp [Value.formed, Try.underlying36, tcs_size e o h]; kernel_rfl) (by simp [Value.formed, Try.underlying36, tcs_size e o h]; kernel_rfl) (by simpa [Value.cells] using hl) (by simpa [Value.cells] using hl)
  have ht : r = true := hi.2 rfl
  subst ht
  rw [show (10000 : Nat) = 9997 + 3 from rfl]
  exact hr
theorem guardR : Try.prog.eqGuardType Try.prog.depth 36 = false := by kernel_rfl
theorem exec_neq_self {P : Program} {o : Oper} {w : World} (ρ : Operand → Value) (t : TypeId) (x y : Operand) (t' : TypeId) (ho : o.op = .binOp .neq t x y t') (C : Array Value) (hx : ρ x = .agg C) (hy : ρ y = .agg C) (hg : P.eqGuardType P.depth t = false)
    (he : (Op.equalIn 10000 t (.agg C) (.agg C)).run P w = .ok true w) : (execOp ρ o).run P w = .ok (.value (.bool false)) w := by
  simp [execOp, ho, hx, hy, run_eqGuard_agg, hg, run_neq_struct, he, Result.andThen]
theorem list16b (o : List Int) (h : o.length = 16) : ∃ a0 a1 a2 a3 a4 a5 a6 a7 a8 a9 a10 a11 a12 a13 a14 a15, o = [a0, a1, a2, a3, a4, a5, a6, a7, a8, a9, a10, a11, a12, a13, a14, a15] := by
  match o, h with
  | [a0, a1, a2, a3, a4, a5, a6, a7, a8, a9, a10, a11, a12, a13, a14, a15], _ => exact ⟨_, _, _, _, _, _, _, _, _, _, _, _, _, _, _, _, rfl⟩
set_option maxRecDepth 100000 in
theorem built_plain (e : Int) (o : List Int) (h : o.length = 16) : Try.prog.built 36 [(0, .int .i64 e), (1, .agg (acs o))] = some (tcs e o) := by
  obtain ⟨a0, a1, a2, a3, a4, a5, a6, a7, a8, a9, a10, a11, a12, a13, a14, a15, rfl⟩ := list16b o h
  kernel_rfl
theorem Try.infoA16 : (Try.prog.info? 22).map (·.size) = some 16 := by kernel_rfl
set_option maxRecDepth 100000 in
set_option maxHeartbeats 4000000 in
theorem plain_any (w : World) (e : Int) (o : List Int) (ho : o.length = 16) :
    Calls Try.prog 11 #[.agg (tcs e o)] w fun x w' => x = .returned (.agg (tcs e o)) ∧ Below w.heap.size w w' := by
  obtain ⟨W0, hW0, hA0, hB0⟩ := box_new w 24 (tcs e o)
  obtain ⟨W1, hW1, hA1, hB1⟩ := box_new W0 36 (tcs 0 noOwn)
  have hz0 : W0.heap.size = w.heap.size + 1 := by rw [hW0]; exact Array.size_push _
  have hA := hA0.kept (hB1.block _ hA0.lt)
  have c0 : W1.cell? ⟨w.heap.size, 0, none⟩ = some (.int .i64 e) := hA.cell 0
  have HR := Lib.hid (show W1.rangeAt w.heap.size 1 (o.map (Value.int .i64)) from (by
    have h2 : Whole W1 w.heap.size 24 ([Value.int .i64 e] ++ (o.map (Value.int .i64) ++ [])).toArray := by rw [List.append_nil]; exact hA
    exact whole_range h2))
  have HB := Lib.hid (bell_up hB0 hB1)
  have HZ := Lib.hid (show Whole W1 (w.heap.size + 1) 36 (tcs 0 noOwn) by rw [← hz0]; exact hA1)
  have HI := Lib.hid (show (Try.prog.info? 22).map (·.size) = some (o.map (Value.int .i64)).length by rw [List.length_map, ho]; exact Try.infoA16)
  have HIT := Lib.hid (show (Try.prog.info? 36).map (·.size) = some (tcs e o).size by rw [tcs_size _ _ ho]; exact Try.infoRT)
  have HTH := Lib.hid (show W1.there (w.heap.size + 1) 0 (tcs e o).size by
    have := whole_all HZ.out
    rw [tcs_size _ _ rfl] at this
    rw [tcs_size _ _ ho]
    exact this)
  have HBU := Lib.hid (show Try.prog.built 36 [(0, .int .i64 e), (1, .agg (o.map (Value.int .i64)).toArray)] = some (tcs e o) from built_plain e o ho)
  have HH := Lib.hid (show Whole (W1.setCells (w.heap.size + 1) 0 (tcs e o).toList) (w.heap.size + 1) 36 (tcs e o) from (by
    have h0 : Whole W1 (w.heap.size + 1) 36 ([] ++ ((tcs 0 noOwn).toList ++ [])).toArray := by rw [List.nil_append, List.append_nil]; exact HZ.out
    have h3 := whole_put (tcs e o).toList _ _ h0 (by rw [Array.length_toList, Array.length_toList, tcs_size _ _ ho, tcs_size _ _ rfl])
    rw [List.nil_append, List.append_nil] at h3
    exact h3))
  rw [zero_tab] at hW1
  clear hz0 hA0 hA1 hB0 hB1 hA ho
  go_enter Try.func11, Try.ntmps11
  go_upto_region 1 with fail
  rw [← hW0, ← hW1]
  clear hW0 hW1
  go_wp2_with (first
    | (refine wpList_load_mid rfl 22 (.tmp 5) rfl w.heap.size 1 rfl (o.map (Value.int .i64)) _ HR.out Try.underlying22 rfl HI.out ?_)
    | (refine wpList_at (some 7) rfl ?_; (refine wpList_buildTo rfl 36 #[(0, .tmp 4), (1, .tmp 6)] rfl (some 7) rfl (tcs e o) (by simpa [Act.eval, Act.put] using HBU.out) ?_))
    | (refine wpList_store_mid rfl 36 (.tmp 2) (.tmp 7) rfl (w.heap.size + 1) 0 (tcs e o) rfl rfl HTH.out HIT.out (tcs_one _ _) ?_))
  refine bodyPost_ret (v := .agg (tcs e o)) (results_cell_row Try.results11 _ _ (w.heap.size + 1) 36 (tcs e o) (0, 0) _ rfl HH.out Try.underlying36 rfl HIT.out) rfl ⟨rfl, below_sets (Nat.le_succ _) _ _ HB.out⟩
set_option maxRecDepth 100000 in
set_option maxHeartbeats 4000000 in
theorem same_rows (w : World) (a a2 : Option Addr) (n c c2 : Nat) (zs : List RowD) (h : SrcC w a n c zs) (h2 : SrcC w a2 n c2 zs) :
    Calls Try.prog 24 #[.slice a n c, .slice a2 n c2] w fun x w' => x = .returned (.bool true) ∧ Below w.heap.size w w' := by
  have H := Lib.hid h
  have H2 := Lib.hid h2
  have HN := Lib.hid h.1
  clear h h2
  go_enter Try.func24, Try.ntmps24
  go_wp2_with fail
  go_loopw [5] (fun iv wr => ∃ i : Nat, i ≤ n ∧ iv = .int .i64 (i : Int) ∧ Below w.heap.size w wr) (fun iv _ => n - (intOf iv).toNat)
  case atStart => exact ⟨0, by omega, rfl, Below.refl _ _⟩
  case round =>
    obtain ⟨i, hi, rfl, hb⟩ := hrel
    have HB := Lib.hid hb
    clear hb
    by_cases hlt : i < n
    · obtain ⟨z, hz⟩ : ∃ z, zs[i]? = some z := ⟨_, List.getElem?_eq_getElem (by rw [HN.out]; exact hlt)⟩
      have hij : (0:Int) ≤ (i:Int) ∧ (i:Int) < (n:Int) := by omega
      have HLT := Lib.hid hlt
      have hnn : n ≤ 2199023255552 := H.out.2.2.2
      have key : ∀ (ad : Option Addr) (m k : Nat), SrcC w ad m k zs → m = n → ∃ b off, ad = some ⟨b, off, none⟩ ∧ b < w.heap.size ∧ w.cell? ⟨b, off + i * 5, none⟩ = some (.string z.a) ∧ w.cell? ⟨b, off + i * 5 + 1, none⟩ = some (.string z.b) ∧ w.cell? ⟨b, off + i * 5 + 2, none⟩ = some (.string z.c) ∧ w.cell? ⟨b, off + i * 5 + 3, none⟩ = some (.int .i64 z.s) ∧ w.cell? ⟨b, off + i * 5 + 4, none⟩ = some (.int .i64 z.u) := fun ad m k hs hm => by
        obtain ⟨h1, h2, h3, h4⟩ := hs
        cases ad with
        | none => have := (h2 rfl).1; omega
        | some p =>
          have hj : ∀ j, j < 5 → w.cell? (p.add (i * 5 + j)) = (rwc z)[j]? := fun j hj => by
            have hu : (zs.flatMap rwc)[i * 5 + j]? = (rwc z)[j]? := fm_at rwc_five hz hj
            have hs : ∃ u, (rwc z)[j]? = some u := ⟨_, List.getElem?_eq_getElem (by rw [rwc_five]; exact hj)⟩
            obtain ⟨u, hu2⟩ := hs
            rw [hu2]
            exact h3 p rfl (i * 5 + j) u (by rw [hu, hu2])
          obtain ⟨b, off, spot⟩ := p
          obtain ⟨u0, hu0⟩ : ∃ u, (zs.flatMap rwc)[0]? = some u := ⟨_, List.getElem?_eq_getElem (by rw [rwc_len, h1]; omega)⟩
          have h0 := h3 _ rfl 0 u0 hu0
          have hp : (⟨b, off, spot⟩ : Addr).add 0 = ⟨b, off, spot⟩ := by simp [Addr.add]
          rw [hp] at h0
          have hsp : spot = none := World.cell?_spot h0
          subst hsp
          have hbl : b < w.heap.size := World.block_lt_of_cell? w _ h0
          simp only [add_plain] at hj
          exact ⟨b, off, rfl, hbl, hj 0 (by omega), hj 1 (by omega), hj 2 (by omega), hj 3 (by omega), hj 4 (by omega)⟩
      obtain ⟨b, off, rfl, hbl, p0, p1, p2, p3, p4⟩ := key a n c H.out rfl
      obtain ⟨b2, off2, rfl, hbl2, q0, q1, q2, q3, q4⟩ := key a2 n c2 H2.out rfl
      clear key hz
      replace p0 := (HB.out.cell (p := ⟨b, _, none⟩) hbl).trans p0
      replace p1 := (HB.out.cell (p := ⟨b, _, none⟩) hbl).trans p1
      replace p2 := (HB.out.cell (p := ⟨b, _, none⟩) hbl).trans p2
      replace p3 := (HB.out.cell (p := ⟨b, _, none⟩) hbl).trans p3
      replace p4 := (HB.out.cell (p := ⟨b, _, none⟩) hbl).trans p4
      replace q0 := (HB.out.cell (p := ⟨b2, _, none⟩) hbl2).trans q0
      replace q1 := (HB.out.cell (p := ⟨b2, _, none⟩) hbl2).trans q1
      replace q2 := (HB.out.cell (p := ⟨b2, _, none⟩) hbl2).trans q2
      replace q3 := (HB.out.cell (p := ⟨b2, _, none⟩) hbl2).trans q3
      replace q4 := (HB.out.cell (p := ⟨b2, _, none⟩) hbl2).trans q4
      obtain ⟨za, zb, zc, s, u⟩ := z
      dsimp only at p0 p1 p2 p3 p4 q0 q1 q2 q3 q4
      have ea : (za.toList == za.toList) = true := by simp
      have eb : (zb.toList == zb.toList) = true := by simp
      have ec : (zc.toList == zc.toList) = true := by simp
      clear hbl hbl2
      go_wp2_with fail
      go_quiet (fail)
      go_wp2
      go_round
      case rel => exact ⟨i + 1, by have := HLT.out; omega, by go_num, by first | exact HB.out | exact HB.out.trans ((below_drewN _ _).mono HB.out.size)⟩
      case measure => simp [intOf]; have := HLT.out; omega
    · obtain rfl : i = n := by omega
      go_wp2
      go_ret
      exact ⟨rfl, HB.out⟩
end Go.Proofs.Ytbmmgmdjhhnkfaa

namespace Go.Proofs.Ytbmmgmdjhhnkfaa
open Go.RowKit

/-- A table. -/
def TBx (e : Int) (o : List Int) : Prop := 0 ≤ e ∧ e ≤ 9223372036854775807 ∧ o.length = 16 ∧ ∀ y ∈ o, 0 ≤ y ∧ y ≤ 7
theorem TBx.at_ {e : Int} {o : List Int} (h : TBx e o) (s : Nat) (hs : s < 16) : 0 ≤ o.getD s 0 ∧ o.getD s 0 ≤ 7 := by
  have h2 : s < o.length := by rw [h.2.2.1]; exact hs
  rw [List.getD_eq_getElem?_getD, List.getElem?_eq_getElem h2]
  exact h.2.2.2 _ (List.getElem_mem h2)
theorem TBx.move {e : Int} {o : List Int} (h : TBx e o) {s : Nat} {y : Int} (hy : 0 ≤ y ∧ y ≤ 7) (he : e ≤ 1125899906842623) : TBx (e + 1) (o.set s y) := by
  refine ⟨by have := h.1; omega, by omega, by rw [List.length_set]; exact h.2.2.1, fun z hz => ?_⟩
  rcases List.mem_or_eq_of_mem_set hz with h1 | h1
  · exact h.2.2.2 z h1
  · rw [h1]; exact hy
theorem TBx.in64 {e : Int} {o : List Int} (h : TBx e o) : In64 e ∧ ∀ y ∈ o, In64 y := by
  refine ⟨?_, fun y hy => ?_⟩
  · have := h.1; have := h.2.1; unfold In64; omega
  · have := h.2.2.2 y hy; unfold In64; omega
theorem check_cases (e : Int) (o : List Int) : Mt.check e o 8 = 0 ∨ Mt.check e o 8 = 1 := by
  unfold Mt.check
  split
  · exact .inr rfl
  · exact .inl rfl
theorem TBx.of {e : Int} {o : List Int} (h : Mt.check e o 8 = 0) (he : In64 e) (ho : o.length = 16) : TBx e o := by
  unfold Mt.check at h
  split at h
  · cases h
  · rename_i hn
    have h1 : ¬ e < 0 := fun h => hn (.inl h)
    have h2 : ¬ o.any (Mt.bad 8) = true := fun h => hn (.inr h)
    refine ⟨by omega, by unfold In64 at he; omega, ho, fun y hy => ?_⟩
    have h3 : Mt.bad 8 y = false := by
      cases hb : Mt.bad 8 y with
      | false => rfl
      | true => exact absurd (List.any_eq_true.2 ⟨y, hy, hb⟩) h2
    unfold Mt.bad at h3
    simp only [Bool.or_eq_false_iff, decide_eq_false_iff_not] at h3
    omega
/-- What records tell, where no move is under way. -/
theorem rep_zero (e0 : Int) (o0 : List Int) (ms : List MsgD) : (rep e0 o0 ms).st = 0 → (rep e0 o0 ms).kd = 0 ∧ (rep e0 o0 ms).fr = 0 ∧ (rep e0 o0 ms).tw = 0 ∧ (rep e0 o0 ms).id = 0 ∧ (rep e0 o0 ms).sl = 0 := by
  have key : ∀ (ms : List MsgD) (M : Mv), (M.st = 0 → M.kd = 0 ∧ M.fr = 0 ∧ M.tw = 0 ∧ M.id = 0 ∧ M.sl = 0) → ((ms.foldl mtake M).st = 0 → (ms.foldl mtake M).kd = 0 ∧ (ms.foldl mtake M).fr = 0 ∧ (ms.foldl mtake M).tw = 0 ∧ (ms.foldl mtake M).id = 0 ∧ (ms.foldl mtake M).sl = 0) := by
    intro ms
    induction ms with
    | nil => exact fun _ h => h
    | cons m ms ih =>
      intro M h
      refine ih (mtake M m) ?_
      unfold mtake
      split
      · intro h1; cases h1
      · split
        · exact fun _ => ⟨rfl, rfl, rfl, rfl, rfl⟩
        · split
          · exact fun _ => ⟨rfl, rfl, rfl, rfl, rfl⟩
          · exact h
  exact key ms _ (fun _ => ⟨rfl, rfl, rfl, rfl, rfl⟩)
theorem rep_rowsT (e0 : Int) (o0 : List Int) (ms : List MsgD) : (rep e0 o0 ms).ra = none ∧ (rep e0 o0 ms).rn = 0 ∧ (rep e0 o0 ms).rc = 0 := by
  have key : ∀ (ms : List MsgD) (M : Mv), M.ra = none ∧ M.rn = 0 ∧ M.rc = 0 → (ms.foldl mtake M).ra = none ∧ (ms.foldl mtake M).rn = 0 ∧ (ms.foldl mtake M).rc = 0 := by
    intro ms
    induction ms with
    | nil => exact fun _ h => h
    | cons m ms ih =>
      intro M h
      refine ih (mtake M m) ?_
      unfold mtake
      split
      · exact ⟨rfl, rfl, rfl⟩
      · split
        · exact ⟨rfl, rfl, rfl⟩
        · split
          · exact ⟨rfl, rfl, rfl⟩
          · exact h
  exact key ms _ ⟨rfl, rfl, rfl⟩
/-- A controller, its records and rows. -/
structure OQ (e0 : Int) (o0 : List Int) (M : Mv) (ms : List MsgD) (zs : List RowD) : Prop where
  ag : M.e = (rep e0 o0 ms).e ∧ M.o = (rep e0 o0 ms).o ∧ M.ver = (rep e0 o0 ms).ver ∧ M.id = (rep e0 o0 ms).id ∧ M.e2 = (rep e0 o0 ms).e2 ∧ M.o2 = (rep e0 o0 ms).o2
  tb : TBx M.e M.o
  ver : 0 ≤ M.ver ∧ M.ver ≤ ms.length
  st : (M.st = 0 ∧ (rep e0 o0 ms).st = 0 ∧ (M.kd = 0 ∧ M.fr = 0 ∧ M.tw = 0 ∧ M.id = 0 ∧ M.sl = 0) ∧ zs = []) ∨ ((M.st = 1 ∨ M.st = 2) ∧ (rep e0 o0 ms).st = 1 ∧ M.id = M.ver + 1 ∧ ∃ s : Nat, M.sl = (s : Int) ∧ s < 16 ∧ 0 ≤ M.tw ∧ M.tw ≤ 7 ∧ M.e ≤ 1125899906842623 ∧ M.fr = M.o.getD s 0 ∧ M.o.getD s 0 ≠ M.tw ∧ M.e2 = M.e + 1 ∧ M.o2 = M.o.set s M.tw)
section
variable {e0 : Int} {o0 : List Int} {M : Mv} {ms : List MsgD} {zs : List RowD}
theorem OQ.zero (h : TBx e0 o0) : OQ e0 o0 (rep e0 o0 []) [] [] := ⟨⟨rfl, rfl, rfl, rfl, rfl, rfl⟩, h, ⟨Int.le_refl 0, Int.le_refl 0⟩, .inl ⟨rfl, rfl, ⟨rfl, rfl, rfl, rfl, rfl⟩, rfl⟩⟩
theorem OQ.start (h : OQ e0 o0 M ms zs) {s : Nat} {y : Int} (hs16 : s < 16) (hy : 0 ≤ y ∧ y ≤ 7) (he : M.e ≤ 1125899906842623) (hne : M.o.getD s 0 ≠ y) (hmv : Mt.move M.e M.o s y = (M.e + 1, M.o.set s y, 0)) : OQ e0 o0 (mtake M (mM 11 (M.o.getD s 0) y (M.ver + 1) s)) (ms ++ [mM 11 (M.o.getD s 0) y (M.ver + 1) s]) [] := by
  obtain ⟨a1, a2, a3, a4, a5, a6⟩ := h.ag
  have e1 : ∀ R : Mv, mtake R (mM 11 (M.o.getD s 0) y (M.ver + 1) s) = { R with kd := 11, fr := M.o.getD s 0, tw := y, id := M.ver + 1, sl := (s : Int), ra := none, rn := 0, rc := 0, st := 1, e2 := (Mt.move R.e R.o s y).1, o2 := (Mt.move R.e R.o s y).2.1 } := fun R => rfl
  rw [e1]
  refine ⟨?_, h.tb, ⟨h.ver.1, by rw [List.length_append, List.length_singleton]; have := h.ver.2; show M.ver ≤ _; omega⟩, .inr ⟨.inl rfl, ?_, rfl, s, rfl, hs16, hy.1, hy.2, he, rfl, hne, by show (Mt.move M.e M.o s y).1 = _; rw [hmv], by show (Mt.move M.e M.o s y).2.1 = _; rw [hmv]⟩⟩
  · rw [rep_snoc, e1]
    exact ⟨a1, a2, a3, rfl, by show (Mt.move M.e M.o s y).1 = (Mt.move (rep e0 o0 ms).e (rep e0 o0 ms).o s y).1; rw [a1, a2], by show (Mt.move M.e M.o s y).2.1 = (Mt.move (rep e0 o0 ms).e (rep e0 o0 ms).o s y).2.1; rw [a1, a2]⟩
  · rw [rep_snoc, e1]
theorem OQ.fenced (h : OQ e0 o0 M ms zs) (hs : M.st = 1) (ra : Option Addr) (rn rc : Nat) (zs' : List RowD) : OQ e0 o0 { M with ra := ra, rn := rn, rc := rc, st := 2 } ms zs' := by
  refine ⟨h.ag, h.tb, h.ver, ?_⟩
  rcases h.st with ⟨h0, _⟩ | ⟨_, h1⟩
  · rw [hs] at h0; cases h0
  · exact .inr ⟨.inr rfl, h1⟩
theorem OQ.moving (h : OQ e0 o0 M ms zs) (hs : M.st ≠ 0) : (rep e0 o0 ms).st = 1 ∧ M.id = M.ver + 1 ∧ ∃ s : Nat, M.sl = (s : Int) ∧ s < 16 ∧ 0 ≤ M.tw ∧ M.tw ≤ 7 ∧ M.e ≤ 1125899906842623 ∧ M.fr = M.o.getD s 0 ∧ M.o.getD s 0 ≠ M.tw ∧ M.e2 = M.e + 1 ∧ M.o2 = M.o.set s M.tw := by
  rcases h.st with ⟨h0, _⟩ | ⟨_, h1⟩
  · exact absurd h0 hs
  · exact h1
theorem OQ.idle (h : OQ e0 o0 M ms zs) (hs : M.st = 0) : (rep e0 o0 ms).st = 0 ∧ (M.kd = 0 ∧ M.fr = 0 ∧ M.tw = 0 ∧ M.id = 0 ∧ M.sl = 0) ∧ zs = [] := by
  rcases h.st with ⟨_, h1⟩ | ⟨h1 | h1, _⟩
  · exact h1
  · rw [hs] at h1; cases h1
  · rw [hs] at h1; cases h1
/-- The table behind the move under way is what the document's Move makes. -/
theorem OQ.moved (h : OQ e0 o0 M ms zs) (hs : M.st ≠ 0) : Mt.move M.e M.o M.sl M.tw = (M.e2, M.o2, 0) := by
  obtain ⟨_, _, s, h3, h4, h5, h6, h7, h8, h9, h10, h11⟩ := h.moving hs
  have h0 := h.tb.1
  rw [h10, h11, h3]
  unfold Mt.move
  rw [if_neg (by omega), if_neg (by simpa using h9)]
  simp
theorem OQ.cut (h : OQ e0 o0 M ms zs) (hs : M.st ≠ 0) (i : Int) : OQ e0 o0 (mend M M.e2 M.o2) (ms ++ [mM 12 0 0 i 0]) [] := by
  obtain ⟨a1, a2, a3, a4, a5, a6⟩ := h.ag
  obtain ⟨h1, h2, s, h3, h4, h5, h6, h7, h8, h9, h10, h11⟩ := h.moving hs
  have e1 : ∀ R : Mv, mtake R (mM 12 0 0 i 0) = mend R R.e2 R.o2 := fun R => rfl
  refine ⟨?_, ?_, ⟨?_, ?_⟩, .inl ⟨rfl, by rw [rep_snoc, e1]; rfl, ⟨rfl, rfl, rfl, rfl, rfl⟩, rfl⟩⟩
  · rw [rep_snoc, e1]
    exact ⟨a5, a6, a4, rfl, rfl, rfl⟩
  · show TBx M.e2 M.o2
    rw [h10, h11]
    exact h.tb.move ⟨h5, h6⟩ h7
  · show 0 ≤ M.id
    have := h.ver.1
    omega
  · show M.id ≤ _
    rw [List.length_append, List.length_singleton]
    have := h.ver.2
    omega
theorem OQ.undo (h : OQ e0 o0 M ms zs) (hs : M.st ≠ 0) (i : Int) : OQ e0 o0 (mend M M.e M.o) (ms ++ [mM 13 0 0 i 0]) [] := by
  obtain ⟨a1, a2, a3, a4, a5, a6⟩ := h.ag
  obtain ⟨h1, h2, _⟩ := h.moving hs
  have e1 : ∀ R : Mv, mtake R (mM 13 0 0 i 0) = mend R R.e R.o := fun R => rfl
  refine ⟨?_, h.tb, ⟨?_, ?_⟩, .inl ⟨rfl, by rw [rep_snoc, e1]; rfl, ⟨rfl, rfl, rfl, rfl, rfl⟩, rfl⟩⟩
  · rw [rep_snoc, e1]
    exact ⟨a1, a2, a4, rfl, rfl, rfl⟩
  · show 0 ≤ M.id
    have := h.ver.1
    omega
  · show M.id ≤ _
    rw [List.length_append, List.length_singleton]
    have := h.ver.2
    omega
/-- A crash while no move is under way. -/
theorem OQ.boot0 (h : OQ e0 o0 M ms zs) (hs : M.st = 0) : OQ e0 o0 (rep e0 o0 ms) ms [] ∧ ∀ S d r na nn nc, rmC S d r (mrows (rep e0 o0 ms) na nn nc) = rmC S d r (mrows M na nn nc) := by
  obtain ⟨a1, a2, a3, a4, a5, a6⟩ := h.ag
  obtain ⟨h0, ⟨z1, z2, z3, z4, z5⟩, _⟩ := h.idle hs
  obtain ⟨y1, y2, y3, y4, y5⟩ := rep_zero e0 o0 ms h0
  refine ⟨⟨⟨rfl, rfl, rfl, rfl, rfl, rfl⟩, by rw [← a1, ← a2]; exact h.tb, by rw [← a3]; exact h.ver, .inl ⟨h0, h0, ⟨y1, y2, y3, y4, y5⟩, rfl⟩⟩, fun S d r na nn nc => ?_⟩
  unfold rmC rmL mrows mcs
  simp only [a1, a2, a3, z1, z2, z3, z4, z5, y1, y2, y3, y4, y5, h0, hs]
/-- A crash while a move is under way. -/
theorem OQ.boot1 (h : OQ e0 o0 M ms zs) (hs : M.st ≠ 0) : (rep e0 o0 ms).id = M.id ∧ (rep e0 o0 ms).st ≠ 0 ∧ rep e0 o0 (ms ++ [mM 13 0 0 M.id 0]) = mend M M.e M.o := by
  obtain ⟨a1, a2, a3, a4, a5, a6⟩ := h.ag
  obtain ⟨h1, _⟩ := h.moving hs
  refine ⟨a4.symm, by rw [h1]; decide, ?_⟩
  have e1 : ∀ R : Mv, mtake R (mM 13 0 0 M.id 0) = mend R R.e R.o := fun R => rfl
  rw [rep_snoc, e1]
  unfold mend
  rw [a1, a2, a4]
end
/-- The program's side between two calls: the controller, its rows, the first table. -/
structure PB (w wx : World) (f0 g r gm gl : Nat) (v : Value) (e0 : Int) (o0 : List Int) (M : Mv) (ms : List MsgD) (zs : List RowD) : Prop where
  ms : MS wx w.heap.size gm gl g v M ms r
  rw : RwC wx w.heap.size M.ra M.rn M.rc zs
  ft : Whole wx f0 24 (tcs e0 o0)
  bel : Below w.heap.size w wx
section
variable {w wx wy : World} {f0 g r gm gl db : Nat} {v : Value} {e0 : Int} {o0 : List Int} {M M' : Mv} {ms ms' : List MsgD} {zs zs' : List RowD} {S : ByteArray} {d : Int}
theorem MS.bytes {B : Nat} (h : MS wx B gm gl g v M ms r) : (cat ms).length ≤ r := (show Lg wx B gl g v (cat ms) (cat ms).length r ms.length from h.log).disk.hr
theorem PB.below (h : PB w wx f0 g r gm gl v e0 o0 M ms zs) (hb : Below wx.heap.size wx wy) : PB w wy f0 g r gm gl v e0 o0 M ms zs :=
  ⟨h.ms.below hb, h.rw.below hb, h.ft.kept (hb.block _ h.ft.lt), h.bel.trans (hb.mono h.bel.size)⟩
/-- Behind a call of the program's. -/
theorem PB.chg (h : PB w wx f0 g r gm gl v e0 o0 M ms zs) {gm' gl' : Nat} {v' : Value} (hm : MS wy w.heap.size gm' gl' g v' M' ms' r) (hr : RwC wy w.heap.size M'.ra M'.rn M'.rc zs') (hc : Chg wx wy (SB gm gl g v)) : PB w wy f0 g r gm' gl' v' e0 o0 M' ms' zs' :=
  ⟨hm, hr, h.ms.tab h.ft (by decide) hc, h.bel.trans (h.ms.sb_below hc)⟩
/-- The document's controller is stored. -/
theorem PB.stored (h : PB w wx f0 g r gm gl v e0 o0 M ms zs) (hb : w.heap.size ≤ db) {N N' : Mv} {r0 : Int} (hd : RmAt wx db S d r0 N) (hN : N.o.length = 16) (S' : ByteArray) (d' : Int) (hN' : N'.o.length = 16) :
    PB w (wx.setCells db 0 (rmC S' d' r N').toList) f0 g r gm gl v e0 o0 M ms zs ∧ RmAt (wx.setCells db 0 (rmC S' d' r N').toList) db S' d' r N' := by
  have hn : ¬ SB gm gl g v db := h.ms.other (show Whole wx db 47 _ from hd) (by decide) (by decide) (by decide) (by decide)
  have hc : Chg wx (wx.setCells db 0 (rmC S' d' r N').toList) (fun k => k = db) := Chg.sets (P := fun k => k = db) rfl _ _ (Chg.refl _ _)
  exact ⟨⟨h.ms.far hc hn, h.rw.sets (show Whole wx db 47 _ from hd) (by decide) _ _, h.ft.kept (heap_setCells f0 (whole_ne h.ft (show Whole wx db 47 _ from hd) (by decide)) _ _), below_sets hb _ _ h.bel⟩, hd.put hN S' d' r hN'⟩
theorem PB.doc (h : PB w wx f0 g r gm gl v e0 o0 M ms zs) {N : Mv} (hd : RmAt wx db S d r N) (hc : Chg wx wy (SB gm gl g v)) : RmAt wy db S d r N :=
  h.ms.tab (show Whole wx db 47 _ from hd) (by decide) hc
end
/-- The text of a disk's records. -/
def dtx (ms : List MsgD) : ByteArray := strOfNums (cat ms)
theorem dtx_snoc (ms : List MsgD) (m : MsgD) : dtx (ms ++ [m]) = dtx ms ++ strOfNums (Fr.sealed (enc m)) := by
  unfold dtx
  rw [cat_snoc, str_append]
  rfl
theorem dtx_size (ms : List MsgD) : (dtx ms).size = (cat ms).length := by unfold dtx; rw [strOfNums_size]
/-- Between two steps. -/
def PS (w wr : World) (f0 g r db : Nat) (e0 : Int) (o0 : List Int) (mv : Value) : Prop := ∃ gm gl v M ms zs d na nn nc, mv = .pointer (some ⟨gm, 0, none⟩) ∧ PB w wr f0 g r gm gl v e0 o0 M ms zs ∧ OQ e0 o0 M ms zs ∧ RmAt wr db (dtx ms) d r (mrows M na nn nc) ∧ SrcZ w w.heap.size na nn nc zs
/-- Behind the calls of a step. -/
def PC (w wx : World) (f0 g r db : Nat) (e0 : Int) (o0 : List Int) (mv bd cd : Value) : Prop := (∃ k : Int, bd = .int .i64 k ∧ cd = .int .i64 k) ∧ PS w wx f0 g r db e0 o0 mv
end Go.Proofs.Ytbmmgmdjhhnkfaa

namespace Go.Proofs.Ytbmmgmdjhhnkfaa
open Go.RowKit Go.ChangeShapes Go.WideShapes

set_option maxRecDepth 100000 in
set_option maxHeartbeats 2000000 in
theorem tab_opened {H : Type} {enc : TypeId × Value → H} {W : World} {r : Reach} {b0 base : Nat} {spare : Nat → Bool} {held : Bool} {v : Value} {d : DataW H} {p : List MemPlace}
    (hv : Value.okWide Try.prog W r b0 24 v) (h : DataW.Trod enc Try.prog W base spare held 24 v d p) : ∃ e o, v = .agg (tcs e o) ∧ o.length = 16 ∧ In64 e ∧ ∀ y ∈ o, In64 y := by
  have hu := Try.underlying24
  simp only [Value.okWide, hu] at hv
  obtain ⟨cs, rfl, hsz, _⟩ := hv
  obtain ⟨fuel, hf⟩ := h
  obtain ⟨xs, m, rfl, hd, hl, hxl, hx⟩ := DataW.trod_struct hu hf
  match xs, hxl with
  | [y0, y1], _ =>
    have h0 := hx 0 _ rfl
    have h1 := hx 1 _ rfl
    have k1 : Try.prog.cellsOf 2 = 1 := by kernel_rfl
    have k16 : Try.prog.cellsOf 22 = 16 := by kernel_rfl
    simp only [List.getElem?_cons_zero, List.getElem?_cons_succ] at h0 h1
    obtain ⟨e, q0, _, hw⟩ := DataW.trod_int Try.underlying2 h0
    obtain ⟨o, ho, q1, hin⟩ := arr_ints Try.underlying22 k16 h1
    have k17 : Try.prog.cellsOf 24 = 17 := by kernel_rfl
    rw [k17] at hsz
    simp [k1, Value.cells] at q0
    simp [k16, Value.cells] at q1
    refine ⟨e, o, ?_, ho, wf_in64 hw, hin⟩
    congr 1
    apply Array.toList_inj.1
    have hcl : cs.toList.length = 17 := by simpa using hsz
    have e0 : cs.toList.take 1 = [.int .i64 e] := by simpa using q0
    have e1 : cs.toList.drop 1 = o.map (Value.int .i64) := by
      rw [List.take_of_length_le (by rw [List.length_tail, hcl]; exact Nat.le_refl _)] at q1
      simpa using q1
    rw [← List.take_append_drop 1 cs.toList, e0, e1]
    simp [tcs]
end Go.Proofs.Ytbmmgmdjhhnkfaa
