/- A controller of moves: rows that are copied. MoveOnce: scripts that came in, opened. MoveOnce: what is known of a controller and its records. -/
import Derived.Test.YtchheefjlkkkpaaVe
import Derived.Test.YtchheefjlkkkpaaCOpen
import Derived.Deep.Strs
import Derived.Deep.Slices
import Derived.ChangeSlices
import Derived.ChangeArms
import Derived.SizedLaws
namespace Go.Proofs.Ytchheefjlkkkpaa
open Go.RowKit

theorem Try.infoRw : (Try.prog.info? 99).map (fun i => (i.zero, i.size, i.bytes)) = some (some (.agg #[.string ⟨#[]⟩, .string ⟨#[]⟩, .string ⟨#[]⟩, .int .i64 0, .int .i64 0]), 5, 64) := by kernel_rfl
/-- Rows that can be read. -/
def Src (w : World) (a : Option Addr) (n c : Nat) : Prop := ∃ cs : List Value, cs.length = n * 5 ∧ (a = none → n = 0 ∧ c = 0) ∧ (∀ ad, a = some ad → ∀ (j : Nat) u, cs[j]? = some u → w.cell? (ad.add j) = some u) ∧ (∀ u ∈ cs, u.oneCell' = true) ∧ n ≤ 2199023255552
/-- Rows of one's own. -/
def RwAt (w : World) (B : Nat) (a : Option Addr) (n c : Nat) : Prop := ∃ cs : List Value, w.ownsRow B 99 5 (.slice a n c) n cs ∧ (∀ u ∈ cs, u.oneCell' = true) ∧ n ≤ 2199023255552
section
variable {w w' : World} {B gm gl g r : Nat} {v : Value} {M : Mv} {ms : List MsgD} {a : Option Addr} {n c : Nat}
theorem RwAt.none (w : World) (B : Nat) : RwAt w B .none 0 0 := ⟨[], ⟨rfl, .inl ⟨rfl, rfl⟩⟩, by simp, by omega⟩
theorem RwAt.src (h : RwAt w B a n c) : Src w a n c := by
  obtain ⟨cs, h1, h2, h3⟩ := h
  obtain ⟨a', c', hv, hL⟩ := Lies.owned h1
  injection hv with e1 e2 e3
  subst e1 e3
  exact ⟨cs, h1.1, hL.nil, hL.news, h2, h3⟩
theorem RwAt.kept (h : RwAt w B a n c) (hb : ∀ k T cs, Whole w k T cs → T = 99 → w'.heap[k]? = w.heap[k]?) : RwAt w' B a n c := by
  obtain ⟨cs, h1, h2, h3⟩ := h
  refine ⟨cs, ⟨h1.1, ?_⟩, h2, h3⟩
  rcases h1.2 with h4 | ⟨q, cap, cur, h5, h6, h7, h8⟩
  · exact .inl h4
  · exact .inr ⟨q, cap, cur, h5, h6, (hb q _ cur h7 rfl).trans h7, h8⟩
theorem RwAt.below (h : RwAt w B a n c) (hb : Below w.heap.size w w') : RwAt w' B a n c := h.kept fun k _ _ hW _ => hb.block k hW.lt
theorem RwAt.lower (h : RwAt w B a n c) {B' : Nat} (hB : B' ≤ B) : RwAt w B' a n c := by
  obtain ⟨cs, h1, h2, h3⟩ := h
  refine ⟨cs, ⟨h1.1, ?_⟩, h2, h3⟩
  rcases h1.2 with h4 | ⟨q, cap, cur, h5, h6, h7, h8⟩
  · exact .inl h4
  · exact .inr ⟨q, cap, cur, h5, by omega, h7, h8⟩
theorem MS.rows (h : MS w B gm gl g v M ms r) {B' : Nat} (hr : RwAt w B' a n c) (hc : Chg w w' (SB gm gl g v)) : RwAt w' B' a n c :=
  hr.kept fun k _ _ hW hT => hc.block k hW.lt (h.other hW (by rw [hT]; decide) (by rw [hT]; decide) (by rw [hT]; decide) (by rw [hT]; decide))
/-- What a copy of rows comes to. -/
def CloneS (w : World) (e : Ending) (w' : World) : Prop := ∃ a n c, e = .returned (.slice a n c) ∧ RwAt w' w.heap.size a n c ∧ Below w.heap.size w w'
theorem CloneS.plain {e : Ending} (h : CloneS w e w') : CloneR w e w' := by
  obtain ⟨a, n, c, h1, _, h2⟩ := h
  exact ⟨a, n, c, h1, h2⟩
set_option maxRecDepth 100000 in
set_option maxHeartbeats 2000000 in
theorem clone_rows (w : World) (h : Src w a n c) : Calls Try.prog 35 #[.slice a n c] w (CloneS w) := by
  obtain ⟨cs, h1, h2, h3, h4, h5⟩ := h
  cases a with
  | none =>
    obtain ⟨rfl, rfl⟩ := h2 rfl
    have he : ∀ w : World, (binOp .eql 43 (.slice none 0 0) (.slice none 0 0)).run Try.prog w = .ok (.bool true) w := fun _ => rfl
    clear h1 h2 h3 h4 h5
    go_enter Try.func35, Try.ntmps35
    go_wp2
    go_ret
    exact ⟨none, 0, 0, rfl, RwAt.none _ _, Below.refl _ _⟩
  | some ad =>
    have he : ∀ w : World, (binOp .eql 43 (.slice (some ad) n c) (.slice none 0 0)).run Try.prog w = .ok (.bool false) w := fun _ => rfl
    obtain ⟨i0, hi0, hz0, hz1, hz2⟩ := info_of Try.infoRw
    have HC := Lib.hid (And.intro h1 (And.intro h3 (And.intro h4 h5)))
    have HB := Lib.hid (below_alloc w (.cells #[] 99))
    have HOW := Lib.hid (show (w.alloc (.cells #[] 99)).ownsRow w.heap.size 99 5 (.slice (some ⟨w.heap.size, 0, none⟩) 0 0) 0 [] from ⟨rfl, .inr ⟨w.heap.size, 0, #[], rfl, Nat.le_refl _, heap_alloc_new _ _, by omega, by simp [maxLen], rfl, rfl⟩⟩)
    have HCE := Lib.hid (show ∀ ad', some ad = some ad' → ∀ (j : Nat) u, cs[j]? = some u → (w.alloc (.cells #[] 99)).cell? (ad'.add j) = some u from fun ad' hq j u hu => by
      have h6 := h3 ad' hq j u hu
      exact (below_alloc w _).cell (World.block_lt_of_cell? w _ h6) |>.trans h6)
    clear h1 h2 h3 h4 h5
    go_enter Try.func35, Try.ntmps35
    go_wp2_with (at_builtin; refine wpList_append_at_any _ rfl _ _ 43 rfl w.heap.size 99 i0 (.agg #[.string ⟨#[]⟩, .string ⟨#[]⟩, .string ⟨#[]⟩, .int .i64 0, .int .i64 0]) 5 64 Try.underlying43 hi0 hz0 hz1 hz2 rfl (by decide) _ 0 _ rfl HOW.out (some ad) n c cs rfl HC.out.1 (by intro h; cases h) HCE.out HC.out.2.2.1 (by have := HC.out.2.2.2; unfold maxLen; omega) (by have := HC.out.2.2.2; omega) (by simp) ?_; intro v2 w2 hown2 hgrow2 hat2; have HO2 := Lib.hid hown2; have HG2 := Lib.hid (show (w.alloc (.cells #[] 99)).grownBy w2 (some w.heap.size) from hgrow2); clear hown2 hgrow2 hat2)
    obtain ⟨a2, c2, rfl, _⟩ := Lies.owned HO2.out
    have HE := Lib.hid (show CloneS w (.returned (.slice a2 (0 + n) c2)) w2 from ⟨a2, 0 + n, c2, rfl, ⟨_, HO2.out, by simpa using HC.out.2.2.1, by have := HC.out.2.2.2; omega⟩, HB.out.grown HG2.out HB.out.size (fun k hk => by injection hk with hk; omega)⟩)
    clear HO2 HG2
    go_wp2
    go_ret
    exact HE.out
set_option maxRecDepth 100000 in
set_option maxHeartbeats 4000000 in
theorem fenced_rows (w : World) (h : MS w B gm gl g v M ms r) (i : Int) (hs : M.st = 1 ∧ M.id = i) (hr : Src w a n c) :
    Calls Try.prog 14 #[.pointer (some ⟨gm, 0, none⟩), .int .i64 i, .slice a n c] w fun e w' => e = .returned (.int .i64 0) ∧ (∃ ra rn rc, MS w' B gm gl g v { M with ra := ra, rn := rn, rc := rc, st := 2 } ms r ∧ RwAt w' w.heap.size ra rn rc) ∧ Chg w w' (SB gm gl g v) := by
  have HA := Lib.hid (at_any w h.mv 1 i)
  rw [decide_eq_true hs] at HA
  have HM := Lib.hid h
  have HCL := Lib.hid (clone_rows w hr)
  clear h hr
  go_enter Try.func14, Try.ntmps14
  go_wp2_with fail
  refine HA.out.mono ?_
  rintro e w1 ⟨rfl, rfl⟩
  go_wp2_with fail
  refine HCL.out.mono ?_
  rintro e w2 ⟨a2, n2, c2, rfl, hrw, hb⟩
  have HS2 := Lib.hid (HM.out.below hb)
  have HM3 := Lib.hid (HS2.out.mv.setRows a2 n2 c2)
  have HC3 := Lib.hid (show Chg w2 ((w2.setCell ⟨gm, 31, none⟩ (.slice a2 n2 c2)).setCell ⟨gm, 19, none⟩ (.int .i64 2)) (fun k => k = gm) from ((Chg.refl w2 (fun k => k = gm)).set rfl 31 _).set rfl 19 _)
  have HR3 := Lib.hid (HS2.out.rows hrw (HC3.out.mono fun _ _ hk => .inr (.inr (.inr hk))))
  have HB := Lib.hid hb
  have c31 := HS2.out.mv.mcells.2.2.2.2.2.2.2.2.2.2.2
  have z31 := HS2.out.mv.two.2.2 31
  have c19 := HM3.out.two.2.1
  have z19 := HM3.out.two.2.2 19
  clear hb HA HCL hrw
  go_wp2
  go_ret
  have h5 := HS2.out.step (HM3.out.setSt 2) HC3.out
  exact ⟨rfl, ⟨a2, n2, c2, h5.1, HR3.out⟩, (Chg.ofBelow _ HB.out).trans h5.2⟩
end
end Go.Proofs.Ytchheefjlkkkpaa

namespace Go.Proofs.Ytchheefjlkkkpaa
open Go.RowKit Go.ChangeShapes Go.WideShapes

/-- Rows that can be read, ahead of B. -/
def SrcB (w : World) (B : Nat) (a : Option Addr) (n c : Nat) : Prop := Src w a n c ∧ ∀ ad, a = some ad → 0 < n → ad.block < B
theorem SrcB.up {w w' : World} {B : Nat} {a : Option Addr} {n c : Nat} (h : SrcB w B a n c) (hb : Below B w w') : SrcB w' B a n c := by
  obtain ⟨⟨cs, h1, h2, h3, h4, h5⟩, h6⟩ := h
  exact ⟨⟨cs, h1, h2, fun ad hq j u hu => (hb.cell (p := ad.add j) (by have hj := (List.getElem?_eq_some_iff.1 hu).1; have := h6 ad hq (by omega); unfold Addr.add; split <;> exact this)).trans (h3 ad hq j u hu), h4, h5⟩, h6⟩
def rwc (m : RowD) : List Value := [.string m.a, .string m.b, .string m.c, .int .i64 m.s, .int .i64 m.u]
theorem rows_src {H : Type} {enc : TypeId × Value → H} {W : World} {fuel : Nat} {v : Value} {x : DataW H × List MemPlace}
    (h : DataW.trod enc Try.prog W 0 (fun _ => true) true fuel 43 [v] = some x) (hw : ∀ k ∈ x.1.weights Try.prog 43, k ≤ 140737488351232) : ∃ a n c, v = .slice a n c ∧ SrcB W W.heap.size a n c := by
  obtain ⟨a, n, c, zs, rfl, hr, _, _⟩ := rows_opened h
  refine ⟨a, n, c, rfl, ?_⟩
  rcases Go.Deep.open_slice Try.underlying43 h with ⟨hcs, hx⟩ | ⟨ad, l, c', m, n', Dd, Pl, hcs, _, hl, hm, hmm, hx, hall⟩
  · simp at hcs
    obtain ⟨rfl, rfl, rfl⟩ := hcs
    exact ⟨⟨[], rfl, fun _ => ⟨rfl, rfl⟩, fun _ hq => (by cases hq), by simp, by omega⟩, fun _ hq _ => (by cases hq)⟩
  · simp at hcs
    obtain ⟨rfl, rfl, rfl⟩ := hcs
    simp only [if_true] at hmm
    have hlen : m * 64 ≤ 140737488351232 := by
      refine hw (m * 64) ?_
      rw [hx]
      simp only [DataW.weights, Try.underlying43, List.mem_cons]
      left
      rw [show Try.prog.bytesOf 99 = 64 by kernel_rfl]
      simp
      omega
    obtain ⟨hzl, hz⟩ := hr
    have hfl : ∀ y : RowD, (rwc y).length = 5 := fun _ => rfl
    refine ⟨⟨zs.flatMap rwc, by rw [fm_len hfl, hzl], fun hq => (by cases hq), fun ad' hq j u hu => ?_, fm_one (fun y u hu => ?_) zs, by omega⟩, fun ad' hq h0 => ?_⟩
    · injection hq with hq
      subst hq
      have hj : j < zs.length * 5 := by
        have := (List.getElem?_eq_some_iff.1 hu).1
        rwa [fm_len hfl] at this
      obtain ⟨b, off, hab, hb, hcc⟩ := hz.resolve_left (by omega)
      injection hab with hab
      subst hab
      have hi : j / 5 < zs.length := by omega
      obtain ⟨y, hy⟩ : ∃ y, zs[j / 5]? = some y := ⟨_, List.getElem?_eq_getElem hi⟩
      have hjj : j = j / 5 * 5 + j % 5 := by omega
      have h5 : j % 5 < 5 := Nat.mod_lt _ (by omega)
      rw [hjj, fm_at hfl hy h5] at hu
      obtain ⟨q0, q1, q2, q3, q4, _⟩ := hcc _ y hy
      rw [add_plain]
      have hcase : j % 5 = 0 ∨ j % 5 = 1 ∨ j % 5 = 2 ∨ j % 5 = 3 ∨ j % 5 = 4 := by omega
      have hof : off + j = off + j / 5 * 5 + j % 5 := by omega
      rw [hof]
      rcases hcase with e | e | e | e | e <;> rw [e] at hu ⊢ <;> (simp [rwc] at hu; subst hu)
      · exact q0
      · exact q1
      · exact q2
      · exact q3
      · exact q4
    · simp [rwc] at hu
      rcases hu with rfl | rfl | rfl | rfl | rfl <;> rfl
    · injection hq with hq
      subst hq
      obtain ⟨b, off, hab, hb, hcc⟩ := hz.resolve_left (by omega)
      injection hab with hab
      subst hab
      exact hb
/-- A step. -/
structure OpD where
  k : Int
  sl : Int
  tw : Int
  id : Int
  ra : Option Addr
  rn : Nat
  rc : Nat
/-- It lies here. -/
def OpAt (W : World) (B b o : Nat) (d : OpD) : Prop := W.cell? ⟨b, o, none⟩ = some (.int .i64 d.k) ∧ W.cell? ⟨b, o + 1, none⟩ = some (.int .i64 d.sl) ∧ W.cell? ⟨b, o + 2, none⟩ = some (.int .i64 d.tw) ∧ W.cell? ⟨b, o + 3, none⟩ = some (.int .i64 d.id) ∧ W.cell? ⟨b, o + 4, none⟩ = some (.slice d.ra d.rn d.rc) ∧ InI d.id ∧ SrcB W B d.ra d.rn d.rc
def OpsIn (W : World) (a : Option Addr) (n : Nat) : Prop := n = 0 ∨ ∃ b off, a = some ⟨b, off, none⟩ ∧ b < W.heap.size ∧ ∀ i, i < n → ∃ d, OpAt W W.heap.size b (off + i * 5) d
set_option maxRecDepth 100000 in
set_option maxHeartbeats 2000000 in
theorem ops_opened {H : Type} {enc : TypeId × Value → H} {W : World} {fuel : Nat} {a : Option Addr} {len cap : Nat} {x : DataW H × List MemPlace}
    (h : DataW.trod enc Try.prog W 0 (fun _ => true) true fuel 25 (Value.slice a len cap).cells.toList = some x) (hw : ∀ k ∈ x.1.weights Try.prog 25, k ≤ 140737488351232) : OpsIn W a len ∧ len ≤ 140737488351232 := by
  have h' : DataW.trod enc Try.prog W 0 (fun _ => true) true fuel 25 [Value.slice a len cap] = some x := by simpa [Value.cells] using h
  rcases Go.Deep.open_slice Try.underlying25 h' with ⟨hcs, hx⟩ | ⟨ad, l, c, m, n, Dd, Pl, hcs, _, hl, hm, hmm, hx, hall⟩
  · simp at hcs
    obtain ⟨rfl, rfl, rfl⟩ := hcs
    exact ⟨.inl rfl, by omega⟩
  · simp at hcs
    obtain ⟨rfl, rfl, rfl⟩ := hcs
    have hcell : Try.prog.cellsOf 49 = 5 := by kernel_rfl
    rw [hcell] at hall
    simp only [if_true] at hmm
    have hlen : m * 56 ≤ 140737488351232 := by
      refine hw (m * 56) ?_
      rw [hx]
      simp only [DataW.weights, Try.underlying25, List.mem_cons]
      left
      rw [show Try.prog.bytesOf 49 = 56 by kernel_rfl]
      simp
      omega
    refine ⟨?_, by omega⟩
    rcases Nat.eq_zero_or_pos len with h0 | h0
    · exact .inl h0
    · obtain ⟨b, off, spot⟩ := ad
      have hs : spot = none := by
        obtain ⟨cs', hc, _⟩ := hall 0 (by omega)
        obtain ⟨_, hcl, hat⟩ := World.cells?_some hc
        have h1 := hat 0 (by omega)
        rw [List.getElem?_eq_getElem (by omega)] at h1
        simpa [Addr.add] using World.cell?_spot h1
      subst hs
      have hbl : b < W.heap.size := by
        obtain ⟨cs', hc, _⟩ := hall 0 (by omega)
        obtain ⟨_, hcl, hat⟩ := World.cells?_some hc
        have h1 := hat 0 (by omega)
        rw [List.getElem?_eq_getElem (by omega)] at h1
        have := World.block_lt_of_cell? W _ h1
        simpa [Addr.add] using this
      refine .inr ⟨b, off, rfl, hbl, fun i hi => ?_⟩
      obtain ⟨cs', hc, ht⟩ := hall i (by omega)
      obtain ⟨_, hcl, hat⟩ := World.cells?_some hc
      have hwi : ∀ k ∈ (Dd i).weights Try.prog 49, k ≤ 140737488351232 := fun k hk => hw k (by
        rw [hx]
        exact weights_slice Try.underlying25 (.inl (List.mem_map.2 ⟨i, List.mem_range.2 hi, rfl⟩)) hk)
      match cs', hcl with
      | [v0, v1, v2, v3, v4], _ =>
        have e0 := hat 0 (by omega)
        have e1 := hat 1 (by omega)
        have e2 := hat 2 (by omega)
        have e3 := hat 3 (by omega)
        have e4 := hat 4 (by omega)
        simp only [add_plain, Nat.add_zero, List.getElem?_cons_zero, List.getElem?_cons_succ] at e0 e1 e2 e3 e4
        obtain ⟨xs, n', _, hd, _, hlen, hf⟩ := DataW.trod_struct Try.underlying49 ht
        match xs, hlen with
        | [y0, y1, y2, y3, y4], _ =>
          have t0 := hf 0 _ rfl
          have t1 := hf 1 _ rfl
          have t2 := hf 2 _ rfl
          have t3 := hf 3 _ rfl
          have t4 := hf 4 _ rfl
          have k1 : Try.prog.cellsOf 3 = 1 := by kernel_rfl
          have k3 : Try.prog.cellsOf 43 = 1 := by kernel_rfl
          have k4 : Try.prog.cellsOf 2 = 1 := by kernel_rfl
          simp [k1, k3, k4] at t0 t1 t2 t3 t4
          obtain ⟨q0, h0, _, w0⟩ := DataW.trod_int Try.underlying3 t0
          obtain ⟨q1, h1, _, w1⟩ := DataW.trod_int Try.underlying3 t1
          obtain ⟨q2, h2, _, w2⟩ := DataW.trod_int Try.underlying3 t2
          obtain ⟨q3, h3, _, w3⟩ := DataW.trod_int Try.underlying2 t3
          simp at h0 h1 h2 h3
          subst h0 h1 h2 h3
          have hd1 := congrArg Prod.fst hd
          simp only at hd1
          obtain ⟨ra, rn, rc, rfl, hsr⟩ := rows_src t4 (fun k hk => hwi k (by
            rw [hd1]
            simp only [DataW.weights, Try.underlying49]
            exact DataW.weights_mem_each (j := 4) rfl rfl k hk))
          exact ⟨⟨q0, q1, q2, q3, ra, rn, rc⟩, e0, e1, e2, e3, e4, wf_i64 w3, hsr⟩
end Go.Proofs.Ytchheefjlkkkpaa

namespace Go.Proofs.Ytchheefjlkkkpaa
open Go.RowKit

/-- A controller and its records. -/
structure OM (M : Mv) (ms : List MsgD) : Prop where
  ag : M.e = (rep 0 noOwn ms).e ∧ M.o = (rep 0 noOwn ms).o ∧ M.ver = (rep 0 noOwn ms).ver ∧ M.id = (rep 0 noOwn ms).id ∧ M.e2 = (rep 0 noOwn ms).e2 ∧ M.o2 = (rep 0 noOwn ms).o2
  tb : TB M.e M.o
  ver : 0 ≤ M.ver ∧ M.ver ≤ ms.length
  st : M.st = 0 ∧ (rep 0 noOwn ms).st = 0 ∨ (M.st = 1 ∨ M.st = 2) ∧ (rep 0 noOwn ms).st = 1 ∧ M.id = M.ver + 1 ∧ ∃ s : Nat, M.sl = (s : Int) ∧ s < 16 ∧ 0 ≤ M.tw ∧ M.tw ≤ 7 ∧ M.e ≤ 1125899906842623 ∧ M.fr = M.o.getD s 0 ∧ M.o.getD s 0 ≠ M.tw ∧ M.e2 = M.e + 1 ∧ M.o2 = M.o.set s M.tw
theorem OM.zero : OM (rep 0 noOwn []) [] := ⟨⟨rfl, rfl, rfl, rfl, rfl, rfl⟩, TB.zero, ⟨by decide, by decide⟩, .inl ⟨rfl, rfl⟩⟩
section
variable {M : Mv} {ms : List MsgD}
theorem OM.start (h : OM M ms) {s : Nat} {y : Int} (hs16 : s < 16) (hy : 0 ≤ y ∧ y ≤ 7) (he : M.e ≤ 1125899906842623) (hne : M.o.getD s 0 ≠ y) (hmv : Mt.move M.e M.o s y = (M.e + 1, M.o.set s y, 0)) : OM (mtake M (mM 11 (M.o.getD s 0) y (M.ver + 1) s)) (ms ++ [mM 11 (M.o.getD s 0) y (M.ver + 1) s]) := by
  obtain ⟨a1, a2, a3, a4, a5, a6⟩ := h.ag
  have e1 : ∀ R : Mv, mtake R (mM 11 (M.o.getD s 0) y (M.ver + 1) s) = { R with kd := 11, fr := M.o.getD s 0, tw := y, id := M.ver + 1, sl := (s : Int), ra := none, rn := 0, rc := 0, st := 1, e2 := (Mt.move R.e R.o s y).1, o2 := (Mt.move R.e R.o s y).2.1 } := fun R => rfl
  rw [e1]
  refine ⟨?_, h.tb, ⟨h.ver.1, by rw [List.length_append, List.length_singleton]; have := h.ver.2; show M.ver ≤ _; omega⟩, .inr ⟨.inl rfl, ?_, rfl, s, rfl, hs16, hy.1, hy.2, he, rfl, hne, by show (Mt.move M.e M.o s y).1 = _; rw [hmv], by show (Mt.move M.e M.o s y).2.1 = _; rw [hmv]⟩⟩
  · rw [rep_snoc, e1]
    exact ⟨a1, a2, a3, rfl, by show (Mt.move M.e M.o s y).1 = (Mt.move (rep 0 noOwn ms).e (rep 0 noOwn ms).o s y).1; rw [a1, a2], by show (Mt.move M.e M.o s y).2.1 = (Mt.move (rep 0 noOwn ms).e (rep 0 noOwn ms).o s y).2.1; rw [a1, a2]⟩
  · rw [rep_snoc, e1]
theorem OM.fenced (h : OM M ms) (hs : M.st = 1) (ra : Option Addr) (rn rc : Nat) : OM { M with ra := ra, rn := rn, rc := rc, st := 2 } ms := by
  refine ⟨h.ag, h.tb, h.ver, ?_⟩
  rcases h.st with ⟨h0, _⟩ | ⟨_, h1⟩
  · rw [hs] at h0; cases h0
  · exact .inr ⟨.inr rfl, h1⟩
theorem OM.moving (h : OM M ms) (hs : M.st ≠ 0) : (rep 0 noOwn ms).st = 1 ∧ M.id = M.ver + 1 ∧ ∃ s : Nat, M.sl = (s : Int) ∧ s < 16 ∧ 0 ≤ M.tw ∧ M.tw ≤ 7 ∧ M.e ≤ 1125899906842623 ∧ M.fr = M.o.getD s 0 ∧ M.o.getD s 0 ≠ M.tw ∧ M.e2 = M.e + 1 ∧ M.o2 = M.o.set s M.tw := by
  rcases h.st with ⟨h0, _⟩ | ⟨_, h1⟩
  · exact absurd h0 hs
  · exact h1
theorem OM.cut (h : OM M ms) (hs : M.st ≠ 0) (i : Int) : OM (mend M M.e2 M.o2) (ms ++ [mM 12 0 0 i 0]) := by
  obtain ⟨a1, a2, a3, a4, a5, a6⟩ := h.ag
  obtain ⟨h1, h2, s, h3, h4, h5, h6, h7, h8, h9, h10, h11⟩ := h.moving hs
  have e1 : ∀ R : Mv, mtake R (mM 12 0 0 i 0) = mend R R.e2 R.o2 := fun R => rfl
  refine ⟨?_, ?_, ⟨?_, ?_⟩, .inl ⟨rfl, by rw [rep_snoc, e1]; rfl⟩⟩
  · rw [rep_snoc, e1]
    exact ⟨a5, a6, a4, rfl, rfl, rfl⟩
  · show TB M.e2 M.o2
    rw [h10, h11]
    exact h.tb.move ⟨h5, h6⟩ h7
  · show 0 ≤ M.id
    have := h.ver.1
    omega
  · show M.id ≤ _
    rw [List.length_append, List.length_singleton]
    have := h.ver.2
    omega
theorem OM.undo (h : OM M ms) (hs : M.st ≠ 0) (i : Int) : OM (mend M M.e M.o) (ms ++ [mM 13 0 0 i 0]) := by
  obtain ⟨a1, a2, a3, a4, a5, a6⟩ := h.ag
  obtain ⟨h1, h2, _⟩ := h.moving hs
  have e1 : ∀ R : Mv, mtake R (mM 13 0 0 i 0) = mend R R.e R.o := fun R => rfl
  refine ⟨?_, h.tb, ⟨?_, ?_⟩, .inl ⟨rfl, by rw [rep_snoc, e1]; rfl⟩⟩
  · rw [rep_snoc, e1]
    exact ⟨a1, a2, a4, rfl, rfl, rfl⟩
  · show 0 ≤ M.id
    have := h.ver.1
    omega
  · show M.id ≤ _
    rw [List.length_append, List.length_singleton]
    have := h.ver.2
    omega
/-- A crash, and opened again. -/
theorem OM.boot (h : OM M ms) {ms' : List MsgD} (hm : (rep 0 noOwn ms).st = 0 ∧ ms' = ms ∨ (rep 0 noOwn ms).st ≠ 0 ∧ ms' = ms ++ [undoM ms]) : OM (rep 0 noOwn ms') ms' ∧ (rep 0 noOwn ms').e = M.e ∧ (rep 0 noOwn ms').o = M.o ∧ M.ver ≤ (rep 0 noOwn ms').ver := by
  obtain ⟨a1, a2, a3, a4, a5, a6⟩ := h.ag
  rcases hm with ⟨h0, rfl⟩ | ⟨h0, rfl⟩
  · refine ⟨⟨⟨rfl, rfl, rfl, rfl, rfl, rfl⟩, by rw [← a1, ← a2]; exact h.tb, by rw [← a3]; exact h.ver, .inl ⟨h0, h0⟩⟩, a1.symm, a2.symm, by rw [a3]; exact Int.le_refl _⟩
  · have hs : M.st ≠ 0 := by
      rcases h.st with ⟨_, h1⟩ | ⟨h1 | h1, _⟩
      · exact absurd h1 h0
      · rw [h1]; decide
      · rw [h1]; decide
    obtain ⟨h1, h2, _⟩ := h.moving hs
    have hu := h.undo hs (rep 0 noOwn ms).id
    have e1 : ∀ R : Mv, mtake R (mM 13 0 0 (rep 0 noOwn ms).id 0) = mend R R.e R.o := fun R => rfl
    have e2 : rep 0 noOwn (ms ++ [undoM ms]) = mend (rep 0 noOwn ms) (rep 0 noOwn ms).e (rep 0 noOwn ms).o := by rw [rep_snoc]; exact e1 _
    have e3 : rep 0 noOwn (ms ++ [undoM ms]) = mend M M.e M.o := by
      rw [e2]
      unfold mend
      rw [a1, a2, a4]
    refine ⟨by rw [e3]; exact hu, by rw [e3]; rfl, by rw [e3]; rfl, ?_⟩
    rw [e3]
    show M.ver ≤ M.id
    omega
end
/-- What records tell has no rows. -/
theorem rep_rows (ms : List MsgD) : (rep 0 noOwn ms).ra = none ∧ (rep 0 noOwn ms).rn = 0 ∧ (rep 0 noOwn ms).rc = 0 := by
  have key : ∀ (ms : List MsgD) (M : Mv), M.ra = none ∧ M.rn = 0 ∧ M.rc = 0 → (ms.foldl mtake M).ra = none ∧ (ms.foldl mtake M).rn = 0 ∧ (ms.foldl mtake M).rc = 0 := by
    intro ms
    induction ms with
    | nil => exact fun _ h => h
    | cons m ms ih =>
      intro M h
      refine ih (mtake M m) ?_
      unfold mtake
      split
      · exact ⟨rfl, rfl, rfl⟩
      · split
        · exact ⟨rfl, rfl, rfl⟩
        · split
          · exact ⟨rfl, rfl, rfl⟩
          · exact h
  exact key ms _ ⟨rfl, rfl, rfl⟩
theorem ups_one {o : List Int} {s : Nat} {y : Int} (ho : o.length = 16) (hs : s < 16) (hne : o.getD s 0 ≠ y) : Mt.ups (Mt.other o (o.set s y)) 16 = [s] := by
  have key : ∀ n, n ≤ 16 → Mt.ups (Mt.other o (o.set s y)) n = if s < n then [s] else [] := by
    intro n
    induction n with
    | zero => intro _; simp [Mt.ups]
    | succ n ih =>
      intro hn
      have hi := ih (by omega)
      by_cases e : n = s
      · subst e
        have ht : Mt.other o (o.set n y) n = true := by
          unfold Mt.other
          have : (o.set n y).getD n 0 = y := by simp [List.getD, ho, hs]
          rw [this]
          simpa using hne
        rw [Mt.ups_yes ht, hi, if_neg (by omega), if_pos (by omega)]
        rfl
      · have hf : Mt.other o (o.set s y) n = false := by
          unfold Mt.other
          have : (o.set s y).getD n 0 = o.getD n 0 := by simp [List.getD, Ne.symm e]
          rw [this]
          simp
        rw [Mt.ups_no hf, hi]
        by_cases h : s < n
        · rw [if_pos h, if_pos (by omega)]
        · rw [if_neg h, if_neg (by omega)]
  rw [key 16 (by omega), if_pos hs]
/-- Between two steps. -/
def SO (w wr : World) (g : Nat) (mvv : Value) : Prop := ∃ gm gl v M ms, mvv = .pointer (some ⟨gm, 0, none⟩) ∧ MS wr w.heap.size gm gl g v M ms 100000 ∧ OM M ms ∧ RwAt wr w.heap.size M.ra M.rn M.rc ∧ Below w.heap.size w wr
theorem SO.below {w wr w' : World} {g : Nat} {mvv : Value} (h : SO w wr g mvv) (hb : Below wr.heap.size wr w') : SO w w' g mvv := by
  obtain ⟨gm, gl, v, M, ms, h1, h2, h3, h4, h5⟩ := h
  exact ⟨gm, gl, v, M, ms, h1, h2.below hb, h3, h4.below hb, h5.trans (hb.mono h5.size)⟩
/-- Behind the call of a step: M is what was ahead of it. -/
def SC (w wx : World) (g tb xb : Nat) (M : Mv) (X : Array Value) (mvv okv : Value) : Prop := ∃ gm gl v M' ms' ok, mvv = .pointer (some ⟨gm, 0, none⟩) ∧ okv = .bool ok ∧ (ok = false ∧ M'.e = M.e ∧ M'.o = M.o ∧ M.ver ≤ M'.ver ∨ ok = true ∧ M.st = 2 ∧ M'.ver = M.id ∧ M'.e = M.e2 ∧ M'.o = M.o2) ∧ MS wx w.heap.size gm gl g v M' ms' 100000 ∧ OM M' ms' ∧ RwAt wx w.heap.size M'.ra M'.rn M'.rc ∧ Whole wx tb 24 (tcs M.e M.o) ∧ Whole wx xb 45 X ∧ Below w.heap.size w wx
end Go.Proofs.Ytchheefjlkkkpaa
