/- The document's cache: Get of a key that is there, Put. -/
import Derived.Test.YtfhflijlgejknaaKR1
import Derived.Deep.RegionLaw
import Derived.Maps.AppendAt
namespace Go.Proofs.Ytfhflijlgejknaa
open Go.RowKit

theorem step_append_any {P : Program} (w : World) {ops : Array Oper} {o : Oper} {a : Act} {K : Act → World → Prop} {Q : Exit → Act → World → Prop} {E : Prop} (hgd : o.guard = none) (s x : Operand) (t : TypeId)
    (ho : o.op = .call { callee := .builtin .append, args := #[s, x], argTypes := #[t, t] })
    (base : Nat) (e : TypeId) (i : TypeInfo) (z : Value) (size bytes : Nat) (ht : P.underlying t = some (.slice e)) (hi : P.info? e = some i) (hz : i.zero = some z)
    (hsize : i.size = size) (hby : i.bytes = bytes) (hzs : z.cells.size = size) (hsz : 0 < size)
    (v : Value) (n : Nat) (xs : List Value) (hs : a.eval s = v) (hown : w.ownsRow base e size v n xs)
    (ao : Option Addr) (m c : Nat) (news : List Value) (hx : a.eval x = .slice ao m c) (hl : news.length = m * size) (hnone : ao = none → m = 0 ∧ c = 0)
    (hnews : ∀ ad, ao = some ad → ∀ j u, news[j]? = some u → w.cell? (ad.add j) = some u) (h1 : ∀ u ∈ news, u.oneCell' = true)
    (h63 : n + m ≤ maxLen) (hbytes : (n + m) * bytes ≤ 140737488355328) (hbase : base ≤ w.heap.size)
    (h : ∀ v' w', w'.ownsRow base e size v' (n + m) (xs ++ news) → w.grownBy w' v.ownBlock → K (a.put o.dst v') w') :
    if Region.wanted o (yielded ops a.tmps) = true then Oper.wp P o a w K Q else E := by
  have hw : Region.wanted o (yielded ops a.tmps) = true := by simp [Region.wanted, hgd]
  rw [if_pos hw]
  cases ao with
  | some ad =>
    obtain ⟨v', w', hr, h2, h3, _, _⟩ := run_append_own_at (P := P) w base t o.type e i z size bytes ht hi hz hsize hby hzs hsz v n xs hown ad m c news hl (hnews ad rfl) h1 h63 hbytes hbase
    unfold Oper.wp execOp
    simp only [ho, resolve, invoke, builtin, Sem.run_bind, Sem.run_pure, Result.andThen_ok, List.map_toArray, List.map_cons, List.map_nil, hs, hx, hr]
    exact h v' w' h2 h3
  | none =>
    obtain ⟨rfl, rfl⟩ := hnone rfl
    have hn : news = [] := List.eq_nil_of_length_eq_zero (by simpa using hl)
    subst hn
    have hrun := run_append_owned_none (P := P) (w := w) base t o.type e i size ht hi v n xs hown
    unfold Oper.wp
    simp [execOp, ho, resolve, invoke, builtin, hs, hx, hrun, Result.andThen]
    exact h v w (by simpa using hown) (World.grownBy.refl _ _)
theorem one_row (W : World) (B : Nat) (k : ByteArray) (v : Int) (hB : B ≤ W.heap.size) : (W.alloc (.cells #[.string k, .int .i64 v] 40)).ownsRow B 40 2 (.slice (some ⟨W.heap.size, 0, none⟩) 1 1) 1 [.string k, .int .i64 v] :=
  ⟨rfl, .inr ⟨W.heap.size, 1, #[.string k, .int .i64 v], rfl, hB, heap_alloc_new _ _, Nat.le_refl _, by simp [maxLen], rfl, rfl⟩⟩
theorem Pairs.setQ {w : World} {B n c g i : Nat} {a : Option Addr} {l : List Pr} {u : Value} (h : Pairs w B a n c l) (hg : g < B) : Pairs (w.setCell ⟨g, i, Option.none⟩ u) B a n c l :=
  h.keep (by simp [World.setCell]) (fun ad ha => Below.heap_setCell _ _ _ _ (by have := (h.at_ ad ha).2.2.1; simp; omega))
theorem Pairs.drewQ {w : World} {B n c : Nat} {a : Option Addr} {l : List Pr} (h : Pairs w B a n c l) : Pairs w.drew B a n c l := ⟨h.len, h.nil, h.room, h.big, h.at_⟩
theorem below_drewQ {B : Nat} {a w : World} (h : Below B a w) : Below B a w.drew := ⟨h.os, h.tape, h.output, h.size, h.block⟩
theorem without_at {B n c i : Nat} {a : Option Addr} {l : List Pr} (x y z : Int) {w2 W : World} (h : Pairs w2 B a n c l) (hb : Below w2.heap.size w2 W) (hn : n ≤ 4096) (hi : i < n) :
    Calls Try.prog 45 #[.agg #[.slice a n c, .int .i64 x, .int .i64 y, .int .i64 z], .int .i64 (i : Int)] W fun e w' => (∃ a' c', e = .returned (.slice a' (n - 1) c') ∧ Pairs w' w2.heap.size a' (n - 1) c' (l.take i ++ l.drop (i + 1))) ∧ Below w2.heap.size w2 w' ∧ Below W.heap.size W w' := by
  refine (rwithout_any x y z W (h.below hb) hn hi).mono ?_
  rintro e w' ⟨⟨a', c', rfl, hp⟩, hb'⟩
  exact ⟨⟨a', c', rfl, hp.mono hb.size⟩, hb.trans (hb'.mono hb.size), hb'⟩
/-- What a call of the document's Get that finds its key tells. -/
def RGetPost (w : World) (n : Nat) (s h m v : Int) (l' : List Pr) (e : Ending) (w' : World) : Prop :=
  (∃ a' c', e = .returned (.tuple #[.agg #[.slice a' n c', .int .i64 s, .int .i64 (h + 1), .int .i64 m], .int .i64 v, .bool true]) ∧ Pairs w' w.heap.size a' n c' l') ∧ Below w.heap.size w w'
set_option maxRecDepth 100000 in
set_option maxHeartbeats 4000000 in
theorem rget_there {B n c : Nat} {a : Option Addr} {l1 l2 : List Pr} {v : Int} (s h m : Int) (k : ByteArray) (w : World) (hp : Pairs w B a n c (l1 ++ (k, v) :: l2)) (hn : n ≤ 4096) (hm : 0 ≤ h) (hm2 : h < 4611686018427387904) (hk : k ∉ l1.map (·.1)) :
    Calls Try.prog 10 #[.agg #[.slice a n c, .int .i64 s, .int .i64 h, .int .i64 m], .string k] w fun e w' => RGetPost w n s h m v ((k, v) :: (l1 ++ l2)) e w' := by
  obtain ⟨i0, hi0, hz0, hz1, hz2⟩ := KS.info_of Try.infoQ
  have hli : l1.length < n := by have := hp.len; simp at this; omega
  obtain ⟨b, off, rfl, hbl, e0, e1⟩ := hp.cells (i := l1.length) (p := (k, v)) (by simp)
  simp only at e0 e1
  have hne : b ≠ w.heap.size := by omega
  have hne1 : b ≠ w.heap.size + 1 := by omega
  obtain ⟨w0, hw0⟩ : ∃ w0, w0 = (w.alloc (.cells #[.slice (some ⟨b, off, none⟩) n c, .int .i64 s, .int .i64 h, .int .i64 m] 31)).alloc (.cells #[.slice none 0 0, .int .i64 0, .int .i64 0, .int .i64 0] 31) := ⟨_, rfl⟩
  have HP0 := Lib.hid (hp.below (show Below w.heap.size w w0 by rw [hw0]; exact (below_alloc w _).trans ((below_alloc _ _).mono (by simp))))
  have HF := Lib.hid (rfind_any s h m k w0 HP0.out hn)
  have HPW := Lib.hid hp
  clear hp
  go_enter Try.func10, Try.ntmps10
  go_wp2_with fail
  rw [← hw0]
  refine HF.out.mono ?_
  rintro e w1 ⟨⟨r, rfl, hr⟩, hb⟩
  obtain rfl : r = (l1.length : Int) := by
    rcases hr with ⟨m1, v', m2, e, hm1, rfl⟩ | ⟨h, _⟩
    · rw [first_same e hk hm1]
    · exact absurd (by simp) h
  have HP1 := Lib.hid (HP0.out.below hb)
  obtain ⟨h1, h2, hb1⟩ := two_boxes hw0 hb
  obtain ⟨a0, a1, a2, a3, f0, f1, f2, f3⟩ := four_of h1
  have HW1 := Lib.hid h1
  have HW2 := Lib.hid h2
  have HB1 := Lib.hid hb1
  have hlt1 := h1.lt
  have hlt2 := h2.lt
  have d0 := (hb1.cell (p := ⟨b, off + l1.length * 2, none⟩) hbl).trans e0
  have d1 := (hb1.cell (p := ⟨b, off + l1.length * 2 + 1, none⟩) hbl).trans e1
  clear e0 e1
  generalize hL : l1.length = i at *
  clear hr hb hw0 HF h1 h2 hb1 HP0
  go_wp2_with fail
  obtain ⟨w2, hw2⟩ : ∃ w2, w2 = (w1.setCell ⟨w.heap.size, 2, none⟩ (.int .i64 (h + 1))).alloc (.cells #[.string k, .int .i64 v] 40) := ⟨_, rfl⟩
  have hs2 : w2.heap.size = w1.heap.size + 1 := by rw [hw2]; simp [World.setCell]
  have hb2 : Below w.heap.size w1 w2 := by
    rw [hw2]
    exact ((Below.refl _ _).setCell (p := ⟨w.heap.size, 2, none⟩) (Nat.le_refl _) _).alloc (by simp [World.setCell]; omega) _
  have HP2 := Lib.hid (HPW.out.below (HB1.out.trans hb2))
  have HB2 := Lib.hid (HB1.out.trans hb2)
  have h1 : Whole w2 w.heap.size 31 #[.slice (some ⟨b, off, none⟩) n c, .int .i64 s, .int .i64 (h + 1), .int .i64 m] := by
    rw [hw2]
    exact (HW1.out.store 2 (.int .i64 (h + 1))).kept (Below.heap_alloc _ _ _ (by simp [World.setCell]; omega))
  have h2 : Whole w2 (w.heap.size + 1) 31 #[.slice none 0 0, .int .i64 0, .int .i64 0, .int .i64 0] := by
    rw [hw2]
    exact (HW2.out.kept (Below.heap_setCell _ _ _ _ (by simp))).kept (Below.heap_alloc _ _ _ (by simp [World.setCell]; omega))
  have h3 : Whole w2 w1.heap.size 40 #[.string k, .int .i64 v] := by
    rw [hw2]
    have := heap_alloc_new (w1.setCell ⟨w.heap.size, 2, none⟩ (.int .i64 (h + 1))) (.cells #[.string k, .int .i64 v] 40)
    rwa [show (w1.setCell ⟨w.heap.size, 2, none⟩ (.int .i64 (h + 1))).heap.size = w1.heap.size by simp [World.setCell]] at this
  have HH1 := Lib.hid h1
  have HH2 := Lib.hid h2
  have HH3 := Lib.hid h3
  rw [← hw2]
  obtain ⟨x0, x1, x2, x3, z0, z1, z2, z3⟩ := four_of h1
  have y0 : w2.cell? ⟨w1.heap.size, 0, none⟩ = some (.string k) := by rw [h3.cell]; rfl
  have y1 : w2.cell? ⟨w1.heap.size, 1, none⟩ = some (.int .i64 v) := by rw [h3.cell]; rfl
  have HWO := Lib.hid (fun W (hW : Pairs W B (some ⟨b, off, none⟩) n c (l1 ++ (k, v) :: l2)) => rwithout_any s (h + 1) m W hW hn (i := i) (by omega))
  clear hw2 hb2 h1 h2 h3 a0 a1 a2 a3 f0 f1 f2 f3 d0 d1 HW1 HW2 HB1 HP1 HPW
  have HLL := Lib.hid (show (l1 ++ (k, v) :: l2).take i ++ (l1 ++ (k, v) :: l2).drop (i + 1) = l1 ++ l2 by rw [← hL]; simp)
  have hw2l : w.heap.size + 1 < w2.heap.size := by have := HH2.out.lt; omega
  have hwl : w.heap.size < w2.heap.size := HH1.out.lt
  have hw1l : w1.heap.size < w2.heap.size := HH3.out.lt
  have hnea : w.heap.size ≠ w2.heap.size := by omega
  have hneb : w1.heap.size ≠ w2.heap.size := by omega
  clear hs2
  go_region_law (first
    | (go_simp; go_at_call 45; refine Calls.mono (without_at s (h + 1) m HP2.out (by repeat (first | (with_reducible exact Below.refl _ _) | (with_reducible refine below_drewQ ?_) | (with_reducible refine Below.alloc ?_ (by simp) _))) hn (by omega)) ?_; rintro e w4 ⟨⟨a', c', rfl, hp4⟩, hb4, hb5⟩
       rw [HLL.out] at hp4
       have HP4 := Lib.hid hp4; have HB4 := Lib.hid hb4
       have q1 := HH1.out.kept (hb4.block _ HH1.out.lt); have q3 := HH3.out.kept (hb4.block _ HH3.out.lt)
       obtain ⟨i0', i1', i2', i3', l0', l1', l2', l3'⟩ := four_of q1
       have z0' : w4.cell? ⟨w1.heap.size, 0, none⟩ = some (.string k) := (by rw [q3.cell]; rfl)
       have z1' : w4.cell? ⟨w1.heap.size, 1, none⟩ = some (.int .i64 v) := (by rw [q3.cell]; rfl)
       have hz4 := hb4.size
       have HROW2 := Lib.hid (one_row w4 w2.heap.size k v hz4)
       first
         | have HROW : Hid (w4.ownsRow w2.heap.size 40 2 (.slice (some ⟨w2.heap.size, 0, none⟩) 1 1) 1 [.string k, .int .i64 v]) := Lib.hid ⟨rfl, .inr ⟨w2.heap.size, 1, #[.string k, .int .i64 v], rfl, Nat.le_refl _, (hb5.block w2.heap.size (by simp)).trans (by first | exact heap_alloc_new w2.drew _ | exact heap_alloc_new w2 _), Nat.le_refl _, by simp [maxLen], rfl, rfl⟩⟩
         | skip
       clear hp4 hb4 hb5 q1 q3)
    | (refine step_append_any _ rfl (.tmp 29) (.tmp 32) 29 rfl w2.heap.size 40 i0 (.agg #[.string ⟨#[]⟩, .int .i64 0]) 2 24 Try.underlying29 hi0 hz0 hz1 hz2 rfl (by decide) _ 1 [.string k, .int .i64 v] rfl (by first | exact HROW.out | exact HROW2.out) a' (n - 1) c' (flat (l1 ++ l2)) rfl (by rw [flat_length, HP4.out.len]) HP4.out.nil (by first | exact HP4.out.news | exact (HP4.out.below (below_alloc _ _)).news) (flat_one _) (by unfold maxLen; omega) (by omega) (by first | exact hz4 | (simp; omega)) ?_
       intro v5 w5 hown5 hgrow5
       have hb5 : Below w2.heap.size w2 w5 := (by first | exact HB4.out.grown hgrow5 hz4 (fun q hq => (HROW.out.lt q hq).1) | exact (HB4.out.alloc hz4 _).grown hgrow5 (by simp; omega) (fun q hq => (HROW2.out.lt q hq).1))
       rw [show [Value.string k, Value.int .i64 v] ++ flat (l1 ++ l2) = flat ((k, v) :: (l1 ++ l2)) from rfl, show 1 + (n - 1) = n by omega] at hown5
       obtain ⟨a5, c5, rfl, hp5⟩ := Pairs.owned hown5
       have HP5 := Lib.hid hp5; have HB5 := Lib.hid hb5
       have q1 := HH1.out.kept (hb5.block _ HH1.out.lt); have q2 := HH2.out.kept (hb5.block _ HH2.out.lt); have q3 := HH3.out.kept (hb5.block _ HH3.out.lt)
       obtain ⟨j0, j1, j2, j3, k0, k1, k2, k3⟩ := four_of q1
       obtain ⟨m0, m1, m2, m3, n0, n1, n2, n3⟩ := four_of q2
       have y0' : w5.cell? ⟨w1.heap.size, 0, none⟩ = some (.string k) := (by rw [q3.cell]; rfl)
       have y1' : w5.cell? ⟨w1.heap.size, 1, none⟩ = some (.int .i64 v) := (by rw [q3.cell]; rfl)
       have hz5 := hb5.size
       clear hown5 hgrow5 hb5 hp5 q1 q2 q3))
  all_goals
    go_wp2
    go_region
  all_goals
    go_wp2
    refine bodyPost_ret (v := .tuple #[.agg #[.slice a5 n c5, .int .i64 s, .int .i64 (h + 1), .int .i64 m], .int .i64 v, .bool true]) (by simp [results, Try.results10, go_sem, m0, m1, m2, m3]) rfl ?_
    refine ⟨⟨a5, c5, rfl, ?_⟩, ?_⟩
    · refine Pairs.mono (B := w2.heap.size) ?_ (by omega)
      repeat (first | (with_reducible refine Pairs.setQ ?_ (by omega)) | (with_reducible refine Pairs.drewQ ?_))
      exact HP5.out
    · repeat (first | (with_reducible refine Below.setCell ?_ (by simp <;> omega) _) | (with_reducible refine below_drewQ ?_))
      exact HB2.out.trans (HB5.out.mono (by omega))
end Go.Proofs.Ytfhflijlgejknaa
