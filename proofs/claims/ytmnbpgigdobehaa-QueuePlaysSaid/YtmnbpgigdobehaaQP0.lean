/- QueuePlays: what is kept between two calls; the queues are made. -/
import Derived.Test.YtmnbpgigdobehaaQR2
import Derived.Deep.DeepCutAuto
import Derived.Deep.CutBlock
namespace Go.Proofs.Ytmnbpgigdobehaa
open Go.RowKit Go.Conc

theorem QS.Things.far {w : World} {gw : Nat} {t : TypeId} {cs : Array Value} (hw : Whole w gw t cs) (h2 : t ≠ 9) (i : Nat) (u : Value) : ∀ {ps : List Nat} {xs : List ByteArray}, QS.Things w ps xs → QS.Things (w.setCell ⟨gw, i, none⟩ u) ps xs
  | [], [], _ => trivial
  | p :: ps, _ :: xs, h => ⟨h.1.kept (Below.heap_setCell w ⟨gw, i, none⟩ u p (whole_ne hw h.1 h2).symm), QS.Things.far hw h2 i u (ps := ps) (xs := xs) h.2⟩
/-- A queue is as it was where a block of another kind is written. -/
theorem QS.QAt.far {w : World} {B g c cap gw : Nat} {lost : Int} {ps : List Nat} {xs : List ByteArray} {t : TypeId} {cs : Array Value} (h : QS.QAt w B g c cap lost ps xs) (hw : Whole w gw t cs) (h1 : t ≠ 66) (h2 : t ≠ 9) (i : Nat) (u : Value) : QS.QAt (w.setCell ⟨gw, i, none⟩ u) B g c cap lost ps xs :=
  ⟨h.blk.kept (Below.heap_setCell w ⟨gw, i, none⟩ u g (whole_ne hw h.blk h1).symm), h.ch.kept (Below.heap_setCell w ⟨gw, i, none⟩ u c (h.ch.no hw).symm), h.th.far hw h2 i u, h.room, h.lo, h.hi, h.geg, h.gec⟩
/-- One of the two queues, and the document's. -/
structure Side where
  g : Nat
  c : Nat
  cap : Nat
  L : Int
  ps : List Nat
  xs : List ByteArray
  a : Option Addr
  k : Nat
/-- The document's side. -/
structure DocAt (w W : World) (s : Side) : Prop where
  st : Strs W w.heap.size s.a s.xs.length s.xs
  nil : s.a = none → s.xs.length = 0 ∧ s.k = 0
  nc : s.xs.length ≤ s.k
  lr : -9223372036854775808 ≤ s.L ∧ s.L ≤ 9223372036854775807
  top : s.xs.length ≤ s.cap
  cp : s.cap ≤ 4096
def QueAt (w W : World) (s : Side) : Prop := QS.QAt W w.heap.size s.g s.c s.cap s.L s.ps s.xs
/-- The law's two tables, both queues (S), and both of the document's (D). -/
structure JPD (w W : World) (gq gw : Nat) (S D : Nat → Side) : Prop where
  q : ∀ i, i < 2 → QueAt w W (S i)
  d : ∀ i, i < 2 → DocAt w W (D i)
  tq : Whole W gq 26 #[.pointer (some ⟨(S 0).g, 0, none⟩), .pointer (some ⟨(S 1).g, 0, none⟩)]
  tw : Whole W gw 30 #[.slice (D 0).a (D 0).xs.length (D 0).k, .int .i64 ((D 0).cap : Int), .int .i64 (D 0).L, .slice (D 1).a (D 1).xs.length (D 1).k, .int .i64 ((D 1).cap : Int), .int .i64 (D 1).L]
  ng : (S 0).g ≠ (S 1).g
  ncc : (S 0).c ≠ (S 1).c
  b : Below w.heap.size w W
  geq : w.heap.size ≤ gq
  gew : w.heap.size ≤ gw
abbrev JP (w W : World) (gq gw : Nat) (S : Nat → Side) : Prop := JPD w W gq gw S S
theorem two_cases {i : Nat} (h : i < 2) : i = 0 ∨ i = 1 := by omega
theorem DocAt.below {w W W' : World} {s : Side} (h : DocAt w W s) (hb : Below W.heap.size W W') : DocAt w W' s := ⟨h.st.below hb, h.nil, h.nc, h.lr, h.top, h.cp⟩
theorem DocAt.far {w W : World} {s : Side} {gw : Nat} {t : TypeId} {cs : Array Value} (h : DocAt w W s) (hw : Whole W gw t cs) (hg : w.heap.size ≤ gw) (h2 : t ≠ 9) (i : Nat) (u : Value) : DocAt w (W.setCell ⟨gw, i, none⟩ u) s :=
  ⟨h.st.setCell hw h2 hg i u, h.nil, h.nc, h.lr, h.top, h.cp⟩
section
variable {w W W' : World} {gq gw i : Nat} {S D : Nat → Side}
theorem JPD.below (h : JPD w W gq gw S D) (hb : Below W.heap.size W W') : JPD w W' gq gw S D :=
  ⟨fun i hi => (h.q i hi).below hb, fun i hi => (h.d i hi).below hb, h.tq.kept (hb.block _ h.tq.lt), h.tw.kept (hb.block _ h.tw.lt), h.ng, h.ncc, h.b.trans (hb.mono h.b.size), h.geq, h.gew⟩
theorem JPD.qcell (h : JPD w W gq gw S D) (hi : i < 2) : W.cell? ⟨gq, i, none⟩ = some (.pointer (some ⟨(S i).g, 0, none⟩)) := by
  rcases two_cases hi with rfl | rfl
  · rw [h.tq.cell]; rfl
  · rw [h.tq.cell]; rfl
theorem JPD.wcell (h : JPD w W gq gw S D) (hi : i < 2) : W.cell? ⟨gw, i * 3, none⟩ = some (.slice (D i).a (D i).xs.length (D i).k) ∧ W.cell? ⟨gw, i * 3 + 1, none⟩ = some (.int .i64 ((D i).cap : Int)) ∧ W.cell? ⟨gw, i * 3 + 2, none⟩ = some (.int .i64 (D i).L) ∧
    W.frozen? ⟨gw, i * 3, none⟩ = false ∧ W.frozen? ⟨gw, i * 3 + 1, none⟩ = false ∧ W.frozen? ⟨gw, i * 3 + 2, none⟩ = false := by
  rcases two_cases hi with rfl | rfl
  · exact ⟨by rw [h.tw.cell]; rfl, by rw [h.tw.cell]; rfl, by rw [h.tw.cell]; rfl, h.tw.free _, h.tw.free _, h.tw.free _⟩
  · exact ⟨by rw [h.tw.cell]; rfl, by rw [h.tw.cell]; rfl, by rw [h.tw.cell]; rfl, h.tw.free _, h.tw.free _, h.tw.free _⟩
/-- One side is another now. -/
def side (S : Nat → Side) (i : Nat) (s : Side) : Nat → Side := fun k => if k = i then s else S k
theorem side_same (S : Nat → Side) (i : Nat) (s : Side) : side S i s i = s := by simp [side]
theorem side_other (S : Nat → Side) {i k : Nat} (s : Side) (h : k ≠ i) : side S i s k = S k := by simp [side, h]
/-- The queue of one side has been turned. -/
theorem JPD.turned (h : JPD w W gq gw S D) (hi : i < 2) (ht : Turned W W' (S i).g (some (S i).c)) {s : Side} (hg : s.g = (S i).g) (hc : s.c = (S i).c) (hq : QueAt w W' s) : JPD w W' gq gw (side S i s) D := by
  have hsi : QS.QAt W w.heap.size (S i).g (S i).c (S i).cap (S i).L (S i).ps (S i).xs := h.q i hi
  have hkeep : ∀ t cs g, Whole W g t cs → t ≠ 66 → Whole W' g t cs := fun t cs g hw hn => hw.kept (ht.block g hw.lt (whole_ne hw hsi.blk hn) (by have := hsi.ch.no hw; simpa using this))
  have hgg : ∀ k, (side S i s k).g = (S k).g := fun k => by
    by_cases e : k = i
    · subst e; rw [side_same, hg]
    · rw [side_other _ _ e]
  have hccc : ∀ k, (side S i s k).c = (S k).c := fun k => by
    by_cases e : k = i
    · subst e; rw [side_same, hc]
    · rw [side_other _ _ e]
  refine ⟨fun k hk => ?_, fun k hk => ?_, ?_, hkeep _ _ _ h.tw (by decide), by rw [hgg, hgg]; exact h.ng, by rw [hccc, hccc]; exact h.ncc, Turned.up h.b ht hsi.geg (by rintro k ⟨⟩; exact hsi.gec), h.geq, h.gew⟩
  · by_cases e : k = i
    · subst e; rw [side_same]; exact hq
    · rw [side_other _ _ e]
      refine QS.QAt.other (h.q k hk) hsi ?_ ?_ ht
      · rcases two_cases hi with rfl | rfl <;> rcases two_cases hk with rfl | rfl
        · exact absurd rfl e
        · exact h.ng.symm
        · exact h.ng
        · exact absurd rfl e
      · rcases two_cases hi with rfl | rfl <;> rcases two_cases hk with rfl | rfl
        · exact absurd rfl e
        · exact h.ncc.symm
        · exact h.ncc
        · exact absurd rfl e
  · have hd := h.d k hk
    exact ⟨hd.st.turned hsi ht, hd.nil, hd.nc, hd.lr, hd.top, hd.cp⟩
  · rw [hgg, hgg]; exact hkeep _ _ _ h.tq (by decide)
/-- The document's queue of one side has been written into the law's table. -/
theorem JPD.write (h : JPD w W gq gw S D) (hi : i < 2) {d : Side} (hd : DocAt w W d) {n : Nat} (hn : d.xs.length = n) (hcap : d.cap = (D i).cap) :
    JPD w (((W.setCell ⟨gw, i * 3, none⟩ (.slice d.a n d.k)).setCell ⟨gw, i * 3 + 1, none⟩ (.int .i64 ((D i).cap : Int))).setCell ⟨gw, i * 3 + 2, none⟩ (.int .i64 d.L)) gq gw S (side D i d) := by
  subst hn
  have w1 := h.tw.store (i * 3) (.slice d.a d.xs.length d.k)
  have w2 := w1.store (i * 3 + 1) (.int .i64 ((D i).cap : Int))
  have w3 := w2.store (i * 3 + 2) (.int .i64 d.L)
  have ne := whole_ne h.tq h.tw (by decide)
  refine ⟨fun k hk => ?_, fun k hk => ?_, ?_, ?_, h.ng, h.ncc, ((h.b.setCell (p := ⟨gw, _, none⟩) h.gew _).setCell (p := ⟨gw, _, none⟩) h.gew _).setCell (p := ⟨gw, _, none⟩) h.gew _, h.geq, h.gew⟩
  · exact (((QS.QAt.far (h.q k hk) h.tw (by decide) (by decide) _ _).far w1 (by decide) (by decide) _ _).far w2 (by decide) (by decide) _ _)
  · by_cases e : k = i
    · subst e; rw [side_same]; exact ((hd.far h.tw h.gew (by decide) _ _).far w1 h.gew (by decide) _ _).far w2 h.gew (by decide) _ _
    · rw [side_other _ _ e]; exact (((h.d k hk).far h.tw h.gew (by decide) _ _).far w1 h.gew (by decide) _ _).far w2 h.gew (by decide) _ _
  · exact ((h.tq.kept (Below.heap_setCell _ ⟨gw, _, none⟩ _ _ ne)).kept (Below.heap_setCell _ ⟨gw, _, none⟩ _ _ ne)).kept (Below.heap_setCell _ ⟨gw, _, none⟩ _ _ ne)
  · rcases two_cases hi with rfl | rfl
    · rw [side_same, side_other _ _ (show (1 : Nat) ≠ 0 by omega), hcap]
      simpa using w3
    · rw [side_same, side_other _ _ (show (0 : Nat) ≠ 1 by omega), hcap]
      simpa using w3
end
end Go.Proofs.Ytmnbpgigdobehaa
