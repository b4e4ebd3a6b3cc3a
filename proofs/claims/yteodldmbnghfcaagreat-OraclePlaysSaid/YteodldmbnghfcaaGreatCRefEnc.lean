/- The document's Encode. -/
import Derived.Test.YteodldmbnghfcaaGreatCRefE
import Derived.Test.YteodldmbnghfcaaGreatCApart
import Derived.Deep.DeepCutAuto
import Derived.Deep.CutBlock
namespace Go.Proofs.YteodldmbnghfcaaGreat
open Go.RowKit

def small3 (a b c : ByteArray) : Prop := a.size ≤ 140737488351232 ∧ b.size ≤ 140737488351232 ∧ c.size ≤ 140737488351232
/-- Texts of a size that a machine has. -/
structure MsgD.small (m : MsgD) : Prop where
  muts : ∀ x ∈ m.muts, small3 x.a x.b x.c
  pre : ∀ x ∈ m.pre, small3 x.a x.b x.c
  rows : ∀ x ∈ m.rows, small3 x.a x.b x.c
abbrev HeldE (w0 V : World) (g : Nat) (v0 v1 v2 v3 v4 v5 v6 v7 v8 v9 v10 v11 : Value) : Prop := Box V g v0 v1 v2 v3 v4 v5 v6 v7 v8 v9 v10 v11 ∧ Below w0.heap.size w0 V ∧ g < V.heap.size
theorem heldE_keep {w0 V V' : World} {g : Nat} {v0 v1 v2 v3 v4 v5 v6 v7 v8 v9 v10 v11 : Value} (h : HeldE w0 V g v0 v1 v2 v3 v4 v5 v6 v7 v8 v9 v10 v11) (hb : Below V.heap.size V V') : HeldE w0 V' g v0 v1 v2 v3 v4 v5 v6 v7 v8 v9 v10 v11 := by
  obtain ⟨⟨h0, h1, h2, h3, h4, h5, h6, h7, h8, h9, h10, h11⟩, hB, hg⟩ := h
  exact ⟨⟨(hb.cell (p := ⟨g, 0, none⟩) hg).trans h0, (hb.cell (p := ⟨g, 1, none⟩) hg).trans h1, (hb.cell (p := ⟨g, 2, none⟩) hg).trans h2, (hb.cell (p := ⟨g, 3, none⟩) hg).trans h3, (hb.cell (p := ⟨g, 4, none⟩) hg).trans h4, (hb.cell (p := ⟨g, 5, none⟩) hg).trans h5, (hb.cell (p := ⟨g, 6, none⟩) hg).trans h6, (hb.cell (p := ⟨g, 7, none⟩) hg).trans h7, (hb.cell (p := ⟨g, 8, none⟩) hg).trans h8, (hb.cell (p := ⟨g, 9, none⟩) hg).trans h9, (hb.cell (p := ⟨g, 10, none⟩) hg).trans h10, (hb.cell (p := ⟨g, 11, none⟩) hg).trans h11⟩, hB.trans (hb.mono hB.size), Nat.lt_of_lt_of_le hg hb.size⟩
def head8 (m : MsgD) : List Int := Vi.int m.kind ++ (Vi.int m.from_ ++ (Vi.int m.«to» ++ (Vi.int m.id ++ (Vi.int m.rev ++ (Vi.int m.epoch ++ (Vi.int m.slot ++ [bit m.flag]))))))
theorem enc_parts (m : MsgD) : enc m = head8 m ++ lst Vi.int m.nodes ++ lst mutB m.muts ++ lst mutB m.pre ++ lst rowOf m.rows := by
  simp [enc, head8]
/-- No list is too long. -/
def lensB (m : MsgD) : Bool := decide (1024 < m.nodes.length) || (decide (1024 < m.muts.length) || (decide (1024 < m.pre.length) || decide (1024 < m.rows.length)))
/-- How far Encode has come: what is written, or that the message is none that can be written. -/
def StE (W0 wx : World) (m : MsgD) (P : List Int) (ok : Prop) (bnd : Nat) (ov bv : Value) : Prop :=
  ∃ (Y : List Int) (β : Bool), ov = .string (strOfNums Y) ∧ bv = .bool β ∧ (β = false → Y = P ∧ ok) ∧ (β = true → ¬ m.ok) ∧ Y.length ≤ bnd ∧ Below W0.heap.size W0 wx


/-- The document's Encode: the message's bytes, or the number 2 just if it is too long. -/
def REncPost (w : World) (m : MsgD) (e : Ending) (w' : World) : Prop :=
  ((m.ok ∧ (enc m).length ≤ 16384) ∧ e = .returned (.tuple #[.string (strOfNums (enc m)), .int .i64 0]) ∨ ¬ (m.ok ∧ (enc m).length ≤ 16384) ∧ e = .returned (.tuple #[.string ⟨#[]⟩, .int .i64 2])) ∧ Below w.heap.size w w'
theorem REncPost.yes {w w' : World} {m : MsgD} {e : Ending} (h : m.ok ∧ (enc m).length ≤ 16384) (hb : Below w.heap.size w w') (he : e = .returned (.tuple #[.string (strOfNums (enc m)), .int .i64 0])) : REncPost w m e w' := ⟨.inl ⟨h, he⟩, hb⟩
theorem REncPost.no {w w' : World} {m : MsgD} {e : Ending} (h : ¬ (m.ok ∧ (enc m).length ≤ 16384)) (hb : Below w.heap.size w w') (he : e = .returned (.tuple #[.string ⟨#[]⟩, .int .i64 2])) : REncPost w m e w' := ⟨.inr ⟨h, he⟩, hb⟩
/-- What is held of the world where one item is written. -/
abbrev HeldM (W0 V : World) (g j b o : Nat) (sl c0 c1 c2 c3 : Value) : Prop := V.cell? ⟨g, j, none⟩ = some sl ∧ V.cell? ⟨b, o, none⟩ = some c0 ∧ V.cell? ⟨b, o + 1, none⟩ = some c1 ∧ V.cell? ⟨b, o + 2, none⟩ = some c2 ∧ V.cell? ⟨b, o + 3, none⟩ = some c3 ∧ Below W0.heap.size W0 V ∧ g < V.heap.size ∧ b < V.heap.size
theorem heldM_keep {W0 V V' : World} {g j b o : Nat} {sl c0 c1 c2 c3 : Value} (h : HeldM W0 V g j b o sl c0 c1 c2 c3) (hb : Below V.heap.size V V') : HeldM W0 V' g j b o sl c0 c1 c2 c3 := by
  obtain ⟨h1, h2, h3, h4, h5, h6, h7, h8⟩ := h
  exact ⟨(hb.cell (p := ⟨g, j, none⟩) h7).trans h1, (hb.cell (p := ⟨b, o, none⟩) h8).trans h2, (hb.cell (p := ⟨b, o + 1, none⟩) h8).trans h3, (hb.cell (p := ⟨b, o + 2, none⟩) h8).trans h4, (hb.cell (p := ⟨b, o + 3, none⟩) h8).trans h5, h6.trans (hb.mono h6.size), Nat.lt_of_lt_of_le h7 hb.size, Nat.lt_of_lt_of_le h8 hb.size⟩
abbrev HeldR (W0 V : World) (g j b o : Nat) (sl c0 c1 c2 c3 c4 : Value) : Prop := V.cell? ⟨g, j, none⟩ = some sl ∧ V.cell? ⟨b, o, none⟩ = some c0 ∧ V.cell? ⟨b, o + 1, none⟩ = some c1 ∧ V.cell? ⟨b, o + 2, none⟩ = some c2 ∧ V.cell? ⟨b, o + 3, none⟩ = some c3 ∧ V.cell? ⟨b, o + 4, none⟩ = some c4 ∧ Below W0.heap.size W0 V ∧ g < V.heap.size ∧ b < V.heap.size
theorem heldR_keep {W0 V V' : World} {g j b o : Nat} {sl c0 c1 c2 c3 c4 : Value} (h : HeldR W0 V g j b o sl c0 c1 c2 c3 c4) (hb : Below V.heap.size V V') : HeldR W0 V' g j b o sl c0 c1 c2 c3 c4 := by
  obtain ⟨h1, h2, h3, h4, h5, h9, h6, h7, h8⟩ := h
  exact ⟨(hb.cell (p := ⟨g, j, none⟩) h7).trans h1, (hb.cell (p := ⟨b, o, none⟩) h8).trans h2, (hb.cell (p := ⟨b, o + 1, none⟩) h8).trans h3, (hb.cell (p := ⟨b, o + 2, none⟩) h8).trans h4, (hb.cell (p := ⟨b, o + 3, none⟩) h8).trans h5, (hb.cell (p := ⟨b, o + 4, none⟩) h8).trans h9, h6.trans (hb.mono h6.size), Nat.lt_of_lt_of_le h7 hb.size, Nat.lt_of_lt_of_le h8 hb.size⟩
def Q1 (m : MsgD) (nn : Nat) (β0 : Bool) (i : Nat) (Z : List Int) : Prop := Z = (head8 m ++ Vi.int (nn : Int)) ++ ((m.nodes.take i).map Vi.int).flatten ∧ (β0 = true → i = 0)
def QM (m : MsgD) (X : List Int) (ms : List Mut) (β : Bool) (i : Nat) (Z : List Int) (γ : Bool) (bnd : Nat) : Prop := (γ = false → β = false ∧ Z = X ++ ((ms.take i).map mutB).flatten ∧ ∀ x ∈ ms.take i, x.ok) ∧ (γ = true → ¬ m.ok ∧ Z.length ≤ bnd)
def QRe (m : MsgD) (X : List Int) (ms : List RowD) (β : Bool) (i : Nat) (Z : List Int) (γ : Bool) (bnd : Nat) : Prop := (γ = false → β = false ∧ Z = X ++ ((ms.take i).map rowOf).flatten ∧ ∀ x ∈ ms.take i, x.ok) ∧ (γ = true → ¬ m.ok ∧ Z.length ≤ bnd)
theorem long_ok {a b c : ByteArray} : longB a b c = false ↔ (a.size ≤ 128 ∧ b.size ≤ 128 ∧ c.size ≤ 128) := by
  simp [longB]
theorem tup_big {a b c : ByteArray} (h : small3 a b c) : (tup a b c).length ≤ 422212465053786 := by
  obtain ⟨ha, hb, hc⟩ := h
  have hi : ∀ s : ByteArray, s.size ≤ 140737488351232 → (tx s).length ≤ s.size + 10 := fun s hs => by
    have := Vi.int_length (s.size : Int) (by omega) (by omega)
    rw [tx, List.length_append, bl_length]
    omega
  have := hi a ha
  have := hi b hb
  have := hi c hc
  simp only [tup, List.length_append]
  omega
set_option maxRecDepth 100000 in
set_option maxHeartbeats 8000000 in
theorem refenc_any (V : Value) (m : MsgD) (w : World) (hm : MsgIn w V m) (hs : m.small) :
    Calls Tryz.prog 37 #[V] w (REncPost w m) := by
  obtain ⟨na, ma, pa, ra, nn, nc, mn, mc, pn, pc, rn, rc, hm⟩ := hm
  have hv := hm.val
  subst hv
  have HM := Lib.hid hm
  have HSM := Lib.hid hs
  have hln := hm.ln
  have hlm := hm.lm
  have hlp := hm.lp
  have hlr := hm.lr
  obtain ⟨W0, hW0⟩ : ∃ W0, W0 = w.alloc (.cells #[.int .i64 m.kind, .int .i64 m.from_, .int .i64 m.«to», .int .i64 m.id, .int .i64 m.rev, .int .i64 m.epoch, .int .i64 m.slot, .bool m.flag, .slice na nn nc, .slice ma mn mc, .slice pa pn pc, .slice ra rn rc] 43) := ⟨_, rfl⟩
  have hw0 : Whole W0 w.heap.size 43 #[.int .i64 m.kind, .int .i64 m.from_, .int .i64 m.«to», .int .i64 m.id, .int .i64 m.rev, .int .i64 m.epoch, .int .i64 m.slot, .bool m.flag, .slice na nn nc, .slice ma mn mc, .slice pa pn pc, .slice ra rn rc] := by rw [hW0]; exact heap_alloc_new w _
  have HB0 := Lib.hid (show Below w.heap.size w W0 by rw [hW0]; exact below_alloc w _)
  have HS0 := Lib.hid (show HeldE W0 W0 w.heap.size (.int .i64 m.kind) (.int .i64 m.from_) (.int .i64 m.«to») (.int .i64 m.id) (.int .i64 m.rev) (.int .i64 m.epoch) (.int .i64 m.slot) (.bool m.flag) (.slice na nn nc) (.slice ma mn mc) (.slice pa pn pc) (.slice ra rn rc) from ⟨box_mk hw0, Below.refl _ _, hw0.lt⟩)
  have HS0W := Lib.hid hw0.lt
  have HBOX := Lib.hid (fun V (h : Below W0.heap.size W0 V) => box_mk (hw0.kept (h.block _ hw0.lt)))
  have k0 := hw0.cell 0
  have k1 := hw0.cell 1
  have k2 := hw0.cell 2
  have k3 := hw0.cell 3
  have k4 := hw0.cell 4
  have k5 := hw0.cell 5
  have k6 := hw0.cell 6
  have k7 := hw0.cell 7
  have k8 := hw0.cell 8
  have k9 := hw0.cell 9
  have k10 := hw0.cell 10
  have k11 := hw0.cell 11
  have hl8 := hm.nodes.1
  have hl9 := hm.muts.1
  have hl10 := hm.pre.1
  have hl11 := hm.rows.1
  have HNL := Lib.hid (And.intro hl8 (And.intro hl9 (And.intro hl10 hl11)))
  have h0 := hm.kind
  have h1 := hm.from_
  have h2 := hm.«to»
  have h3 := hm.id
  have h4 := hm.rev
  have h5 := hm.epoch
  have h6 := hm.slot
  have hz0 : (strOfNums (Vi.int m.kind)).size ≤ 10 := by rw [strOfNums_size]; exact Vi.int_length _ h0.1 h0.2
  have HI0 := Lib.hid (fun w => refint_any m.kind w h0.1 h0.2)
  have hz1 : (strOfNums (Vi.int m.from_)).size ≤ 10 := by rw [strOfNums_size]; exact Vi.int_length _ h1.1 h1.2
  have HI1 := Lib.hid (fun w => refint_any m.from_ w h1.1 h1.2)
  have hz2 : (strOfNums (Vi.int m.«to»)).size ≤ 10 := by rw [strOfNums_size]; exact Vi.int_length _ h2.1 h2.2
  have HI2 := Lib.hid (fun w => refint_any m.«to» w h2.1 h2.2)
  have hz3 : (strOfNums (Vi.int m.id)).size ≤ 10 := by rw [strOfNums_size]; exact Vi.int_length _ h3.1 h3.2
  have HI3 := Lib.hid (fun w => refint_any m.id w h3.1 h3.2)
  have hz4 : (strOfNums (Vi.int m.rev)).size ≤ 10 := by rw [strOfNums_size]; exact Vi.int_length _ h4.1 h4.2
  have HI4 := Lib.hid (fun w => refint_any m.rev w h4.1 h4.2)
  have hz5 : (strOfNums (Vi.int m.epoch)).size ≤ 10 := by rw [strOfNums_size]; exact Vi.int_length _ h5.1 h5.2
  have HI5 := Lib.hid (fun w => refint_any m.epoch w h5.1 h5.2)
  have hz6 : (strOfNums (Vi.int m.slot)).size ≤ 10 := by rw [strOfNums_size]; exact Vi.int_length _ h6.1 h6.2
  have HI6 := Lib.hid (fun w => refint_any m.slot w h6.1 h6.2)
  have hz7 : (strOfNums [bit m.flag]).size ≤ 10 := by rw [strOfNums_size]; simp
  have HI7 := Lib.hid (fun w => refbit_any m.flag w)
  have HH := Lib.hid (show strOfNums (Vi.int m.kind) ++ strOfNums (Vi.int m.from_) ++ strOfNums (Vi.int m.«to») ++ strOfNums (Vi.int m.id) ++ strOfNums (Vi.int m.rev) ++ strOfNums (Vi.int m.epoch) ++ strOfNums (Vi.int m.slot) ++ strOfNums [bit m.flag] = strOfNums (head8 m) by simp only [head8, str_append, List.append_assoc])
  have HHL := Lib.hid (show (head8 m).length ≤ 80 by
    have g : ∀ n : Int, In64 n → (Vi.int n).length ≤ 10 := fun n h => Vi.int_length n h.1 h.2
    have := g _ h0
    have := g _ h1
    have := g _ h2
    have := g _ h3
    have := g _ h4
    have := g _ h5
    have := g _ h6
    simp only [head8, List.length_append, List.length_singleton]
    omega)
  clear hm hs hw0 hl8 hl9 hl10 hl11 h0 h1 h2 h3 h4 h5 h6
  generalize strOfNums (Vi.int m.kind) = j0 at *
  generalize strOfNums (Vi.int m.from_) = j1 at *
  generalize strOfNums (Vi.int m.«to») = j2 at *
  generalize strOfNums (Vi.int m.id) = j3 at *
  generalize strOfNums (Vi.int m.rev) = j4 at *
  generalize strOfNums (Vi.int m.epoch) = j5 at *
  generalize strOfNums (Vi.int m.slot) = j6 at *
  generalize strOfNums [bit m.flag] = j7 at *
  have a1 := fun w : World => run_string_add_sum (P := Tryz.prog) w (j0) j1 (by first | omega | (simp; omega))
  have a2 := fun w : World => run_string_add_sum (P := Tryz.prog) w (j0 ++ j1) j2 (by first | omega | (simp; omega))
  have a3 := fun w : World => run_string_add_sum (P := Tryz.prog) w (j0 ++ j1 ++ j2) j3 (by first | omega | (simp; omega))
  have a4 := fun w : World => run_string_add_sum (P := Tryz.prog) w (j0 ++ j1 ++ j2 ++ j3) j4 (by first | omega | (simp; omega))
  have a5 := fun w : World => run_string_add_sum (P := Tryz.prog) w (j0 ++ j1 ++ j2 ++ j3 ++ j4) j5 (by first | omega | (simp; omega))
  have a6 := fun w : World => run_string_add_sum (P := Tryz.prog) w (j0 ++ j1 ++ j2 ++ j3 ++ j4 ++ j5) j6 (by first | omega | (simp; omega))
  have a7 := fun w : World => run_string_add_sum (P := Tryz.prog) w (j0 ++ j1 ++ j2 ++ j3 ++ j4 ++ j5 ++ j6) j7 (by first | omega | (simp; omega))
  obtain ⟨β0, hβ, hb0⟩ : ∃ β0 : Bool, (β0 = true → ¬ m.ok) ∧ ((1024 < nn ∧ β0 = true) ∨ (¬ 1024 < nn ∧ 1024 < mn ∧ β0 = true) ∨ (¬ 1024 < nn ∧ ¬ 1024 < mn ∧ 1024 < pn ∧ β0 = true) ∨ (¬ 1024 < nn ∧ ¬ 1024 < mn ∧ ¬ 1024 < pn ∧ 1024 < rn ∧ β0 = true) ∨ (¬ 1024 < nn ∧ ¬ 1024 < mn ∧ ¬ 1024 < pn ∧ ¬ 1024 < rn ∧ β0 = false)) := by
    obtain ⟨e8, e9, e10, e11⟩ := HNL.out
    by_cases q8 : 1024 < nn
    · exact ⟨true, (fun _ ok => by have := ok.nodes; omega), .inl ⟨q8, rfl⟩⟩
    by_cases q9 : 1024 < mn
    · exact ⟨true, (fun _ ok => by have := ok.muts.1; omega), .inr (.inl ⟨q8, q9, rfl⟩)⟩
    by_cases q10 : 1024 < pn
    · exact ⟨true, (fun _ ok => by have := ok.pre.1; omega), .inr (.inr (.inl ⟨q8, q9, q10, rfl⟩))⟩
    by_cases q11 : 1024 < rn
    · exact ⟨true, (fun _ ok => by have := ok.rows.1; omega), .inr (.inr (.inr (.inl ⟨q8, q9, q10, q11, rfl⟩)))⟩
    · exact ⟨false, (fun h => by cases h), .inr (.inr (.inr (.inr ⟨q8, q9, q10, q11, rfl⟩)))⟩
  have HBT := Lib.hid hβ
  have HB1 := Lib.hid hb0
  have hle : β0 = false → nn ≤ 1024 ∧ mn ≤ 1024 ∧ pn ≤ 1024 ∧ rn ≤ 1024 := by
    intro h
    rcases hb0 with ⟨_, e⟩ | ⟨_, _, e⟩ | ⟨_, _, _, e⟩ | ⟨_, _, _, _, e⟩ | ⟨a1, a2, a3, a4, _⟩
    · rw [h] at e; cases e
    · rw [h] at e; cases e
    · rw [h] at e; cases e
    · rw [h] at e; cases e
    · omega
  have HLE := Lib.hid hle
  clear hle
  clear hβ hb0
  go_enter Tryz.func37, Tryz.ntmps37
  go_upto_region 1 with fail
  rw [← hW0]
  clear hW0
  go_cut [4] (fun bv wx => bv = .bool β0 ∧ W0 = wx)
  case first =>
    as_aux_lemma =>
      rcases HB1.out with ⟨q8, rfl⟩ | ⟨q8, q9, rfl⟩ | ⟨q8, q9, q10, rfl⟩ | ⟨q8, q9, q10, q11, rfl⟩ | ⟨q8, q9, q10, q11, rfl⟩
      · have d0 : decide ((1024 : Int) < (nn : Int)) = true := by simp; omega
        clear q8
        go_wp2_with fail
        go_meet
        exact ⟨rfl, rfl⟩
      · have d0 : decide ((1024 : Int) < (nn : Int)) = false := by simp; omega
        have d1 : decide ((1024 : Int) < (mn : Int)) = true := by simp; omega
        clear q8 q9
        go_wp2_with fail
        go_meet
        exact ⟨rfl, rfl⟩
      · have d0 : decide ((1024 : Int) < (nn : Int)) = false := by simp; omega
        have d1 : decide ((1024 : Int) < (mn : Int)) = false := by simp; omega
        have d2 : decide ((1024 : Int) < (pn : Int)) = true := by simp; omega
        clear q8 q9 q10
        go_wp2_with fail
        go_meet
        exact ⟨rfl, rfl⟩
      · have d0 : decide ((1024 : Int) < (nn : Int)) = false := by simp; omega
        have d1 : decide ((1024 : Int) < (mn : Int)) = false := by simp; omega
        have d2 : decide ((1024 : Int) < (pn : Int)) = false := by simp; omega
        have d3 : decide ((1024 : Int) < (rn : Int)) = true := by simp; omega
        clear q8 q9 q10 q11
        go_wp2_with fail
        go_meet
        exact ⟨rfl, rfl⟩
      · have d0 : decide ((1024 : Int) < (nn : Int)) = false := by simp; omega
        have d1 : decide ((1024 : Int) < (mn : Int)) = false := by simp; omega
        have d2 : decide ((1024 : Int) < (pn : Int)) = false := by simp; omega
        have d3 : decide ((1024 : Int) < (rn : Int)) = false := by simp; omega
        clear q8 q9 q10 q11
        go_wp2_with fail
        go_meet
        exact ⟨rfl, rfl⟩
  case rest =>
    obtain ⟨rfl, rfl⟩ := hcut
    go_upto_region 2 with fail
    go_cut [5] (fun ov wx => ov = .string (strOfNums (head8 m)) ∧ Below W0.heap.size W0 wx)
    case first =>
      as_aux_lemma =>
        go_region_held3 (fun V => HeldE W0 V w.heap.size (.int .i64 m.kind) (.int .i64 m.from_) (.int .i64 m.«to») (.int .i64 m.id) (.int .i64 m.rev) (.int .i64 m.epoch) (.int .i64 m.slot) (.bool m.flag) (.slice na nn nc) (.slice ma mn mc) (.slice pa pn pc) (.slice ra rn rc)) (first
            | exact heldE_keep HS0.out (below_drewN _ 1)
            | assumption
            | exact heldE_keep (by assumption) (by assumption)) (first
          | (go_at_call 52; (first
            | (with_reducible refine (HI0.out _).mono ?_)
            | (with_reducible refine (HI1.out _).mono ?_)
            | (with_reducible refine (HI2.out _).mono ?_)
            | (with_reducible refine (HI3.out _).mono ?_)
            | (with_reducible refine (HI4.out _).mono ?_)
            | (with_reducible refine (HI5.out _).mono ?_)
            | (with_reducible refine (HI6.out _).mono ?_)); rintro e w' ⟨rfl, hbn⟩)
          | (go_at_call 53; (with_reducible refine (HI7.out _).mono ?_); rintro e w' ⟨rfl, rfl⟩))
        have hbx := Lib.hid (show HeldE W0 w' w.heap.size (.int .i64 m.kind) (.int .i64 m.from_) (.int .i64 m.«to») (.int .i64 m.id) (.int .i64 m.rev) (.int .i64 m.epoch) (.int .i64 m.slot) (.bool m.flag) (.slice na nn nc) (.slice ma mn mc) (.slice pa pn pc) (.slice ra rn rc) by assumption).2.1
        go_wp2_with fail
        go_meet
        exact ⟨by rw [← HH.out], hbx.out⟩
    case rest =>
      obtain ⟨rfl, hbx⟩ := hcut
      clear a1 a2 a3 a4 a5 a6 a7 hz0 hz1 hz2 hz3 hz4 hz5 hz6 hz7 HI0 HI1 HI2 HI3 HI4 HI5 HI6 HI7 HS0 HH
      clear k0 k1 k2 k3 k4 k5 k6 k7 k8 k9 k10 k11
      obtain ⟨kk0, kk1, kk2, kk3, kk4, kk5, kk6, kk7, kk8, kk9, kk10, kk11⟩ := HBOX.out _ hbx
      have HBX := Lib.hid hbx
      clear hbx
      have hzn : (strOfNums (Vi.int (nn : Int))).size ≤ 10 := by rw [strOfNums_size]; exact Vi.int_length _ (by omega) (by omega)
      have HZN := Lib.hid hzn
      have HIN := Lib.hid (fun w => refint_any (nn : Int) w (by omega) (by omega))
      have hzh : (strOfNums (head8 m)).size ≤ 80 := by rw [strOfNums_size]; exact HHL.out
      have ha := fun w : World => run_string_add_sum (P := Tryz.prog) w (strOfNums (head8 m)) (strOfNums (Vi.int (nn : Int))) (by omega)
      go_wp2_with fail
      refine (HIN.out _).mono ?_
      rintro e w3 ⟨rfl, hb3⟩
      have HB3 := Lib.hid (HBX.out.trans (hb3.mono HBX.out.size))
      clear hb3 hzn hzh kk0 kk1 kk2 kk3 kk4 kk5 kk6 kk7 kk8 kk9 kk10 kk11
      go_upto_block 0 with fail
      rw [str_append]
      have HX0 := Lib.hid (show (head8 m ++ Vi.int (nn : Int)).length ≤ 90 by
        have := HHL.out
        have := HZN.out
        rw [strOfNums_size] at this
        rw [List.length_append]
        omega)
      go_cut [5] (fun ov wx => ∃ Y : List Int, ov = .string (strOfNums Y) ∧ (β0 = false → Y = head8 m ++ lst Vi.int m.nodes) ∧ Y.length ≤ 1000000000000000 ∧ Below W0.heap.size W0 wx)
      case first =>
        as_aux_lemma =>
          clear ha
          go_wp2_with fail
          go_loopw [5, 6] (fun ov iv wr => ∃ (i : Nat) (Z : List Int), i ≤ nn ∧ iv = .int .i64 i ∧ ov = .string (strOfNums Z) ∧ Q1 m nn β0 i Z ∧ Below W0.heap.size W0 wr) (fun _ iv _ => nn - (intOf iv).toNat)
          case atStart => exact ⟨0, head8 m ++ Vi.int (nn : Int), by omega, rfl, rfl, ⟨by simp, fun _ => rfl⟩, HB3.out⟩
          case round =>
            obtain ⟨i, Z, hin, rfl, rfl, hq, hbr⟩ := hrel
            obtain ⟨kr0, kr1, kr2, kr3, kr4, kr5, kr6, kr7, kr8, kr9, kr10, kr11⟩ := HBOX.out _ hbr
            have HBR := Lib.hid hbr
            have HQ := Lib.hid hq
            have hfl : Z.length ≤ 90 + 450 * i := by
              have h1 := flat_len Vi.int (m.nodes.take i) (fun x hx => by have := HM.out.in64.nodes x (List.mem_of_mem_take hx); have := Vi.int_length x this.1 this.2; omega)
              have h2 : (m.nodes.take i).length ≤ i := List.length_take_le _ _
              have h3 := HX0.out
              rw [hq.1, List.length_append]
              omega
            clear hbr hq
            by_cases hc : i < nn ∧ β0 = false
            · obtain ⟨hi, hbf⟩ := hc
              have hle := HLE.out hbf
              have HBF := Lib.hid hbf
              have hbn : (!β0) = true := by rw [hbf]; rfl
              obtain ⟨x, hx⟩ := get_some HNL.out.1 hi
              obtain ⟨b, off, rfl, hbl, hcc⟩ := HM.out.nodes.2.resolve_left (by omega)
              have hcx := hcc i x hx
              have cx := ((HB0.out.trans (HBR.out.mono HB0.out.size)).cell (p := ⟨b, off + i, none⟩) hbl).trans hcx.1
              have hzx : (strOfNums (Vi.int x)).size ≤ 10 := by rw [strOfNums_size]; exact Vi.int_length x hcx.2.1 hcx.2.2
              have HIX := Lib.hid (fun w => refint_any x w hcx.2.1 hcx.2.2)
              have hzy : (strOfNums Z).size ≤ 460890 := by rw [strOfNums_size]; omega
              have hadd := fun w : World => run_string_add_sum (P := Tryz.prog) w (strOfNums Z) (strOfNums (Vi.int x)) (by omega)
              have hjj : (0:Int) ≤ (i:Int) ∧ (i:Int) < (nn:Int) := by omega
              have HFS := Lib.hid (show Q1 m nn β0 (i + 1) (Z ++ Vi.int x) from ⟨by rw [flat_snoc Vi.int hx, ← HQ.out.1], fun h => by rw [HBF.out] at h; cases h⟩)
              clear hcc hcx hzx hzy hx hfl hbf
              go_wp2_with fail
              refine (HIX.out _).mono ?_
              rintro e w4 ⟨rfl, hb4⟩
              have HB4 := Lib.hid (HBR.out.trans (hb4.mono HBR.out.size))
              clear hb4
              go_wp2_with fail
              exact ⟨⟨i + 1, Z ++ Vi.int x, by omega, by go_num, by rw [str_append], HFS.out, HB4.out⟩, by simp [intOf]; omega⟩
            · by_cases hi : i < nn
              · have hbt : β0 = true := by cases hb : β0 <;> simp_all
                have hbn : (!β0) = false := by rw [hbt]; rfl
                have HP := Lib.hid (show (β0 = false → Z = head8 m ++ lst Vi.int m.nodes) ∧ Z.length ≤ 1000000000000000 from ⟨(fun h => by rw [hbt] at h; cases h), by have := HQ.out.2 hbt; omega⟩)
                clear hbt hfl hc
                go_wp2_with fail
                go_meet
                exact ⟨Z, rfl, HP.out.1, HP.out.2, HBR.out⟩
              · obtain rfl : i = nn := by omega
                have HP := Lib.hid (show (β0 = false → Z = head8 m ++ lst Vi.int m.nodes) ∧ Z.length ≤ 1000000000000000 from ⟨fun _ => by
                  rw [HQ.out.1, lst, List.take_of_length_le (by rw [HNL.out.1]; exact Nat.le_refl _), HNL.out.1, List.append_assoc], by
                  cases hb : β0 with
                  | false => have := HLE.out hb; omega
                  | true => have := HQ.out.2 hb; omega⟩)
                clear hfl hc
                go_wp2_with fail
                go_meet
                exact ⟨Z, rfl, HP.out.1, HP.out.2, HBR.out⟩
      case rest =>
        obtain ⟨Y, rfl, hY0, hYl, hbx⟩ := hcut
        have hY : β0 = false → Y = (head8 m ++ lst Vi.int m.nodes) ∧ (β0 = false) := fun h => ⟨hY0 h, h⟩
        have hbt := HBT.out
        clear hY0
        obtain ⟨kk0, kk1, kk2, kk3, kk4, kk5, kk6, kk7, kk8, kk9, kk10, kk11⟩ := HBOX.out _ hbx
        have HBX := Lib.hid hbx
        have HY := Lib.hid hY
        have HBE := Lib.hid hbt
        have hzn : (strOfNums (Vi.int (mn : Int))).size ≤ 10 := by rw [strOfNums_size]; exact Vi.int_length _ (by omega) (by omega)
        have hzy : (strOfNums Y).size ≤ 1000000000000000 := by rw [strOfNums_size]; exact hYl
        have HIN := Lib.hid (fun w => refint_any (mn : Int) w (by omega) (by omega))
        have ha := fun w : World => run_string_add_sum (P := Tryz.prog) w (strOfNums Y) (strOfNums (Vi.int (mn : Int))) (by omega)
        obtain ⟨X, hX⟩ : ∃ X, X = Y ++ Vi.int (mn : Int) := ⟨_, rfl⟩
        have hXl : X.length ≤ 1000000000000000 + 10 := by
          rw [strOfNums_size] at hzn
          rw [hX, List.length_append]
          omega
        have HX := Lib.hid hX
        clear hX hY hbt hbx hzy hzn
        go_wp2_with fail
        refine (HIN.out _).mono ?_
        rintro e w3 ⟨rfl, hb3⟩
        have HB3 := Lib.hid (HBX.out.trans (hb3.mono HBX.out.size))
        clear hb3 kk0 kk1 kk2 kk3 kk4 kk5 kk6 kk7 kk8 kk9 kk10 kk11
        go_upto_block 2 with fail
        rw [str_append, ← HX.out]
        clear ha
        go_cut [4, 5] (fun bv ov wx => StE W0 wx m ((head8 m ++ lst Vi.int m.nodes) ++ lst mutB m.muts) (β0 = false ∧ ∀ x ∈ m.muts, x.ok) 2000000000000000 ov bv)
        case first =>
          as_aux_lemma =>
            go_wp2_with fail
            go_loopw [4, 5, 7] (fun bv ov iv wr => ∃ (i : Nat) (Z : List Int) (γ : Bool), i ≤ mn ∧ iv = .int .i64 i ∧ bv = .bool γ ∧ ov = .string (strOfNums Z) ∧ QM m X m.muts β0 i Z γ 2000000000000000 ∧ Below W0.heap.size W0 wr) (fun _ _ iv _ => mn - (intOf iv).toNat)
            case atStart => exact ⟨0, X, β0, by omega, rfl, rfl, rfl, ⟨fun h => ⟨h, by simp, by simp⟩, fun h => ⟨HBE.out h, by omega⟩⟩, HB3.out⟩
            case round =>
              obtain ⟨i, Z, γ, hin, rfl, rfl, rfl, hq, hbr⟩ := hrel
              obtain ⟨kr0, kr1, kr2, kr3, kr4, kr5, kr6, kr7, kr8, kr9, kr10, kr11⟩ := HBOX.out _ hbr
              have HBR := Lib.hid hbr
              have HQ := Lib.hid hq
              clear hbr hq
              by_cases hc : i < mn ∧ γ = false
              · obtain ⟨hi, hbf⟩ := hc
                obtain ⟨hβ0, hZ, hoks⟩ := HQ.out.1 hbf
                have hle := HLE.out (HY.out hβ0).2
                have HBF := Lib.hid hbf
                have hbn : (!γ) = true := by rw [hbf]; rfl
                obtain ⟨x, hx⟩ := get_some HNL.out.2.1 hi
                have hmem := List.mem_of_getElem? hx
                have hsmx := HSM.out.muts x hmem
                obtain ⟨b, off, rfl, hbl, hcc⟩ := HM.out.muts.2.resolve_left (by omega)
                obtain ⟨z0, z1, z2, z3, _⟩ := hcc i x hx
                have hbw := HB0.out.trans (HBR.out.mono HB0.out.size)
                have c0 := (hbw.cell (p := ⟨b, off + i * 4, none⟩) hbl).trans z0
                have c1 := (hbw.cell (p := ⟨b, off + i * 4 + 1, none⟩) hbl).trans z1
                have c2 := (hbw.cell (p := ⟨b, off + i * 4 + 2, none⟩) hbl).trans z2
                have c3 := (hbw.cell (p := ⟨b, off + i * 4 + 3, none⟩) hbl).trans z3
                have hbl4 : b < wr.heap.size := Nat.lt_of_lt_of_le hbl hbw.size
                have hZl : Z.length ≤ 1000000000000000 + 10 + 450 * i := by
                  have h1 := flat_len mutB (m.muts.take i) (fun y hy => mutB_length (hoks y hy))
                  have h2 : (m.muts.take i).length ≤ i := List.length_take_le _ _
                  rw [hZ, List.length_append]
                  omega
                have hzy : (strOfNums Z).size ≤ 1000000000000000 + 460810 := by rw [strOfNums_size]; omega
                have HLG := Lib.hid (fun w => reflong_any x.a x.b x.c w (by have := hsmx.1; omega) (by have := hsmx.2.1; omega) (by have := hsmx.2.2; omega))
                have HTX := Lib.hid (fun w => reftexts_any x.a x.b x.c w hsmx.1 hsmx.2.1 hsmx.2.2)
                have hztt : (strOfNums (tup x.a x.b x.c)).size ≤ 422212465053786 := by rw [strOfNums_size]; exact tup_big hsmx
                have HIB := Lib.hid (fun w => refbit_any x.d w)
                have hz1 : (strOfNums [bit x.d]).size ≤ 10 := by rw [strOfNums_size]; simp
                have HFX := Lib.hid (show strOfNums Z ++ (strOfNums [bit x.d] ++ strOfNums (tup x.a x.b x.c)) = strOfNums (Z ++ mutB x) by rw [str_append, str_append]; rfl)
                have HFL := Lib.hid (show (mutB x).length ≤ 422212465053806 by
                  have h1 := tup_big hsmx
                  rw [mutB, flagged, List.length_cons]
                  omega)
                generalize strOfNums (tup x.a x.b x.c) = TT at *
                generalize strOfNums [bit x.d] = TB at *
                have a1 := fun w : World => run_string_add_sum (P := Tryz.prog) w TB TT (by omega)
                have a2 := fun w : World => run_string_add_sum (P := Tryz.prog) w (strOfNums Z) (TB ++ TT) (by simp; omega)
                have hjj : (0:Int) ≤ (i:Int) ∧ (i:Int) < (mn:Int) := by omega
                have HNX := Lib.hid (show QM m X m.muts β0 (i + 1) (Z ++ mutB x) (longB x.a x.b x.c) 2000000000000000 from ⟨fun h => ⟨hβ0, by rw [flat_snoc mutB hx, ← hZ], fun y hy => by
                    rw [take_snoc hx] at hy
                    rcases List.mem_append.1 hy with hy | hy
                    · exact hoks y hy
                    · obtain rfl : y = x := by simpa using hy
                      exact long_ok.1 h⟩, fun h => ⟨(fun ok => by
                    have h1 := long_ok.2 (ok.muts.2 x hmem)
                    rw [h] at h1
                    cases h1), by have := HFL.out; rw [List.length_append]; omega⟩⟩)
                have HBL := Lib.hid hbl4
                clear hcc hx hmem hsmx hZ hoks hZl hbf hβ0 hbw
                go_wp2_with fail
                refine (HLG.out _).mono ?_
                rintro e w4 ⟨rfl, hb4⟩
                have hb04 := HBR.out.trans (hb4.mono HBR.out.size)
                have hg4 : w.heap.size < w4.heap.size := Nat.lt_of_lt_of_le (show w.heap.size < W0.heap.size from HS0W.out) hb04.size
                obtain ⟨kk0, kk1, kk2, kk3, kk4, kk5, kk6, kk7, kk8, kk9, kk10, kk11⟩ := HBOX.out _ hb04
                have HS4 := Lib.hid (show HeldM W0 w4 w.heap.size 9 b (off + i * 4) (.slice (some ⟨b, off, none⟩) mn mc) (.bool x.d) (.string x.a) (.string x.b) (.string x.c) from ⟨kk9, (hb4.cell (p := ⟨b, off + i * 4, none⟩) hbl4).trans c0, (hb4.cell (p := ⟨b, off + i * 4 + 1, none⟩) hbl4).trans c1, (hb4.cell (p := ⟨b, off + i * 4 + 2, none⟩) hbl4).trans c2, (hb4.cell (p := ⟨b, off + i * 4 + 3, none⟩) hbl4).trans c3, hb04, hg4, Nat.lt_of_lt_of_le HBL.out hb4.size⟩)
                clear kk0 kk1 kk2 kk3 kk4 kk5 kk6 kk7 kk8 kk9 kk10 kk11 c0 z0 c1 z1 c2 z2 c3 z3 hb04 hg4 hb4 hbl4 hbl
                go_wp2_with fail
                go_region_held3 (fun V => HeldM W0 V w.heap.size 9 b (off + i * 4) (.slice (some ⟨b, off, none⟩) mn mc) (.bool x.d) (.string x.a) (.string x.b) (.string x.c)) (first
                    | exact heldM_keep HS4.out (below_drewN _ 1)
                    | assumption
                    | exact heldM_keep (by assumption) (by assumption)) (first
                  | (go_at_call 53; (with_reducible refine (HIB.out _).mono ?_); rintro e w' ⟨rfl, rfl⟩)
                  | (go_at_call 55; (with_reducible refine (HTX.out _).mono ?_); rintro e w' ⟨rfl, hbn2⟩))
                have HF := Lib.hid (show Below W0.heap.size W0 w' from (show HeldM W0 w' w.heap.size 9 b (off + i * 4) (.slice (some ⟨b, off, none⟩) mn mc) (.bool x.d) (.string x.a) (.string x.b) (.string x.c) by assumption).2.2.2.2.2.1)
                clear hz1 a1 a2
                go_wp2_with fail
                exact ⟨⟨i + 1, Z ++ mutB x, longB x.a x.b x.c, by omega, by go_num, rfl, by rw [HFX.out], HNX.out, HF.out⟩, by simp [intOf]; omega⟩
              · by_cases hi : i < mn
                · have hbt : γ = true := by
                    cases hb : γ with
                    | true => rfl
                    | false => exact absurd ⟨hi, hb⟩ hc
                  have hbn : (!γ) = false := by rw [hbt]; rfl
                  have HP := Lib.hid (HQ.out.2 hbt)
                  have HBT2 := Lib.hid hbt
                  clear hbt hc
                  go_wp2_with fail
                  go_meet
                  exact ⟨Z, γ, rfl, rfl, (fun h => by rw [HBT2.out] at h; cases h), fun _ => HP.out.1, HP.out.2, HBR.out⟩
                · obtain rfl : i = mn := by omega
                  have HP := Lib.hid (show (γ = false → Z = ((head8 m ++ lst Vi.int m.nodes) ++ lst mutB m.muts) ∧ (β0 = false ∧ ∀ x ∈ m.muts, x.ok)) ∧ Z.length ≤ 2000000000000000 from ⟨fun h => by
                    obtain ⟨h1, h2, h3⟩ := HQ.out.1 h
                    obtain ⟨h4, h5⟩ := HY.out h1
                    have h6 : m.muts.take i = m.muts := List.take_of_length_le (by rw [HNL.out.2.1]; exact Nat.le_refl _)
                    have h7 : lst mutB m.muts = Vi.int (i : Int) ++ (m.muts.map mutB).flatten := by rw [lst, HNL.out.2.1]
                    rw [h6] at h2 h3
                    refine ⟨?_, h5, h3⟩
                    rw [h2, HX.out, h4, h7]
                    exact List.append_assoc _ _ _, by
                    cases hg : γ with
                    | true => exact (HQ.out.2 hg).2
                    | false =>
                      obtain ⟨h1, h2, h3⟩ := HQ.out.1 hg
                      have hle := HLE.out (HY.out h1).2
                      have h4 := flat_len mutB (m.muts.take i) (fun y hy => mutB_length (h3 y hy))
                      have h5 : (m.muts.take i).length ≤ i := List.length_take_le _ _
                      rw [h2, List.length_append]
                      omega⟩)
                  clear hc
                  go_wp2_with fail
                  go_meet
                  exact ⟨Z, γ, rfl, rfl, HP.out.1, fun h => (HQ.out.2 h).1, HP.out.2, HBR.out⟩
        case rest =>

          obtain ⟨Y, β, rfl, rfl, hY, hbt, hYl, hbx⟩ := hcut
          obtain ⟨kk0, kk1, kk2, kk3, kk4, kk5, kk6, kk7, kk8, kk9, kk10, kk11⟩ := HBOX.out _ hbx
          have HBX := Lib.hid hbx
          have HY := Lib.hid hY
          have HBE := Lib.hid hbt
          have hzn : (strOfNums (Vi.int (pn : Int))).size ≤ 10 := by rw [strOfNums_size]; exact Vi.int_length _ (by omega) (by omega)
          have hzy : (strOfNums Y).size ≤ 2000000000000000 := by rw [strOfNums_size]; exact hYl
          have HIN := Lib.hid (fun w => refint_any (pn : Int) w (by omega) (by omega))
          have ha := fun w : World => run_string_add_sum (P := Tryz.prog) w (strOfNums Y) (strOfNums (Vi.int (pn : Int))) (by omega)
          obtain ⟨X, hX⟩ : ∃ X, X = Y ++ Vi.int (pn : Int) := ⟨_, rfl⟩
          have hXl : X.length ≤ 2000000000000000 + 10 := by
            rw [strOfNums_size] at hzn
            rw [hX, List.length_append]
            omega
          have HX := Lib.hid hX
          clear hX hY hbt hbx hzy hzn
          go_wp2_with fail
          refine (HIN.out _).mono ?_
          rintro e w3 ⟨rfl, hb3⟩
          have HB3 := Lib.hid (HBX.out.trans (hb3.mono HBX.out.size))
          clear hb3 kk0 kk1 kk2 kk3 kk4 kk5 kk6 kk7 kk8 kk9 kk10 kk11
          go_upto_block 4 with fail
          rw [str_append, ← HX.out]
          clear ha
          go_cut [4, 5] (fun bv ov wx => StE W0 wx m (((head8 m ++ lst Vi.int m.nodes) ++ lst mutB m.muts) ++ lst mutB m.pre) (β0 = false ∧ (∀ x ∈ m.muts, x.ok) ∧ ∀ x ∈ m.pre, x.ok) 3000000000000000 ov bv)
          case first =>
            as_aux_lemma =>
              go_wp2_with fail
              go_loopw [4, 5, 8] (fun bv ov iv wr => ∃ (i : Nat) (Z : List Int) (γ : Bool), i ≤ pn ∧ iv = .int .i64 i ∧ bv = .bool γ ∧ ov = .string (strOfNums Z) ∧ QM m X m.pre β i Z γ 3000000000000000 ∧ Below W0.heap.size W0 wr) (fun _ _ iv _ => pn - (intOf iv).toNat)
              case atStart => exact ⟨0, X, β, by omega, rfl, rfl, rfl, ⟨fun h => ⟨h, by simp, by simp⟩, fun h => ⟨HBE.out h, by omega⟩⟩, HB3.out⟩
              case round =>
                obtain ⟨i, Z, γ, hin, rfl, rfl, rfl, hq, hbr⟩ := hrel
                obtain ⟨kr0, kr1, kr2, kr3, kr4, kr5, kr6, kr7, kr8, kr9, kr10, kr11⟩ := HBOX.out _ hbr
                have HBR := Lib.hid hbr
                have HQ := Lib.hid hq
                clear hbr hq
                by_cases hc : i < pn ∧ γ = false
                · obtain ⟨hi, hbf⟩ := hc
                  obtain ⟨hβ, hZ, hoks⟩ := HQ.out.1 hbf
                  have hle := HLE.out (HY.out hβ).2.1
                  have HBF := Lib.hid hbf
                  have hbn : (!γ) = true := by rw [hbf]; rfl
                  obtain ⟨x, hx⟩ := get_some HNL.out.2.2.1 hi
                  have hmem := List.mem_of_getElem? hx
                  have hsmx := HSM.out.pre x hmem
                  obtain ⟨b, off, rfl, hbl, hcc⟩ := HM.out.pre.2.resolve_left (by omega)
                  obtain ⟨z0, z1, z2, z3, _⟩ := hcc i x hx
                  have hbw := HB0.out.trans (HBR.out.mono HB0.out.size)
                  have c0 := (hbw.cell (p := ⟨b, off + i * 4, none⟩) hbl).trans z0
                  have c1 := (hbw.cell (p := ⟨b, off + i * 4 + 1, none⟩) hbl).trans z1
                  have c2 := (hbw.cell (p := ⟨b, off + i * 4 + 2, none⟩) hbl).trans z2
                  have c3 := (hbw.cell (p := ⟨b, off + i * 4 + 3, none⟩) hbl).trans z3
                  have hbl4 : b < wr.heap.size := Nat.lt_of_lt_of_le hbl hbw.size
                  have hZl : Z.length ≤ 2000000000000000 + 10 + 450 * i := by
                    have h1 := flat_len mutB (m.pre.take i) (fun y hy => mutB_length (hoks y hy))
                    have h2 : (m.pre.take i).length ≤ i := List.length_take_le _ _
                    rw [hZ, List.length_append]
                    omega
                  have hzy : (strOfNums Z).size ≤ 2000000000000000 + 460810 := by rw [strOfNums_size]; omega
                  have HLG := Lib.hid (fun w => reflong_any x.a x.b x.c w (by have := hsmx.1; omega) (by have := hsmx.2.1; omega) (by have := hsmx.2.2; omega))
                  have HTX := Lib.hid (fun w => reftexts_any x.a x.b x.c w hsmx.1 hsmx.2.1 hsmx.2.2)
                  have hztt : (strOfNums (tup x.a x.b x.c)).size ≤ 422212465053786 := by rw [strOfNums_size]; exact tup_big hsmx
                  have HIB := Lib.hid (fun w => refbit_any x.d w)
                  have hz1 : (strOfNums [bit x.d]).size ≤ 10 := by rw [strOfNums_size]; simp
                  have HFX := Lib.hid (show strOfNums Z ++ (strOfNums [bit x.d] ++ strOfNums (tup x.a x.b x.c)) = strOfNums (Z ++ mutB x) by rw [str_append, str_append]; rfl)
                  have HFL := Lib.hid (show (mutB x).length ≤ 422212465053806 by
                    have h1 := tup_big hsmx
                    rw [mutB, flagged, List.length_cons]
                    omega)
                  generalize strOfNums (tup x.a x.b x.c) = TT at *
                  generalize strOfNums [bit x.d] = TB at *
                  have a1 := fun w : World => run_string_add_sum (P := Tryz.prog) w TB TT (by omega)
                  have a2 := fun w : World => run_string_add_sum (P := Tryz.prog) w (strOfNums Z) (TB ++ TT) (by simp; omega)
                  have hjj : (0:Int) ≤ (i:Int) ∧ (i:Int) < (pn:Int) := by omega
                  have HNX := Lib.hid (show QM m X m.pre β (i + 1) (Z ++ mutB x) (longB x.a x.b x.c) 3000000000000000 from ⟨fun h => ⟨hβ, by rw [flat_snoc mutB hx, ← hZ], fun y hy => by
                      rw [take_snoc hx] at hy
                      rcases List.mem_append.1 hy with hy | hy
                      · exact hoks y hy
                      · obtain rfl : y = x := by simpa using hy
                        exact long_ok.1 h⟩, fun h => ⟨(fun ok => by
                      have h1 := long_ok.2 (ok.pre.2 x hmem)
                      rw [h] at h1
                      cases h1), by have := HFL.out; rw [List.length_append]; omega⟩⟩)
                  have HBL := Lib.hid hbl4
                  clear hcc hx hmem hsmx hZ hoks hZl hbf hβ hbw
                  go_wp2_with fail
                  refine (HLG.out _).mono ?_
                  rintro e w4 ⟨rfl, hb4⟩
                  have hb04 := HBR.out.trans (hb4.mono HBR.out.size)
                  have hg4 : w.heap.size < w4.heap.size := Nat.lt_of_lt_of_le (show w.heap.size < W0.heap.size from HS0W.out) hb04.size
                  obtain ⟨kk0, kk1, kk2, kk3, kk4, kk5, kk6, kk7, kk8, kk9, kk10, kk11⟩ := HBOX.out _ hb04
                  have HS4 := Lib.hid (show HeldM W0 w4 w.heap.size 10 b (off + i * 4) (.slice (some ⟨b, off, none⟩) pn pc) (.bool x.d) (.string x.a) (.string x.b) (.string x.c) from ⟨kk10, (hb4.cell (p := ⟨b, off + i * 4, none⟩) hbl4).trans c0, (hb4.cell (p := ⟨b, off + i * 4 + 1, none⟩) hbl4).trans c1, (hb4.cell (p := ⟨b, off + i * 4 + 2, none⟩) hbl4).trans c2, (hb4.cell (p := ⟨b, off + i * 4 + 3, none⟩) hbl4).trans c3, hb04, hg4, Nat.lt_of_lt_of_le HBL.out hb4.size⟩)
                  clear kk0 kk1 kk2 kk3 kk4 kk5 kk6 kk7 kk8 kk9 kk10 kk11 c0 z0 c1 z1 c2 z2 c3 z3 hb04 hg4 hb4 hbl4 hbl
                  go_wp2_with fail
                  go_region_held3 (fun V => HeldM W0 V w.heap.size 10 b (off + i * 4) (.slice (some ⟨b, off, none⟩) pn pc) (.bool x.d) (.string x.a) (.string x.b) (.string x.c)) (first
                      | exact heldM_keep HS4.out (below_drewN _ 1)
                      | assumption
                      | exact heldM_keep (by assumption) (by assumption)) (first
                    | (go_at_call 53; (with_reducible refine (HIB.out _).mono ?_); rintro e w' ⟨rfl, rfl⟩)
                    | (go_at_call 55; (with_reducible refine (HTX.out _).mono ?_); rintro e w' ⟨rfl, hbn2⟩))
                  have HF := Lib.hid (show Below W0.heap.size W0 w' from (show HeldM W0 w' w.heap.size 10 b (off + i * 4) (.slice (some ⟨b, off, none⟩) pn pc) (.bool x.d) (.string x.a) (.string x.b) (.string x.c) by assumption).2.2.2.2.2.1)
                  clear hz1 a1 a2
                  go_wp2_with fail
                  exact ⟨⟨i + 1, Z ++ mutB x, longB x.a x.b x.c, by omega, by go_num, rfl, by rw [HFX.out], HNX.out, HF.out⟩, by simp [intOf]; omega⟩
                · by_cases hi : i < pn
                  · have hbt : γ = true := by
                      cases hb : γ with
                      | true => rfl
                      | false => exact absurd ⟨hi, hb⟩ hc
                    have hbn : (!γ) = false := by rw [hbt]; rfl
                    have HP := Lib.hid (HQ.out.2 hbt)
                    have HBT2 := Lib.hid hbt
                    clear hbt hc
                    go_wp2_with fail
                    go_meet
                    exact ⟨Z, γ, rfl, rfl, (fun h => by rw [HBT2.out] at h; cases h), fun _ => HP.out.1, HP.out.2, HBR.out⟩
                  · obtain rfl : i = pn := by omega
                    have HP := Lib.hid (show (γ = false → Z = (((head8 m ++ lst Vi.int m.nodes) ++ lst mutB m.muts) ++ lst mutB m.pre) ∧ (β0 = false ∧ (∀ x ∈ m.muts, x.ok) ∧ ∀ x ∈ m.pre, x.ok)) ∧ Z.length ≤ 3000000000000000 from ⟨fun h => by
                      obtain ⟨h1, h2, h3⟩ := HQ.out.1 h
                      obtain ⟨h4, h5⟩ := HY.out h1
                      have h6 : m.pre.take i = m.pre := List.take_of_length_le (by rw [HNL.out.2.2.1]; exact Nat.le_refl _)
                      have h7 : lst mutB m.pre = Vi.int (i : Int) ++ (m.pre.map mutB).flatten := by rw [lst, HNL.out.2.2.1]
                      rw [h6] at h2 h3
                      refine ⟨?_, h5.1, h5.2, h3⟩
                      rw [h2, HX.out, h4, h7]
                      exact List.append_assoc _ _ _, by
                      cases hg : γ with
                      | true => exact (HQ.out.2 hg).2
                      | false =>
                        obtain ⟨h1, h2, h3⟩ := HQ.out.1 hg
                        have hle := HLE.out (HY.out h1).2.1
                        have h4 := flat_len mutB (m.pre.take i) (fun y hy => mutB_length (h3 y hy))
                        have h5 : (m.pre.take i).length ≤ i := List.length_take_le _ _
                        rw [h2, List.length_append]
                        omega⟩)
                    clear hc
                    go_wp2_with fail
                    go_meet
                    exact ⟨Z, γ, rfl, rfl, HP.out.1, fun h => (HQ.out.2 h).1, HP.out.2, HBR.out⟩
          case rest =>

            obtain ⟨Y, β, rfl, rfl, hY, hbt, hYl, hbx⟩ := hcut
            obtain ⟨kk0, kk1, kk2, kk3, kk4, kk5, kk6, kk7, kk8, kk9, kk10, kk11⟩ := HBOX.out _ hbx
            have HBX := Lib.hid hbx
            have HY := Lib.hid hY
            have HBE := Lib.hid hbt
            have hzn : (strOfNums (Vi.int (rn : Int))).size ≤ 10 := by rw [strOfNums_size]; exact Vi.int_length _ (by omega) (by omega)
            have hzy : (strOfNums Y).size ≤ 3000000000000000 := by rw [strOfNums_size]; exact hYl
            have HIN := Lib.hid (fun w => refint_any (rn : Int) w (by omega) (by omega))
            have ha := fun w : World => run_string_add_sum (P := Tryz.prog) w (strOfNums Y) (strOfNums (Vi.int (rn : Int))) (by omega)
            obtain ⟨X, hX⟩ : ∃ X, X = Y ++ Vi.int (rn : Int) := ⟨_, rfl⟩
            have hXl : X.length ≤ 3000000000000000 + 10 := by
              rw [strOfNums_size] at hzn
              rw [hX, List.length_append]
              omega
            have HX := Lib.hid hX
            clear hX hY hbt hbx hzy hzn
            go_wp2_with fail
            refine (HIN.out _).mono ?_
            rintro e w3 ⟨rfl, hb3⟩
            have HB3 := Lib.hid (HBX.out.trans (hb3.mono HBX.out.size))
            clear hb3 kk0 kk1 kk2 kk3 kk4 kk5 kk6 kk7 kk8 kk9 kk10 kk11
            go_upto_block 6 with fail
            rw [str_append, ← HX.out]
            clear ha
            go_cut [4, 5] (fun bv ov wx => StE W0 wx m ((((head8 m ++ lst Vi.int m.nodes) ++ lst mutB m.muts) ++ lst mutB m.pre) ++ lst rowOf m.rows) (β0 = false ∧ (∀ x ∈ m.muts, x.ok) ∧ (∀ x ∈ m.pre, x.ok) ∧ ∀ x ∈ m.rows, x.ok) 4000000000000000 ov bv)
            case first =>
              as_aux_lemma =>
                go_wp2_with fail
                go_loopw [4, 5, 9] (fun bv ov iv wr => ∃ (i : Nat) (Z : List Int) (γ : Bool), i ≤ rn ∧ iv = .int .i64 i ∧ bv = .bool γ ∧ ov = .string (strOfNums Z) ∧ QRe m X m.rows β i Z γ 4000000000000000 ∧ Below W0.heap.size W0 wr) (fun _ _ iv _ => rn - (intOf iv).toNat)
                case atStart => exact ⟨0, X, β, by omega, rfl, rfl, rfl, ⟨fun h => ⟨h, by simp, by simp⟩, fun h => ⟨HBE.out h, by omega⟩⟩, HB3.out⟩
                case round =>
                  obtain ⟨i, Z, γ, hin, rfl, rfl, rfl, hq, hbr⟩ := hrel
                  obtain ⟨kr0, kr1, kr2, kr3, kr4, kr5, kr6, kr7, kr8, kr9, kr10, kr11⟩ := HBOX.out _ hbr
                  have HBR := Lib.hid hbr
                  have HQ := Lib.hid hq
                  clear hbr hq
                  by_cases hc : i < rn ∧ γ = false
                  · obtain ⟨hi, hbf⟩ := hc
                    obtain ⟨hβ, hZ, hoks⟩ := HQ.out.1 hbf
                    have hle := HLE.out (HY.out hβ).2.1
                    have HBF := Lib.hid hbf
                    have hbn : (!γ) = true := by rw [hbf]; rfl
                    obtain ⟨x, hx⟩ := get_some HNL.out.2.2.2 hi
                    have hmem := List.mem_of_getElem? hx
                    have hsmx := HSM.out.rows x hmem
                    obtain ⟨b, off, rfl, hbl, hcc⟩ := HM.out.rows.2.resolve_left (by omega)
                    obtain ⟨z0, z1, z2, z3, z4, _⟩ := hcc i x hx
                    have hbw := HB0.out.trans (HBR.out.mono HB0.out.size)
                    have c0 := (hbw.cell (p := ⟨b, off + i * 5, none⟩) hbl).trans z0
                    have c1 := (hbw.cell (p := ⟨b, off + i * 5 + 1, none⟩) hbl).trans z1
                    have c2 := (hbw.cell (p := ⟨b, off + i * 5 + 2, none⟩) hbl).trans z2
                    have c3 := (hbw.cell (p := ⟨b, off + i * 5 + 3, none⟩) hbl).trans z3
                    have c4 := (hbw.cell (p := ⟨b, off + i * 5 + 4, none⟩) hbl).trans z4
                    have hbl4 : b < wr.heap.size := Nat.lt_of_lt_of_le hbl hbw.size
                    have hZl : Z.length ≤ 3000000000000000 + 10 + 450 * i := by
                      have h1 := flat_len rowOf (m.rows.take i) (fun y hy => rowOf_length (hoks y hy) (HM.out.in64.rows y (List.mem_of_mem_take hy)).1 (HM.out.in64.rows y (List.mem_of_mem_take hy)).2)
                      have h2 : (m.rows.take i).length ≤ i := List.length_take_le _ _
                      rw [hZ, List.length_append]
                      omega
                    have hzy : (strOfNums Z).size ≤ 3000000000000000 + 460810 := by rw [strOfNums_size]; omega
                    have HLG := Lib.hid (fun w => reflong_any x.a x.b x.c w (by have := hsmx.1; omega) (by have := hsmx.2.1; omega) (by have := hsmx.2.2; omega))
                    have HTX := Lib.hid (fun w => reftexts_any x.a x.b x.c w hsmx.1 hsmx.2.1 hsmx.2.2)
                    have hztt : (strOfNums (tup x.a x.b x.c)).size ≤ 422212465053786 := by rw [strOfNums_size]; exact tup_big hsmx
                    have hsu := HM.out.in64.rows x (List.mem_of_getElem? hx)
                    have HIS := Lib.hid (fun w => refint_any x.s w hsu.1.1 hsu.1.2)
                    have HIU := Lib.hid (fun w => refint_any x.u w hsu.2.1 hsu.2.2)
                    have hz1 : (strOfNums (Vi.int x.s)).size ≤ 10 := by rw [strOfNums_size]; exact Vi.int_length _ hsu.1.1 hsu.1.2
                    have hz2 : (strOfNums (Vi.int x.u)).size ≤ 10 := by rw [strOfNums_size]; exact Vi.int_length _ hsu.2.1 hsu.2.2
                    have HFX := Lib.hid (show strOfNums Z ++ (strOfNums (tup x.a x.b x.c) ++ strOfNums (Vi.int x.s) ++ strOfNums (Vi.int x.u)) = strOfNums (Z ++ rowOf x) by simp only [rowOf, rowB, str_append, List.append_assoc])
                    have HFL := Lib.hid (show (rowOf x).length ≤ 422212465053806 by
                      have h1 := tup_big hsmx
                      rw [strOfNums_size] at hz1 hz2
                      simp only [rowOf, rowB, List.length_append]
                      omega)
                    generalize strOfNums (tup x.a x.b x.c) = TT at *
                    generalize strOfNums (Vi.int x.s) = TS at *
                    generalize strOfNums (Vi.int x.u) = TU at *
                    have a1 := fun w : World => run_string_add_sum (P := Tryz.prog) w TT TS (by omega)
                    have a2 := fun w : World => run_string_add_sum (P := Tryz.prog) w (TT ++ TS) TU (by simp; omega)
                    have a3 := fun w : World => run_string_add_sum (P := Tryz.prog) w (strOfNums Z) (TT ++ TS ++ TU) (by simp; omega)
                    have hjj : (0:Int) ≤ (i:Int) ∧ (i:Int) < (rn:Int) := by omega
                    have HNX := Lib.hid (show QRe m X m.rows β (i + 1) (Z ++ rowOf x) (longB x.a x.b x.c) 4000000000000000 from ⟨fun h => ⟨hβ, by rw [flat_snoc rowOf hx, ← hZ], fun y hy => by
                        rw [take_snoc hx] at hy
                        rcases List.mem_append.1 hy with hy | hy
                        · exact hoks y hy
                        · obtain rfl : y = x := by simpa using hy
                          exact long_ok.1 h⟩, fun h => ⟨(fun ok => by
                        have h1 := long_ok.2 (ok.rows.2 x hmem)
                        rw [h] at h1
                        cases h1), by have := HFL.out; rw [List.length_append]; omega⟩⟩)
                    have HBL := Lib.hid hbl4
                    clear hcc hx hmem hsmx hZ hoks hZl hbf hβ hbw
                    go_wp2_with fail
                    refine (HLG.out _).mono ?_
                    rintro e w4 ⟨rfl, hb4⟩
                    have hb04 := HBR.out.trans (hb4.mono HBR.out.size)
                    have hg4 : w.heap.size < w4.heap.size := Nat.lt_of_lt_of_le (show w.heap.size < W0.heap.size from HS0W.out) hb04.size
                    obtain ⟨kk0, kk1, kk2, kk3, kk4, kk5, kk6, kk7, kk8, kk9, kk10, kk11⟩ := HBOX.out _ hb04
                    have HS4 := Lib.hid (show HeldR W0 w4 w.heap.size 11 b (off + i * 5) (.slice (some ⟨b, off, none⟩) rn rc) (.string x.a) (.string x.b) (.string x.c) (.int .i64 x.s) (.int .i64 x.u) from ⟨kk11, (hb4.cell (p := ⟨b, off + i * 5, none⟩) hbl4).trans c0, (hb4.cell (p := ⟨b, off + i * 5 + 1, none⟩) hbl4).trans c1, (hb4.cell (p := ⟨b, off + i * 5 + 2, none⟩) hbl4).trans c2, (hb4.cell (p := ⟨b, off + i * 5 + 3, none⟩) hbl4).trans c3, (hb4.cell (p := ⟨b, off + i * 5 + 4, none⟩) hbl4).trans c4, hb04, hg4, Nat.lt_of_lt_of_le HBL.out hb4.size⟩)
                    clear kk0 kk1 kk2 kk3 kk4 kk5 kk6 kk7 kk8 kk9 kk10 kk11 c0 z0 c1 z1 c2 z2 c3 z3 c4 z4 hb04 hg4 hb4 hbl4 hbl
                    go_wp2_with fail
                    go_region_held3 (fun V => HeldR W0 V w.heap.size 11 b (off + i * 5) (.slice (some ⟨b, off, none⟩) rn rc) (.string x.a) (.string x.b) (.string x.c) (.int .i64 x.s) (.int .i64 x.u)) (first
                        | exact heldR_keep HS4.out (below_drewN _ 1)
                        | assumption
                        | exact heldR_keep (by assumption) (by assumption)) (first
                      | (go_at_call 52; (first
                          | (with_reducible refine (HIS.out _).mono ?_)
                          | (with_reducible refine (HIU.out _).mono ?_)); rintro e w' ⟨rfl, hbn⟩)
                      | (go_at_call 55; (with_reducible refine (HTX.out _).mono ?_); rintro e w' ⟨rfl, hbn2⟩))
                    have HF := Lib.hid (show Below W0.heap.size W0 w' from (show HeldR W0 w' w.heap.size 11 b (off + i * 5) (.slice (some ⟨b, off, none⟩) rn rc) (.string x.a) (.string x.b) (.string x.c) (.int .i64 x.s) (.int .i64 x.u) by assumption).2.2.2.2.2.2.1)
                    clear hz1 hz2 hsu a1 a2 a3
                    go_wp2_with fail
                    exact ⟨⟨i + 1, Z ++ rowOf x, longB x.a x.b x.c, by omega, by go_num, rfl, by rw [HFX.out], HNX.out, HF.out⟩, by simp [intOf]; omega⟩
                  · by_cases hi : i < rn
                    · have hbt : γ = true := by
                        cases hb : γ with
                        | true => rfl
                        | false => exact absurd ⟨hi, hb⟩ hc
                      have hbn : (!γ) = false := by rw [hbt]; rfl
                      have HP := Lib.hid (HQ.out.2 hbt)
                      have HBT2 := Lib.hid hbt
                      clear hbt hc
                      go_wp2_with fail
                      go_meet
                      exact ⟨Z, γ, rfl, rfl, (fun h => by rw [HBT2.out] at h; cases h), fun _ => HP.out.1, HP.out.2, HBR.out⟩
                    · obtain rfl : i = rn := by omega
                      have HP := Lib.hid (show (γ = false → Z = ((((head8 m ++ lst Vi.int m.nodes) ++ lst mutB m.muts) ++ lst mutB m.pre) ++ lst rowOf m.rows) ∧ (β0 = false ∧ (∀ x ∈ m.muts, x.ok) ∧ (∀ x ∈ m.pre, x.ok) ∧ ∀ x ∈ m.rows, x.ok)) ∧ Z.length ≤ 4000000000000000 from ⟨fun h => by
                        obtain ⟨h1, h2, h3⟩ := HQ.out.1 h
                        obtain ⟨h4, h5⟩ := HY.out h1
                        have h6 : m.rows.take i = m.rows := List.take_of_length_le (by rw [HNL.out.2.2.2]; exact Nat.le_refl _)
                        have h7 : lst rowOf m.rows = Vi.int (i : Int) ++ (m.rows.map rowOf).flatten := by rw [lst, HNL.out.2.2.2]
                        rw [h6] at h2 h3
                        refine ⟨?_, h5.1, h5.2.1, h5.2.2, h3⟩
                        rw [h2, HX.out, h4, h7]
                        exact List.append_assoc _ _ _, by
                        cases hg : γ with
                        | true => exact (HQ.out.2 hg).2
                        | false =>
                          obtain ⟨h1, h2, h3⟩ := HQ.out.1 hg
                          have hle := HLE.out (HY.out h1).2.1
                          have h4 := flat_len rowOf (m.rows.take i) (fun y hy => rowOf_length (h3 y hy) (HM.out.in64.rows y (List.mem_of_mem_take hy)).1 (HM.out.in64.rows y (List.mem_of_mem_take hy)).2)
                          have h5 : (m.rows.take i).length ≤ i := List.length_take_le _ _
                          rw [h2, List.length_append]
                          omega⟩)
                      clear hc
                      go_wp2_with fail
                      go_meet
                      exact ⟨Z, γ, rfl, rfl, HP.out.1, fun h => (HQ.out.2 h).1, HP.out.2, HBR.out⟩
            case rest =>

              obtain ⟨Y, β, rfl, rfl, hY, hbt, hYl, hbx⟩ := hcut
              have HBW := Lib.hid (HB0.out.trans (hbx.mono HB0.out.size))
              have HEN := Lib.hid (show β = false → Y = enc m ∧ m.ok from fun h => by
                obtain ⟨h1, h2, h3, h4, h5⟩ := hY h
                have hle := HLE.out h2
                have hn := HNL.out
                exact ⟨by rw [h1, enc_parts], ⟨by omega, ⟨by omega, h3⟩, ⟨by omega, h4⟩, ⟨by omega, h5⟩⟩⟩)
              have HBE := Lib.hid hbt
              have hsz : (strOfNums Y).size ≤ 4000000000000000 := by rw [strOfNums_size]; exact hYl
              clear hY hbt hbx
              cases β with
              | true =>
                have HP := Lib.hid (show ¬ (m.ok ∧ (enc m).length ≤ 16384) from fun h => HBE.out rfl h.1)
                go_wp2_with fail
                go_ret2
                exact REncPost.no HP.out HBW.out rfl
              | false =>
                obtain ⟨h1, h2⟩ := HEN.out rfl
                have H1 := Lib.hid h1
                have hyy := strOfNums_size Y
                by_cases hl : Y.length ≤ 16384
                · have HP := Lib.hid (show m.ok ∧ (enc m).length ≤ 16384 from ⟨h2, by rw [← h1]; exact hl⟩)
                  have hc : (strOfNums Y).size ≤ 16384 := by omega
                  clear h1 h2 hyy hl hsz
                  go_wp2_with fail
                  go_ret2
                  rw [H1.out]
                  exact REncPost.yes HP.out HBW.out rfl
                · have HP := Lib.hid (show ¬ (m.ok ∧ (enc m).length ≤ 16384) from fun h => hl (by rw [h1]; exact h.2))
                  have hc : 16384 < (strOfNums Y).size := by omega
                  clear h1 h2 hyy hl
                  go_wp2_with fail
                  go_ret2
                  exact REncPost.no HP.out HBW.out rfl
end Go.Proofs.YteodldmbnghfcaaGreat
