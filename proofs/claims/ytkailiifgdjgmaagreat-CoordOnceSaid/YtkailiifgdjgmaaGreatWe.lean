/- The law's opened; a crash. The law's first question. -/
import Derived.Test.YtkailiifgdjgmaaGreatW14
namespace Go.Proofs.YtkailiifgdjgmaaGreat
open Go.RowKit
open Go.Maps (Keyed)

section
variable {w w' : World} {B gc gl b1 b2 b3 g r : Nat} {v : Value} {c : Co} {ms : List MsgD}
theorem Turned.chg (h : Dk.Turned w w' g none) (P : Nat → Prop) (hg : P g) : Chg w w' P := ⟨h.os, h.tape, h.output, h.size, fun k hk hn => h.block k hk (fun e => hn (by rw [e]; exact hg)) (by simp)⟩
/-- What opened comes to, of a node. -/
def OpdR (w : World) (B g : Nat) (v : Value) (node : Int) (ms : List MsgD) (r : Nat) (e : Ending) (w' : World) : Prop :=
  ((cat ms).length + (rcd (bootM (rep node ms))).length ≤ r ∧ ∃ gc gl b1 b2 b3 v', e = .returned (.tuple #[.pointer (some ⟨gc, 0, none⟩), .int .i64 0]) ∧ CS w' B gc gl b1 b2 b3 g v' (ctake (rep node ms) (bootM (rep node ms))) (ms ++ [bootM (rep node ms)]) r ∧ Chg w w' (DB g v) ∧ w.heap.size ≤ b1 ∧ w.heap.size ≤ b2 ∧ w.heap.size ≤ b3) ∨
    (r < (cat ms).length + (rcd (bootM (rep node ms))).length ∧ e = .returned (.tuple #[.pointer none, .int .i64 3]) ∧ (∃ v', Dk.DAt w' B g v' (cat ms) (cat ms).length r) ∧ Chg w w' (DB g v))
set_option maxRecDepth 100000 in
set_option maxHeartbeats 4000000 in
theorem opened_any (w : World) (d : Nat) (h : Dk.DAt w B g v (cat ms) d r) (hf : ∀ m ∈ ms, m.fine) (hB : B ≤ w.heap.size) (node : Int) (hn : isN node) :
    Calls Tryz.prog 9 #[.pointer (some ⟨g, 0, none⟩), .int .i64 node] w (OpdR w B g v node ms r) := by
  have HL := Lib.hid (lopen_cat B g v ms d r w h hf)
  have HF := Lib.hid hf
  have HB := Lib.hid hB
  have HN := Lib.hid hn
  clear h hf hB hn
  go_enter Tryz.func9, Tryz.ntmps9
  go_wp2_with fail
  refine HL.out.mono ?_
  rintro e w1 ⟨gl, ra, rc, v', rfl, h1, h2, h3, hls, h5, _, hms, ht⟩
  have HO := Lib.hid (copen_good w1 hls HF.out (Nat.le_trans HB.out ht.size) ra ms.length rc hms node HN.out)
  have HCH := Lib.hid (show ∀ w2, Chg w1 w2 (LB gl g v') → Chg w w2 (DB g v) from fun w2 hc => ⟨hc.os.trans ht.os, hc.tape.trans ht.tape, hc.output.trans ht.output, Nat.le_trans ht.size hc.size, fun k hk hn => (hc.block k (Nat.lt_of_lt_of_le hk ht.size) (by
    rintro (e | e | e)
    · omega
    · exact hn (.inl e)
    · exact hn (.inr (by rw [← h5]; exact e)))).trans (ht.block k hk (fun e => hn (.inl e)) (by simp))⟩)
  have HSZ := Lib.hid ht.size
  clear h1 h2 h3 hls h5 hms ht
  go_wp2_with fail
  refine HO.out.mono ?_
  rintro e w2 (⟨h1, gc, b1, b2, b3, v2, rfl, h2, h3, h4, h5, h6⟩ | ⟨h1, rfl, h2, h3⟩)
  · have HE := Lib.hid (show OpdR w B g v node ms r (.returned (.tuple #[.pointer (some ⟨gc, 0, none⟩), .int .i64 0])) w2 from .inl ⟨h1, gc, gl, b1, b2, b3, v2, rfl, h2, HCH.out w2 h3, Nat.le_trans HSZ.out h4, Nat.le_trans HSZ.out h5, Nat.le_trans HSZ.out h6⟩)
    clear h1 h2 h3 h4 h5 h6
    go_wp2
    go_ret2
    exact HE.out
  · have HE := Lib.hid (show OpdR w B g v node ms r (.returned (.tuple #[.pointer none, .int .i64 3])) w2 from .inr ⟨h1, rfl, ⟨v', (show Lg w2 B gl g v' (cat ms) (cat ms).length r ms.length from h2).disk⟩, HCH.out w2 h3⟩)
    clear h1 h2 h3
    go_wp2
    go_ret2
    exact HE.out
theorem crash_all (w : World) (h : CS w B gc gl b1 b2 b3 g v c ms r) :
    Calls Tryz.prog 16 #[.pointer (some ⟨g, 0, none⟩), .int .i64 0] w fun e w' => e = .returned (.tuple #[]) ∧ ∃ v', Dk.DAt w' B g v' (cat ms) (cat ms).length r ∧ Chg w w' (fun k => k = g) ∧ v'.ownBlock = v.ownBlock := by
  have hl : Lg w B gl g v (cat ms) (cat ms).length r ms.length := h.log
  refine (Dk.crash_any 0 w hl.disk (by omega)).mono ?_
  rintro e w' ⟨rfl, v', h1, h2, h3⟩
  have hle : Dk.left (cat ms).length (cat ms).length 0 = (cat ms).length := by unfold Dk.left; simp
  rw [hle, List.take_length] at h1
  exact ⟨rfl, v', h1, Turned.chg h2 _ rfl, h3⟩
theorem cat_one (m : MsgD) : (cat [m]).length = (rcd m).length := by simp [cat]
theorem cat_snoc_len (ms : List MsgD) (m : MsgD) : (cat (ms ++ [m])).length = (cat ms).length + (rcd m).length := by rw [cat_snoc, List.length_append]
theorem boot_len {node : Int} {ms : List MsgD} (h : ms.length ≤ 52428) : (rcd (bootM (rep node ms))).length ≤ 29 := by
  have h1 := (rep_few node ms).1
  have hid : InI (((rep node ms).opened : Int) + 1) := ⟨by omega, by omega⟩
  have e3 := Vi.int_length _ hid.1 hid.2
  have h0 := int_zero
  have h5 : (Vi.int 5).length = 1 := int_small (by omega)
  rw [rcd_len]
  simp only [bootM, enc, oC, List.length_append, List.length_singleton]
  have e5 : (lst Vi.int ([] : List Int)).length = 1 := by simp [lst, int_zero]
  have e6 : (lst mutB ([] : List Mut)).length = 1 := by simp [lst, int_zero]
  have e7 : (lst rowOf ([] : List RowD)).length = 1 := by simp [lst, int_zero]
  omega
end
end Go.Proofs.YtkailiifgdjgmaaGreat

namespace Go.Proofs.YtkailiifgdjgmaaGreat
open Go.RowKit
open Go.Maps (Keyed)

def A1 : Co := ctake (rep 1 []) (bootM (rep 1 []))
def ida : Int := newId A1
def A2 : Co := cbegin A1 [2, 0]
def idb : Int := newId A2
def A3 : Co := cbegin A2 [0]
def A4 : Co := (cvote A3 ida 0 true).2
def A5 : Co := (cvote A4 ida 2 true).2
def M1 : MsgD := bootM (rep 1 [])
def M2 : MsgD := oC 6 ida 5 (slist 5)
def A7 : Co := ctake (rep 1 [M1, M2]) (bootM (rep 1 [M1, M2]))
def A8 : Co := cack A7 ida 4
theorem a_ids : (-9223372036854775808 ≤ ida ∧ ida ≤ 9223372036854775807) ∧ (-9223372036854775808 ≤ idb ∧ idb ≤ 9223372036854775807) := by decide +kernel
theorem a_fr1 : (dget A1.deb ida).isNone ∧ (A1.don ida).isNone := by decide +kernel
theorem a_fr2 : (dget A2.deb idb).isNone ∧ (A2.don idb).isNone := by decide +kernel
theorem a_v1 : (cvote A3 ida 0 true).1 = 0 := by decide +kernel
theorem a_r1 : ((A4.bal ida).any fun b => decide (b.2 = 0)) = false := by decide +kernel
theorem a_v2 : (cvote A4 ida 2 true).1 = 0 := by decide +kernel
theorem a_r2 : ((A5.bal ida).any fun b => decide (b.2 = 0)) = true := by decide +kernel
theorem a_b5 : A5.bal ida = some (5, 0) := by decide +kernel
theorem a_s1 : stat A7 ida = (2, 5) := by decide +kernel
theorem a_s2 : stat A7 idb = (0, 0) := by decide +kernel
theorem a_l7 : A7.deb.length = 1 := by decide +kernel
theorem a_d7 : (A7.don ida).isNone ∧ (dget A7.deb ida).map (fun d => (d.ns, d.lf)) = some (5, 5) := by decide +kernel
theorem a_sh : shas 5 0 = true ∧ swo 5 0 = 4 := by decide +kernel
theorem a_l8 : A8.deb.length = 1 ∧ A8.deb.map (fun d => (slist d.lf).length) = [1] := by decide +kernel
theorem ints_new (w : World) (l : List Int) (hl : ∀ x ∈ l, InI x) (t : TypeId) : IntsAt (w.alloc (.cells (l.map (Value.int .i64)).toArray t)) (w.heap.size + 1) (some ⟨w.heap.size, 0, none⟩) l.length l := by
  refine ⟨rfl, .inr ⟨_, _, rfl, by omega, fun i z hz => ⟨?_, hl z (List.mem_of_getElem? hz)⟩⟩⟩
  have := cells_new w (l.map (Value.int .i64)) t i (.int .i64 z) (by rw [List.getElem?_map, hz]; rfl)
  rwa [add_plain] at this
section
variable {w w' : World} {B gc gl b1 b2 b3 g r : Nat} {v : Value} {c : Co} {ms : List MsgD}
theorem CS.sb_below (h : CS w B gc gl b1 b2 b3 g v c ms r) (hc : Chg w w' (SB gc gl b1 b2 b3 g v)) : Below B w w' := hc.below (fun _ hk => (h.ge hk).1) h.geB
/-- Begin over new memory. -/
theorem begin_new (w : World) (h : CS w B gc gl b1 b2 b3 g v c ms r) (l : List Int) (hl : ∀ x ∈ l, InI x) (hg : beginOk c l) (hfr : dget c.deb (newId c) = none ∧ c.don (newId c) = none) (hn : l.length ≤ 1000) :
    Calls Tryz.prog 11 #[.pointer (some ⟨gc, 0, none⟩), .slice (some ⟨w.heap.size, 0, none⟩) l.length l.length] (w.alloc (.cells (l.map (Value.int .i64)).toArray 3)) fun e w' => e = .returned (.tuple #[.int .i64 (newId c), .int .i64 0]) ∧ CS w' B gc gl b1 b2 b3 g v (cbegin c l) ms r ∧ Chg w w' (SB gc gl b1 b2 b3 g v) := by
  have hb := below_alloc w (.cells (l.map (Value.int .i64)).toArray 3)
  have h1 := h.below hb
  refine (begin_good _ h1.co (some ⟨w.heap.size, 0, none⟩) l.length l.length l (w.heap.size + 1) (ints_new w l hl _) (by simp) (fun b off e hc => ?_) (by omega) hg hfr).mono ?_
  · injection e with e
    injection e with e
    have := h.co.lt hc
    omega
  · rintro e w' ⟨rfl, h2, h3⟩
    obtain ⟨h4, h5⟩ := h1.step h2 h3 h1.few
    exact ⟨rfl, h4, (Chg.ofBelow _ hb).trans h5⟩
theorem cvote_few (c : Co) (k n : Int) (y : Bool) : (cvote c k n y).2.opened = c.opened ∧ (cvote c k n y).2.com = c.com ∧ (cvote c k n y).2.begun = c.begun ∧ (cvote c k n y).2.node = c.node ∧ (cvote c k n y).2.deb = c.deb ∧ (cvote c k n y).2.don = c.don := by
  unfold cvote
  cases c.bal k with
  | none => exact ⟨rfl, rfl, rfl, rfl, rfl, rfl⟩
  | some b =>
    simp only []
    split
    · split <;> exact ⟨rfl, rfl, rfl, rfl, rfl, rfl⟩
    · exact ⟨rfl, rfl, rfl, rfl, rfl, rfl⟩
theorem vote_cs (w : World) (h : CS w B gc gl b1 b2 b3 g v c ms r) (k n : Int) (yes : Bool) (hk : InI k) (hn : InI n) :
    Calls Tryz.prog 12 #[.pointer (some ⟨gc, 0, none⟩), .int .i64 k, .int .i64 n, .bool yes] w fun e w' => e = .returned (.int .i64 (cvote c k n yes).1) ∧ CS w' B gc gl b1 b2 b3 g v (cvote c k n yes).2 ms r ∧ Chg w w' (SB gc gl b1 b2 b3 g v) :=
  (vote_any w h.co k n yes hk hn).mono fun _ _ ⟨h1, h2, h3⟩ => by
    have hf := cvote_few c k n yes
    obtain ⟨h4, h5⟩ := h.step h2 h3 (by rw [hf.1, hf.2.1]; exact h.few)
    exact ⟨h1, h4, h5⟩
theorem CS.many (h : CS w B gc gl b1 b2 b3 g v c ms r) : (cat ms).length ≤ r := by
  have hl : Lg w B gl g v (cat ms) (cat ms).length r ms.length := h.log
  exact hl.disk.hr
set_option maxRecDepth 100000 in
set_option maxHeartbeats 16000000 in
theorem awake_any (w : World) :
    Calls Tryz.prog 7 #[] w fun e w' => e = .returned (.bool true) ∧ Below w.heap.size w w' := by
  have HN := Lib.hid (Dk.new_good w.heap.size 2000 w (by decide) (Nat.le_refl _))
  have hi2 : ∀ x ∈ ([2, 0] : List Int), InI x := by intro x hx; simp at hx; rcases hx with rfl | rfl <;> exact ⟨by omega, by omega⟩
  have hi0 : ∀ x ∈ ([0] : List Int), InI x := by intro x hx; simp at hx; rw [hx]; exact ⟨by omega, by omega⟩
  have HI := Lib.hid (And.intro hi2 hi0)
  clear hi2 hi0
  have H0 : ∀ {α : Type} {o : Option α}, o.isNone = true → o = none := fun {α} {o} h => by cases o <;> simp_all
  have HFR := Lib.hid (show (dget A1.deb ida = none ∧ A1.don ida = none) ∧ (dget A2.deb idb = none ∧ A2.don idb = none) from ⟨⟨H0 a_fr1.1, H0 a_fr1.2⟩, ⟨H0 a_fr2.1, H0 a_fr2.2⟩⟩)
  clear H0
  go_enter Tryz.func7, Tryz.ntmps7
  go_wp2_with fail
  refine HN.out.mono ?_
  rintro e w1 ⟨rfl, hd1, hb1⟩
  have HB1 := Lib.hid hb1
  have HO1 := Lib.hid (opened_any (ms := []) w1 0 hd1 (by simp) hb1.size 1 ⟨by omega, by omega⟩)
  have hgs := hb1.size
  clear hd1 hb1 HN
  go_wp2_with fail
  refine HO1.out.mono ?_
  rintro e w2 (⟨_, gc, gl, b1, b2, b3, v2, rfl, hcs, hch, _⟩ | ⟨hlt, _⟩)
  rotate_left
  · exfalso
    have h1 : (rcd (bootM (rep 1 []))).length ≤ 29 := boot_len (by simp)
    have h2 : (cat []).length = 0 := rfl
    omega
  have HB2 := Lib.hid (show Below w.heap.size w w2 from HB1.out.trans (hch.below (fun k hk => by rcases hk with h | h; exact (by rw [h]; exact Nat.le_refl _); cases h) hgs))
  have HC2 := Lib.hid (show CS w2 w.heap.size gc gl b1 b2 b3 w.heap.size v2 A1 [M1] 2000 from hcs)
  have HBG := Lib.hid (begin_new w2 HC2.out [2, 0] HI.out.1 ⟨by simp, by intro x hx; simp at hx; rcases hx with rfl | rfl <;> exact ⟨by omega, by omega⟩, by decide +kernel⟩ HFR.out.1 (by simp))
  clear hcs hch HO1 hgs
  go_wp2_with fail
  refine HBG.out.mono ?_
  rintro e w3 ⟨rfl, hc3, hch3⟩
  have HB3 := Lib.hid (HB2.out.trans (HC2.out.sb_below hch3))
  have HC3 := Lib.hid (show CS w3 w.heap.size gc gl b1 b2 b3 w.heap.size v2 A2 [M1] 2000 from hc3)
  have HBG3 := Lib.hid (begin_new w3 HC3.out [0] HI.out.2 ⟨by simp, by intro x hx; simp at hx; rw [hx]; exact ⟨by omega, by omega⟩, by decide +kernel⟩ HFR.out.2 (by simp))
  clear hc3 hch3 HBG HC2
  go_wp2_with fail
  refine HBG3.out.mono ?_
  rintro e w4 ⟨rfl, hc4, hch4⟩
  have HB4 := Lib.hid (HB3.out.trans (HC3.out.sb_below hch4))
  have HC4 := Lib.hid (show CS w4 w.heap.size gc gl b1 b2 b3 w.heap.size v2 A3 [M1] 2000 from hc4)
  have hv1 := vote_cs w4 HC4.out ida 0 true a_ids.1 ⟨by omega, by omega⟩
  rw [a_v1] at hv1
  have HV1 := Lib.hid hv1
  clear hc4 hch4 HBG3 HC3 hv1
  change Hid (Calls Tryz.prog _ #[_, .int .i64 (newId A1), _, _] _ _) at HV1
  go_wp2_with fail
  refine HV1.out.mono ?_
  rintro e w5 ⟨rfl, hc5, hch5⟩
  have HB5 := Lib.hid (HB4.out.trans (HC4.out.sb_below hch5))
  have HC5 := Lib.hid (show CS w5 w.heap.size gc gl b1 b2 b3 w.heap.size v2 A4 [M1] 2000 from hc5)
  have hr1 := ready_any w5 HC5.out.co ida a_ids.1
  rw [a_r1] at hr1
  have HR1 := Lib.hid hr1
  clear hc5 hch5 HV1 HC4 hr1
  go_wp2_with fail
  refine HR1.out.mono ?_
  rintro e w6 ⟨rfl, hb6⟩
  have HB6 := Lib.hid (HB5.out.trans (hb6.mono HB5.out.size))
  have HC6 := Lib.hid (HC5.out.below hb6)
  have hv2 := vote_cs w6 HC6.out ida 2 true a_ids.1 ⟨by omega, by omega⟩
  rw [a_v2] at hv2
  have HV2 := Lib.hid hv2
  clear hb6 HR1 HC5 hv2
  go_wp2_with fail
  refine HV2.out.mono ?_
  rintro e w7 ⟨rfl, hc7, hch7⟩
  have HB7 := Lib.hid (HB6.out.trans (HC6.out.sb_below hch7))
  have HC7 := Lib.hid (show CS w7 w.heap.size gc gl b1 b2 b3 w.heap.size v2 A5 [M1] 2000 from hc7)
  have hr2 := ready_any w7 HC7.out.co ida a_ids.1
  rw [a_r2] at hr2
  have HR2 := Lib.hid hr2
  clear hc7 hch7 HV2 HC6 hr2
  go_wp2_with fail
  refine HR2.out.mono ?_
  rintro e w8 ⟨rfl, hb8⟩
  have HB8 := Lib.hid (HB7.out.trans (hb8.mono HB7.out.size))
  have HC8 := Lib.hid (HC7.out.below hb8)
  have HCM := Lib.hid (commit_any w8 HC8.out ida 5 a_ids.1 ⟨by omega, by omega⟩)
  clear hb8 HR2 HC7
  go_wp2_with fail
  refine HCM.out.mono ?_
  rintro e w9 ⟨k, rfl, ⟨_, hno, _, _⟩ | ⟨s, hbs, _, _, hwr⟩⟩
  · exact absurd ⟨5, a_b5, by omega, by omega⟩ hno
  obtain rfl : s = 5 := by rw [a_b5] at hbs; injection hbs with hbs; injection hbs with hbs; exact hbs.symm
  have HM1 := Lib.hid (show (rcd M1).length ≤ 29 from boot_len (by simp))
  have HM2 := Lib.hid (show (rcd M2).length ≤ 148 from oc_rcd ⟨by omega, by omega⟩ a_ids.1 ⟨by omega, by omega⟩ (slist_node (s := 5)) (slist_len 5))
  rcases hwr with ⟨rfl, _, v9, hc9, hch9⟩ | ⟨_, hlt, _, _⟩
  rotate_left
  · exfalso
    have h1 := HM1.out
    have h2 := HM2.out
    have h3 := cat_one M1
    have h4 : (rcd (oC 6 ida 5 (slist 5))).length ≤ 148 := h2
    omega
  have HB9 := Lib.hid (HB8.out.trans (HC8.out.sb_below hch9))
  have HC9 := Lib.hid (show CS w9 w.heap.size gc gl b1 b2 b3 w.heap.size v9 (ctake A5 M2) [M1, M2] 2000 from hc9)
  have HCR := Lib.hid (crash_all w9 HC9.out)
  clear hc9 hch9 HCM HC8 hbs
  go_wp2_with fail
  refine HCR.out.mono ?_
  rintro e w10 ⟨rfl, v10, hd10, hch10, hv10⟩
  have HB10 := Lib.hid (show Below w.heap.size w w10 from HB9.out.trans (hch10.below (fun k hk => by rw [hk]; exact Nat.le_refl _) HB9.out.size))
  have HO2 := Lib.hid (opened_any (ms := [M1, M2]) w10 _ hd10 HC9.out.fine HB10.out.size 1 ⟨by omega, by omega⟩)
  have HOW := Lib.hid (show ∀ k, v10.ownBlock = some k → w.heap.size ≤ k from fun k hk => (HC9.out.ge (k := k) (.inr (.inr (.inl (by rw [← hv10]; exact hk))))).1)
  clear hd10 hch10 hv10 HCR
  go_wp2_with fail
  refine HO2.out.mono ?_
  rintro e w11 (⟨_, gc2, gl2, c1, c2, c3, v11, rfl, hcs, hch, _⟩ | ⟨hlt, _⟩)
  rotate_left
  · exfalso
    have h1 : (rcd (bootM (rep 1 [M1, M2]))).length ≤ 29 := boot_len (by simp)
    have h2 := HM1.out
    have h3 := HM2.out
    have h4 : (cat [M1, M2]).length = (rcd M1).length + (rcd M2).length := by simp [cat]
    omega
  have HB11 := Lib.hid (show Below w.heap.size w w11 from HB10.out.trans (hch.below (fun k hk => by rcases hk with h | h; exact (by rw [h]; exact Nat.le_refl _); exact HOW.out k h) HB10.out.size))
  have HC11 := Lib.hid (show CS w11 w.heap.size gc2 gl2 c1 c2 c3 w.heap.size v11 A7 [M1, M2, bootM (rep 1 [M1, M2])] 2000 from hcs)
  have hs1 := status_any w11 HC11.out.co ida a_ids.1
  rw [a_s1] at hs1
  have HS1 := Lib.hid hs1
  clear hcs hch HO2 HC9 hs1 HOW
  go_wp2_with fail
  refine HS1.out.mono ?_
  rintro e w12 ⟨rfl, hb12⟩
  have HB12 := Lib.hid (HB11.out.trans (hb12.mono HB11.out.size))
  have HC12 := Lib.hid (HC11.out.below hb12)
  have hs2 := status_any w12 HC12.out.co idb a_ids.2
  rw [a_s2] at hs2
  have HS2 := Lib.hid hs2
  clear hb12 hs2 HS1 HC11
  change Hid (Calls Tryz.prog _ #[_, .int .i64 (newId A2)] _ _) at HS2
  go_wp2_with fail
  refine HS2.out.mono ?_
  rintro e w13 ⟨rfl, hb13⟩
  have HB13 := Lib.hid (HB12.out.trans (hb13.mono HB12.out.size))
  have HC13 := Lib.hid (HC12.out.below hb13)
  have HOD := Lib.hid (owed_any w13 HC13.out.co)
  clear hb13 HS2 HC12
  go_wp2_with fail
  refine HOD.out.mono ?_
  rintro e w14 ⟨u, rfl, ⟨qs, _, hrow⟩, hb14⟩
  rw [a_l7] at hrow
  obtain ⟨ua, uc, rfl, _, _⟩ := owned_anyE hrow
  have HB14 := Lib.hid (HB13.out.trans (hb14.mono HB13.out.size))
  have HC14 := Lib.hid (HC13.out.below hb14)
  have HAK := Lib.hid (ack_any w14 HC14.out ida 0 a_ids.1 ⟨by omega, by omega⟩)
  clear hrow hb14 HOD HC13
  change Hid (Calls Tryz.prog _ #[_, .int .i64 (newId A1), _] _ _) at HAK
  go_wp2_with fail
  refine HAK.out.mono ?_
  rintro e w15 ⟨k, rfl, ⟨hbad, _, _⟩ | ⟨d, _, hdd, _, ⟨_, rfl, hc15, hch15⟩ | ⟨hz, _⟩⟩⟩
  · exfalso
    have h1 := a_d7
    cases hd : dget A7.deb ida with
    | none => rw [hd] at h1; cases h1.2
    | some d =>
      rw [hd] at h1
      have h2 := h1.2
      simp only [Option.map_some, Option.some.injEq, Prod.mk.injEq] at h2
      rcases hbad with ⟨h3, _⟩ | ⟨_, _, h3⟩
      · apply h3
        cases hn : A7.don ida with
        | none => rfl
        | some r => rw [hn] at h1; cases h1.1
      · exact h3 ⟨d, hd, by rw [h2.1]; exact a_sh.1⟩
  rotate_left
  · exfalso
    have h1 := a_d7.2
    rw [hdd] at h1
    simp only [Option.map_some, Option.some.injEq, Prod.mk.injEq] at h1
    rw [h1.2, a_sh.2] at hz
    cases hz
  have HLF := Lib.hid (show swo d.lf 0 = 4 from by
    have h1 := a_d7.2
    rw [hdd] at h1
    simp only [Option.map_some, Option.some.injEq, Prod.mk.injEq] at h1
    rw [h1.2, a_sh.2])
  rw [HLF.out] at hc15
  have HB15 := Lib.hid (HB14.out.trans (HC14.out.sb_below hch15))
  have HC15 := Lib.hid (show CS w15 w.heap.size gc2 gl2 c1 c2 c3 w.heap.size v11 A8 _ 2000 from hc15)
  have HOD2 := Lib.hid (owed_any w15 HC15.out.co)
  clear hc15 hch15 HAK HC14 hdd
  go_wp2_with fail
  refine HOD2.out.mono ?_
  rintro e w16 ⟨u, rfl, ⟨qs2, hq2, hrow⟩, hb16⟩
  obtain ⟨d8, hd8, hl8⟩ : ∃ d, A8.deb = [d] ∧ (slist d.lf).length = 1 := by
    have h1 := a_l8
    match hA : A8.deb with
    | [] => rw [hA] at h1; cases h1.1
    | [d] =>
      rw [hA] at h1
      simp only [List.map_cons, List.map_nil, List.cons.injEq, and_true] at h1
      exact ⟨d, rfl, h1.2⟩
    | _ :: _ :: _ => rw [hA] at h1; cases h1.1
  rw [hd8] at hrow hq2
  match qs2, hq2 with
  | [q], _ =>
    obtain ⟨ub, ucap, hv, hL⟩ := Lies.owned hrow
    subst hv
    obtain ⟨kb, koff, rfl, hkb, _⟩ := hL.addr (by simp)
    have hc8 := hL.cell (j := 8) (u := .slice q.1 (slist d8.lf).length q.2) rfl
    rw [hl8] at hc8
    have HB16 := Lib.hid (HB15.out.trans (hb16.mono HB15.out.size))
    clear hrow hL hb16 hq2
    simp only [List.length_singleton]
    go_wp2
    go_ret
    exact ⟨rfl, HB16.out⟩
end
end Go.Proofs.YtkailiifgdjgmaaGreat
