/- The writer's lists. -/
import Derived.Test.YteodldmbnghfcaaGreatC4
namespace Go.Proofs.YteodldmbnghfcaaGreat
open Go.RowKit

/-- A mutation or a condition. -/
structure Mut where
  d : Bool
  a : ByteArray
  b : ByteArray
  c : ByteArray
/-- A row. -/
structure RowD where
  a : ByteArray
  b : ByteArray
  c : ByteArray
  s : Int
  u : Int
def Mut.ok (m : Mut) : Prop := m.a.size ≤ 128 ∧ m.b.size ≤ 128 ∧ m.c.size ≤ 128
def RowD.ok (m : RowD) : Prop := m.a.size ≤ 128 ∧ m.b.size ≤ 128 ∧ m.c.size ≤ 128
def mutB (m : Mut) : List Int := flagged m.d m.a m.b m.c
def rowOf (m : RowD) : List Int := rowB m.a m.b m.c m.s m.u
def IntsAt (w : World) (B : Nat) (a : Option Addr) (n : Nat) (zs : List Int) : Prop :=
  zs.length = n ∧ (n = 0 ∨ ∃ b off, a = some ⟨b, off, none⟩ ∧ b < B ∧ ∀ i z, zs[i]? = some z → w.cell? ⟨b, off + i, none⟩ = some (.int .i64 z) ∧ -9223372036854775808 ≤ z ∧ z ≤ 9223372036854775807)
def MutsAt (w : World) (B : Nat) (a : Option Addr) (n : Nat) (ms : List Mut) : Prop :=
  ms.length = n ∧ (n = 0 ∨ ∃ b off, a = some ⟨b, off, none⟩ ∧ b < B ∧ ∀ i m, ms[i]? = some m → w.cell? ⟨b, off + i * 4, none⟩ = some (.bool m.d) ∧ w.cell? ⟨b, off + i * 4 + 1, none⟩ = some (.string m.a) ∧ w.cell? ⟨b, off + i * 4 + 2, none⟩ = some (.string m.b) ∧ w.cell? ⟨b, off + i * 4 + 3, none⟩ = some (.string m.c) ∧
    m.a.size ≤ 9223372036854775807 ∧ m.b.size ≤ 9223372036854775807 ∧ m.c.size ≤ 9223372036854775807)
def RowsAt (w : World) (B : Nat) (a : Option Addr) (n : Nat) (ms : List RowD) : Prop :=
  ms.length = n ∧ (n = 0 ∨ ∃ b off, a = some ⟨b, off, none⟩ ∧ b < B ∧ ∀ i m, ms[i]? = some m → w.cell? ⟨b, off + i * 5, none⟩ = some (.string m.a) ∧ w.cell? ⟨b, off + i * 5 + 1, none⟩ = some (.string m.b) ∧ w.cell? ⟨b, off + i * 5 + 2, none⟩ = some (.string m.c) ∧ w.cell? ⟨b, off + i * 5 + 3, none⟩ = some (.int .i64 m.s) ∧ w.cell? ⟨b, off + i * 5 + 4, none⟩ = some (.int .i64 m.u) ∧
    m.a.size ≤ 9223372036854775807 ∧ m.b.size ≤ 9223372036854775807 ∧ m.c.size ≤ 9223372036854775807 ∧ (-9223372036854775808 ≤ m.s ∧ m.s ≤ 9223372036854775807) ∧ (-9223372036854775808 ≤ m.u ∧ m.u ≤ 9223372036854775807))
/-- A list, written: how many, and then item by item. -/
def lst {α : Type} (f : α → List Int) (l : List α) : List Int := Vi.int l.length ++ (l.map f).flatten

theorem tup_length {a b c : ByteArray} (ha : a.size ≤ 128) (hb : b.size ≤ 128) (hc : c.size ≤ 128) : (tup a b c).length ≤ 414 := by
  have := tx_length a ha
  have := tx_length b hb
  have := tx_length c hc
  rw [tup, List.length_append, List.length_append]
  omega
theorem mutB_length {m : Mut} (h : m.ok) : (mutB m).length ≤ 450 := by
  have := tup_length h.1 h.2.1 h.2.2
  rw [mutB, flagged, List.length_cons]
  omega
theorem rowOf_length {m : RowD} (h : m.ok) (hs : -9223372036854775808 ≤ m.s ∧ m.s ≤ 9223372036854775807) (hu : -9223372036854775808 ≤ m.u ∧ m.u ≤ 9223372036854775807) : (rowOf m).length ≤ 450 := by
  have := tup_length h.1 h.2.1 h.2.2
  have := Vi.int_length m.s hs.1 hs.2
  have := Vi.int_length m.u hu.1 hu.2
  rw [rowOf, rowB, List.length_append, List.length_append]
  omega
theorem flat_len {α : Type} (f : α → List Int) (l : List α) (h : ∀ x ∈ l, (f x).length ≤ 450) : ((l.map f).flatten).length ≤ 450 * l.length := by
  induction l with
  | nil => simp
  | cons x r ih =>
    have h1 := h x (by simp)
    have h2 := ih (fun y hy => h y (List.mem_cons_of_mem _ hy))
    simp only [List.map_cons, List.flatten_cons, List.length_append, List.length_cons]
    omega
theorem take_snoc {α : Type} {l : List α} {i : Nat} {x : α} (h : l[i]? = some x) : l.take (i + 1) = l.take i ++ [x] := by
  obtain ⟨hi, rfl⟩ := List.getElem?_eq_some_iff.1 h
  exact List.take_succ_eq_append_getElem hi
theorem flat_snoc {α : Type} (f : α → List Int) {l : List α} {i : Nat} {x : α} (h : l[i]? = some x) (ys : List Int) : ys ++ ((l.take (i + 1)).map f).flatten = (ys ++ ((l.take i).map f).flatten) ++ f x := by
  rw [take_snoc h]
  simp

set_option maxRecDepth 100000 in
set_option maxHeartbeats 4000000 in
theorem pints_any (B g gv : Nat) (v : Value) (xs : List Int) (a : Option Addr) (n c : Nat) (ms : List Int) (w : World) (h : WAt w B g v xs) (hv : Whole w gv 155 #[.pointer (some ⟨g, 0, none⟩)]) (hi : IntsAt w B a n ms) (hn : n ≤ 1024) (hB : B ≤ w.heap.size) (hl : xs.length ≤ 1000000000) :
    Calls Tryz.prog 92 #[.pointer (some ⟨g, 0, none⟩), .slice a n c, .func (.func 93) #[] #[.pointer (some ⟨gv, 0, none⟩)]] w (WDone w B g (xs ++ lst Vi.int ms)) := by
  obtain ⟨hml, hcell⟩ := hi
  have hnl := Vi.int_length (n : Int) (by omega) (by omega)
  have hgv := h.typed hv (by decide)
  have HN := Lib.hid (wnumber_any B g v xs (n : Int) w h (by omega) (by omega) hB (by omega))
  have HV := Lib.hid hv
  have HGV := Lib.hid hgv
  have HML := Lib.hid hml
  have HC := Lib.hid hcell
  clear h hv hml hcell hgv
  go_enter Tryz.func92, Tryz.ntmps92
  go_wp2_with fail
  refine HN.out.mono ?_
  rintro e w1 ⟨rfl, v1, h1, hf1, hB1⟩
  have H1 := Lib.hid h1
  have HF1 := Lib.hid hf1
  clear h1 hf1
  go_wp2_with fail
  go_loopw [18] (fun iv wr => ∃ (i : Nat) (u : Value), i ≤ n ∧ iv = .int .i64 i ∧ WAt wr B g u ((xs ++ Vi.int n) ++ ((ms.take i).map Vi.int).flatten) ∧ WF B g w wr ∧ B ≤ wr.heap.size) (fun iv _ => n - (intOf iv).toNat)
  case atStart => exact ⟨0, v1, by omega, rfl, by simpa using H1.out, HF1.out, hB1⟩
  case round =>
    obtain ⟨i, u, hin, rfl, hw, hf, hBr⟩ := hrel
    by_cases hil : i < n
    · obtain ⟨b, off, rfl, hbB, hcc⟩ := HC.out.resolve_left (by omega)
      have hmi : ∃ m, ms[i]? = some m := ⟨_, List.getElem?_eq_getElem (show i < ms.length by rw [HML.out]; exact hil)⟩
      obtain ⟨m, hmi⟩ := hmi
      obtain ⟨z0, hz⟩ := hcc i m hmi
      have hmem := List.mem_of_getElem? hmi
      have c0 := (hf.below.cell (p := ⟨b, off + i, none⟩) hbB).trans z0
      have hlen : ((xs ++ Vi.int n) ++ ((ms.take i).map Vi.int).flatten).length ≤ 1002000000 := by
        have h1 := flat_len Vi.int (ms.take i) (fun x hx => by obtain ⟨q, hq⟩ := List.getElem?_of_mem (List.mem_of_mem_take hx); obtain ⟨_, hx1, hx2⟩ := hcc q x hq; have := Vi.int_length x hx1 hx2; omega)
        have h2 : (ms.take i).length ≤ i := List.length_take_le _ _
        rw [List.length_append, List.length_append]
        omega
      have HW := Lib.hid hw
      have HF := Lib.hid hf
      have hvr := hf.whole HV.out (by decide) HGV.out
      have HVR := Lib.hid hvr
      have hsn := flat_snoc Vi.int hmi (xs ++ Vi.int n)
      have HSN := Lib.hid hsn
      have HMI := Lib.hid hmi
      have HMEM := Lib.hid hmem
      clear hcc z0 hw hf hvr hsn hmi hmem
      obtain ⟨ys, hys⟩ : ∃ ys, ys = (xs ++ Vi.int n) ++ ((ms.take i).map Vi.int).flatten := ⟨_, rfl⟩
      rw [← hys] at HW HSN hlen
      clear hys
      go_wp2_with fail
      refine (cint_any B g gv u ys m _ HW.out HVR.out hz.1 hz.2 hBr (by omega)).mono ?_
      rintro e w5 ⟨rfl, v5, h5, hf5, hB5⟩
      have H5 := Lib.hid h5
      have HF5 := Lib.hid (HF.out.trans hf5)
      clear h5 hf5 c0
      go_wp2_with (go_end0)
      go_roundw
      case rel => exact ⟨i + 1, v5, by omega, by go_num, by rw [HSN.out]; exact H5.out, HF5.out, hB5⟩
      case measure => simp [intOf]; omega
    · have hin' : i = n := by omega
      have HW := Lib.hid hw
      have HF := Lib.hid hf
      have hq : xs ++ lst Vi.int ms = (xs ++ Vi.int n) ++ ((ms.take i).map Vi.int).flatten := by
        rw [hin', List.take_of_length_le (by rw [HML.out]; omega), lst, HML.out, List.append_assoc]
      have HQ := Lib.hid hq
      clear hw hf hin' hq
      go_wp2
      go_end0
      exact ⟨rfl, u, by rw [HQ.out]; exact HW.out, HF.out, hBr⟩

set_option maxHeartbeats 1000000 in
theorem pints_many (g : Nat) (a : Option Addr) (n c : Nat) (F : Value) (w : World) (hn : 1024 < n) (hm : n ≤ 9223372036854775807) :
    Calls Tryz.prog 92 #[.pointer (some ⟨g, 0, none⟩), .slice a n c, F] w fun e w' => e = Long ∧ w = w' := by
  go_enter Tryz.func92, Tryz.ntmps92
  go_wp2
  exact ⟨rfl, rfl, rfl⟩

set_option maxRecDepth 100000 in
set_option maxHeartbeats 4000000 in
theorem pmuts_fits (B g gv : Nat) (v : Value) (xs : List Int) (a : Option Addr) (n c : Nat) (ms : List Mut) (w : World) (h : WAt w B g v xs) (hv : Whole w gv 155 #[.pointer (some ⟨g, 0, none⟩)]) (hi : MutsAt w B a n ms) (hn : n ≤ 1024) (ok : ∀ m ∈ ms, m.ok) (hB : B ≤ w.heap.size) (hl : xs.length ≤ 1000000000) :
    Calls Tryz.prog 94 #[.pointer (some ⟨g, 0, none⟩), .slice a n c, .func (.func 95) #[] #[.pointer (some ⟨gv, 0, none⟩)]] w (WDone w B g (xs ++ lst mutB ms)) := by
  obtain ⟨hml, hcell⟩ := hi
  have hnl := Vi.int_length (n : Int) (by omega) (by omega)
  have hgv := h.typed hv (by decide)
  have HN := Lib.hid (wnumber_any B g v xs (n : Int) w h (by omega) (by omega) hB (by omega))
  have HV := Lib.hid hv
  have HGV := Lib.hid hgv
  have HML := Lib.hid hml
  have HC := Lib.hid hcell
  have HOK := Lib.hid ok
  clear h hv hml hcell hgv ok
  go_enter Tryz.func94, Tryz.ntmps94
  go_wp2_with fail
  refine HN.out.mono ?_
  rintro e w1 ⟨rfl, v1, h1, hf1, hB1⟩
  have H1 := Lib.hid h1
  have HF1 := Lib.hid hf1
  clear h1 hf1
  go_wp2_with fail
  go_loopw [18] (fun iv wr => ∃ (i : Nat) (u : Value), i ≤ n ∧ iv = .int .i64 i ∧ WAt wr B g u ((xs ++ Vi.int n) ++ ((ms.take i).map mutB).flatten) ∧ WF B g w wr ∧ B ≤ wr.heap.size) (fun iv _ => n - (intOf iv).toNat)
  case atStart => exact ⟨0, v1, by omega, rfl, by simpa using H1.out, HF1.out, hB1⟩
  case round =>
    obtain ⟨i, u, hin, rfl, hw, hf, hBr⟩ := hrel
    by_cases hil : i < n
    · obtain ⟨b, off, rfl, hbB, hcc⟩ := HC.out.resolve_left (by omega)
      have hmi : ∃ m, ms[i]? = some m := ⟨_, List.getElem?_eq_getElem (show i < ms.length by rw [HML.out]; exact hil)⟩
      obtain ⟨m, hmi⟩ := hmi
      obtain ⟨z0, z1, z2, z3, sa, sb, sc⟩ := hcc i m hmi
      have hmem := List.mem_of_getElem? hmi
      have c0 := (hf.below.cell (p := ⟨b, off + i * 4, none⟩) hbB).trans z0
      have c1 := (hf.below.cell (p := ⟨b, off + i * 4 + 1, none⟩) hbB).trans z1
      have c2 := (hf.below.cell (p := ⟨b, off + i * 4 + 2, none⟩) hbB).trans z2
      have c3 := (hf.below.cell (p := ⟨b, off + i * 4 + 3, none⟩) hbB).trans z3
      have hlen : ((xs ++ Vi.int n) ++ ((ms.take i).map mutB).flatten).length ≤ 1002000000 := by
        have h1 := flat_len mutB (ms.take i) (fun x hx => mutB_length (HOK.out x (List.mem_of_mem_take hx)))
        have h2 : (ms.take i).length ≤ i := List.length_take_le _ _
        rw [List.length_append, List.length_append]
        omega
      have HW := Lib.hid hw
      have HF := Lib.hid hf
      have hvr := hf.whole HV.out (by decide) HGV.out
      have HVR := Lib.hid hvr
      have hsn := flat_snoc mutB hmi (xs ++ Vi.int n)
      have HSN := Lib.hid hsn
      have HMI := Lib.hid hmi
      have HMEM := Lib.hid hmem
      have hok := HOK.out m hmem
      obtain ⟨o1, o2, o3⟩ := hok
      clear hcc z0 z1 z2 z3 hw hf hvr hsn hmi hmem
      obtain ⟨ys, hys⟩ : ∃ ys, ys = (xs ++ Vi.int n) ++ ((ms.take i).map mutB).flatten := ⟨_, rfl⟩
      rw [← hys] at HW HSN hlen
      clear hys
      go_wp2_with fail
      refine (cmut_fits B g gv u ys m.d m.a m.b m.c _ (HW.out.alloc _) (HVR.out.kept (Below.heap_alloc wr _ gv HVR.out.lt)) o1 o2 o3 (by simp; omega) (by omega)).mono ?_
      rintro e w5 ⟨rfl, v5, h5, hf5, hB5⟩
      have H5 := Lib.hid h5
      have HF5 := Lib.hid ((HF.out.alloc hBr _).trans hf5)
      clear h5 hf5 c0 c1 c2 c3
      go_wp2_with (go_end0)
      go_roundw
      case rel => exact ⟨i + 1, v5, by omega, by go_num, by rw [HSN.out]; exact H5.out, HF5.out, hB5⟩
      case measure => simp [intOf]; omega
    · have hin' : i = n := by omega
      have HW := Lib.hid hw
      have HF := Lib.hid hf
      have hq : xs ++ lst mutB ms = (xs ++ Vi.int n) ++ ((ms.take i).map mutB).flatten := by
        rw [hin', List.take_of_length_le (by rw [HML.out]; omega), lst, HML.out, List.append_assoc]
      have HQ := Lib.hid hq
      clear hw hf hin' hq
      go_wp2
      go_end0
      exact ⟨rfl, u, by rw [HQ.out]; exact HW.out, HF.out, hBr⟩

set_option maxRecDepth 100000 in
set_option maxHeartbeats 4000000 in
theorem pmuts_long (B g gv : Nat) (v : Value) (xs : List Int) (a : Option Addr) (n c : Nat) (ms : List Mut) (w : World) (h : WAt w B g v xs) (hv : Whole w gv 155 #[.pointer (some ⟨g, 0, none⟩)]) (hi : MutsAt w B a n ms) (hn : n ≤ 1024) (bad : ∃ m ∈ ms, ¬ m.ok) (hB : B ≤ w.heap.size) (hl : xs.length ≤ 1000000000) :
    Calls Tryz.prog 94 #[.pointer (some ⟨g, 0, none⟩), .slice a n c, .func (.func 95) #[] #[.pointer (some ⟨gv, 0, none⟩)]] w (WLong w B g) := by
  obtain ⟨hml, hcell⟩ := hi
  have hnl := Vi.int_length (n : Int) (by omega) (by omega)
  have hgv := h.typed hv (by decide)
  have HN := Lib.hid (wnumber_any B g v xs (n : Int) w h (by omega) (by omega) hB (by omega))
  have HV := Lib.hid hv
  have HGV := Lib.hid hgv
  have HML := Lib.hid hml
  have HC := Lib.hid hcell
  have HBAD := Lib.hid bad
  clear h hv hml hcell hgv bad
  go_enter Tryz.func94, Tryz.ntmps94
  go_wp2_with fail
  refine HN.out.mono ?_
  rintro e w1 ⟨rfl, v1, h1, hf1, hB1⟩
  have H1 := Lib.hid h1
  have HF1 := Lib.hid hf1
  clear h1 hf1
  go_wp2_with fail
  go_loopw [18] (fun iv wr => ∃ (i : Nat) (u : Value), i ≤ n ∧ iv = .int .i64 i ∧ WAt wr B g u ((xs ++ Vi.int n) ++ ((ms.take i).map mutB).flatten) ∧ WF B g w wr ∧ B ≤ wr.heap.size ∧ ∀ m ∈ ms.take i, m.ok) (fun iv _ => n - (intOf iv).toNat)
  case atStart => exact ⟨0, v1, by omega, rfl, by simpa using H1.out, HF1.out, hB1, by simp⟩
  case round =>
    obtain ⟨i, u, hin, rfl, hw, hf, hBr, hok0⟩ := hrel
    by_cases hil : i < n
    · obtain ⟨b, off, rfl, hbB, hcc⟩ := HC.out.resolve_left (by omega)
      have hmi : ∃ m, ms[i]? = some m := ⟨_, List.getElem?_eq_getElem (show i < ms.length by rw [HML.out]; exact hil)⟩
      obtain ⟨m, hmi⟩ := hmi
      obtain ⟨z0, z1, z2, z3, sa, sb, sc⟩ := hcc i m hmi
      have hmem := List.mem_of_getElem? hmi
      have c0 := (hf.below.cell (p := ⟨b, off + i * 4, none⟩) hbB).trans z0
      have c1 := (hf.below.cell (p := ⟨b, off + i * 4 + 1, none⟩) hbB).trans z1
      have c2 := (hf.below.cell (p := ⟨b, off + i * 4 + 2, none⟩) hbB).trans z2
      have c3 := (hf.below.cell (p := ⟨b, off + i * 4 + 3, none⟩) hbB).trans z3
      have hlen : ((xs ++ Vi.int n) ++ ((ms.take i).map mutB).flatten).length ≤ 1002000000 := by
        have h1 := flat_len mutB (ms.take i) (fun x hx => mutB_length (hok0 x hx))
        have h2 : (ms.take i).length ≤ i := List.length_take_le _ _
        rw [List.length_append, List.length_append]
        omega
      have HW := Lib.hid hw
      have HF := Lib.hid hf
      have hvr := hf.whole HV.out (by decide) HGV.out
      have HVR := Lib.hid hvr
      have hsn := flat_snoc mutB hmi (xs ++ Vi.int n)
      have HSN := Lib.hid hsn
      have HMI := Lib.hid hmi
      have HMEM := Lib.hid hmem
      have HK0 := Lib.hid hok0
      clear hok0
      clear hcc z0 z1 z2 z3 hw hf hvr hsn hmi hmem
      obtain ⟨ys, hys⟩ : ∃ ys, ys = (xs ++ Vi.int n) ++ ((ms.take i).map mutB).flatten := ⟨_, rfl⟩
      rw [← hys] at HW HSN hlen
      clear hys
      by_cases hok : m.a.size ≤ 128 ∧ m.b.size ≤ 128 ∧ m.c.size ≤ 128
      · obtain ⟨o1, o2, o3⟩ := hok
        go_wp2_with fail
        refine (cmut_fits B g gv u ys m.d m.a m.b m.c _ (HW.out.alloc _) (HVR.out.kept (Below.heap_alloc wr _ gv HVR.out.lt)) o1 o2 o3 (by simp; omega) (by omega)).mono ?_
        rintro e w5 ⟨rfl, v5, h5, hf5, hB5⟩
        have H5 := Lib.hid h5
        have HF5 := Lib.hid ((HF.out.alloc hBr _).trans hf5)
        clear h5 hf5 c0 c1 c2 c3
        go_wp2_with (go_end0)
        go_roundw
        case rel => exact ⟨i + 1, v5, by omega, by go_num, by rw [HSN.out]; exact H5.out, HF5.out, hB5, by intro x hx; rw [take_snoc HMI.out] at hx; rcases List.mem_append.1 hx with hx | hx; exact HK0.out x hx; simp at hx; subst hx; exact ⟨o1, o2, o3⟩⟩
        case measure => simp [intOf]; omega
      · have hlo : 128 < m.a.size ∨ 128 < m.b.size ∨ 128 < m.c.size := by omega
        have HLO := Lib.hid hlo
        clear hok hlo
        go_wp2_with fail
        refine (cmut_long B g gv u ys m.d m.a m.b m.c _ (HW.out.alloc _) (HVR.out.kept (Below.heap_alloc wr _ gv HVR.out.lt)) HLO.out (by simp; omega) (by omega) sa sb sc).mono ?_
        rintro e w5 ⟨rfl, hb5, hB5, ho5⟩
        have HF5 := Lib.hid ((HF.out.alloc hBr _).trans (WF.mk hb5 ho5))
        clear hb5 ho5 c0 c1 c2 c3
        go_wp2
        exact ⟨rfl, HF5.out.long hB5⟩
    · exfalso
      obtain ⟨m, hm, hb⟩ := HBAD.out
      refine hb (hok0 m ?_)
      rw [List.take_of_length_le (by rw [HML.out]; omega)]
      exact hm

set_option maxHeartbeats 1000000 in
theorem pmuts_many (g : Nat) (a : Option Addr) (n c : Nat) (F : Value) (w : World) (hn : 1024 < n) (hm : n ≤ 9223372036854775807) :
    Calls Tryz.prog 94 #[.pointer (some ⟨g, 0, none⟩), .slice a n c, F] w fun e w' => e = Long ∧ w = w' := by
  go_enter Tryz.func94, Tryz.ntmps94
  go_wp2
  exact ⟨rfl, rfl, rfl⟩

set_option maxRecDepth 100000 in
set_option maxHeartbeats 4000000 in
theorem pcons_fits (B g gv : Nat) (v : Value) (xs : List Int) (a : Option Addr) (n c : Nat) (ms : List Mut) (w : World) (h : WAt w B g v xs) (hv : Whole w gv 155 #[.pointer (some ⟨g, 0, none⟩)]) (hi : MutsAt w B a n ms) (hn : n ≤ 1024) (ok : ∀ m ∈ ms, m.ok) (hB : B ≤ w.heap.size) (hl : xs.length ≤ 1000000000) :
    Calls Tryz.prog 97 #[.pointer (some ⟨g, 0, none⟩), .slice a n c, .func (.func 98) #[] #[.pointer (some ⟨gv, 0, none⟩)]] w (WDone w B g (xs ++ lst mutB ms)) := by
  obtain ⟨hml, hcell⟩ := hi
  have hnl := Vi.int_length (n : Int) (by omega) (by omega)
  have hgv := h.typed hv (by decide)
  have HN := Lib.hid (wnumber_any B g v xs (n : Int) w h (by omega) (by omega) hB (by omega))
  have HV := Lib.hid hv
  have HGV := Lib.hid hgv
  have HML := Lib.hid hml
  have HC := Lib.hid hcell
  have HOK := Lib.hid ok
  clear h hv hml hcell hgv ok
  go_enter Tryz.func97, Tryz.ntmps97
  go_wp2_with fail
  refine HN.out.mono ?_
  rintro e w1 ⟨rfl, v1, h1, hf1, hB1⟩
  have H1 := Lib.hid h1
  have HF1 := Lib.hid hf1
  clear h1 hf1
  go_wp2_with fail
  go_loopw [18] (fun iv wr => ∃ (i : Nat) (u : Value), i ≤ n ∧ iv = .int .i64 i ∧ WAt wr B g u ((xs ++ Vi.int n) ++ ((ms.take i).map mutB).flatten) ∧ WF B g w wr ∧ B ≤ wr.heap.size) (fun iv _ => n - (intOf iv).toNat)
  case atStart => exact ⟨0, v1, by omega, rfl, by simpa using H1.out, HF1.out, hB1⟩
  case round =>
    obtain ⟨i, u, hin, rfl, hw, hf, hBr⟩ := hrel
    by_cases hil : i < n
    · obtain ⟨b, off, rfl, hbB, hcc⟩ := HC.out.resolve_left (by omega)
      have hmi : ∃ m, ms[i]? = some m := ⟨_, List.getElem?_eq_getElem (show i < ms.length by rw [HML.out]; exact hil)⟩
      obtain ⟨m, hmi⟩ := hmi
      obtain ⟨z0, z1, z2, z3, sa, sb, sc⟩ := hcc i m hmi
      have hmem := List.mem_of_getElem? hmi
      have c0 := (hf.below.cell (p := ⟨b, off + i * 4, none⟩) hbB).trans z0
      have c1 := (hf.below.cell (p := ⟨b, off + i * 4 + 1, none⟩) hbB).trans z1
      have c2 := (hf.below.cell (p := ⟨b, off + i * 4 + 2, none⟩) hbB).trans z2
      have c3 := (hf.below.cell (p := ⟨b, off + i * 4 + 3, none⟩) hbB).trans z3
      have hlen : ((xs ++ Vi.int n) ++ ((ms.take i).map mutB).flatten).length ≤ 1002000000 := by
        have h1 := flat_len mutB (ms.take i) (fun x hx => mutB_length (HOK.out x (List.mem_of_mem_take hx)))
        have h2 : (ms.take i).length ≤ i := List.length_take_le _ _
        rw [List.length_append, List.length_append]
        omega
      have HW := Lib.hid hw
      have HF := Lib.hid hf
      have hvr := hf.whole HV.out (by decide) HGV.out
      have HVR := Lib.hid hvr
      have hsn := flat_snoc mutB hmi (xs ++ Vi.int n)
      have HSN := Lib.hid hsn
      have HMI := Lib.hid hmi
      have HMEM := Lib.hid hmem
      have hok := HOK.out m hmem
      obtain ⟨o1, o2, o3⟩ := hok
      clear hcc z0 z1 z2 z3 hw hf hvr hsn hmi hmem
      obtain ⟨ys, hys⟩ : ∃ ys, ys = (xs ++ Vi.int n) ++ ((ms.take i).map mutB).flatten := ⟨_, rfl⟩
      rw [← hys] at HW HSN hlen
      clear hys
      go_wp2_with fail
      refine (ccon_fits B g gv u ys m.d m.a m.b m.c _ (HW.out.alloc _) (HVR.out.kept (Below.heap_alloc wr _ gv HVR.out.lt)) o1 o2 o3 (by simp; omega) (by omega)).mono ?_
      rintro e w5 ⟨rfl, v5, h5, hf5, hB5⟩
      have H5 := Lib.hid h5
      have HF5 := Lib.hid ((HF.out.alloc hBr _).trans hf5)
      clear h5 hf5 c0 c1 c2 c3
      go_wp2_with (go_end0)
      go_roundw
      case rel => exact ⟨i + 1, v5, by omega, by go_num, by rw [HSN.out]; exact H5.out, HF5.out, hB5⟩
      case measure => simp [intOf]; omega
    · have hin' : i = n := by omega
      have HW := Lib.hid hw
      have HF := Lib.hid hf
      have hq : xs ++ lst mutB ms = (xs ++ Vi.int n) ++ ((ms.take i).map mutB).flatten := by
        rw [hin', List.take_of_length_le (by rw [HML.out]; omega), lst, HML.out, List.append_assoc]
      have HQ := Lib.hid hq
      clear hw hf hin' hq
      go_wp2
      go_end0
      exact ⟨rfl, u, by rw [HQ.out]; exact HW.out, HF.out, hBr⟩

set_option maxRecDepth 100000 in
set_option maxHeartbeats 4000000 in
theorem pcons_long (B g gv : Nat) (v : Value) (xs : List Int) (a : Option Addr) (n c : Nat) (ms : List Mut) (w : World) (h : WAt w B g v xs) (hv : Whole w gv 155 #[.pointer (some ⟨g, 0, none⟩)]) (hi : MutsAt w B a n ms) (hn : n ≤ 1024) (bad : ∃ m ∈ ms, ¬ m.ok) (hB : B ≤ w.heap.size) (hl : xs.length ≤ 1000000000) :
    Calls Tryz.prog 97 #[.pointer (some ⟨g, 0, none⟩), .slice a n c, .func (.func 98) #[] #[.pointer (some ⟨gv, 0, none⟩)]] w (WLong w B g) := by
  obtain ⟨hml, hcell⟩ := hi
  have hnl := Vi.int_length (n : Int) (by omega) (by omega)
  have hgv := h.typed hv (by decide)
  have HN := Lib.hid (wnumber_any B g v xs (n : Int) w h (by omega) (by omega) hB (by omega))
  have HV := Lib.hid hv
  have HGV := Lib.hid hgv
  have HML := Lib.hid hml
  have HC := Lib.hid hcell
  have HBAD := Lib.hid bad
  clear h hv hml hcell hgv bad
  go_enter Tryz.func97, Tryz.ntmps97
  go_wp2_with fail
  refine HN.out.mono ?_
  rintro e w1 ⟨rfl, v1, h1, hf1, hB1⟩
  have H1 := Lib.hid h1
  have HF1 := Lib.hid hf1
  clear h1 hf1
  go_wp2_with fail
  go_loopw [18] (fun iv wr => ∃ (i : Nat) (u : Value), i ≤ n ∧ iv = .int .i64 i ∧ WAt wr B g u ((xs ++ Vi.int n) ++ ((ms.take i).map mutB).flatten) ∧ WF B g w wr ∧ B ≤ wr.heap.size ∧ ∀ m ∈ ms.take i, m.ok) (fun iv _ => n - (intOf iv).toNat)
  case atStart => exact ⟨0, v1, by omega, rfl, by simpa using H1.out, HF1.out, hB1, by simp⟩
  case round =>
    obtain ⟨i, u, hin, rfl, hw, hf, hBr, hok0⟩ := hrel
    by_cases hil : i < n
    · obtain ⟨b, off, rfl, hbB, hcc⟩ := HC.out.resolve_left (by omega)
      have hmi : ∃ m, ms[i]? = some m := ⟨_, List.getElem?_eq_getElem (show i < ms.length by rw [HML.out]; exact hil)⟩
      obtain ⟨m, hmi⟩ := hmi
      obtain ⟨z0, z1, z2, z3, sa, sb, sc⟩ := hcc i m hmi
      have hmem := List.mem_of_getElem? hmi
      have c0 := (hf.below.cell (p := ⟨b, off + i * 4, none⟩) hbB).trans z0
      have c1 := (hf.below.cell (p := ⟨b, off + i * 4 + 1, none⟩) hbB).trans z1
      have c2 := (hf.below.cell (p := ⟨b, off + i * 4 + 2, none⟩) hbB).trans z2
      have c3 := (hf.below.cell (p := ⟨b, off + i * 4 + 3, none⟩) hbB).trans z3
      have hlen : ((xs ++ Vi.int n) ++ ((ms.take i).map mutB).flatten).length ≤ 1002000000 := by
        have h1 := flat_len mutB (ms.take i) (fun x hx => mutB_length (hok0 x hx))
        have h2 : (ms.take i).length ≤ i := List.length_take_le _ _
        rw [List.length_append, List.length_append]
        omega
      have HW := Lib.hid hw
      have HF := Lib.hid hf
      have hvr := hf.whole HV.out (by decide) HGV.out
      have HVR := Lib.hid hvr
      have hsn := flat_snoc mutB hmi (xs ++ Vi.int n)
      have HSN := Lib.hid hsn
      have HMI := Lib.hid hmi
      have HMEM := Lib.hid hmem
      have HK0 := Lib.hid hok0
      clear hok0
      clear hcc z0 z1 z2 z3 hw hf hvr hsn hmi hmem
      obtain ⟨ys, hys⟩ : ∃ ys, ys = (xs ++ Vi.int n) ++ ((ms.take i).map mutB).flatten := ⟨_, rfl⟩
      rw [← hys] at HW HSN hlen
      clear hys
      by_cases hok : m.a.size ≤ 128 ∧ m.b.size ≤ 128 ∧ m.c.size ≤ 128
      · obtain ⟨o1, o2, o3⟩ := hok
        go_wp2_with fail
        refine (ccon_fits B g gv u ys m.d m.a m.b m.c _ (HW.out.alloc _) (HVR.out.kept (Below.heap_alloc wr _ gv HVR.out.lt)) o1 o2 o3 (by simp; omega) (by omega)).mono ?_
        rintro e w5 ⟨rfl, v5, h5, hf5, hB5⟩
        have H5 := Lib.hid h5
        have HF5 := Lib.hid ((HF.out.alloc hBr _).trans hf5)
        clear h5 hf5 c0 c1 c2 c3
        go_wp2_with (go_end0)
        go_roundw
        case rel => exact ⟨i + 1, v5, by omega, by go_num, by rw [HSN.out]; exact H5.out, HF5.out, hB5, by intro x hx; rw [take_snoc HMI.out] at hx; rcases List.mem_append.1 hx with hx | hx; exact HK0.out x hx; simp at hx; subst hx; exact ⟨o1, o2, o3⟩⟩
        case measure => simp [intOf]; omega
      · have hlo : 128 < m.a.size ∨ 128 < m.b.size ∨ 128 < m.c.size := by omega
        have HLO := Lib.hid hlo
        clear hok hlo
        go_wp2_with fail
        refine (ccon_long B g gv u ys m.d m.a m.b m.c _ (HW.out.alloc _) (HVR.out.kept (Below.heap_alloc wr _ gv HVR.out.lt)) HLO.out (by simp; omega) (by omega) sa sb sc).mono ?_
        rintro e w5 ⟨rfl, hb5, hB5, ho5⟩
        have HF5 := Lib.hid ((HF.out.alloc hBr _).trans (WF.mk hb5 ho5))
        clear hb5 ho5 c0 c1 c2 c3
        go_wp2
        exact ⟨rfl, HF5.out.long hB5⟩
    · exfalso
      obtain ⟨m, hm, hb⟩ := HBAD.out
      refine hb (hok0 m ?_)
      rw [List.take_of_length_le (by rw [HML.out]; omega)]
      exact hm

set_option maxHeartbeats 1000000 in
theorem pcons_many (g : Nat) (a : Option Addr) (n c : Nat) (F : Value) (w : World) (hn : 1024 < n) (hm : n ≤ 9223372036854775807) :
    Calls Tryz.prog 97 #[.pointer (some ⟨g, 0, none⟩), .slice a n c, F] w fun e w' => e = Long ∧ w = w' := by
  go_enter Tryz.func97, Tryz.ntmps97
  go_wp2
  exact ⟨rfl, rfl, rfl⟩

set_option maxRecDepth 100000 in
set_option maxHeartbeats 4000000 in
theorem prows_fits (B g gv : Nat) (v : Value) (xs : List Int) (a : Option Addr) (n c : Nat) (ms : List RowD) (w : World) (h : WAt w B g v xs) (hv : Whole w gv 155 #[.pointer (some ⟨g, 0, none⟩)]) (hi : RowsAt w B a n ms) (hn : n ≤ 1024) (ok : ∀ m ∈ ms, m.ok) (hB : B ≤ w.heap.size) (hl : xs.length ≤ 1000000000) :
    Calls Tryz.prog 99 #[.pointer (some ⟨g, 0, none⟩), .slice a n c, .func (.func 100) #[] #[.pointer (some ⟨gv, 0, none⟩)]] w (WDone w B g (xs ++ lst rowOf ms)) := by
  obtain ⟨hml, hcell⟩ := hi
  have hnl := Vi.int_length (n : Int) (by omega) (by omega)
  have hgv := h.typed hv (by decide)
  have HN := Lib.hid (wnumber_any B g v xs (n : Int) w h (by omega) (by omega) hB (by omega))
  have HV := Lib.hid hv
  have HGV := Lib.hid hgv
  have HML := Lib.hid hml
  have HC := Lib.hid hcell
  have HOK := Lib.hid ok
  clear h hv hml hcell hgv ok
  go_enter Tryz.func99, Tryz.ntmps99
  go_wp2_with fail
  refine HN.out.mono ?_
  rintro e w1 ⟨rfl, v1, h1, hf1, hB1⟩
  have H1 := Lib.hid h1
  have HF1 := Lib.hid hf1
  clear h1 hf1
  go_wp2_with fail
  go_loopw [18] (fun iv wr => ∃ (i : Nat) (u : Value), i ≤ n ∧ iv = .int .i64 i ∧ WAt wr B g u ((xs ++ Vi.int n) ++ ((ms.take i).map rowOf).flatten) ∧ WF B g w wr ∧ B ≤ wr.heap.size) (fun iv _ => n - (intOf iv).toNat)
  case atStart => exact ⟨0, v1, by omega, rfl, by simpa using H1.out, HF1.out, hB1⟩
  case round =>
    obtain ⟨i, u, hin, rfl, hw, hf, hBr⟩ := hrel
    by_cases hil : i < n
    · obtain ⟨b, off, rfl, hbB, hcc⟩ := HC.out.resolve_left (by omega)
      have hmi : ∃ m, ms[i]? = some m := ⟨_, List.getElem?_eq_getElem (show i < ms.length by rw [HML.out]; exact hil)⟩
      obtain ⟨m, hmi⟩ := hmi
      obtain ⟨z0, z1, z2, z3, z4, sa, sb, sc, hs, hu⟩ := hcc i m hmi
      have hmem := List.mem_of_getElem? hmi
      have c0 := (hf.below.cell (p := ⟨b, off + i * 5, none⟩) hbB).trans z0
      have c1 := (hf.below.cell (p := ⟨b, off + i * 5 + 1, none⟩) hbB).trans z1
      have c2 := (hf.below.cell (p := ⟨b, off + i * 5 + 2, none⟩) hbB).trans z2
      have c3 := (hf.below.cell (p := ⟨b, off + i * 5 + 3, none⟩) hbB).trans z3
      have c4 := (hf.below.cell (p := ⟨b, off + i * 5 + 4, none⟩) hbB).trans z4
      have hlen : ((xs ++ Vi.int n) ++ ((ms.take i).map rowOf).flatten).length ≤ 1002000000 := by
        have h1 := flat_len rowOf (ms.take i) (fun x hx => by obtain ⟨q, hq⟩ := List.getElem?_of_mem (List.mem_of_mem_take hx); obtain ⟨_, _, _, _, _, _, _, _, hxs, hxu⟩ := hcc q x hq; exact rowOf_length (HOK.out x (List.mem_of_mem_take hx)) hxs hxu)
        have h2 : (ms.take i).length ≤ i := List.length_take_le _ _
        rw [List.length_append, List.length_append]
        omega
      have HW := Lib.hid hw
      have HF := Lib.hid hf
      have hvr := hf.whole HV.out (by decide) HGV.out
      have HVR := Lib.hid hvr
      have hsn := flat_snoc rowOf hmi (xs ++ Vi.int n)
      have HSN := Lib.hid hsn
      have HMI := Lib.hid hmi
      have HMEM := Lib.hid hmem
      have hok := HOK.out m hmem
      obtain ⟨o1, o2, o3⟩ := hok
      clear hcc z0 z1 z2 z3 z4 hw hf hvr hsn hmi hmem
      obtain ⟨ys, hys⟩ : ∃ ys, ys = (xs ++ Vi.int n) ++ ((ms.take i).map rowOf).flatten := ⟨_, rfl⟩
      rw [← hys] at HW HSN hlen
      clear hys
      go_wp2_with fail
      refine (crow_fits B g gv u ys m.a m.b m.c m.s m.u _ (HW.out.alloc _) (HVR.out.kept (Below.heap_alloc wr _ gv HVR.out.lt)) o1 o2 o3 hs.1 hs.2 hu.1 hu.2 (by simp; omega) (by omega)).mono ?_
      rintro e w5 ⟨rfl, v5, h5, hf5, hB5⟩
      have H5 := Lib.hid h5
      have HF5 := Lib.hid ((HF.out.alloc hBr _).trans hf5)
      clear h5 hf5 c0 c1 c2 c3 c4
      go_wp2_with (go_end0)
      go_roundw
      case rel => exact ⟨i + 1, v5, by omega, by go_num, by rw [HSN.out]; exact H5.out, HF5.out, hB5⟩
      case measure => simp [intOf]; omega
    · have hin' : i = n := by omega
      have HW := Lib.hid hw
      have HF := Lib.hid hf
      have hq : xs ++ lst rowOf ms = (xs ++ Vi.int n) ++ ((ms.take i).map rowOf).flatten := by
        rw [hin', List.take_of_length_le (by rw [HML.out]; omega), lst, HML.out, List.append_assoc]
      have HQ := Lib.hid hq
      clear hw hf hin' hq
      go_wp2
      go_end0
      exact ⟨rfl, u, by rw [HQ.out]; exact HW.out, HF.out, hBr⟩

set_option maxRecDepth 100000 in
set_option maxHeartbeats 4000000 in
theorem prows_long (B g gv : Nat) (v : Value) (xs : List Int) (a : Option Addr) (n c : Nat) (ms : List RowD) (w : World) (h : WAt w B g v xs) (hv : Whole w gv 155 #[.pointer (some ⟨g, 0, none⟩)]) (hi : RowsAt w B a n ms) (hn : n ≤ 1024) (bad : ∃ m ∈ ms, ¬ m.ok) (hB : B ≤ w.heap.size) (hl : xs.length ≤ 1000000000) :
    Calls Tryz.prog 99 #[.pointer (some ⟨g, 0, none⟩), .slice a n c, .func (.func 100) #[] #[.pointer (some ⟨gv, 0, none⟩)]] w (WLong w B g) := by
  obtain ⟨hml, hcell⟩ := hi
  have hnl := Vi.int_length (n : Int) (by omega) (by omega)
  have hgv := h.typed hv (by decide)
  have HN := Lib.hid (wnumber_any B g v xs (n : Int) w h (by omega) (by omega) hB (by omega))
  have HV := Lib.hid hv
  have HGV := Lib.hid hgv
  have HML := Lib.hid hml
  have HC := Lib.hid hcell
  have HBAD := Lib.hid bad
  clear h hv hml hcell hgv bad
  go_enter Tryz.func99, Tryz.ntmps99
  go_wp2_with fail
  refine HN.out.mono ?_
  rintro e w1 ⟨rfl, v1, h1, hf1, hB1⟩
  have H1 := Lib.hid h1
  have HF1 := Lib.hid hf1
  clear h1 hf1
  go_wp2_with fail
  go_loopw [18] (fun iv wr => ∃ (i : Nat) (u : Value), i ≤ n ∧ iv = .int .i64 i ∧ WAt wr B g u ((xs ++ Vi.int n) ++ ((ms.take i).map rowOf).flatten) ∧ WF B g w wr ∧ B ≤ wr.heap.size ∧ ∀ m ∈ ms.take i, m.ok) (fun iv _ => n - (intOf iv).toNat)
  case atStart => exact ⟨0, v1, by omega, rfl, by simpa using H1.out, HF1.out, hB1, by simp⟩
  case round =>
    obtain ⟨i, u, hin, rfl, hw, hf, hBr, hok0⟩ := hrel
    by_cases hil : i < n
    · obtain ⟨b, off, rfl, hbB, hcc⟩ := HC.out.resolve_left (by omega)
      have hmi : ∃ m, ms[i]? = some m := ⟨_, List.getElem?_eq_getElem (show i < ms.length by rw [HML.out]; exact hil)⟩
      obtain ⟨m, hmi⟩ := hmi
      obtain ⟨z0, z1, z2, z3, z4, sa, sb, sc, hs, hu⟩ := hcc i m hmi
      have hmem := List.mem_of_getElem? hmi
      have c0 := (hf.below.cell (p := ⟨b, off + i * 5, none⟩) hbB).trans z0
      have c1 := (hf.below.cell (p := ⟨b, off + i * 5 + 1, none⟩) hbB).trans z1
      have c2 := (hf.below.cell (p := ⟨b, off + i * 5 + 2, none⟩) hbB).trans z2
      have c3 := (hf.below.cell (p := ⟨b, off + i * 5 + 3, none⟩) hbB).trans z3
      have c4 := (hf.below.cell (p := ⟨b, off + i * 5 + 4, none⟩) hbB).trans z4
      have hlen : ((xs ++ Vi.int n) ++ ((ms.take i).map rowOf).flatten).length ≤ 1002000000 := by
        have h1 := flat_len rowOf (ms.take i) (fun x hx => by obtain ⟨q, hq⟩ := List.getElem?_of_mem (List.mem_of_mem_take hx); obtain ⟨_, _, _, _, _, _, _, _, hxs, hxu⟩ := hcc q x hq; exact rowOf_length (hok0 x hx) hxs hxu)
        have h2 : (ms.take i).length ≤ i := List.length_take_le _ _
        rw [List.length_append, List.length_append]
        omega
      have HW := Lib.hid hw
      have HF := Lib.hid hf
      have hvr := hf.whole HV.out (by decide) HGV.out
      have HVR := Lib.hid hvr
      have hsn := flat_snoc rowOf hmi (xs ++ Vi.int n)
      have HSN := Lib.hid hsn
      have HMI := Lib.hid hmi
      have HMEM := Lib.hid hmem
      have HK0 := Lib.hid hok0
      clear hok0
      clear hcc z0 z1 z2 z3 z4 hw hf hvr hsn hmi hmem
      obtain ⟨ys, hys⟩ : ∃ ys, ys = (xs ++ Vi.int n) ++ ((ms.take i).map rowOf).flatten := ⟨_, rfl⟩
      rw [← hys] at HW HSN hlen
      clear hys
      by_cases hok : m.a.size ≤ 128 ∧ m.b.size ≤ 128 ∧ m.c.size ≤ 128
      · obtain ⟨o1, o2, o3⟩ := hok
        go_wp2_with fail
        refine (crow_fits B g gv u ys m.a m.b m.c m.s m.u _ (HW.out.alloc _) (HVR.out.kept (Below.heap_alloc wr _ gv HVR.out.lt)) o1 o2 o3 hs.1 hs.2 hu.1 hu.2 (by simp; omega) (by omega)).mono ?_
        rintro e w5 ⟨rfl, v5, h5, hf5, hB5⟩
        have H5 := Lib.hid h5
        have HF5 := Lib.hid ((HF.out.alloc hBr _).trans hf5)
        clear h5 hf5 c0 c1 c2 c3 c4
        go_wp2_with (go_end0)
        go_roundw
        case rel => exact ⟨i + 1, v5, by omega, by go_num, by rw [HSN.out]; exact H5.out, HF5.out, hB5, by intro x hx; rw [take_snoc HMI.out] at hx; rcases List.mem_append.1 hx with hx | hx; exact HK0.out x hx; simp at hx; subst hx; exact ⟨o1, o2, o3⟩⟩
        case measure => simp [intOf]; omega
      · have hlo : 128 < m.a.size ∨ 128 < m.b.size ∨ 128 < m.c.size := by omega
        have HLO := Lib.hid hlo
        clear hok hlo
        go_wp2_with fail
        refine (crow_long B g gv u ys m.a m.b m.c m.s m.u _ (HW.out.alloc _) (HVR.out.kept (Below.heap_alloc wr _ gv HVR.out.lt)) HLO.out (by simp; omega) (by omega) sa sb sc).mono ?_
        rintro e w5 ⟨rfl, hb5, hB5, ho5⟩
        have HF5 := Lib.hid ((HF.out.alloc hBr _).trans (WF.mk hb5 ho5))
        clear hb5 ho5 c0 c1 c2 c3 c4
        go_wp2
        exact ⟨rfl, HF5.out.long hB5⟩
    · exfalso
      obtain ⟨m, hm, hb⟩ := HBAD.out
      refine hb (hok0 m ?_)
      rw [List.take_of_length_le (by rw [HML.out]; omega)]
      exact hm

set_option maxHeartbeats 1000000 in
theorem prows_many (g : Nat) (a : Option Addr) (n c : Nat) (F : Value) (w : World) (hn : 1024 < n) (hm : n ≤ 9223372036854775807) :
    Calls Tryz.prog 99 #[.pointer (some ⟨g, 0, none⟩), .slice a n c, F] w fun e w' => e = Long ∧ w = w' := by
  go_enter Tryz.func99, Tryz.ntmps99
  go_wp2
  exact ⟨rfl, rfl, rfl⟩
end Go.Proofs.YteodldmbnghfcaaGreat
