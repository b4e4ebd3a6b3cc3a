/- Layer 5: rows of tuples looked at. -/
import Derived.Test.YtilmpkmojfmlkaaT5
namespace Go.Proofs.Ytilmpkmojfmlkaa
open Go.RowKit

abbrev Tq := ByteArray × ByteArray × ByteArray
def Tq.e (t : Tq) : Int := tupE t.1 t.2.1 t.2.2
def Tq.v (t : Tq) : Value := TupV t.1 t.2.1 t.2.2
def Tq.small (t : Tq) : Prop := t.1.size ≤ 140737488355328 ∧ t.2.1.size ≤ 140737488355328 ∧ t.2.2.size ≤ 140737488355328
def Tq.fits (t : Tq) : Prop := t.1.size ≤ 1000000000000000000 ∧ t.2.1.size ≤ 1000000000000000000 ∧ t.2.2.size ≤ 1000000000000000000
theorem Tq.small.fits {t : Tq} (h : t.small) : t.fits := by
  unfold Tq.small at h
  unfold Tq.fits
  omega
/-- What is wrong with the first that isn't right. -/
def tupsE : List Tq → Int
  | [] => 0
  | t :: r => if t.e = 0 then tupsE r else t.e
/-- A row of tuples as it lies in memory. -/
def TupsAt (w : World) (a : Option Addr) (n : Nat) (ts : List Tq) : Prop :=
  ts.length = n ∧ (∀ t ∈ ts, t.fits) ∧ (n = 0 ∨ ∃ b off, a = some ⟨b, off, none⟩ ∧ b < w.heap.size ∧ ∀ i (t : Tq), ts[i]? = some t →
    w.cell? ⟨b, off + i * 3, none⟩ = some (.string t.1) ∧ w.cell? ⟨b, off + i * 3 + 1, none⟩ = some (.string t.2.1) ∧ w.cell? ⟨b, off + i * 3 + 2, none⟩ = some (.string t.2.2))
theorem TupsAt.below {w w' : World} {a : Option Addr} {n : Nat} {ts : List Tq} (h : TupsAt w a n ts) (hb : Below w.heap.size w w') : TupsAt w' a n ts := by
  obtain ⟨h1, h2, h3⟩ := h
  refine ⟨h1, h2, h3.imp_right ?_⟩
  rintro ⟨b, off, rfl, hlt, hc⟩
  refine ⟨b, off, rfl, Nat.lt_of_lt_of_le hlt hb.size, fun i t ht => ?_⟩
  obtain ⟨c0, c1, c2⟩ := hc i t ht
  exact ⟨(hb.cell (p := ⟨b, _, none⟩) hlt).trans c0, (hb.cell (p := ⟨b, _, none⟩) hlt).trans c1, (hb.cell (p := ⟨b, _, none⟩) hlt).trans c2⟩
theorem drop_get {α : Type} {l : List α} {i : Nat} {x : α} (h : l[i]? = some x) : l.drop i = x :: l.drop (i + 1) := by
  obtain ⟨hi, rfl⟩ := List.getElem?_eq_some_iff.1 h
  exact List.drop_eq_getElem_cons hi

set_option maxRecDepth 100000 in
set_option maxHeartbeats 4000000 in
theorem check_any (a : Option Addr) (n c : Nat) (ts : List Tq) (w : World) (h : TupsAt w a n ts) (hn : n ≤ 9223372036854775806) :
    Calls Try.prog 40 #[.slice a n c] w fun e w' => e = .returned (.int .i64 (tupsE ts)) ∧ Below w.heap.size w w' := by
  obtain ⟨hlen, hsm, hcell⟩ := h
  have HL := Lib.hid hlen
  have HS := Lib.hid hsm
  have HC := Lib.hid hcell
  clear hlen hsm hcell
  generalize ht : tupsE ts = te
  have HT := Lib.hid ht
  clear ht
  go_enter Try.func40, Try.ntmps40
  go_wp2
  go_loopw [8] (fun iv wr => ∃ (i : Nat), i ≤ n ∧ iv = .int .i64 i ∧ tupsE (ts.drop i) = te ∧ Below w.heap.size w wr) (fun iv _ => n - (intOf iv).toNat)
  case atStart => exact ⟨0, by omega, rfl, HT.out, Below.refl _ _⟩
  case round =>
    obtain ⟨i, hin, rfl, hte, hbl⟩ := hrel
    by_cases hil : i < n
    · obtain ⟨b, off, rfl, hbB, hcc⟩ := HC.out.resolve_left (by omega)
      obtain ⟨t, hti⟩ : ∃ t, ts[i]? = some t := ⟨_, List.getElem?_eq_getElem (show i < ts.length by rw [HL.out]; exact hil)⟩
      obtain ⟨z0, z1, z2⟩ := hcc i t hti
      have hs := HS.out t (List.mem_of_getElem? hti)
      have c0 := (hbl.cell (p := ⟨b, off + i * 3, none⟩) hbB).trans z0
      have c1 := (hbl.cell (p := ⟨b, off + i * 3 + 1, none⟩) hbB).trans z1
      have c2 := (hbl.cell (p := ⟨b, off + i * 3 + 2, none⟩) hbB).trans z2
      rw [drop_get hti, tupsE] at hte
      have HTE := Lib.hid hte
      have HBL := Lib.hid hbl
      have hsz := hbl.size
      obtain ⟨x, y, z⟩ := t
      have HO := Lib.hid (fun w => checkOne_any x y z w (by have := hs.1; simp at this; omega) (by have := hs.2.2; simp at this; omega))
      simp only at c0 c1 c2
      have he : Tq.e (x, y, z) = tupE x y z := rfl
      rw [he] at HTE
      clear hcc z0 z1 z2 hs hte hbl hti he
      generalize tupE x y z = q at *
      unfold TupV at HO
      go_wp2_with fail
      refine (HO.out _).mono ?_
      rintro e w1 ⟨rfl, hb1⟩
      have HB1 := Lib.hid (HBL.out.trans (((below_alloc _ _).mono hsz).trans (hb1.mono (by simp; omega))))
      clear hb1
      by_cases hq : q = 0
      · subst hq
        have HT2 := Lib.hid (show tupsE (ts.drop (i + 1)) = te by have := HTE.out; rwa [if_pos rfl] at this)
        clear HTE c0 c1 c2
        go_wp2
        go_roundw
        case rel => exact ⟨i + 1, by omega, by go_num, HT2.out, HB1.out⟩
        case measure => simp [intOf]; omega
      · have HT2 := Lib.hid (show q = te by have := HTE.out; rwa [if_neg hq] at this)
        clear HTE c0 c1 c2
        go_wp2
        go_ret
        exact ⟨by rw [← HT2.out]; rfl, HB1.out⟩
    · have hin' : i = n := by omega
      have h0 : te = 0 := by rw [← hte, hin', List.drop_of_length_le (by rw [HL.out]; exact Nat.le_refl _)]; rfl
      subst h0
      have HBL := Lib.hid hbl
      clear hte hbl
      go_wp2
      go_ret
      exact ⟨rfl, HBL.out⟩
end Go.Proofs.Ytilmpkmojfmlkaa
