/- The reader: lists of numbers. -/
import Derived.Test.YteodldmbnghfcaaGreatC13
namespace Go.Proofs.YteodldmbnghfcaaGreat
open Go.RowKit

theorem Tryz.infoI : (Tryz.prog.info? 3).map (fun i => (i.zero, i.size, i.bytes)) = some (some (.int .i64 0), 1, 8) := by kernel_rfl

/-- So many items. -/
def rrep {α : Type} (p : List Int → Except Int (α × List Int)) : Nat → List Int → Except Int (List α × List Int)
  | 0, l => .ok ([], l)
  | k + 1, l => match p l with
    | .error c => .error c
    | .ok (x, l) => match rrep p k l with
      | .error c => .error c
      | .ok (xs, l) => .ok (x :: xs, l)
def rlst {α : Type} (p : List Int → Except Int (α × List Int)) (xs : List Int) : Except Int (List α × List Int) := match rcount 1024 xs with
  | .error c => .error c
  | .ok (n, l) => rrep p n.toNat l
/-- Items ahead of what is read. -/
def prep {α : Type} (acc : List α) : Except Int (List α × List Int) → Except Int (List α × List Int)
  | .error c => .error c
  | .ok (xs, l) => .ok (acc ++ xs, l)
theorem prep_nil {α : Type} (r : Except Int (List α × List Int)) : prep [] r = r := by cases r <;> rfl
theorem prep_step {α : Type} {p : List Int → Except Int (α × List Int)} {acc : List α} {k : Nat} {ys zs : List Int} {x : α} (h : p ys = .ok (x, zs)) : prep acc (rrep p (k + 1) ys) = prep (acc ++ [x]) (rrep p k zs) := by
  rw [rrep, h]
  simp only []
  cases rrep p k zs with
  | error c => rfl
  | ok r => simp [prep]
theorem prep_bad {α : Type} {p : List Int → Except Int (α × List Int)} {acc : List α} {k : Nat} {ys : List Int} {c : Int} (h : p ys = .error c) : prep acc (rrep p (k + 1) ys) = .error c := by
  rw [rrep, h]
  rfl
theorem prep_end {α : Type} {p : List Int → Except Int (α × List Int)} {acc : List α} {ys : List Int} : prep acc (rrep p 0 ys) = .ok (acc, ys) := by
  rw [rrep, prep, List.append_nil]
theorem rlst_bad {α : Type} {p : List Int → Except Int (α × List Int)} {c : Int} {xs : List Int} (h : rcount 1024 xs = .error c) : rlst p xs = .error c := by rw [rlst, h]
theorem rlst_ok {α : Type} {p : List Int → Except Int (α × List Int)} {n : Nat} {xs l : List Int} (h : rcount 1024 xs = .ok ((n : Int), l)) : rlst p xs = rrep p n l := by rw [rlst, h]; rfl

/-- What a call that reads a list comes to. -/
def LDone {α : Type} (w : World) (B g : Nat) (t : TypeId) (size : Nat) (cells : List α → List Value) (r : Except Int (List α × List Int)) (e : Ending) (w' : World) : Prop :=
  (∃ items ys u v', r = .ok (items, ys) ∧ e = .returned v' ∧ w'.ownsRow w.heap.size t size v' items.length (cells items) ∧ RAt w' B g u ys ∧ RF g w w') ∨ (∃ c, r = .error c ∧ e = Bad c ∧ RF g w w')
theorem owns_rf {w w' : World} {base n g : Nat} {e : TypeId} {v : Value} {l : List Value} (h : w.ownsRow base e 1 v n l) (hF : RF g w w') (hg : g < base) : w'.ownsRow base e 1 v n l :=
  owns_kept h fun k hk => hF.other k (h.lt k hk).2 (by have := (h.lt k hk).1; omega)
theorem rf_grown {w a b : World} {base n g : Nat} {e : TypeId} {v : Value} {l : List Value} (h : a.ownsRow base e 1 v n l) (hb : base = w.heap.size) (hF : RF g w a) (hg : a.grownBy b v.ownBlock) : RF g w b :=
  ⟨hg.os.trans hF.os, hg.tape.trans hF.tape, hg.output.trans hF.output, Nat.le_trans hF.size hg.size, fun k hk hn => (hg.block k (Nat.lt_of_lt_of_le hk hF.size) (fun e => by have := (h.lt k e.symm).1; omega)).trans (hF.other k hk hn)⟩
theorem rat_grown {a b : World} {base n B g : Nat} {e : TypeId} {v u : Value} {l : List Value} {xs : List Int} (h : a.ownsRow base e 1 v n l) (hA : RAt a B g u xs) (hg : a.grownBy b v.ownBlock) (hlt : g < base) : RAt b B g u xs :=
  ⟨hA.blk.kept (hg.block g hA.blk.lt (fun e => by have := (h.lt g e.symm).1; omega)), hA.ge, hA.lies.keep fun k hk => hg.block k (by have := hA.ge; have := hA.blk.lt; omega) (fun e => by have := (h.lt k e.symm).1; have := hA.ge; omega)⟩

set_option maxRecDepth 100000 in
set_option maxHeartbeats 4000000 in
theorem glist_int (B g gv : Nat) (v : Value) (xs : List Int) (w : World) (h : RAt w B g v xs) (hv : Whole w gv 151 #[.pointer (some ⟨g, 0, none⟩)]) :
    Calls Tryz.prog 81 #[.pointer (some ⟨g, 0, none⟩), .func (.func 82) #[] #[.pointer (some ⟨gv, 0, none⟩)]] w (LDone w B g 3 1 (List.map (Value.int .i64)) (rlst rnum xs)) := by
  obtain ⟨i0, hi, hz0, hz1, hz2⟩ := info_parts Tryz.infoI
  have hgl := h.blk.lt
  have HGV := Lib.hid (h.typed hv (by decide))
  have HV := Lib.hid hv
  have HGL := Lib.hid hgl
  have HN := Lib.hid (rcount_any B g v xs 1024 w h)
  clear h hv hgl
  go_enter Tryz.func81, Tryz.ntmps81
  go_wp2_with fail
  refine HN.out.mono ?_
  rintro e w1 (⟨n, ys, u, hr, rfl, hA, hF⟩ | ⟨c, hr, rfl, hF⟩)
  · have hrange := rcount_range hr
    obtain ⟨n, rfl⟩ : ∃ k : Nat, n = (k : Int) := ⟨n.toNat, by omega⟩
    have HLO := Lib.hid (rlst_ok (p := rnum) hr)
    have HA1 := Lib.hid hA
    have HF1 := Lib.hid hF
    clear hA hF hr
    go_wp2_with fail
    go_loopw [5, 8] (fun t iv wr => ∃ (i : Nat) (acc ys' : List Int) (u' : Value), i ≤ n ∧ iv = .int .i64 i ∧ acc.length = i ∧ prep acc (rrep rnum (n - i) ys') = rrep rnum n ys ∧ wr.ownsRow w.heap.size 3 1 t acc.length (acc.map (Value.int .i64)) ∧ RAt wr B g u' ys' ∧ RF g w wr) (fun _ iv _ => n - (intOf iv).toNat)
    case atStart => exact ⟨0, [], ys, u, by omega, rfl, rfl, prep_nil _, ⟨rfl, .inl ⟨rfl, rfl⟩⟩, HA1.out, HF1.out⟩
    case round =>
      obtain ⟨i, acc, ys', u', hin, rfl, rfl, hpr, hown, hA, hF⟩ := hrel
      obtain ⟨ta, tc, rfl, _, _⟩ := owned_any hown
      by_cases hil : acc.length < n
      · obtain ⟨k, hk⟩ : ∃ k, n - acc.length = k + 1 := ⟨n - acc.length - 1, by omega⟩
        have hk' : n - (acc.length + 1) = k := by omega
        rw [hk] at hpr
        have hgw := hA.blk.lt
        have cv := (hF.whole HV.out HGV.out).cell 0
        have cv0 : wr.cell? ⟨gv, 0, none⟩ = some (.pointer (some ⟨g, 0, none⟩)) := by rw [cv]; rfl
        have HGI := Lib.hid (gint_any B g gv u' ys' wr hA (hF.whole HV.out HGV.out))
        have HOW := Lib.hid hown
        have HA := Lib.hid hA
        have HF := Lib.hid hF
        have HPR := Lib.hid hpr
        clear hA hF hown cv hpr
        go_wp2_with fail
        refine HGI.out.mono ?_
        rintro e w2 (⟨x, zs, u2, hr, rfl, hA2, hF2⟩ | ⟨c, hr, rfl, hF2⟩)
        · have hown2 := owns_rf HOW.out hF2 HGL.out
          have hsz2 := (HF.out.trans hF2).size
          have HP2 := Lib.hid (HPR.out.symm.trans (prep_step hr))
          have HOW2 := Lib.hid hown2
          have HA2 := Lib.hid hA2
          have HF2 := Lib.hid (HF.out.trans hF2)
          clear hr hA2 hF2 hown2
          go_wp2_with (at_builtin; refine wpList_append_at_any _ rfl _ _ 38 rfl w.heap.size 3 i0 (.int .i64 0) 1 8 Tryz.underlying38 hi hz0 hz1 hz2 rfl (by decide) _ acc.length _ rfl (HOW2.out.alloc _) (some ⟨w2.heap.size, 0, none⟩) 1 1 [.int .i64 x] rfl rfl (by intro h; cases h) (by rintro ad he; injection he with he; subst he; exact cell_one_new _ _ _) (by intro q hq; simp at hq; subst hq; rfl) (by unfold maxLen; omega) (by omega) (by simp; omega) ?_; intro v2 w3 hown3 hgrow3 hat3)
          have HA3 := Lib.hid (rat_grown (HOW2.out.alloc _) (HA2.out.alloc _) hgrow3 HGL.out)
          have HF3 := Lib.hid (rf_grown (HOW2.out.alloc _) rfl (HF2.out.trans (RF.alloc _ _)) hgrow3)
          have hmap : acc.map (Value.int .i64) ++ [.int .i64 x] = (acc ++ [x]).map (Value.int .i64) := by simp
          have hlz : acc.length + 1 = (acc ++ [x]).length := by simp
          rw [hmap, hlz] at hown3
          have HO3 := Lib.hid hown3
          clear hown3 hgrow3 hat3 hmap hlz
          go_roundw
          case rel => exact ⟨acc.length + 1, acc ++ [x], zs, u2, by omega, by go_num, by simp, by rw [hk']; exact HP2.out.symm, HO3.out, HA3.out, HF3.out⟩
          case measure => simp [intOf]; omega
        · have HQ := Lib.hid (show LDone w B g 3 1 (List.map (Value.int .i64)) (rlst rnum xs) (Bad c) w2 from .inr ⟨c, by rw [HLO.out, ← HPR.out, prep_bad hr], rfl, HF.out.trans hF2⟩)
          clear hr hF2
          go_wp2
          exact ⟨rfl, HQ.out⟩
      · have hin' : n - acc.length = 0 := by omega
        rw [hin', prep_end] at hpr
        have HQ := Lib.hid (show LDone w B g 3 1 (List.map (Value.int .i64)) (rlst rnum xs) (.returned (.slice ta acc.length tc)) wr from .inl ⟨acc, ys', u', _, by rw [HLO.out, ← hpr], rfl, hown, hA, hF⟩)
        clear hown hA hF hpr
        go_wp2
        go_ret
        exact HQ.out
  · have HQ := Lib.hid (show LDone w B g 3 1 (List.map (Value.int .i64)) (rlst rnum xs) (Bad c) w1 from .inr ⟨c, rlst_bad hr, rfl, hF⟩)
    clear hr hF
    go_wp2
    exact ⟨rfl, HQ.out⟩
end Go.Proofs.YteodldmbnghfcaaGreat
