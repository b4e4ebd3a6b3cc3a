/- The document's outbox: its items as they lie; Wrong, Tick. -/
import Derived.Test.YtefllbmopaiojaaOLie
import Derived.Laws.ResultCell
import Derived.Deep.QuietTactic
import Derived.BigQuiet
namespace Go.Proofs.Ytefllbmopaiojaa
open Go.RowKit

theorem res_two {P : Program} {fn : Func} {p u : Tmp} {ty : TypeId} (h : fn.results = #[.cell p ty, .tmp u]) (tmps : Array Value) (w : World) (g : Nat) (t : TypeId) (cs : Array Value) (d : TypeDesc) (v : Value)
    (hp : tmps.getD p undef = .pointer (some ⟨g, 0, none⟩)) (hq : tmps.getD u undef = v) (hg : Whole w g t cs)
    (hu : P.underlying ty = some d) (hd : (match d with | .struct _ | .array _ _ => true | _ => false) = true) (hi : (P.info? ty).map (·.size) = some cs.size) :
    (results fn tmps).run P w = .ok (.tuple #[.agg cs, v]) w := by
  rw [results_cell_tmp h, hp, hq]
  simp [asAddr, run_loadVar_row w g t ty cs (0, 0) d hg hu hd hi, Result.andThen]
@[simp] theorem size_drewN (w : World) (n : Nat) : (w.drewN n).heap.size = w.heap.size := rfl
theorem Try.infoIt : (Try.prog.info? 48).map (fun i => (i.zero, i.size, i.bytes)) = some (some (.agg #[.string ⟨#[]⟩, .int .i64 0, .int .i64 0]), 3, 32) := by kernel_rfl
theorem Try.infoOb : (Try.prog.info? 31).map (·.size) = some 4 := by kernel_rfl
/-- The document's item: key, value, at which tick it came. -/
abbrev It := ByteArray × Int × Int
def ic (p : It) : List Value := [.string p.1, .int .i64 p.2.1, .int .i64 p.2.2]
theorem ic_len (p : It) : (ic p).length = 3 := rfl
def ics (l : List It) : List Value := l.flatMap ic
theorem ics_len (l : List It) : (ics l).length = l.length * 3 := fm_len ic_len l
theorem ics_append (l m : List It) : ics (l ++ m) = ics l ++ ics m := by unfold ics; rw [List.flatMap_append]
theorem ics_one (l : List It) : ∀ u ∈ ics l, u.oneCell' = true := fm_one (fun p u hu => by unfold ic at hu; simp at hu; rcases hu with rfl | rfl | rfl <;> rfl) l
theorem ics_at {l : List It} {i : Nat} {p : It} (h : l[i]? = some p) : (ics l)[i * 3]? = some (.string p.1) ∧ (ics l)[i * 3 + 1]? = some (.int .i64 p.2.1) ∧ (ics l)[i * 3 + 2]? = some (.int .i64 p.2.2) :=
  ⟨fm_at (j := 0) ic_len h (by decide), fm_at (j := 1) ic_len h (by decide), fm_at (j := 2) ic_len h (by decide)⟩
/-- The document's items as they lie. -/
structure Is (w : World) (B : Nat) (a : Option Addr) (c : Nat) (l : List It) : Prop where
  row : Lies w 48 3 B a l.length c (ics l)
  typ : ∀ ad, a = some ad → ∃ cur, Whole w ad.block 48 cur
theorem Is.keep {w w' : World} {B c : Nat} {a : Option Addr} {l : List It} (h : Is w B a c l) (hs : w.heap.size ≤ w'.heap.size) (hb : ∀ ad, a = some ad → w'.heap[ad.block]? = w.heap[ad.block]?) : Is w' B a c l :=
  ⟨h.row.keep hs hb, fun ad ha => by obtain ⟨cur, hW⟩ := h.typ ad ha; exact ⟨cur, hW.kept (hb ad ha)⟩⟩
theorem Is.below {w w' : World} {B c : Nat} {a : Option Addr} {l : List It} (h : Is w B a c l) (hb : Below w.heap.size w w') : Is w' B a c l := h.keep hb.size fun ad ha => hb.block _ (h.row.at_ ad ha).2.1
theorem Is.mono {w : World} {B B' c : Nat} {a : Option Addr} {l : List It} (h : Is w B a c l) (hb : B' ≤ B) : Is w B' a c l := ⟨h.row.mono hb, h.typ⟩
theorem Is.none (w : World) (B : Nat) : Is w B .none 0 [] := ⟨Lies.none w _ 3 B, fun _ h => by cases h⟩
theorem Is.owned {w : World} {B n : Nat} {v : Value} {l : List It} (h : w.ownsRow B 48 3 v n (ics l)) : ∃ a c, v = .slice a l.length c ∧ Is w B a c l := by
  have hl : n = l.length := by have := h.1; rw [ics_len] at this; omega
  subst hl
  obtain ⟨a, c, hv, hL⟩ := Lies.owned h
  refine ⟨a, c, hv, ⟨hL, fun ad ha => ?_⟩⟩
  rcases h.2 with ⟨rfl, h0⟩ | ⟨g, cap, cur, rfl, hb, hh, _⟩
  · injection hv with e1
    rw [← e1] at ha
    cases ha
  · injection hv with e1
    rw [← e1] at ha
    injection ha with ha
    rw [← ha]
    exact ⟨cur, hh⟩
theorem Is.cells {w : World} {B c i : Nat} {a : Option Addr} {l : List It} {p : It} (h : Is w B a c l) (hp : l[i]? = some p) : ∃ b off, a = some ⟨b, off, Option.none⟩ ∧ b < w.heap.size ∧ w.cell? ⟨b, off + i * 3, Option.none⟩ = some (.string p.1) ∧ w.cell? ⟨b, off + i * 3 + 1, Option.none⟩ = some (.int .i64 p.2.1) ∧ w.cell? ⟨b, off + i * 3 + 2, Option.none⟩ = some (.int .i64 p.2.2) := by
  have hl := (List.getElem?_eq_some_iff.1 hp).1
  obtain ⟨b, off, rfl, hb, _⟩ := h.row.addr (by omega)
  obtain ⟨f0, f1, f2⟩ := ics_at hp
  exact ⟨b, off, rfl, hb, h.row.cell f0, h.row.cell f1, h.row.cell f2⟩
theorem four_of {w : World} {g : Nat} {t : TypeId} {x y z u : Value} (h : Whole w g t #[x, y, z, u]) : w.cell? ⟨g, 0, none⟩ = some x ∧ w.cell? ⟨g, 1, none⟩ = some y ∧ w.cell? ⟨g, 2, none⟩ = some z ∧ w.cell? ⟨g, 3, none⟩ = some u ∧ w.frozen? ⟨g, 0, none⟩ = false ∧ w.frozen? ⟨g, 1, none⟩ = false ∧ w.frozen? ⟨g, 2, none⟩ = false ∧ w.frozen? ⟨g, 3, none⟩ = false := by
  refine ⟨?_, ?_, ?_, ?_, h.free 0, h.free 1, h.free 2, h.free 3⟩ <;> rw [h.cell] <;> rfl
set_option maxRecDepth 100000 in
theorem rwrong_any (p s : Int) (w : World) : Calls Try.prog 9 #[.int .i64 p, .int .i64 s] w fun e w' => e = .returned (.int .i64 (if p < 1 ∨ 1000 < p ∨ s < 1 ∨ 4096 < s then 1 else 0)) ∧ w = w' := by
  have key : p < 1 ∨ (¬ p < 1 ∧ 1000 < p) ∨ (¬ p < 1 ∧ ¬ 1000 < p ∧ s < 1) ∨ (¬ p < 1 ∧ ¬ 1000 < p ∧ ¬ s < 1 ∧ 4096 < s) ∨ (¬ p < 1 ∧ ¬ 1000 < p ∧ ¬ s < 1 ∧ ¬ 4096 < s) := by omega
  rcases key with h | ⟨h1, h⟩ | ⟨h1, h2, h⟩ | ⟨h1, h2, h3, h⟩ | ⟨h1, h2, h3, h⟩
  · have HR := Lib.hid (show (if p < 1 ∨ 1000 < p ∨ s < 1 ∨ 4096 < s then (1 : Int) else 0) = 1 by rw [if_pos (by omega)])
    rw [HR.out]
    go_enter Try.func9, Try.ntmps9
    go_wp2
    go_ret
    exact ⟨rfl, rfl⟩
  · have HR := Lib.hid (show (if p < 1 ∨ 1000 < p ∨ s < 1 ∨ 4096 < s then (1 : Int) else 0) = 1 by rw [if_pos (by omega)])
    rw [HR.out]
    go_enter Try.func9, Try.ntmps9
    go_wp2
    go_ret
    exact ⟨rfl, rfl⟩
  · have HR := Lib.hid (show (if p < 1 ∨ 1000 < p ∨ s < 1 ∨ 4096 < s then (1 : Int) else 0) = 1 by rw [if_pos (by omega)])
    rw [HR.out]
    go_enter Try.func9, Try.ntmps9
    go_wp2
    go_ret
    exact ⟨rfl, rfl⟩
  · have HR := Lib.hid (show (if p < 1 ∨ 1000 < p ∨ s < 1 ∨ 4096 < s then (1 : Int) else 0) = 1 by rw [if_pos (by omega)])
    rw [HR.out]
    go_enter Try.func9, Try.ntmps9
    go_wp2
    go_ret
    exact ⟨rfl, rfl⟩
  · have HR := Lib.hid (show (if p < 1 ∨ 1000 < p ∨ s < 1 ∨ 4096 < s then (1 : Int) else 0) = 0 by rw [if_neg (by omega)])
    rw [HR.out]
    go_enter Try.func9, Try.ntmps9
    go_wp2
    go_ret
    exact ⟨rfl, rfl⟩
theorem is_far {w : World} {B c q : Nat} {a : Option Addr} {l : List It} (h : Is w B a c l) (hq : q < B) (j : Nat) (u : Value) : Is (w.setCell ⟨q, j, none⟩ u) B a c l :=
  h.keep (by simp [World.setCell]) fun ad ha => Below.heap_setCell _ ⟨q, j, none⟩ _ _ (by have := (h.row.at_ ad ha).2.2.1; show ad.block ≠ q; omega)
theorem is_far4 {w : World} {B c q : Nat} {a : Option Addr} {l : List It} (h : Is w B a c l) (hq : q < B) (u0 u1 u2 u3 : Value) : Is ((((w.setCell ⟨q, 0, none⟩ u0).setCell ⟨q, 1, none⟩ u1).setCell ⟨q, 2, none⟩ u2).setCell ⟨q, 3, none⟩ u3) B a c l :=
  is_far (is_far (is_far (is_far h hq 0 u0) hq 1 u1) hq 2 u2) hq 3 u3
theorem Whole.store4 {w : World} {g : Nat} {t : TypeId} {x y z v : Value} (h : Whole w g t #[x, y, z, v]) (u0 u1 u2 u3 : Value) : Whole ((((w.setCell ⟨g, 0, none⟩ u0).setCell ⟨g, 1, none⟩ u1).setCell ⟨g, 2, none⟩ u2).setCell ⟨g, 3, none⟩ u3) g t #[u0, u1, u2, u3] := by
  have := (((h.store 0 u0).store 1 u1).store 2 u2).store 3 u3
  simpa using this
theorem below_set4 {B q : Nat} {w W : World} (h : Below B w W) (hq : B ≤ q) (u0 u1 u2 u3 : Value) : Below B w ((((W.setCell ⟨q, 0, none⟩ u0).setCell ⟨q, 1, none⟩ u1).setCell ⟨q, 2, none⟩ u2).setCell ⟨q, 3, none⟩ u3) :=
  (((h.setCell (p := ⟨q, 0, none⟩) hq u0).setCell (p := ⟨q, 1, none⟩) hq u1).setCell (p := ⟨q, 2, none⟩) hq u2).setCell (p := ⟨q, 3, none⟩) hq u3
/-- An outbox of the document, as a value. -/
def obv (a : Option Addr) (n c : Nat) (now period size : Int) : Value := .agg #[.slice a n c, .int .i64 now, .int .i64 period, .int .i64 size]
/-- Both boxes that a call of the document makes first. -/
theorem two_boxes {w w0 w1 : World} {t u : TypeId} {c1 c2 : Array Value} (h : w0 = (w.alloc (.cells c1 t)).alloc (.cells c2 u)) (hb : Below w0.heap.size w0 w1) : Whole w1 w.heap.size t c1 ∧ Whole w1 (w.heap.size + 1) u c2 ∧ Below w.heap.size w w1 := by
  subst h
  have hz : (w.alloc (.cells c1 t)).heap.size = w.heap.size + 1 := by simp
  have h0 : Whole (w.alloc (.cells c1 t)) w.heap.size t c1 := heap_alloc_new w _
  have h1 : Whole ((w.alloc (.cells c1 t)).alloc (.cells c2 u)) (w.heap.size + 1) u c2 := by rw [← hz]; exact heap_alloc_new _ _
  have h01 := h0.kept ((below_alloc _ (.cells c2 u)).block _ h0.lt)
  exact ⟨h01.kept (hb.block _ h01.lt), h1.kept (hb.block _ h1.lt), ((below_alloc w _).trans ((below_alloc _ _).mono (by simp))).trans (hb.mono (by simp; omega))⟩
/-- What is due, by the document. -/
def dueR (now p : Int) (l : List It) : List Int := (l.filter (fun x => decide ((now - x.2.2) % p = 0))).map (·.2.1)
theorem dueR_snoc (now p : Int) (l : List It) (x : It) : dueR now p (l ++ [x]) = dueR now p l ++ (if (now - x.2.2) % p = 0 then [x.2.1] else []) := by
  unfold dueR
  rw [List.filter_append, List.map_append]
  by_cases h : (now - x.2.2) % p = 0 <;> simp [h]
theorem dueR_len (now p : Int) (l : List It) : (dueR now p l).length ≤ l.length := by
  unfold dueR
  rw [List.length_map]
  exact List.length_filter_le _ _
set_option maxRecDepth 100000 in
set_option maxHeartbeats 4000000 in
theorem rtick_any {B c now p : Nat} {a : Option Addr} {l : List It} (s : Int) (w : World) (h : Is w B a c l) (hl : l.length ≤ 4096) (hp : 1 ≤ p) (hp2 : p ≤ 1000) (hnow : now ≤ 4611686018427387904) (hsi : ∀ x ∈ l, 0 ≤ x.2.2 ∧ x.2.2 ≤ now) :
    Calls Try.prog 14 #[.agg #[.slice a l.length c, .int .i64 (now : Int), .int .i64 (p : Int), .int .i64 s]] w fun e w' => ∃ v, e = .returned (.tuple #[.agg #[.slice a l.length c, .int .i64 ((now : Int) + 1), .int .i64 (p : Int), .int .i64 s], v]) ∧ w'.ownsRow w.heap.size 3 1 v (dueR now p l).length ((dueR now p l).map fun x => .int .i64 x) ∧ Below w.heap.size w w' := by
  obtain ⟨i0, hi, hz0, hz1, hz2⟩ := info_of Try.infoInt
  obtain ⟨w0, hw0⟩ : ∃ w0, w0 = (w.alloc (.cells #[.slice a l.length c, .int .i64 (now : Int), .int .i64 (p : Int), .int .i64 s] 31)).alloc (.cells #[.slice none 0 0, .int .i64 0, .int .i64 0, .int .i64 0] 31) := ⟨_, rfl⟩
  have HT := Lib.hid (fun W (hW : Below w0.heap.size w0 W) => two_boxes hw0 hW)
  have hs0 : w0.heap.size = w.heap.size + 1 + 1 := by rw [hw0]; simp
  have HS0 := Lib.hid hs0
  have HH := Lib.hid (h.below (HT.out w0 (Below.refl _ _)).2.2)
  have HSI := Lib.hid hsi
  clear h hsi hs0
  go_enter Try.func14, Try.ntmps14
  go_wp2_with fail
  rw [← hw0]
  clear hw0
  go_loopw [4, 5] (fun t4 t5 wr => ∃ i : Nat, i ≤ l.length ∧ t5 = .int .i64 i ∧ wr.ownsRow w0.heap.size 3 1 t4 (dueR now p (l.take i)).length ((dueR now p (l.take i)).map fun x => .int .i64 x) ∧ Below w0.heap.size w0 wr) (fun _ t5 _ => l.length - (intOf t5).toNat)
  case atStart => exact ⟨0, by omega, rfl, ⟨rfl, .inl ⟨rfl, rfl⟩⟩, Below.refl _ _⟩
  case round =>
    obtain ⟨i, hi', rfl, hown, hb⟩ := hrel
    obtain ⟨ta, tc, rfl, _, _⟩ := owned_any hown
    obtain ⟨hB0, hB1, hbw⟩ := HT.out wr hb
    obtain ⟨x0, x1, x2, x3, z0, z1, z2, z3⟩ := four_of hB0
    by_cases hil : i < l.length
    · obtain ⟨⟨k1, v1, s1⟩, hx⟩ : ∃ x, l[i]? = some x := ⟨_, List.getElem?_eq_getElem hil⟩
      obtain ⟨b, off, rfl, hbl, c0, c1, c2⟩ := HH.out.cells hx
      have e1 := (hb.cell (p := ⟨b, off + i * 3 + 1, none⟩) hbl).trans c1
      have e2 := (hb.cell (p := ⟨b, off + i * 3 + 2, none⟩) hbl).trans c2
      have hsr := HSI.out _ (List.mem_of_getElem? hx)
      simp only at hsr e1 e2
      have hsub : IntKind.i64.wrap ((now : Int) - s1) = (now : Int) - s1 := IntWalk.i64_in _ (by omega)
      have hd0 : (0 : Int) ≤ (now : Int) - s1 := by omega
      have hmod : ((now : Int) - s1).tmod (p : Int) = ((now : Int) - s1) % (p : Int) := Int.tmod_eq_emod_of_nonneg hd0
      have hwm : IntKind.i64.wrap (((now : Int) - s1) % (p : Int)) = ((now : Int) - s1) % (p : Int) := IntWalk.i64_in _ (by
        have := Int.emod_nonneg ((now : Int) - s1) (show (p : Int) ≠ 0 by omega)
        have := Int.emod_lt_of_pos ((now : Int) - s1) (show (0 : Int) < (p : Int) by omega)
        omega)
      have hpz : ¬ (p : Int) = 0 := by omega
      have HSN := Lib.hid (take_snoc hx)
      have HOW := Lib.hid hown
      have HB := Lib.hid hb
      have hdl := dueR_len now p (l.take i)
      have hdl2 : (l.take i).length ≤ i := List.length_take_le _ _
      have hsz := hb.size
      have hszw := HS0.out
      clear hx c0 c1 c2 hown hb hB0 hB1 hbw hsr
      by_cases hz : ((now : Int) - s1) % (p : Int) = 0
      · have HDUE := Lib.hid (show dueR now p (l.take (i + 1)) = dueR now p (l.take i) ++ [v1] by rw [HSN.out, dueR_snoc, if_pos hz])
        have hdn : (dueR now p (l.take i)).length ≤ 4096 := by omega
        generalize hdd : dueR now p (l.take i) = dd at *
        clear hdl hdd
        have HOW2 := Lib.hid (fun q => show (wr.drewN q).ownsRow w0.heap.size 3 1 (.slice ta dd.length tc) dd.length (dd.map fun x => .int .i64 x) from owns_kept HOW.out (fun _ _ => rfl))
        have HB2 := Lib.hid (fun q => show Below w0.heap.size w0 (wr.drewN q) from HB.out.trans ((below_drewN wr q).mono HB.out.size))
        go_wp2_with fail
        go_quiet (fail)
        go_wp2_with (
          at_builtin
          (refine wpList_append_at_any _ rfl _ _ 40 rfl w0.heap.size 3 i0 (.int .i64 0) 1 8 Try.underlying40 hi hz0 hz1 hz2 rfl (by decide) _ dd.length _ rfl ((HOW2.out _).alloc _) (some ⟨wr.heap.size, 0, none⟩) 1 1 [.int .i64 v1] rfl rfl (by intro h; cases h) (by rintro ad he; injection he with he; subst he; exact cell_one_new _ _ _) (by intro q hq; simp at hq; subst hq; rfl) (by unfold maxLen; omega) (by omega) (by simp; omega) ?_)
          intro v2 w2 hown2 hgrow2 hat2)
        have hB3 := ((HB2.out _).alloc (by simp; omega) (.cells #[.int .i64 v1] 3)).grown hgrow2 (by simp; omega) (fun q hq => (HOW.out.lt q hq).1)
        have hown3 : w2.ownsRow w0.heap.size 3 1 v2 (dueR now p (l.take (i + 1))).length ((dueR now p (l.take (i + 1))).map fun x => .int .i64 x) := by
          rw [HDUE.out, List.length_append, List.map_append]
          exact hown2
        have HR1 := Lib.hid hown3
        have HR2 := Lib.hid hB3
        clear hown2 hgrow2 hat2 hB3 hown3
        go_roundw
        case rel => exact ⟨i + 1, by omega, by go_num, HR1.out, HR2.out⟩
        case measure => simp [intOf]; omega
      · have HDUE := Lib.hid (show dueR now p (l.take (i + 1)) = dueR now p (l.take i) by rw [HSN.out, dueR_snoc, if_neg hz, List.append_nil])
        clear hdl
        have HOW2 := Lib.hid (fun q => show (wr.drewN q).ownsRow w0.heap.size 3 1 (.slice ta (dueR now p (l.take i)).length tc) (dueR now p (l.take i)).length ((dueR now p (l.take i)).map fun x => .int .i64 x) from owns_kept HOW.out (fun _ _ => rfl))
        have HB2 := Lib.hid (fun q => show Below w0.heap.size w0 (wr.drewN q) from HB.out.trans ((below_drewN wr q).mono HB.out.size))
        go_wp2_with fail
        go_quiet (fail)
        go_wp2_with fail
        go_roundw
        case rel => exact ⟨i + 1, by omega, by go_num, by rw [HDUE.out]; exact HOW2.out _, HB2.out _⟩
        case measure => simp [intOf]; omega
    · obtain rfl : i = l.length := by omega
      have hadd : IntKind.i64.wrap ((now : Int) + 1) = (now : Int) + 1 := IntWalk.i64_in _ (by omega)
      have HOW := Lib.hid hown
      have HX0 := Lib.hid hB0
      have HX1 := Lib.hid hB1
      have HBW := Lib.hid hbw
      have hsz := hb.size
      have hszw := HS0.out
      obtain ⟨y0, y1, y2, y3, f0, f1, f2, f3⟩ := four_of hB1
      clear hown hb hB0 hB1 hbw
      have hfar : ∀ k, k < w0.heap.size → (Value.slice ta (dueR now p (l.take l.length)).length tc).ownBlock ≠ some k := by
        intro k hk e
        have := (owned_block HOW.out e).1
        omega
      have HFAR := Lib.hid hfar
      clear hfar
      go_wp2
      have hz1 := ((((HX1.out.kept (Below.heap_setCell wr ⟨w.heap.size, 1, none⟩ (.int .i64 ((now : Int) + 1)) _ (by simp))).store 0 (.slice a l.length c)).store 1 (.int .i64 ((now : Int) + 1))).store 2 (.int .i64 (p : Int))).store 3 (.int .i64 s)
      have hf0 := HFAR.out w.heap.size (by omega)
      have hf1 := HFAR.out (w.heap.size + 1) (by omega)
      refine bodyPost_ret (v := .tuple #[.agg #[.slice a l.length c, .int .i64 ((now : Int) + 1), .int .i64 (p : Int), .int .i64 s], .slice ta (dueR now p (l.take l.length)).length tc]) (res_two Try.results14 _ _ (w.heap.size + 1) 31 _ _ _ rfl rfl (by simpa using hz1) Try.underlying31 rfl Try.infoOb) rfl ⟨_, rfl, ?_, ?_⟩
      · have e : l.take l.length = l := List.take_length
        have h3 := (owns_far (owns_far (owns_far (owns_far (owns_far HOW.out _ 1 hf0 (.int .i64 ((now : Int) + 1))) _ 0 hf1 (.slice a l.length c)) _ 1 hf1 (.int .i64 ((now : Int) + 1))) _ 2 hf1 (.int .i64 (p : Int))) _ 3 hf1 (.int .i64 s))
        rw [e] at h3 ⊢
        refine ⟨h3.1, ?_⟩
        rcases h3.2 with h4 | ⟨g, cap, cur, h4, h5, h6⟩
        · exact .inl h4
        · exact .inr ⟨g, cap, cur, h4, by omega, h6⟩
      · exact ((((HBW.out.setCell (p := ⟨w.heap.size, 1, none⟩) (Nat.le_refl _) _).setCell (p := ⟨w.heap.size + 1, 0, none⟩) (Nat.le_succ _) _).setCell (p := ⟨w.heap.size + 1, 1, none⟩) (Nat.le_succ _) _).setCell (p := ⟨w.heap.size + 1, 2, none⟩) (Nat.le_succ _) _).setCell (p := ⟨w.heap.size + 1, 3, none⟩) (Nat.le_succ _) _
end Go.Proofs.Ytefllbmopaiojaa
