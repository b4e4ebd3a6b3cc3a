/- The document's oracle: its revisions as rows; Last, Rev, IsDone. The document's oracle: Pending, Closed. The document's oracle: Replay. The document's oracle: what records come to; Open. The document's oracle: a record written, Ask, Settle. The document's oracle: Ask, Settle. OraclePlays: both oracles between two calls. -/
import Derived.Test.YteodldmbnghfcaaGreatZNn
import Derived.Test.YteodldmbnghfcaaGreatZLm
import Derived.Deep.RegionHeld3
import Derived.StillTailTactics
namespace Go.Proofs.YteodldmbnghfcaaGreat.Rl
open Go.RowKit

/-- An issue as the document keeps it: a message. -/
def mI (x : Iss) : List Value := [.int .i64 1, .int .i64 x.fr, .int .i64 0, .int .i64 x.id, .int .i64 x.rev, .int .i64 0, .int .i64 0, .bool false, .slice none 0 0, .slice none 0 0, .slice none 0 0, .slice none 0 0]
theorem mI_len (x : Iss) : (mI x).length = 12 := rfl
def mIs (L : List Iss) : List Value := L.flatMap mI
theorem mIs_append (L M : List Iss) : mIs (L ++ M) = mIs L ++ mIs M := by unfold mIs; rw [List.flatMap_append]
theorem mIs_mark (L : List Iss) (i : Nat) : mIs (mark L i) = mIs L := by
  have key : ∀ M : List Iss, mIs M = ((M.map (·.rev)).zip ((M.map (·.id)).zip (M.map (·.fr)))).flatMap (fun t => mI ⟨t.1, t.2.1, t.2.2, false⟩) := by
    intro M
    induction M with
    | nil => rfl
    | cons x M ih =>
      show mI x ++ mIs M = _
      rw [ih]
      rfl
  have hf : (mark L i).map (·.fr) = L.map (·.fr) := by
    apply List.ext_getElem?
    intro j
    rw [List.getElem?_map, List.getElem?_map, mark_at]
    split
    · rw [Option.map_map]; rfl
    · rfl
  rw [key, key L, mark_revs, mark_ids, hf]
theorem mI_one (x : Iss) : ∀ u ∈ mI x, u.oneCell' = true := by
  intro u hu
  simp only [mI, List.mem_cons, List.not_mem_nil, or_false] at hu
  rcases hu with rfl | rfl | rfl | rfl | rfl | rfl | rfl | rfl | rfl | rfl | rfl | rfl <;> rfl
/-- The document's oracle as a value. -/
def RO (S : ByteArray) (d r : Int) (iv dv : Value) : Value := .agg #[.string S, .int .i64 d, .int .i64 r, iv, dv]
/-- The rows lie in blocks of their kind. -/
def Msgy (w : World) (t : TypeId) (a : Option Addr) : Prop := ∀ ad, a = some ad → ∃ cs, Whole w ad.block t cs
theorem Msgy.below {w w' : World} {t : TypeId} {a : Option Addr} (h : Msgy w t a) (hb : Below w.heap.size w w') : Msgy w' t a := fun ad ha => by
  obtain ⟨cs, hw⟩ := h ad ha
  exact ⟨cs, hw.kept (hb.block _ hw.lt)⟩
theorem Msgy.chg {w w' : World} {T t : TypeId} {k B n c : Nat} {a : Option Addr} {cs : List Value} {Q : Nat → Prop} (h : Msgy w t a) (hl : Lies w T k B a n c cs) (hc : Chg w w' Q) (hq : ∀ j, Q j → j < B) : Msgy w' t a := fun ad ha => by
  obtain ⟨ds, hw⟩ := h ad ha
  obtain ⟨_, _, h3, _⟩ := hl.at_ ad ha
  exact ⟨ds, hw.kept (hc.block _ hw.lt (fun hp => by have := hq _ hp; omega))⟩
theorem Msgy.own {w : World} {base k n c : Nat} {t : TypeId} {a : Option Addr} {l : List Value} (h : w.ownsRow base t k (.slice a n c) n l) : Msgy w t a := fun ad ha => by
  rcases h.2 with ⟨h1, _⟩ | ⟨g, cap, cur, h1, _, hh, _⟩
  · injection h1 with h1
    rw [h1] at ha
    cases ha
  · injection h1 with h1
    rw [h1] at ha
    injection ha with ha
    rw [← ha]
    exact ⟨cur, hh⟩
/-- The issues lie somewhere as messages. -/
def RI (w : World) (L : List Iss) (iv : Value) : Prop := ∃ a c, iv = .slice a L.length c ∧ Lies w 43 12 0 a L.length c (mIs L) ∧ Msgy w 43 a
/-- The numbers of those that are resolved lie somewhere. -/
def RJ (w : World) (M : List Int) (dv : Value) : Prop := ∃ a c, dv = .slice a M.length c ∧ Lies w 2 1 0 a M.length c (M.map (Value.int .i64)) ∧ Msgy w 2 a
theorem RI.below {w w' : World} {L : List Iss} {iv : Value} (h : RI w L iv) (hb : Below w.heap.size w w') : RI w' L iv := by
  obtain ⟨a, c, h1, h2, h3⟩ := h
  exact ⟨a, c, h1, h2.below hb, h3.below hb⟩
theorem RJ.below {w w' : World} {M : List Int} {dv : Value} (h : RJ w M dv) (hb : Below w.heap.size w w') : RJ w' M dv := by
  obtain ⟨a, c, h1, h2, h3⟩ := h
  exact ⟨a, c, h1, h2.below hb, h3.below hb⟩
theorem RI.chg {w w' : World} {L : List Iss} {iv : Value} {t : TypeId} {k : Nat} {cs : Array Value} (h : RI w L iv) (hk : Whole w k t cs) (hc : Chg w w' (fun j => j = k)) (ht : t ≠ 43) : RI w' L iv := by
  obtain ⟨a, c, h1, h2, h3⟩ := h
  have hne : ∀ ad, a = some ad → ad.block ≠ k := fun ad ha => by
    obtain ⟨ds, hw⟩ := h3 ad ha
    exact whole_ne hw hk (Ne.symm ht)
  exact ⟨a, c, h1, h2.keep hc.size (fun ad ha => hc.block _ (h2.at_ ad ha).2.1 (hne ad ha)), fun ad ha => by
    obtain ⟨ds, hw⟩ := h3 ad ha
    exact ⟨ds, hw.kept (hc.block _ hw.lt (hne ad ha))⟩⟩
theorem RJ.chg {w w' : World} {M : List Int} {dv : Value} {t : TypeId} {k : Nat} {cs : Array Value} (h : RJ w M dv) (hk : Whole w k t cs) (hc : Chg w w' (fun j => j = k)) (ht : t ≠ 2) : RJ w' M dv := by
  obtain ⟨a, c, h1, h2, h3⟩ := h
  have hne : ∀ ad, a = some ad → ad.block ≠ k := fun ad ha => by
    obtain ⟨ds, hw⟩ := h3 ad ha
    exact whole_ne hw hk (Ne.symm ht)
  exact ⟨a, c, h1, h2.keep hc.size (fun ad ha => hc.block _ (h2.at_ ad ha).2.1 (hne ad ha)), fun ad ha => by
    obtain ⟨ds, hw⟩ := h3 ad ha
    exact ⟨ds, hw.kept (hc.block _ hw.lt (hne ad ha))⟩⟩
theorem mIs_at {L : List Iss} {i j : Nat} {x : Iss} (h : L[i]? = some x) (hj : j < 12) : (mIs L)[i * 12 + j]? = (mI x)[j]? := fm_at mI_len h hj
/-- A box of an oracle. -/
theorem ro_box (w : World) (S : ByteArray) (d r : Int) (iv dv : Value) : ∃ X, X = w.alloc (.cells #[.string S, .int .i64 d, .int .i64 r, iv, dv] 36) ∧ Whole X w.heap.size 36 #[.string S, .int .i64 d, .int .i64 r, iv, dv] ∧ Below w.heap.size w X := ⟨_, rfl, heap_alloc_new w _, below_alloc w _⟩
set_option maxRecDepth 100000 in
set_option maxHeartbeats 2000000 in
theorem rlast_any (w : World) (S : ByteArray) (d r : Int) (iv dv : Value) (L : List Iss) (hi : RI w L iv) (hn : L.length ≤ 1048576) :
    Calls Tryz.prog 20 #[RO S d r iv dv] w fun e w' => e = .returned (.int .i64 (lastR L)) ∧ Below w.heap.size w w' := by
  obtain ⟨a, c, rfl, hl, _⟩ := hi
  obtain ⟨X, hX, hwX, hbX⟩ := ro_box w S d r (.slice a L.length c) dv
  have HB := Lib.hid hbX
  have HL := Lib.hid (hl.below hbX)
  unfold RO
  have c3 := hwX.cell 3
  clear hl hwX hbX
  rcases Nat.eq_zero_or_pos L.length with h0 | h0
  · have hz : lastR L = 0 := by rw [List.eq_nil_of_length_eq_zero h0]; rfl
    rw [hz]
    rw [h0] at c3
    have hX' := hX
    rw [h0] at hX' ⊢
    clear hX hz
    go_enter Tryz.func20, Tryz.ntmps20
    go_upto_region 1 with fail
    rw [← hX']
    clear hX'
    go_wp2
    go_ret
    exact ⟨rfl, HB.out⟩
  · obtain ⟨x, hx⟩ : ∃ x, L[L.length - 1]? = some x := ⟨_, List.getElem?_eq_getElem (by omega)⟩
    have hrev := lastR_at hx
    obtain ⟨b, off, rfl, hbl, _⟩ := HL.out.addr h0
    have d4 := HL.out.cell ((mIs_at hx (j := 4) (by decide)).trans rfl)
    obtain ⟨m, hm⟩ : ∃ m, L.length = m + 1 := ⟨L.length - 1, by omega⟩
    rw [hm] at c3 d4 hX hn ⊢
    rw [show m + 1 - 1 = m by omega, ← hrev] at d4
    rw [← Nat.add_assoc] at d4
    generalize lastR L = la at *
    have hme : ((m + 1 : Nat) : Int) = (m : Int) + 1 := by omega
    have e1 : (((m : Int) + 1) == 0) = false := by simp; omega
    have hw1 : IntKind.i64.wrap ((m : Int) + 1 - 1) = (m : Int) := by rw [IntWalk.i64_in _ (by omega)]; omega
    rw [hme] at *
    have hij : (0:Int) ≤ (m:Int) ∧ (m:Int) < (m:Int) + 1 := by omega
    clear hrev hx h0 HL hm hme
    go_enter Tryz.func20, Tryz.ntmps20
    go_upto_region 1 with fail
    rw [← hX]
    clear hX
    go_wp2
    go_ret
    exact ⟨rfl, HB.out⟩
/-- A transaction's revision, or none. -/
def rvd (L : List Iss) (k : Int) : Int := match idx L k with
  | some i => match L[i]? with
    | some x => x.rev
    | none => 0
  | none => 0
theorem rvd_none {L : List Iss} {k : Int} (h : idx L k = none) : rvd L k = 0 := by unfold rvd; rw [h]
theorem rvd_some {L : List Iss} {k : Int} {i : Nat} {x : Iss} (h : idx L k = some i) (hx : L[i]? = some x) : rvd L k = x.rev := by unfold rvd; rw [h]; show (match L[i]? with | some x => x.rev | none => 0) = _; rw [hx]
theorem idx_first {L : List Iss} {k : Int} {i : Nat} {x : Iss} (hx : L[i]? = some x) (hk : x.id = k) (hp : ∀ (j : Nat) (y : Iss), j < i → L[j]? = some y → y.id ≠ k) : idx L k = some i := by
  unfold idx
  obtain ⟨hl, he⟩ := List.getElem?_eq_some_iff.1 hx
  rw [List.findIdx?_eq_some_iff_getElem]
  refine ⟨hl, by rw [he]; simpa using hk, fun j hj => ?_⟩
  have := hp j _ hj (List.getElem?_eq_getElem (by omega))
  simpa using this
theorem idx_all {L : List Iss} {k : Int} (hp : ∀ (j : Nat) (y : Iss), L[j]? = some y → y.id ≠ k) : idx L k = none := by
  refine idx_none fun hm => ?_
  obtain ⟨y, hy, hk⟩ := List.mem_map.1 hm
  obtain ⟨j, hj⟩ := List.getElem?_of_mem hy
  exact hp j y hj hk
set_option maxRecDepth 100000 in
set_option maxHeartbeats 2000000 in
theorem rrev_any (w : World) (S : ByteArray) (d r : Int) (iv dv : Value) (L : List Iss) (k : Int) (hi : RI w L iv) (hn : L.length ≤ 1048576) :
    Calls Tryz.prog 30 #[RO S d r iv dv, .int .i64 k] w fun e w' => e = .returned (.int .i64 (rvd L k)) ∧ Below w.heap.size w w' := by
  obtain ⟨a, c, rfl, hl, _⟩ := hi
  obtain ⟨X, hX, hwX, hbX⟩ := ro_box w S d r (.slice a L.length c) dv
  have HB := Lib.hid hbX
  have HL := Lib.hid (hl.below hbX)
  unfold RO
  have c3 := hwX.cell 3
  have HN := Lib.hid hn
  obtain ⟨n, hnn⟩ : ∃ n, n = L.length := ⟨_, rfl⟩
  rw [← hnn] at c3 hX hn ⊢
  have HNN := Lib.hid hnn
  clear hl hwX hbX hnn
  go_enter Tryz.func30, Tryz.ntmps30
  go_upto_region 1 with fail
  rw [← hX]
  clear hX
  go_wp2_with fail
  go_loop [5] (fun iv => ∃ i : Nat, i ≤ n ∧ iv = .int .i64 (i : Int) ∧ ∀ j y, j < i → L[j]? = some y → y.id ≠ k) (fun iv => n - (intOf iv).toNat)
  case atStart => exact ⟨0, by omega, rfl, fun j y h => by omega⟩
  case round =>
    obtain ⟨i, hin, rfl, hp⟩ := hrel
    have HP := Lib.hid hp
    clear hp
    by_cases hil : i < n
    · obtain ⟨b, off, rfl, hbl, _⟩ := HL.out.addr (by have := HNN.out; omega)
      obtain ⟨x, hx⟩ : ∃ x, L[i]? = some x := ⟨_, List.getElem?_eq_getElem (by have := HNN.out; omega)⟩
      have d3 := HL.out.cell ((mIs_at hx (j := 3) (by decide)).trans rfl)
      have d4 := HL.out.cell ((mIs_at hx (j := 4) (by decide)).trans rfl)
      rw [← Nat.add_assoc] at d3 d4
      have hij : (0:Int) ≤ (i:Int) ∧ (i:Int) < (n:Int) := by omega
      have HX := Lib.hid hx
      clear hx
      by_cases hk : x.id = k
      · have HR := Lib.hid (rvd_some (idx_first HX.out hk HP.out) HX.out)
        have e1 : (x.id == k) = true := by simpa using hk
        clear hk
        go_wp2
        go_ret
        exact ⟨by rw [HR.out]; rfl, HB.out⟩
      · have e1 : (x.id == k) = false := by simpa using hk
        have HNX := Lib.hid (show ∀ j y, j < i + 1 → L[j]? = some y → y.id ≠ k from fun j y hj hy => by
          rcases Nat.lt_or_ge j i with h | h
          · exact HP.out j y h hy
          · have : j = i := by omega
            subst this
            rw [HX.out] at hy
            injection hy with hy
            rw [← hy]
            exact hk)
        clear hk
        go_wp2_with fail
        go_round
        case rel => exact ⟨i + 1, by omega, by go_num, HNX.out⟩
        case measure => simp [intOf]; omega
    · have HR := Lib.hid (rvd_none (idx_all (L := L) (k := k) fun j y hy => HP.out j y (by have := (List.getElem?_eq_some_iff.1 hy).1; have := HNN.out; omega) hy))
      go_wp2
      go_ret
      exact ⟨by rw [HR.out]; rfl, HB.out⟩
set_option maxRecDepth 100000 in
set_option maxHeartbeats 2000000 in
theorem risdone_any (w : World) (S : ByteArray) (d r : Int) (iv dv : Value) (M : List Int) (k : Int) (hi : RJ w M dv) (hn : M.length ≤ 1048576) :
    Calls Tryz.prog 32 #[RO S d r iv dv, .int .i64 k] w fun e w' => e = .returned (.bool (decide (k ∈ M))) ∧ Below w.heap.size w w' := by
  obtain ⟨a, c, rfl, hl, _⟩ := hi
  obtain ⟨X, hX, hwX, hbX⟩ := ro_box w S d r iv (.slice a M.length c)
  have HB := Lib.hid hbX
  have HL := Lib.hid (hl.below hbX)
  unfold RO
  have c4 := hwX.cell 4
  obtain ⟨n, hnn⟩ : ∃ n, n = M.length := ⟨_, rfl⟩
  rw [← hnn] at c4 hX hn ⊢
  have HNN := Lib.hid hnn
  clear hl hwX hbX hnn
  go_enter Tryz.func32, Tryz.ntmps32
  go_upto_region 1 with fail
  rw [← hX]
  clear hX
  go_wp2_with fail
  go_loop [5] (fun iv => ∃ i : Nat, i ≤ n ∧ iv = .int .i64 (i : Int) ∧ k ∉ M.take i) (fun iv => n - (intOf iv).toNat)
  case atStart => exact ⟨0, by omega, rfl, by simp⟩
  case round =>
    obtain ⟨i, hin, rfl, hp⟩ := hrel
    have HP := Lib.hid hp
    clear hp
    by_cases hil : i < n
    · obtain ⟨b, off, rfl, hbl, _⟩ := HL.out.addr (by have := HNN.out; omega)
      obtain ⟨x, hx⟩ : ∃ x, M[i]? = some x := ⟨_, List.getElem?_eq_getElem (by have := HNN.out; omega)⟩
      have d0 := HL.out.cell (j := i) (u := .int .i64 x) (by rw [List.getElem?_map, hx]; rfl)
      have hij : (0:Int) ≤ (i:Int) ∧ (i:Int) < (n:Int) := by omega
      have HX := Lib.hid hx
      clear hx
      by_cases hk : x = k
      · have HR := Lib.hid (show decide (k ∈ M) = true by simp; rw [← hk]; exact List.mem_of_getElem? HX.out)
        have e1 : (x == k) = true := by simpa using hk
        clear hk
        go_wp2
        go_ret
        exact ⟨by rw [HR.out]; rfl, HB.out⟩
      · have e1 : (x == k) = false := by simpa using hk
        have HNX := Lib.hid (show k ∉ M.take (i + 1) by
          rw [List.take_add_one, HX.out]
          simp only [Option.toList_some, List.mem_append, List.mem_singleton, not_or]
          exact ⟨HP.out, fun h => hk h.symm⟩)
        clear hk
        go_wp2_with fail
        go_round
        case rel => exact ⟨i + 1, by omega, by go_num, HNX.out⟩
        case measure => simp [intOf]; omega
    · have HR := Lib.hid (show decide (k ∈ M) = false by
        have h := HP.out
        rw [List.take_of_length_le (by have := HNN.out; omega)] at h
        simpa using h)
      go_wp2
      go_ret
      exact ⟨by rw [HR.out]; rfl, HB.out⟩
end Go.Proofs.YteodldmbnghfcaaGreat.Rl

namespace Go.Proofs.YteodldmbnghfcaaGreat.Rl
open Go.RowKit

abbrev Box5 (V : World) (xb : Nat) (S : ByteArray) (d r : Int) (iv dv : Value) : Prop := V.cell? ⟨xb, 0, none⟩ = some (.string S) ∧ V.cell? ⟨xb, 1, none⟩ = some (.int .i64 d) ∧ V.cell? ⟨xb, 2, none⟩ = some (.int .i64 r) ∧ V.cell? ⟨xb, 3, none⟩ = some iv ∧ V.cell? ⟨xb, 4, none⟩ = some dv
def KP (wr V : World) (xb b : Nat) : Prop := Below wr.heap.size wr V ∧ xb < V.heap.size ∧ b < V.heap.size
theorem kp_rj {w wr V : World} {xb b : Nat} {M : List Int} {dv : Value} (hj : RJ w M dv) (h0 : Below w.heap.size w wr) (h : KP wr V xb b) : RJ V M dv := hj.below (h0.trans (h.1.mono h0.size))
abbrev HP5 (wr V : World) (xb b o : Nat) (S : ByteArray) (d r : Int) (iv dv : Value) (id : Int) : Prop := Box5 V xb S d r iv dv ∧ V.cell? ⟨b, o, none⟩ = some (.int .i64 id) ∧ KP wr V xb b
theorem box5_keep {V V' : World} {xb : Nat} {S : ByteArray} {d r : Int} {iv dv : Value} (h : Box5 V xb S d r iv dv) (hl : xb < V.heap.size) (hb : Below V.heap.size V V') : Box5 V' xb S d r iv dv := by
  obtain ⟨h0, h1, h2, h3, h4⟩ := h
  exact ⟨(hb.cell (p := ⟨xb, 0, none⟩) hl).trans h0, (hb.cell (p := ⟨xb, 1, none⟩) hl).trans h1, (hb.cell (p := ⟨xb, 2, none⟩) hl).trans h2, (hb.cell (p := ⟨xb, 3, none⟩) hl).trans h3, (hb.cell (p := ⟨xb, 4, none⟩) hl).trans h4⟩
theorem hp5_keep {wr V V' : World} {xb b o : Nat} {S : ByteArray} {d r : Int} {iv dv : Value} {id : Int} (h : HP5 wr V xb b o S d r iv dv id) (hb : Below V.heap.size V V') : HP5 wr V' xb b o S d r iv dv id :=
  ⟨box5_keep h.1 h.2.2.2.1 hb, (hb.cell (p := ⟨b, o, none⟩) h.2.2.2.2).trans h.2.1, h.2.2.1.trans (hb.mono h.2.2.1.size), Nat.lt_of_lt_of_le h.2.2.2.1 hb.size, Nat.lt_of_lt_of_le h.2.2.2.2 hb.size⟩
theorem box5_of {V : World} {xb : Nat} {S : ByteArray} {d r : Int} {iv dv : Value} (h : Whole V xb 36 #[.string S, .int .i64 d, .int .i64 r, iv, dv]) : Box5 V xb S d r iv dv := ⟨h.cell 0, h.cell 1, h.cell 2, h.cell 3, h.cell 4⟩
set_option maxRecDepth 100000 in
set_option maxHeartbeats 4000000 in
theorem rpend_any (w : World) (S : ByteArray) (d r : Int) (iv dv : Value) (L : List Iss) (M : List Int) (hi : RI w L iv) (hj : RJ w M dv) (hn : L.length ≤ 1048576) (hm : M.length ≤ 1048576) (hR : Rise L) (hd : ∀ x ∈ L, (x.done = true ↔ x.id ∈ M)) :
    Calls Tryz.prog 25 #[RO S d r iv dv] w fun e w' => ∃ a c, e = .returned (.slice a (pend L).length c) ∧ AllAt w' w.heap.size (.slice a (pend L).length c) (pend L) ∧ Below w.heap.size w w' := by
  obtain ⟨i0, hi0, hz0, hz1, hz2⟩ := info_parts Tryz.infoG
  obtain ⟨a, c, rfl, hl, _⟩ := hi
  obtain ⟨X, hX, hwX, hbX⟩ := ro_box w S d r (.slice a L.length c) dv
  have HWX := Lib.hid hwX
  have HB := Lib.hid hbX
  have HL := Lib.hid hl
  have HJ := Lib.hid hj
  have HM := Lib.hid hm
  have HD := Lib.hid hd
  have HRI := Lib.hid hR
  unfold RO
  obtain ⟨n, hnn⟩ : ∃ n, n = L.length := ⟨_, rfl⟩
  rw [← hnn] at hX hn HWX ⊢
  have HNN := Lib.hid hnn
  clear hl hwX hbX hnn hj hm hd hR
  go_enter Tryz.func25, Tryz.ntmps25
  go_upto_region 1 with fail
  rw [← hX]
  clear hX
  have HS0 := Lib.hid (StG.nil w X HB.out)
  go_wp2_with fail
  go_loopw [3, 4] (fun av iv wr => ∃ (i : Nat) (ra : Option Addr) (rc : Nat), i ≤ n ∧ iv = .int .i64 i ∧ av = .slice ra (pend (L.take i)).length rc ∧ StG w wr (L.take i) (.slice ra (pend (L.take i)).length rc) ∧ Whole wr w.heap.size 36 #[.string S, .int .i64 d, .int .i64 r, .slice a n c, dv]) (fun _ iv _ => n - (intOf iv).toNat)
  case atStart => exact ⟨0, none, 0, by omega, rfl, rfl, HS0.out, HWX.out⟩
  case round =>
    obtain ⟨i, ra, rc, hin, rfl, rfl, hst, hwb⟩ := hrel
    have HST := Lib.hid hst
    have HWB := Lib.hid hwb
    clear hst hwb
    have HB5 := Lib.hid (box5_of HWB.out)
    obtain ⟨c0, c1, c2, c3, c4⟩ := HB5.out
    have hpl : (pend (L.take i)).length ≤ 1048576 := by have := pend_le (L.take i); have h1 := List.length_take_le i L; have := HNN.out; omega
    by_cases hil : i < n
    · obtain ⟨b, off, rfl, hbl, _⟩ := HL.out.addr (by have := HNN.out; omega)
      obtain ⟨x, hx⟩ : ∃ x, L[i]? = some x := ⟨_, List.getElem?_eq_getElem (by have := HNN.out; omega)⟩
      have hbl2 : b < wr.heap.size := Nat.lt_of_lt_of_le hbl HST.out.2.size
      have d0 := (HST.out.2.cell (p := ⟨b, _, none⟩) hbl).trans (HL.out.cell ((mIs_at hx (j := 0) (by decide)).trans rfl))
      have d1 := (HST.out.2.cell (p := ⟨b, _, none⟩) hbl).trans (HL.out.cell ((mIs_at hx (j := 1) (by decide)).trans rfl))
      have d2 := (HST.out.2.cell (p := ⟨b, _, none⟩) hbl).trans (HL.out.cell ((mIs_at hx (j := 2) (by decide)).trans rfl))
      have d3 := (HST.out.2.cell (p := ⟨b, _, none⟩) hbl).trans (HL.out.cell ((mIs_at hx (j := 3) (by decide)).trans rfl))
      have d4 := (HST.out.2.cell (p := ⟨b, _, none⟩) hbl).trans (HL.out.cell ((mIs_at hx (j := 4) (by decide)).trans rfl))
      have d5 := (HST.out.2.cell (p := ⟨b, _, none⟩) hbl).trans (HL.out.cell ((mIs_at hx (j := 5) (by decide)).trans rfl))
      have d6 := (HST.out.2.cell (p := ⟨b, _, none⟩) hbl).trans (HL.out.cell ((mIs_at hx (j := 6) (by decide)).trans rfl))
      have d7 := (HST.out.2.cell (p := ⟨b, _, none⟩) hbl).trans (HL.out.cell ((mIs_at hx (j := 7) (by decide)).trans rfl))
      have d8 := (HST.out.2.cell (p := ⟨b, _, none⟩) hbl).trans (HL.out.cell ((mIs_at hx (j := 8) (by decide)).trans rfl))
      have d9 := (HST.out.2.cell (p := ⟨b, _, none⟩) hbl).trans (HL.out.cell ((mIs_at hx (j := 9) (by decide)).trans rfl))
      have d10 := (HST.out.2.cell (p := ⟨b, _, none⟩) hbl).trans (HL.out.cell ((mIs_at hx (j := 10) (by decide)).trans rfl))
      have d11 := (HST.out.2.cell (p := ⟨b, _, none⟩) hbl).trans (HL.out.cell ((mIs_at hx (j := 11) (by decide)).trans rfl))
      rw [← Nat.add_assoc] at d0 d1 d2 d3 d4 d5 d6 d7 d8 d9 d10 d11
      rw [Nat.add_zero] at d0
      have hij : (0:Int) ≤ (i:Int) ∧ (i:Int) < (n:Int) := by omega
      have HXX := Lib.hid (take_succ_snoc hx)
      have HPS := Lib.hid (pend_snoc (L.take i) x)
      have HDN := Lib.hid (HD.out x (List.mem_of_getElem? hx))
      have hr := HRI.out.rng x (List.mem_of_getElem? hx)
      have hp := HRI.out.pos x (List.mem_of_getElem? hx)
      have HMI := Lib.hid (fun W => od_in W (show Go.Proofs.YteodldmbnghfcaaGreat.InI 1 by unfold Go.Proofs.YteodldmbnghfcaaGreat.InI; omega) hr.2 hr.1 (show Go.Proofs.YteodldmbnghfcaaGreat.InI x.rev by unfold Go.Proofs.YteodldmbnghfcaaGreat.InI; omega))
      have HIN := Lib.hid (show HP5 wr wr w.heap.size b (off + i * 12 + 3) S d r (.slice (some ⟨b, off, none⟩) n c) dv x.id from ⟨HB5.out, d3, Below.refl _ _, HWB.out.lt, hbl2⟩)
      have hid := fun V (h : KP wr V w.heap.size b) => risdone_any V S d r (.slice (some ⟨b, off, none⟩) n c) dv M x.id (kp_rj HJ.out HST.out.2 h) HM.out
      unfold RO at hid
      have HIDN := Lib.hid hid
      clear hx hr hp hid
      go_wp2_with fail
      go_region_held3 (fun V => HP5 wr V w.heap.size b (off + i * 12 + 3) S d r (.slice (some ⟨b, off, none⟩) n c) dv x.id) (first
          | exact hp5_keep HIN.out (below_drewN _ 1)
          | assumption
          | exact hp5_keep (by assumption) (by assumption)) (first
        | (go_at_call 32; (with_reducible refine (HIDN.out _ (And.right (And.right (by assumption)))).mono ?_); rintro e w' ⟨rfl, hbn⟩))
      obtain ⟨⟨e0, e1, e2, e3, e4⟩, _, hkp⟩ := (show HP5 wr w' w.heap.size b (off + i * 12 + 3) S d r (.slice (some ⟨b, off, none⟩) n c) dv x.id by assumption)
      have hbw := hkp.1
      have g0 := (hbw.cell (p := ⟨b, _, none⟩) hbl2).trans d0
      have g1 := (hbw.cell (p := ⟨b, _, none⟩) hbl2).trans d1
      have g2 := (hbw.cell (p := ⟨b, _, none⟩) hbl2).trans d2
      have g3 := (hbw.cell (p := ⟨b, _, none⟩) hbl2).trans d3
      have g4 := (hbw.cell (p := ⟨b, _, none⟩) hbl2).trans d4
      have g5 := (hbw.cell (p := ⟨b, _, none⟩) hbl2).trans d5
      have g6 := (hbw.cell (p := ⟨b, _, none⟩) hbl2).trans d6
      have g7 := (hbw.cell (p := ⟨b, _, none⟩) hbl2).trans d7
      have g8 := (hbw.cell (p := ⟨b, _, none⟩) hbl2).trans d8
      have g9 := (hbw.cell (p := ⟨b, _, none⟩) hbl2).trans d9
      have g10 := (hbw.cell (p := ⟨b, _, none⟩) hbl2).trans d10
      have g11 := (hbw.cell (p := ⟨b, _, none⟩) hbl2).trans d11
      have HX2 := Lib.hid (show StG w w' (L.take i) (.slice ra (pend (L.take i)).length rc) from ⟨HST.out.1.below hbw HST.out.2.size, HST.out.2.trans (hbw.mono HST.out.2.size)⟩)
      have HW2 := Lib.hid (HWB.out.kept (hbw.block _ HWB.out.lt))
      clear hkp hbw d0 d1 d2 d3 d4 d5 d6 d7 d8 d9 d10 d11 c0 c1 c2 c3 c4
      cases hdn : x.done
      · have HMF := Lib.hid (show decide (x.id ∈ M) = false by
          simp only [decide_eq_false_iff_not]
          intro h
          rw [HDN.out.2 h] at hdn
          cases hdn)
        rw [HMF.out]
        have hps := HPS.out
        rw [hdn] at hps
        simp only [Bool.false_eq_true, if_false] at hps
        have HPS2 := Lib.hid hps
        obtain ⟨ss, hss, hrow, hall⟩ := HX2.out.1
        have HROW := Lib.hid hrow
        have HSZ := Lib.hid HX2.out.2.size
        clear hdn hss hrow hall hps
        go_wp2_with (at_builtin; refine wpList_append_at_any _ rfl _ _ 33 rfl w.heap.size 43 i0 (.agg MsgZ) 12 160 Tryz.underlying33 hi0 hz0 hz1 hz2 rfl (by decide) _ (pend (L.take i)).length _ rfl (HROW.out.alloc _) (some ⟨w'.heap.size, 0, none⟩) 1 1 [.int .i64 1, .int .i64 x.fr, .int .i64 0, .int .i64 x.id, .int .i64 x.rev, .int .i64 0, .int .i64 0, .bool false, .slice none 0 0, .slice none 0 0, .slice none 0 0, .slice none 0 0] rfl rfl (by intro h; cases h) (by rintro ad he; injection he with he; subst he; exact cells_new _ [.int .i64 1, .int .i64 x.fr, .int .i64 0, .int .i64 x.id, .int .i64 x.rev, .int .i64 0, .int .i64 0, .bool false, .slice none 0 0, .slice none 0 0, .slice none 0 0, .slice none 0 0] _) (one12 x) (by unfold maxLen; omega) (by omega) (by have := HSZ.out; simp; omega) ?_; intro v2 w5 hown5 hgrow5 hat5)
        have hbe := below_alloc w' (.cells #[.int .i64 1, .int .i64 x.fr, .int .i64 0, .int .i64 x.id, .int .i64 x.rev, .int .i64 0, .int .i64 0, .bool false, .slice none 0 0, .slice none 0 0, .slice none 0 0, .slice none 0 0] 43)
        have hA5 := (HX2.out.1.below hbe HSZ.out).step (w' := w5) (v' := v2) (m := oD 1 x.fr x.id x.rev) (s := (.slice none 0 0, .slice none 0 0, .slice none 0 0, .slice none 0 0)) (Nat.le_trans HSZ.out hbe.size) (MsgB.below (B := w.heap.size) (HMI.out w) (HX2.out.2.trans (hbe.mono HSZ.out))) (fun l hl => by rw [row_one hl (HROW.out.alloc _)]; exact hown5) hgrow5
        have hW5 : Whole w5 w.heap.size 36 #[.string S, .int .i64 d, .int .i64 r, .slice (some ⟨b, off, none⟩) n c, dv] := by
          have h1 := HW2.out.kept (hbe.block _ HW2.out.lt)
          refine h1.kept (hgrow5.block _ h1.lt (fun e => ?_))
          obtain ⟨_, cur, hW⟩ := owned_block (HROW.out.alloc (.cells #[.int .i64 1, .int .i64 x.fr, .int .i64 0, .int .i64 x.id, .int .i64 x.rev, .int .i64 0, .int .i64 0, .bool false, .slice none 0 0, .slice none 0 0, .slice none 0 0, .slice none 0 0] 43)) e.symm
          exact whole_ne h1 hW (by decide) rfl
        obtain ⟨ra5, rc5, rfl, _, _⟩ := owned_some hown5
        have hEQ : pend (L.take (i + 1)) = pend (L.take i) ++ [oD 1 x.fr x.id x.rev] := by rw [HXX.out, HPS2.out]
        have hl5 : (pend (L.take i)).length + 1 = (pend (L.take (i + 1))).length := by rw [hEQ]; simp
        rw [← hEQ, hl5] at hA5
        have HS5 := Lib.hid (show StG w w5 (L.take (i + 1)) (.slice ra5 (pend (L.take (i + 1))).length rc5) from ⟨hA5.1, (HX2.out.2.trans (hbe.mono HSZ.out)).trans hA5.2⟩)
        have HW5 := Lib.hid hW5
        rw [hl5]
        clear hown5 hgrow5 hat5 hbe hA5 hEQ hl5 hW5 HPS
        exact ⟨⟨i + 1, ra5, rc5, by omega, by go_num, rfl, HS5.out, HW5.out⟩, by simp [intOf]; omega⟩
      · have HMF := Lib.hid (show decide (x.id ∈ M) = true by
          simp only [decide_eq_true_eq]
          exact HDN.out.1 hdn)
        rw [HMF.out]
        have hps := HPS.out
        rw [hdn] at hps
        simp only [if_true, List.append_nil] at hps
        have hEQ : pend (L.take (i + 1)) = pend (L.take i) := by rw [HXX.out, hps]
        have HS5 := Lib.hid (show StG w w' (L.take (i + 1)) (.slice ra (pend (L.take (i + 1))).length rc) from by unfold StG; rw [hEQ]; exact HX2.out)
        have HEQ := Lib.hid hEQ
        clear hdn hEQ HPS hps
        go_wp2_with fail
        exact ⟨⟨i + 1, ra, rc, by omega, by go_num, by rw [HEQ.out], HS5.out, HW2.out⟩, by simp [intOf]; omega⟩
    · obtain rfl : i = n := by omega
      have HE := Lib.hid (show L.take i = L by rw [HNN.out, List.take_length])
      go_wp2
      go_ret
      have := HST.out
      rw [HE.out] at this
      exact ⟨ra, rc, by rw [HE.out]; rfl, this.1, this.2⟩
theorem pend_head {L : List Iss} (h : pend L ≠ []) : ∃ x, L[leadN L]? = some x ∧ (pend L)[0]? = some (oD 1 x.fr x.id x.rev) := by
  induction L with
  | nil => exact absurd rfl h
  | cons y L ih =>
    cases hd : y.done with
    | false =>
      refine ⟨y, ?_, ?_⟩
      · unfold leadN
        rw [hd]
        rfl
      · unfold pend
        rw [List.filter_cons]
        simp [hd]
    | true =>
      have e : pend (y :: L) = pend L := by unfold pend; rw [List.filter_cons]; simp [hd]
      rw [e] at h ⊢
      obtain ⟨x, h1, h2⟩ := ih h
      refine ⟨x, ?_, h2⟩
      unfold leadN
      rw [hd]
      simpa using h1
theorem pend_none {L : List Iss} (h : pend L = []) : leadN L = L.length := by
  induction L with
  | nil => rfl
  | cons y L ih =>
    cases hd : y.done with
    | false =>
      unfold pend at h
      rw [List.filter_cons] at h
      simp [hd] at h
    | true =>
      have e : pend (y :: L) = pend L := by unfold pend; rw [List.filter_cons]; simp [hd]
      rw [e] at h
      unfold leadN
      rw [hd]
      simp [ih h]
set_option maxRecDepth 100000 in
set_option maxHeartbeats 4000000 in
theorem rclosed_any (w : World) (S : ByteArray) (d r : Int) (iv dv : Value) (L : List Iss) (M : List Int) (hi : RI w L iv) (hj : RJ w M dv) (hn : L.length ≤ 1048576) (hm : M.length ≤ 1048576) (hR : Rise L) (hd : ∀ x ∈ L, (x.done = true ↔ x.id ∈ M)) :
    Calls Tryz.prog 22 #[RO S d r iv dv] w fun e w' => e = .returned (.int .i64 (closedR L)) ∧ Below w.heap.size w w' := by
  obtain ⟨X, hX, hwX, hbX⟩ := ro_box w S d r iv dv
  have HB := Lib.hid hbX
  have HB5 := box5_of hwX
  obtain ⟨c0, c1, c2, c3, c4⟩ := HB5
  have HPE := Lib.hid (rpend_any X S d r iv dv L M (hi.below hbX) (hj.below hbX) hn hm hR hd)
  have HLA := Lib.hid (fun W (hb : Below X.heap.size X W) => rlast_any W S d r iv dv L ((hi.below hbX).below hb) hn)
  have HWX := Lib.hid hwX
  have HR := Lib.hid hR
  have hpl := pend_le L
  have HPN := Lib.hid (@pend_none L)
  have HPH := Lib.hid (@pend_head L)
  have hlr := hR.last_rng
  clear hwX hbX hi hj hm hd hR
  unfold RO at HPE HLA ⊢
  go_enter Tryz.func22, Tryz.ntmps22
  go_upto_region 1 with fail
  rw [← hX]
  clear hX
  go_wp2_with fail
  refine HPE.out.mono ?_
  rintro e w1 ⟨a, c, rfl, hall, hb1⟩
  have HB1 := Lib.hid hb1
  have HW1 := Lib.hid (HWX.out.kept (hb1.block _ HWX.out.lt))
  have HMS := Lib.hid (hall.msgs hb1.size)
  clear hall hb1 c0 c1 c2 c3 c4
  have e0 := HW1.out.cell 0
  have e1 := HW1.out.cell 1
  have e2 := HW1.out.cell 2
  have e3 := HW1.out.cell 3
  have e4 := HW1.out.cell 4
  obtain ⟨n, hnn⟩ : ∃ n, n = (pend L).length := ⟨_, rfl⟩
  rw [← hnn] at HMS hpl ⊢
  have HNN := Lib.hid hnn
  clear hnn
  rcases Nat.eq_zero_or_pos n with h0 | h0
  · have HC := Lib.hid (closedR_end (HPN.out (List.eq_nil_of_length_eq_zero (by have := HNN.out; omega))))
    have e5 : decide ((n : Int) > 0) = false := by simp; omega
    go_wp2_with fail
    refine (HLA.out w1 HB1.out).mono ?_
    rintro e w2 ⟨rfl, hb2⟩
    have HB2 := Lib.hid (bell_up (bell_up HB.out HB1.out) hb2)
    clear hb2
    go_wp2
    go_ret
    exact ⟨by rw [HC.out]; rfl, HB2.out⟩
  · obtain ⟨x, hx, hpx⟩ := HPH.out (by intro h; have := HNN.out; rw [h] at this; simp at this; omega)
    have HC := Lib.hid (closedR_at hx)
    have hp := HR.out.pos x (List.mem_of_getElem? hx)
    obtain ⟨b, off, rfl, hbl, hcc⟩ := HMS.out.2.resolve_left (by omega)
    obtain ⟨s8, s9, s10, s11, hbx, _⟩ := hcc 0 _ hpx
    have k4 := hbx.2.2.2.2.1
    rw [show off + 0 * 12 + 4 = off + 4 by omega] at k4
    have e5 : decide ((n : Int) > 0) = true := by simp; omega
    have hw1 : IntKind.i64.wrap (x.rev - 1) = x.rev - 1 := IntWalk.i64_in _ (by omega)
    have HBF := Lib.hid (bell_up HB.out HB1.out)
    have hij : (0:Int) < (n:Int) := by omega
    have k4' : w1.cell? ⟨b, off + 4, none⟩ = some (.int .i64 x.rev) := k4
    clear hcc hbx k4 hx hpx
    go_wp2
    go_ret
    exact ⟨by rw [HC.out]; rfl, HBF.out⟩
end Go.Proofs.YteodldmbnghfcaaGreat.Rl

namespace Go.Proofs.YteodldmbnghfcaaGreat.Rl
open Go.RowKit

theorem Tryz.infoI64 : (Tryz.prog.info? 2).map (fun i => (i.zero, i.size, i.bytes)) = some (some (.int .i64 0), 1, 8) := by kernel_rfl
theorem info_of2 {o : Option TypeInfo} {z : Value} {s b : Nat} (h : o.map (fun i => (i.zero, i.size, i.bytes)) = some (some z, s, b)) : ∃ i, o = some i ∧ i.zero = some z ∧ i.size = s ∧ i.bytes = b := by
  cases o with
  | none => cases h
  | some i =>
    simp only [Option.map_some, Option.some.injEq, Prod.mk.injEq] at h
    exact ⟨i, rfl, h.1, h.2.1, h.2.2⟩
theorem empty_msgs (w : World) : (Instr.buildSlice 33 0 #[]).run Tryz.prog w = .ok (.slice (some ⟨w.heap.size, 0, none⟩) 0 0) (w.alloc (.cells #[] 43)) := by
  obtain ⟨i0, hi0, hz0, hz1, hz2⟩ := info_of2 Tryz.infoG
  simp [Instr.buildSlice, run_underlying Tryz.underlying33, sizeOf, typeInfo, hi0, Instr.fill, newRow]
  rw [Array.eq_empty_of_size_eq_zero (show (Array.map (fun _ => default) (Array.range 0) : Array Value).size = 0 by simp)]
theorem empty_longs (w : World) : (Instr.buildSlice 34 0 #[]).run Tryz.prog w = .ok (.slice (some ⟨w.heap.size, 0, none⟩) 0 0) (w.alloc (.cells #[] 2)) := by
  obtain ⟨i0, hi0, hz0, hz1, hz2⟩ := info_of2 Tryz.infoI64
  simp [Instr.buildSlice, run_underlying Tryz.underlying34, sizeOf, typeInfo, hi0, Instr.fill, newRow]
  rw [Array.eq_empty_of_size_eq_zero (show (Array.map (fun _ => default) (Array.range 0) : Array Value).size = 0 by simp)]
theorem empty_own (w : World) (t : TypeId) (k : Nat) : (w.alloc (.cells #[] t)).ownsRow w.heap.size t k (.slice (some ⟨w.heap.size, 0, none⟩) 0 0) 0 [] :=
  ⟨by simp, .inr ⟨w.heap.size, 0, #[], rfl, Nat.le_refl _, heap_alloc_new w (.cells #[] t), Nat.le_refl _, by simp [maxLen], by simp, by simp⟩⟩
theorem Lies.chg {w w' : World} {T : TypeId} {k B n c : Nat} {a : Option Addr} {cs : List Value} {Q : Nat → Prop} (h : Lies w T k B a n c cs) (hc : Chg w w' Q) (hq : ∀ j, Q j → j < B) : Lies w' T k B a n c cs :=
  h.keep hc.size (fun ad ha => by
    obtain ⟨_, h2, h3, _⟩ := h.at_ ad ha
    exact hc.block _ h2 (fun hp => by have := hq _ hp; omega))
def MB3 (V : World) (yb : Nat) (m : MsgD) : Prop := V.cell? ⟨yb, 0, none⟩ = some (.int .i64 m.kind) ∧ V.cell? ⟨yb, 1, none⟩ = some (.int .i64 m.from_) ∧ V.cell? ⟨yb, 3, none⟩ = some (.int .i64 m.id) ∧ V.cell? ⟨yb, 4, none⟩ = some (.int .i64 m.rev)
abbrev HR8 (Z V : World) (xb yb : Nat) (S : ByteArray) (d r : Int) (iv dv : Value) (m : MsgD) : Prop := Box5 V xb S d r iv dv ∧ (V.cell? ⟨yb, 0, none⟩ = some (.int .i64 m.kind) ∧ V.cell? ⟨yb, 1, none⟩ = some (.int .i64 m.from_) ∧ V.cell? ⟨yb, 3, none⟩ = some (.int .i64 m.id) ∧ V.cell? ⟨yb, 4, none⟩ = some (.int .i64 m.rev)) ∧ KP Z V xb yb
theorem hr8_keep {Z V V' : World} {xb yb : Nat} {S : ByteArray} {d r : Int} {iv dv : Value} {m : MsgD} (h : HR8 Z V xb yb S d r iv dv m) (hb : Below V.heap.size V V') : HR8 Z V' xb yb S d r iv dv m :=
  ⟨box5_keep h.1 h.2.2.2.1 hb, ⟨(hb.cell (p := ⟨yb, 0, none⟩) h.2.2.2.2).trans h.2.1.1, (hb.cell (p := ⟨yb, 1, none⟩) h.2.2.2.2).trans h.2.1.2.1, (hb.cell (p := ⟨yb, 3, none⟩) h.2.2.2.2).trans h.2.1.2.2.1, (hb.cell (p := ⟨yb, 4, none⟩) h.2.2.2.2).trans h.2.1.2.2.2⟩, h.2.2.1.trans (hb.mono h.2.2.1.size), Nat.lt_of_lt_of_le h.2.2.2.1 hb.size, Nat.lt_of_lt_of_le h.2.2.2.2 hb.size⟩
theorem rvd_zero {L : List Iss} (hR : Rise L) {k : Int} : rvd L k = 0 ↔ idx L k = none := by
  constructor
  · intro h
    cases hi : idx L k with
    | none => rfl
    | some i =>
      have hm : k ∈ L.map (·.id) := by
        by_cases hn : k ∈ L.map (·.id)
        · exact hn
        · rw [idx_none hn] at hi; cases hi
      obtain ⟨j, x, h1, h2, _⟩ := idx_some hm
      rw [rvd_some h1 h2] at h
      have := (hR.pos x (List.mem_of_getElem? h2)).1
      omega
  · exact rvd_none
theorem res_one {P : Program} {fn : Func} {p : Tmp} {ty : TypeId} (h : fn.results = #[.cell p ty]) (tmps : Array Value) (w : World) (g : Nat) (t : TypeId) (cs : Array Value) (d : TypeDesc)
    (hp : tmps.getD p undef = .pointer (some ⟨g, 0, none⟩)) (hg : Whole w g t cs)
    (hu : P.underlying ty = some d) (hd : (match d with | .struct _ | .array _ _ => true | _ => false) = true) (hi : (P.info? ty).map (·.size) = some cs.size) :
    (results fn tmps).run P w = .ok (.agg cs) w := by
  have hp' : tmps[p]?.getD undef = .pointer (some ⟨g, 0, none⟩) := by simpa using hp
  simp [results, h, hp', asAddr, run_loadVar_row w g t ty cs (0, 0) d hg hu hd hi]
set_option maxRecDepth 100000 in
set_option maxHeartbeats 8000000 in
theorem rreplay_same (w : World) (V : Value) (m : MsgD) (S : ByteArray) (d r : Int) (iv dv : Value) (L : List Iss) (M : List Int) (hm : MsgIn w V m) (hi : RI w L iv) (hj : RJ w M dv) (hn : L.length ≤ 1048576) (hmn : M.length ≤ 1048576) (hR : Rise L) (h1 : ¬ (m.kind = 1 ∧ idx L m.id = none ∧ lastR L < m.rev)) (h2 : ¬ (m.kind = 2 ∧ idx L m.id ≠ none ∧ m.id ∉ M)) :
    Calls Tryz.prog 28 #[RO S d r iv dv, V] w fun e w' => e = .returned (RO S d r iv dv) ∧ Below w.heap.size w w' := by
  obtain ⟨ia, ic, rfl, hl0⟩ := hi
  have hi : RI w L (.slice ia L.length ic) := ⟨ia, ic, rfl, hl0⟩
  obtain ⟨ja, jc, rfl, hm0⟩ := hj
  have hj : RJ w M (.slice ja M.length jc) := ⟨ja, jc, rfl, hm0⟩
  clear hl0 hm0
  obtain ⟨iv, hiv⟩ : ∃ iv, iv = Value.slice ia L.length ic := ⟨_, rfl⟩
  obtain ⟨dv, hdv⟩ : ∃ dv, dv = Value.slice ja M.length jc := ⟨_, rfl⟩
  have HIV := Lib.hid hiv
  have HDV := Lib.hid hdv
  rw [← hiv] at hi ⊢
  rw [← hdv] at hj ⊢
  clear hiv hdv
  obtain ⟨na, ma, pa, qa, nn, nc, mn, mc, pn, pc, rn, qc, hm⟩ := hm
  have hv := hm.val
  subst hv
  obtain ⟨X, hX, hwX, hbX⟩ := ro_box w S d r iv dv
  obtain ⟨Y, hY, hwY, hbY⟩ := box_new X 43 #[.int .i64 m.kind, .int .i64 m.from_, .int .i64 m.«to», .int .i64 m.id, .int .i64 m.rev, .int .i64 m.epoch, .int .i64 m.slot, .bool m.flag, .slice na nn nc, .slice ma mn mc, .slice pa pn pc, .slice qa rn qc]
  obtain ⟨Z, hZ, hwZ, hbZ⟩ := ro_box Y ⟨#[]⟩ 0 0 (.slice none 0 0) (.slice none 0 0)
  have hsX : X.heap.size = w.heap.size + 1 := by rw [hX]; exact Array.size_push _
  have hsY : Y.heap.size = w.heap.size + 1 + 1 := by rw [hY, ← hsX]; exact Array.size_push _
  rw [hsX] at hwY
  rw [hsY] at hwZ
  have hbXZ := bell_up hbX (bell_up hbY hbZ)
  have HBZ := Lib.hid hbXZ
  have HXZ := Lib.hid ((hwX.kept (hbY.block _ hwX.lt)).kept (hbZ.block _ (Nat.lt_of_lt_of_le hwX.lt hbY.size)))
  have HYZ := Lib.hid (hwY.kept (hbZ.block _ hwY.lt))
  have HZZ := Lib.hid hwZ
  have HI := Lib.hid (hi.below hbXZ)
  have HJ := Lib.hid (hj.below hbXZ)
  have HR := Lib.hid hR
  have HN := Lib.hid hn
  have HM := Lib.hid hmn
  have hla := fun V (h : KP Z V w.heap.size (w.heap.size + 1)) => rlast_any V S d r iv dv L (HI.out.below h.1) HN.out
  have hrv := fun V (h : KP Z V w.heap.size (w.heap.size + 1)) => rrev_any V S d r iv dv L m.id (HI.out.below h.1) HN.out
  have hid := fun V (h : KP Z V w.heap.size (w.heap.size + 1)) => risdone_any V S d r iv dv M m.id (HJ.out.below h.1) HM.out
  have HK0 := Lib.hid (show HR8 Z Z w.heap.size (w.heap.size + 1) S d r iv dv m from ⟨box5_of HXZ.out, ⟨HYZ.out.cell 0, HYZ.out.cell 1, HYZ.out.cell 3, HYZ.out.cell 4⟩, Below.refl _ _, HXZ.out.lt, HYZ.out.lt⟩)
  unfold RO at hla hrv hid ⊢
  have HLA := Lib.hid hla
  have HRV := Lib.hid hrv
  have HDN := Lib.hid hid
  clear hi hj hR hn hmn hla hrv hid hwX hwY hwZ hbX hbY hbZ hbXZ hm hsX hsY
  go_enter Tryz.func28, Tryz.ntmps28
  go_upto_region 1 with fail
  rw [← hX, ← hY, ← hZ]
  clear hX hY hZ
  by_cases hk1 : m.kind = 1
  · have e1 : (m.kind == 1) = true := by simpa using hk1
    have e2 : (m.kind == 2) = false := by simp; omega
    by_cases hlt : lastR L < m.rev
    · skip
      have hne : ¬ idx L m.id = none := fun h => h1 ⟨hk1, h, hlt⟩
      have e3 : (rvd L m.id == 0) = false := by simp; exact fun h => hne ((rvd_zero HR.out).1 h)
      have hgt : m.rev > lastR L := hlt
      clear h1 h2 hk1 hne
      refine wp_region_held_drew (S := fun V => HR8 Z V w.heap.size (w.heap.size + 1) S d r iv dv m) (by kernel_rfl) (hr8_keep HK0.out (below_drewN _ 1)) (fun hHeld => ?_)
      refine wpAnyH_take (i := 0) (oi := { dst := Option.some 7, op := Go.Op.fieldAddr 43 (Go.Operand.tmp 3) 0, type := 0, pos := "ref.go:58", after := #[], guard := Option.none }) (v := ?_) rfl (by kernel_rfl) (by kernel_rfl) (by kernel_rfl) (fun _ _ _ h => h) (Or.inl ⟨by rfl, ?_⟩) (by assumption) ?_
      rotate_left
      · intro w hSw; (try dsimp only at hSw); go_simp; all_goals (with_reducible rfl)
      try simp only [Act.put, List.setIfInBounds_toArray, List.set_cons_zero, List.set_cons_succ]
      refine wpAnyH_take (i := 1) (oi := { dst := Option.some 8, op := Go.Op.load 3 (Go.Operand.tmp 7), type := 3, pos := "ref.go:58", after := #[{ on := 0, ground := Go.Ground.data }], guard := Option.none }) (v := ?_) rfl (by kernel_rfl) (by kernel_rfl) (by kernel_rfl) (fun _ _ _ h => h) (Or.inl ⟨by rfl, ?_⟩) (by assumption) ?_
      rotate_left
      · intro w hSw; (try dsimp only at hSw); go_simp; all_goals (with_reducible rfl)
      try simp only [Act.put, List.setIfInBounds_toArray, List.set_cons_zero, List.set_cons_succ]
      refine wpAnyH_take (i := 2) (oi := { dst := Option.some 9, op := Go.Op.binOp Go.BinOp.eql 3 (Go.Operand.tmp 8) (Go.Operand.const (Go.Value.int Go.IntKind.i64 1)) 3, type := 4, pos := "ref.go:58", after := #[{ on := 1, ground := Go.Ground.data }], guard := Option.none }) (v := ?_) rfl (by kernel_rfl) (by kernel_rfl) (by kernel_rfl) (fun _ _ _ h => h) (Or.inl ⟨by rfl, ?_⟩) (by assumption) ?_
      rotate_left
      · intro w hSw; (try dsimp only at hSw); go_simp; all_goals (with_reducible rfl)
      try simp only [Act.put, List.setIfInBounds_toArray, List.set_cons_zero, List.set_cons_succ]
      refine wpAnyH_take (i := 3) (oi := { dst := Option.some 10, op := Go.Op.move (Go.Operand.tmp 9), type := 4, pos := "ref.go:58", after := #[{ on := 2, ground := Go.Ground.data }], guard := Option.none }) (v := ?_) rfl (by kernel_rfl) (by kernel_rfl) (by kernel_rfl) (fun _ _ _ h => h) (Or.inl ⟨by rfl, ?_⟩) (by assumption) ?_
      rotate_left
      · intro w hSw; (try dsimp only at hSw); go_simp; all_goals (with_reducible rfl)
      try simp only [Act.put, List.setIfInBounds_toArray, List.set_cons_zero, List.set_cons_succ]
      refine wpAnyH_take (i := 4) (oi := { dst := Option.some 11, op := Go.Op.fieldAddr 43 (Go.Operand.tmp 3) 4, type := 0, pos := "ref.go:58", after := #[{ on := 3, ground := Go.Ground.guard }], guard := Option.some (3, Bool.true) }) (v := ?_) rfl (by kernel_rfl) (by kernel_rfl) (by kernel_rfl) (fun _ _ _ h => h) (Or.inl ⟨by rfl, ?_⟩) (by assumption) ?_
      rotate_left
      · intro w hSw; (try dsimp only at hSw); go_simp; all_goals (with_reducible rfl)
      try simp only [Act.put, List.setIfInBounds_toArray, List.set_cons_zero, List.set_cons_succ]
      refine wpAnyH_take (i := 5) (oi := { dst := Option.some 12, op := Go.Op.load 2 (Go.Operand.tmp 11), type := 2, pos := "ref.go:58", after := #[{ on := 4, ground := Go.Ground.data }, { on := 3, ground := Go.Ground.guard }], guard := Option.some (3, Bool.true) }) (v := ?_) rfl (by kernel_rfl) (by kernel_rfl) (by kernel_rfl) (fun _ _ _ h => h) (Or.inl ⟨by rfl, ?_⟩) (by assumption) ?_
      rotate_left
      · intro w hSw; (try dsimp only at hSw); go_simp; all_goals (with_reducible rfl)
      try simp only [Act.put, List.setIfInBounds_toArray, List.set_cons_zero, List.set_cons_succ]
      refine wpAnyH_take (i := 6) (oi := { dst := Option.some 13, op := Go.Op.load 36 (Go.Operand.tmp 2), type := 36, pos := "ref.go:58", after := #[{ on := 3, ground := Go.Ground.guard }], guard := Option.some (3, Bool.true) }) (v := ?_) rfl (by kernel_rfl) (by kernel_rfl) (by kernel_rfl) (fun _ _ _ h => h) (Or.inl ⟨by rfl, ?_⟩) (by assumption) ?_
      rotate_left
      · intro w hSw; (try dsimp only at hSw); go_simp; all_goals (with_reducible rfl)
      try simp only [Act.put, List.setIfInBounds_toArray, List.set_cons_zero, List.set_cons_succ]
      refine wpAnyH_ready (rs := [7]) (by kernel_rfl) (by simp) ?_
      refine AllReadyH.cons (o := { dst := Option.some 14, op := Go.Op.call { callee := Go.Callee.value (Go.Operand.func 20), args := #[Go.Operand.tmp 13], argTypes := #[36] }, type := 2, pos := "ref.go:58", after := #[{ on := 6, ground := Go.Ground.data }, { on := 3, ground := Go.Ground.chain }, { on := 3, ground := Go.Ground.guard }], guard := Option.some (3, Bool.true) }) rfl (fun K hK => ?_) AllReadyH.nil
      go_simp
      refine (HLA.out _ hHeld.2.2).mono ?_
      rintro e w1 ⟨rfl, hb1⟩
      have hH1 := Lib.hid (hr8_keep hHeld hb1)
      clear hHeld hb1
      go_wp2_with fail
      refine hK.out _ _ (hH1.out) (fun hHeld => ?_)
      clear hK K
      try simp only [Act.put, List.setIfInBounds_toArray, List.set_cons_zero, List.set_cons_succ]
      refine wpAnyH_take (i := 8) (oi := { dst := Option.some 15, op := Go.Op.binOp Go.BinOp.gtr 2 (Go.Operand.tmp 12) (Go.Operand.tmp 14) 2, type := 4, pos := "ref.go:58", after := #[{ on := 5, ground := Go.Ground.data }, { on := 7, ground := Go.Ground.data }, { on := 3, ground := Go.Ground.guard }], guard := Option.some (3, Bool.true) }) (v := ?_) rfl (by kernel_rfl) (by kernel_rfl) (by kernel_rfl) (fun _ _ _ h => h) (Or.inl ⟨by rfl, ?_⟩) (by assumption) ?_
      rotate_left
      · intro w hSw; (try dsimp only at hSw); go_simp; all_goals (with_reducible rfl)
      try simp only [Act.put, List.setIfInBounds_toArray, List.set_cons_zero, List.set_cons_succ]
      refine wpAnyH_take (i := 9) (oi := { dst := Option.some 16, op := Go.Op.pick (Go.Operand.tmp 10) (Go.Operand.tmp 15) (Go.Operand.const (Go.Value.bool Bool.false)), type := 4, pos := "ref.go:58", after := #[{ on := 3, ground := Go.Ground.data }, { on := 8, ground := Go.Ground.data }], guard := Option.none }) (v := ?_) rfl (by kernel_rfl) (by kernel_rfl) (by kernel_rfl) (fun _ _ _ h => h) (Or.inl ⟨by rfl, ?_⟩) (by assumption) ?_
      rotate_left
      · intro w hSw; (try dsimp only at hSw); go_simp; all_goals (with_reducible rfl)
      try simp only [Act.put, List.setIfInBounds_toArray, List.set_cons_zero, List.set_cons_succ]
      refine wpAnyH_take (i := 10) (oi := { dst := Option.some 17, op := Go.Op.move (Go.Operand.tmp 16), type := 4, pos := "ref.go:58", after := #[{ on := 9, ground := Go.Ground.data }, { on := 7, ground := Go.Ground.chain }], guard := Option.none }) (v := ?_) rfl (by kernel_rfl) (by kernel_rfl) (by kernel_rfl) (fun _ _ _ h => h) (Or.inl ⟨by rfl, ?_⟩) (by assumption) ?_
      rotate_left
      · intro w hSw; (try dsimp only at hSw); go_simp; all_goals (with_reducible rfl)
      try simp only [Act.put, List.setIfInBounds_toArray, List.set_cons_zero, List.set_cons_succ]
      refine wpAnyH_take (i := 11) (oi := { dst := Option.some 18, op := Go.Op.load 36 (Go.Operand.tmp 2), type := 36, pos := "ref.go:58", after := #[{ on := 10, ground := Go.Ground.guard }], guard := Option.some (10, Bool.true) }) (v := ?_) rfl (by kernel_rfl) (by kernel_rfl) (by kernel_rfl) (fun _ _ _ h => h) (Or.inl ⟨by rfl, ?_⟩) (by assumption) ?_
      rotate_left
      · intro w hSw; (try dsimp only at hSw); go_simp; all_goals (with_reducible rfl)
      try simp only [Act.put, List.setIfInBounds_toArray, List.set_cons_zero, List.set_cons_succ]
      refine wpAnyH_take (i := 12) (oi := { dst := Option.some 19, op := Go.Op.fieldAddr 43 (Go.Operand.tmp 3) 3, type := 0, pos := "ref.go:58", after := #[{ on := 10, ground := Go.Ground.guard }], guard := Option.some (10, Bool.true) }) (v := ?_) rfl (by kernel_rfl) (by kernel_rfl) (by kernel_rfl) (fun _ _ _ h => h) (Or.inl ⟨by rfl, ?_⟩) (by assumption) ?_
      rotate_left
      · intro w hSw; (try dsimp only at hSw); go_simp; all_goals (with_reducible rfl)
      try simp only [Act.put, List.setIfInBounds_toArray, List.set_cons_zero, List.set_cons_succ]
      refine wpAnyH_take (i := 13) (oi := { dst := Option.some 20, op := Go.Op.load 2 (Go.Operand.tmp 19), type := 2, pos := "ref.go:58", after := #[{ on := 12, ground := Go.Ground.data }, { on := 10, ground := Go.Ground.guard }], guard := Option.some (10, Bool.true) }) (v := ?_) rfl (by kernel_rfl) (by kernel_rfl) (by kernel_rfl) (fun _ _ _ h => h) (Or.inl ⟨by rfl, ?_⟩) (by assumption) ?_
      rotate_left
      · intro w hSw; (try dsimp only at hSw); go_simp; all_goals (with_reducible rfl)
      try simp only [Act.put, List.setIfInBounds_toArray, List.set_cons_zero, List.set_cons_succ]
      refine wpAnyH_ready (rs := [14]) (by kernel_rfl) (by simp) ?_
      refine AllReadyH.cons (o := { dst := Option.some 21, op := Go.Op.call { callee := Go.Callee.value (Go.Operand.func 30), args := #[Go.Operand.tmp 18, Go.Operand.tmp 20], argTypes := #[36, 2] }, type := 2, pos := "ref.go:58", after := #[{ on := 11, ground := Go.Ground.data }, { on := 13, ground := Go.Ground.data }, { on := 10, ground := Go.Ground.chain }, { on := 10, ground := Go.Ground.guard }], guard := Option.some (10, Bool.true) }) rfl (fun K hK => ?_) AllReadyH.nil
      go_simp
      refine (HRV.out _ hHeld.2.2).mono ?_
      rintro e w2 ⟨rfl, hb2⟩
      have hH2 := Lib.hid (hr8_keep hHeld hb2)
      clear hHeld hb2
      go_wp2_with fail
      refine hK.out _ _ (hH2.out) (fun hHeld => ?_)
      clear hK K
      try simp only [Act.put, List.setIfInBounds_toArray, List.set_cons_zero, List.set_cons_succ]
      refine wpAnyH_take (i := 15) (oi := { dst := Option.some 22, op := Go.Op.binOp Go.BinOp.eql 2 (Go.Operand.tmp 21) (Go.Operand.const (Go.Value.int Go.IntKind.i64 0)) 2, type := 4, pos := "ref.go:58", after := #[{ on := 14, ground := Go.Ground.data }, { on := 10, ground := Go.Ground.guard }], guard := Option.some (10, Bool.true) }) (v := ?_) rfl (by kernel_rfl) (by kernel_rfl) (by kernel_rfl) (fun _ _ _ h => h) (Or.inl ⟨by rfl, ?_⟩) (by assumption) ?_
      rotate_left
      · intro w hSw; (try dsimp only at hSw); go_simp; all_goals (with_reducible rfl)
      try simp only [Act.put, List.setIfInBounds_toArray, List.set_cons_zero, List.set_cons_succ]
      refine wpAnyH_take (i := 16) (oi := { dst := Option.some 23, op := Go.Op.pick (Go.Operand.tmp 17) (Go.Operand.tmp 22) (Go.Operand.const (Go.Value.bool Bool.false)), type := 4, pos := "ref.go:58", after := #[{ on := 10, ground := Go.Ground.data }, { on := 15, ground := Go.Ground.data }], guard := Option.none }) (v := ?_) rfl (by kernel_rfl) (by kernel_rfl) (by kernel_rfl) (fun _ _ _ h => h) (Or.inl ⟨by rfl, ?_⟩) (by assumption) ?_
      rotate_left
      · intro w hSw; (try dsimp only at hSw); go_simp; all_goals (with_reducible rfl)
      try simp only [Act.put, List.setIfInBounds_toArray, List.set_cons_zero, List.set_cons_succ]
      refine wpAnyH_done (by kernel_rfl) ?_ _
      have HH := Lib.hid hHeld
      clear hHeld
      have HQ := HH
      clear HH
      obtain ⟨k0, k1, k3, k4⟩ := HQ.out.2.1
      have HBX := Lib.hid HQ.out.1
      have HZW := Lib.hid (HZZ.out.kept (HQ.out.2.2.1.block _ HZZ.out.lt))
      have HBL := Lib.hid (bell_up HBZ.out HQ.out.2.2.1)
      rw [HIV.out, HDV.out] at HBX ⊢
      generalize w2 = wz at *
      obtain ⟨x0, x1, x2, x3, x4⟩ := HBX.out
      have f0 := HZW.out.free 0
      have f1 := HZW.out.free 1
      have f2 := HZW.out.free 2
      have f3 := HZW.out.free 3
      have f4 := HZW.out.free 4
      have z0 := HZW.out.cell 0
      have z1 := HZW.out.cell 1
      have z2 := HZW.out.cell 2
      have z3 := HZW.out.cell 3
      have z4 := HZW.out.cell 4
      have HF := Lib.hid (show Whole (((((wz.setCell ⟨w.heap.size + 1 + 1, 0, none⟩ (.string S)).setCell ⟨w.heap.size + 1 + 1, 1, none⟩ (.int .i64 d)).setCell ⟨w.heap.size + 1 + 1, 2, none⟩ (.int .i64 r)).setCell ⟨w.heap.size + 1 + 1, 3, none⟩ (.slice ia L.length ic)).setCell ⟨w.heap.size + 1 + 1, 4, none⟩ (.slice ja M.length jc)) (w.heap.size + 1 + 1) 36 #[.string S, .int .i64 d, .int .i64 r, .slice ia L.length ic, .slice ja M.length jc] from ((((HZW.out.store 0 _).store 1 _).store 2 _).store 3 _).store 4 _)
      have HCF := Lib.hid (show Chg wz (((((wz.setCell ⟨w.heap.size + 1 + 1, 0, none⟩ (.string S)).setCell ⟨w.heap.size + 1 + 1, 1, none⟩ (.int .i64 d)).setCell ⟨w.heap.size + 1 + 1, 2, none⟩ (.int .i64 r)).setCell ⟨w.heap.size + 1 + 1, 3, none⟩ (.slice ia L.length ic)).setCell ⟨w.heap.size + 1 + 1, 4, none⟩ (.slice ja M.length jc)) (fun k => k = w.heap.size + 1 + 1) from (((((Chg.refl wz (fun k => k = w.heap.size + 1 + 1)).set rfl 0 _).set rfl 1 _).set rfl 2 _).set rfl 3 _).set rfl 4 _)
      go_wp2_with fail
      refine bodyPost_ret (v := .agg #[.string S, .int .i64 d, .int .i64 r, .slice ia L.length ic, .slice ja M.length jc]) (res_one Tryz.results28 _ _ (w.heap.size + 1 + 1) 36 #[.string S, .int .i64 d, .int .i64 r, .slice ia L.length ic, .slice ja M.length jc] _ rfl HF.out Tryz.underlying36 rfl (by kernel_rfl)) rfl ⟨by rw [HIV.out, HDV.out], (Chg.trans (Chg.ofBelow (fun k => k = w.heap.size + 1 + 1) HBL.out) HCF.out).below (fun k hk => by have h3 : k = w.heap.size + 1 + 1 := hk; omega) (Nat.le_refl _)⟩
    · skip
      have e3 : decide (m.rev > lastR L) = false := by simp; omega
      have hgt : ¬ m.rev > lastR L := hlt
      clear h1 h2 hk1
      refine wp_region_held_drew (S := fun V => HR8 Z V w.heap.size (w.heap.size + 1) S d r iv dv m) (by kernel_rfl) (hr8_keep HK0.out (below_drewN _ 1)) (fun hHeld => ?_)
      refine wpAnyH_take (i := 0) (oi := { dst := Option.some 7, op := Go.Op.fieldAddr 43 (Go.Operand.tmp 3) 0, type := 0, pos := "ref.go:58", after := #[], guard := Option.none }) (v := ?_) rfl (by kernel_rfl) (by kernel_rfl) (by kernel_rfl) (fun _ _ _ h => h) (Or.inl ⟨by rfl, ?_⟩) (by assumption) ?_
      rotate_left
      · intro w hSw; (try dsimp only at hSw); go_simp; all_goals (with_reducible rfl)
      try simp only [Act.put, List.setIfInBounds_toArray, List.set_cons_zero, List.set_cons_succ]
      refine wpAnyH_take (i := 1) (oi := { dst := Option.some 8, op := Go.Op.load 3 (Go.Operand.tmp 7), type := 3, pos := "ref.go:58", after := #[{ on := 0, ground := Go.Ground.data }], guard := Option.none }) (v := ?_) rfl (by kernel_rfl) (by kernel_rfl) (by kernel_rfl) (fun _ _ _ h => h) (Or.inl ⟨by rfl, ?_⟩) (by assumption) ?_
      rotate_left
      · intro w hSw; (try dsimp only at hSw); go_simp; all_goals (with_reducible rfl)
      try simp only [Act.put, List.setIfInBounds_toArray, List.set_cons_zero, List.set_cons_succ]
      refine wpAnyH_take (i := 2) (oi := { dst := Option.some 9, op := Go.Op.binOp Go.BinOp.eql 3 (Go.Operand.tmp 8) (Go.Operand.const (Go.Value.int Go.IntKind.i64 1)) 3, type := 4, pos := "ref.go:58", after := #[{ on := 1, ground := Go.Ground.data }], guard := Option.none }) (v := ?_) rfl (by kernel_rfl) (by kernel_rfl) (by kernel_rfl) (fun _ _ _ h => h) (Or.inl ⟨by rfl, ?_⟩) (by assumption) ?_
      rotate_left
      · intro w hSw; (try dsimp only at hSw); go_simp; all_goals (with_reducible rfl)
      try simp only [Act.put, List.setIfInBounds_toArray, List.set_cons_zero, List.set_cons_succ]
      refine wpAnyH_take (i := 3) (oi := { dst := Option.some 10, op := Go.Op.move (Go.Operand.tmp 9), type := 4, pos := "ref.go:58", after := #[{ on := 2, ground := Go.Ground.data }], guard := Option.none }) (v := ?_) rfl (by kernel_rfl) (by kernel_rfl) (by kernel_rfl) (fun _ _ _ h => h) (Or.inl ⟨by rfl, ?_⟩) (by assumption) ?_
      rotate_left
      · intro w hSw; (try dsimp only at hSw); go_simp; all_goals (with_reducible rfl)
      try simp only [Act.put, List.setIfInBounds_toArray, List.set_cons_zero, List.set_cons_succ]
      refine wpAnyH_take (i := 4) (oi := { dst := Option.some 11, op := Go.Op.fieldAddr 43 (Go.Operand.tmp 3) 4, type := 0, pos := "ref.go:58", after := #[{ on := 3, ground := Go.Ground.guard }], guard := Option.some (3, Bool.true) }) (v := ?_) rfl (by kernel_rfl) (by kernel_rfl) (by kernel_rfl) (fun _ _ _ h => h) (Or.inl ⟨by rfl, ?_⟩) (by assumption) ?_
      rotate_left
      · intro w hSw; (try dsimp only at hSw); go_simp; all_goals (with_reducible rfl)
      try simp only [Act.put, List.setIfInBounds_toArray, List.set_cons_zero, List.set_cons_succ]
      refine wpAnyH_take (i := 5) (oi := { dst := Option.some 12, op := Go.Op.load 2 (Go.Operand.tmp 11), type := 2, pos := "ref.go:58", after := #[{ on := 4, ground := Go.Ground.data }, { on := 3, ground := Go.Ground.guard }], guard := Option.some (3, Bool.true) }) (v := ?_) rfl (by kernel_rfl) (by kernel_rfl) (by kernel_rfl) (fun _ _ _ h => h) (Or.inl ⟨by rfl, ?_⟩) (by assumption) ?_
      rotate_left
      · intro w hSw; (try dsimp only at hSw); go_simp; all_goals (with_reducible rfl)
      try simp only [Act.put, List.setIfInBounds_toArray, List.set_cons_zero, List.set_cons_succ]
      refine wpAnyH_take (i := 6) (oi := { dst := Option.some 13, op := Go.Op.load 36 (Go.Operand.tmp 2), type := 36, pos := "ref.go:58", after := #[{ on := 3, ground := Go.Ground.guard }], guard := Option.some (3, Bool.true) }) (v := ?_) rfl (by kernel_rfl) (by kernel_rfl) (by kernel_rfl) (fun _ _ _ h => h) (Or.inl ⟨by rfl, ?_⟩) (by assumption) ?_
      rotate_left
      · intro w hSw; (try dsimp only at hSw); go_simp; all_goals (with_reducible rfl)
      try simp only [Act.put, List.setIfInBounds_toArray, List.set_cons_zero, List.set_cons_succ]
      refine wpAnyH_ready (rs := [7]) (by kernel_rfl) (by simp) ?_
      refine AllReadyH.cons (o := { dst := Option.some 14, op := Go.Op.call { callee := Go.Callee.value (Go.Operand.func 20), args := #[Go.Operand.tmp 13], argTypes := #[36] }, type := 2, pos := "ref.go:58", after := #[{ on := 6, ground := Go.Ground.data }, { on := 3, ground := Go.Ground.chain }, { on := 3, ground := Go.Ground.guard }], guard := Option.some (3, Bool.true) }) rfl (fun K hK => ?_) AllReadyH.nil
      go_simp
      refine (HLA.out _ hHeld.2.2).mono ?_
      rintro e w1 ⟨rfl, hb1⟩
      have hH1 := Lib.hid (hr8_keep hHeld hb1)
      clear hHeld hb1
      go_wp2_with fail
      refine hK.out _ _ (hH1.out) (fun hHeld => ?_)
      clear hK K
      try simp only [Act.put, List.setIfInBounds_toArray, List.set_cons_zero, List.set_cons_succ]
      refine wpAnyH_take (i := 8) (oi := { dst := Option.some 15, op := Go.Op.binOp Go.BinOp.gtr 2 (Go.Operand.tmp 12) (Go.Operand.tmp 14) 2, type := 4, pos := "ref.go:58", after := #[{ on := 5, ground := Go.Ground.data }, { on := 7, ground := Go.Ground.data }, { on := 3, ground := Go.Ground.guard }], guard := Option.some (3, Bool.true) }) (v := ?_) rfl (by kernel_rfl) (by kernel_rfl) (by kernel_rfl) (fun _ _ _ h => h) (Or.inl ⟨by rfl, ?_⟩) (by assumption) ?_
      rotate_left
      · intro w hSw; (try dsimp only at hSw); go_simp; all_goals (with_reducible rfl)
      try simp only [Act.put, List.setIfInBounds_toArray, List.set_cons_zero, List.set_cons_succ]
      refine wpAnyH_take (i := 9) (oi := { dst := Option.some 16, op := Go.Op.pick (Go.Operand.tmp 10) (Go.Operand.tmp 15) (Go.Operand.const (Go.Value.bool Bool.false)), type := 4, pos := "ref.go:58", after := #[{ on := 3, ground := Go.Ground.data }, { on := 8, ground := Go.Ground.data }], guard := Option.none }) (v := ?_) rfl (by kernel_rfl) (by kernel_rfl) (by kernel_rfl) (fun _ _ _ h => h) (Or.inl ⟨by rfl, ?_⟩) (by assumption) ?_
      rotate_left
      · intro w hSw; (try dsimp only at hSw); go_simp; all_goals (with_reducible rfl)
      try simp only [Act.put, List.setIfInBounds_toArray, List.set_cons_zero, List.set_cons_succ]
      refine wpAnyH_take (i := 10) (oi := { dst := Option.some 17, op := Go.Op.move (Go.Operand.tmp 16), type := 4, pos := "ref.go:58", after := #[{ on := 9, ground := Go.Ground.data }, { on := 7, ground := Go.Ground.chain }], guard := Option.none }) (v := ?_) rfl (by kernel_rfl) (by kernel_rfl) (by kernel_rfl) (fun _ _ _ h => h) (Or.inl ⟨by rfl, ?_⟩) (by assumption) ?_
      rotate_left
      · intro w hSw; (try dsimp only at hSw); go_simp; all_goals (with_reducible rfl)
      try simp only [Act.put, List.setIfInBounds_toArray, List.set_cons_zero, List.set_cons_succ]
      refine wpAnyH_take (i := 11) (oi := { dst := Option.some 18, op := Go.Op.load 36 (Go.Operand.tmp 2), type := 36, pos := "ref.go:58", after := #[{ on := 10, ground := Go.Ground.guard }], guard := Option.some (10, Bool.true) }) (v := undef) rfl (by kernel_rfl) (by kernel_rfl) (by kernel_rfl) (fun _ _ _ h => h) (Or.inr ⟨by rfl, rfl⟩) (by assumption) ?_
      try simp only [Act.put, List.setIfInBounds_toArray, List.set_cons_zero, List.set_cons_succ]
      refine wpAnyH_take (i := 12) (oi := { dst := Option.some 19, op := Go.Op.fieldAddr 43 (Go.Operand.tmp 3) 3, type := 0, pos := "ref.go:58", after := #[{ on := 10, ground := Go.Ground.guard }], guard := Option.some (10, Bool.true) }) (v := undef) rfl (by kernel_rfl) (by kernel_rfl) (by kernel_rfl) (fun _ _ _ h => h) (Or.inr ⟨by rfl, rfl⟩) (by assumption) ?_
      try simp only [Act.put, List.setIfInBounds_toArray, List.set_cons_zero, List.set_cons_succ]
      refine wpAnyH_take (i := 13) (oi := { dst := Option.some 20, op := Go.Op.load 2 (Go.Operand.tmp 19), type := 2, pos := "ref.go:58", after := #[{ on := 12, ground := Go.Ground.data }, { on := 10, ground := Go.Ground.guard }], guard := Option.some (10, Bool.true) }) (v := undef) rfl (by kernel_rfl) (by kernel_rfl) (by kernel_rfl) (fun _ _ _ h => h) (Or.inr ⟨by rfl, rfl⟩) (by assumption) ?_
      try simp only [Act.put, List.setIfInBounds_toArray, List.set_cons_zero, List.set_cons_succ]
      refine wpAnyH_take (i := 14) (oi := { dst := Option.some 21, op := Go.Op.call { callee := Go.Callee.value (Go.Operand.func 30), args := #[Go.Operand.tmp 18, Go.Operand.tmp 20], argTypes := #[36, 2] }, type := 2, pos := "ref.go:58", after := #[{ on := 11, ground := Go.Ground.data }, { on := 13, ground := Go.Ground.data }, { on := 10, ground := Go.Ground.chain }, { on := 10, ground := Go.Ground.guard }], guard := Option.some (10, Bool.true) }) (v := undef) rfl (by kernel_rfl) (by kernel_rfl) (by kernel_rfl) (fun _ _ _ h => h) (Or.inr ⟨by rfl, rfl⟩) (by assumption) ?_
      try simp only [Act.put, List.setIfInBounds_toArray, List.set_cons_zero, List.set_cons_succ]
      refine wpAnyH_take (i := 15) (oi := { dst := Option.some 22, op := Go.Op.binOp Go.BinOp.eql 2 (Go.Operand.tmp 21) (Go.Operand.const (Go.Value.int Go.IntKind.i64 0)) 2, type := 4, pos := "ref.go:58", after := #[{ on := 14, ground := Go.Ground.data }, { on := 10, ground := Go.Ground.guard }], guard := Option.some (10, Bool.true) }) (v := undef) rfl (by kernel_rfl) (by kernel_rfl) (by kernel_rfl) (fun _ _ _ h => h) (Or.inr ⟨by rfl, rfl⟩) (by assumption) ?_
      try simp only [Act.put, List.setIfInBounds_toArray, List.set_cons_zero, List.set_cons_succ]
      refine wpAnyH_take (i := 16) (oi := { dst := Option.some 23, op := Go.Op.pick (Go.Operand.tmp 17) (Go.Operand.tmp 22) (Go.Operand.const (Go.Value.bool Bool.false)), type := 4, pos := "ref.go:58", after := #[{ on := 10, ground := Go.Ground.data }, { on := 15, ground := Go.Ground.data }], guard := Option.none }) (v := ?_) rfl (by kernel_rfl) (by kernel_rfl) (by kernel_rfl) (fun _ _ _ h => h) (Or.inl ⟨by rfl, ?_⟩) (by assumption) ?_
      rotate_left
      · intro w hSw; (try dsimp only at hSw); go_simp; all_goals (with_reducible rfl)
      try simp only [Act.put, List.setIfInBounds_toArray, List.set_cons_zero, List.set_cons_succ]
      refine wpAnyH_done (by kernel_rfl) ?_ _
      have HH := Lib.hid hHeld
      clear hHeld
      have HQ := HH
      clear HH
      obtain ⟨k0, k1, k3, k4⟩ := HQ.out.2.1
      have HBX := Lib.hid HQ.out.1
      have HZW := Lib.hid (HZZ.out.kept (HQ.out.2.2.1.block _ HZZ.out.lt))
      have HBL := Lib.hid (bell_up HBZ.out HQ.out.2.2.1)
      rw [HIV.out, HDV.out] at HBX ⊢
      generalize w1 = wz at *
      obtain ⟨x0, x1, x2, x3, x4⟩ := HBX.out
      have f0 := HZW.out.free 0
      have f1 := HZW.out.free 1
      have f2 := HZW.out.free 2
      have f3 := HZW.out.free 3
      have f4 := HZW.out.free 4
      have z0 := HZW.out.cell 0
      have z1 := HZW.out.cell 1
      have z2 := HZW.out.cell 2
      have z3 := HZW.out.cell 3
      have z4 := HZW.out.cell 4
      have HF := Lib.hid (show Whole (((((wz.setCell ⟨w.heap.size + 1 + 1, 0, none⟩ (.string S)).setCell ⟨w.heap.size + 1 + 1, 1, none⟩ (.int .i64 d)).setCell ⟨w.heap.size + 1 + 1, 2, none⟩ (.int .i64 r)).setCell ⟨w.heap.size + 1 + 1, 3, none⟩ (.slice ia L.length ic)).setCell ⟨w.heap.size + 1 + 1, 4, none⟩ (.slice ja M.length jc)) (w.heap.size + 1 + 1) 36 #[.string S, .int .i64 d, .int .i64 r, .slice ia L.length ic, .slice ja M.length jc] from ((((HZW.out.store 0 _).store 1 _).store 2 _).store 3 _).store 4 _)
      have HCF := Lib.hid (show Chg wz (((((wz.setCell ⟨w.heap.size + 1 + 1, 0, none⟩ (.string S)).setCell ⟨w.heap.size + 1 + 1, 1, none⟩ (.int .i64 d)).setCell ⟨w.heap.size + 1 + 1, 2, none⟩ (.int .i64 r)).setCell ⟨w.heap.size + 1 + 1, 3, none⟩ (.slice ia L.length ic)).setCell ⟨w.heap.size + 1 + 1, 4, none⟩ (.slice ja M.length jc)) (fun k => k = w.heap.size + 1 + 1) from (((((Chg.refl wz (fun k => k = w.heap.size + 1 + 1)).set rfl 0 _).set rfl 1 _).set rfl 2 _).set rfl 3 _).set rfl 4 _)
      go_wp2_with fail
      refine bodyPost_ret (v := .agg #[.string S, .int .i64 d, .int .i64 r, .slice ia L.length ic, .slice ja M.length jc]) (res_one Tryz.results28 _ _ (w.heap.size + 1 + 1) 36 #[.string S, .int .i64 d, .int .i64 r, .slice ia L.length ic, .slice ja M.length jc] _ rfl HF.out Tryz.underlying36 rfl (by kernel_rfl)) rfl ⟨by rw [HIV.out, HDV.out], (Chg.trans (Chg.ofBelow (fun k => k = w.heap.size + 1 + 1) HBL.out) HCF.out).below (fun k hk => by have h3 : k = w.heap.size + 1 + 1 := hk; omega) (Nat.le_refl _)⟩
  · skip
    have e1 : (m.kind == 1) = false := by simpa using hk1
    refine wp_region_held_drew (S := fun V => HR8 Z V w.heap.size (w.heap.size + 1) S d r iv dv m) (by kernel_rfl) (hr8_keep HK0.out (below_drewN _ 1)) (fun hHeld => ?_)
    refine wpAnyH_take (i := 0) (oi := { dst := Option.some 7, op := Go.Op.fieldAddr 43 (Go.Operand.tmp 3) 0, type := 0, pos := "ref.go:58", after := #[], guard := Option.none }) (v := ?_) rfl (by kernel_rfl) (by kernel_rfl) (by kernel_rfl) (fun _ _ _ h => h) (Or.inl ⟨by rfl, ?_⟩) (by assumption) ?_
    rotate_left
    · intro w hSw; (try dsimp only at hSw); go_simp; all_goals (with_reducible rfl)
    try simp only [Act.put, List.setIfInBounds_toArray, List.set_cons_zero, List.set_cons_succ]
    refine wpAnyH_take (i := 1) (oi := { dst := Option.some 8, op := Go.Op.load 3 (Go.Operand.tmp 7), type := 3, pos := "ref.go:58", after := #[{ on := 0, ground := Go.Ground.data }], guard := Option.none }) (v := ?_) rfl (by kernel_rfl) (by kernel_rfl) (by kernel_rfl) (fun _ _ _ h => h) (Or.inl ⟨by rfl, ?_⟩) (by assumption) ?_
    rotate_left
    · intro w hSw; (try dsimp only at hSw); go_simp; all_goals (with_reducible rfl)
    try simp only [Act.put, List.setIfInBounds_toArray, List.set_cons_zero, List.set_cons_succ]
    refine wpAnyH_take (i := 2) (oi := { dst := Option.some 9, op := Go.Op.binOp Go.BinOp.eql 3 (Go.Operand.tmp 8) (Go.Operand.const (Go.Value.int Go.IntKind.i64 1)) 3, type := 4, pos := "ref.go:58", after := #[{ on := 1, ground := Go.Ground.data }], guard := Option.none }) (v := ?_) rfl (by kernel_rfl) (by kernel_rfl) (by kernel_rfl) (fun _ _ _ h => h) (Or.inl ⟨by rfl, ?_⟩) (by assumption) ?_
    rotate_left
    · intro w hSw; (try dsimp only at hSw); go_simp; all_goals (with_reducible rfl)
    try simp only [Act.put, List.setIfInBounds_toArray, List.set_cons_zero, List.set_cons_succ]
    refine wpAnyH_take (i := 3) (oi := { dst := Option.some 10, op := Go.Op.move (Go.Operand.tmp 9), type := 4, pos := "ref.go:58", after := #[{ on := 2, ground := Go.Ground.data }], guard := Option.none }) (v := ?_) rfl (by kernel_rfl) (by kernel_rfl) (by kernel_rfl) (fun _ _ _ h => h) (Or.inl ⟨by rfl, ?_⟩) (by assumption) ?_
    rotate_left
    · intro w hSw; (try dsimp only at hSw); go_simp; all_goals (with_reducible rfl)
    try simp only [Act.put, List.setIfInBounds_toArray, List.set_cons_zero, List.set_cons_succ]
    refine wpAnyH_take (i := 4) (oi := { dst := Option.some 11, op := Go.Op.fieldAddr 43 (Go.Operand.tmp 3) 4, type := 0, pos := "ref.go:58", after := #[{ on := 3, ground := Go.Ground.guard }], guard := Option.some (3, Bool.true) }) (v := undef) rfl (by kernel_rfl) (by kernel_rfl) (by kernel_rfl) (fun _ _ _ h => h) (Or.inr ⟨by rfl, rfl⟩) (by assumption) ?_
    try simp only [Act.put, List.setIfInBounds_toArray, List.set_cons_zero, List.set_cons_succ]
    refine wpAnyH_take (i := 5) (oi := { dst := Option.some 12, op := Go.Op.load 2 (Go.Operand.tmp 11), type := 2, pos := "ref.go:58", after := #[{ on := 4, ground := Go.Ground.data }, { on := 3, ground := Go.Ground.guard }], guard := Option.some (3, Bool.true) }) (v := undef) rfl (by kernel_rfl) (by kernel_rfl) (by kernel_rfl) (fun _ _ _ h => h) (Or.inr ⟨by rfl, rfl⟩) (by assumption) ?_
    try simp only [Act.put, List.setIfInBounds_toArray, List.set_cons_zero, List.set_cons_succ]
    refine wpAnyH_take (i := 6) (oi := { dst := Option.some 13, op := Go.Op.load 36 (Go.Operand.tmp 2), type := 36, pos := "ref.go:58", after := #[{ on := 3, ground := Go.Ground.guard }], guard := Option.some (3, Bool.true) }) (v := undef) rfl (by kernel_rfl) (by kernel_rfl) (by kernel_rfl) (fun _ _ _ h => h) (Or.inr ⟨by rfl, rfl⟩) (by assumption) ?_
    try simp only [Act.put, List.setIfInBounds_toArray, List.set_cons_zero, List.set_cons_succ]
    refine wpAnyH_take (i := 7) (oi := { dst := Option.some 14, op := Go.Op.call { callee := Go.Callee.value (Go.Operand.func 20), args := #[Go.Operand.tmp 13], argTypes := #[36] }, type := 2, pos := "ref.go:58", after := #[{ on := 6, ground := Go.Ground.data }, { on := 3, ground := Go.Ground.chain }, { on := 3, ground := Go.Ground.guard }], guard := Option.some (3, Bool.true) }) (v := undef) rfl (by kernel_rfl) (by kernel_rfl) (by kernel_rfl) (fun _ _ _ h => h) (Or.inr ⟨by rfl, rfl⟩) (by assumption) ?_
    try simp only [Act.put, List.setIfInBounds_toArray, List.set_cons_zero, List.set_cons_succ]
    refine wpAnyH_take (i := 8) (oi := { dst := Option.some 15, op := Go.Op.binOp Go.BinOp.gtr 2 (Go.Operand.tmp 12) (Go.Operand.tmp 14) 2, type := 4, pos := "ref.go:58", after := #[{ on := 5, ground := Go.Ground.data }, { on := 7, ground := Go.Ground.data }, { on := 3, ground := Go.Ground.guard }], guard := Option.some (3, Bool.true) }) (v := undef) rfl (by kernel_rfl) (by kernel_rfl) (by kernel_rfl) (fun _ _ _ h => h) (Or.inr ⟨by rfl, rfl⟩) (by assumption) ?_
    try simp only [Act.put, List.setIfInBounds_toArray, List.set_cons_zero, List.set_cons_succ]
    refine wpAnyH_take (i := 9) (oi := { dst := Option.some 16, op := Go.Op.pick (Go.Operand.tmp 10) (Go.Operand.tmp 15) (Go.Operand.const (Go.Value.bool Bool.false)), type := 4, pos := "ref.go:58", after := #[{ on := 3, ground := Go.Ground.data }, { on := 8, ground := Go.Ground.data }], guard := Option.none }) (v := ?_) rfl (by kernel_rfl) (by kernel_rfl) (by kernel_rfl) (fun _ _ _ h => h) (Or.inl ⟨by rfl, ?_⟩) (by assumption) ?_
    rotate_left
    · intro w hSw; (try dsimp only at hSw); go_simp; all_goals (with_reducible rfl)
    try simp only [Act.put, List.setIfInBounds_toArray, List.set_cons_zero, List.set_cons_succ]
    refine wpAnyH_take (i := 10) (oi := { dst := Option.some 17, op := Go.Op.move (Go.Operand.tmp 16), type := 4, pos := "ref.go:58", after := #[{ on := 9, ground := Go.Ground.data }, { on := 7, ground := Go.Ground.chain }], guard := Option.none }) (v := ?_) rfl (by kernel_rfl) (by kernel_rfl) (by kernel_rfl) (fun _ _ _ h => h) (Or.inl ⟨by rfl, ?_⟩) (by assumption) ?_
    rotate_left
    · intro w hSw; (try dsimp only at hSw); go_simp; all_goals (with_reducible rfl)
    try simp only [Act.put, List.setIfInBounds_toArray, List.set_cons_zero, List.set_cons_succ]
    refine wpAnyH_take (i := 11) (oi := { dst := Option.some 18, op := Go.Op.load 36 (Go.Operand.tmp 2), type := 36, pos := "ref.go:58", after := #[{ on := 10, ground := Go.Ground.guard }], guard := Option.some (10, Bool.true) }) (v := undef) rfl (by kernel_rfl) (by kernel_rfl) (by kernel_rfl) (fun _ _ _ h => h) (Or.inr ⟨by rfl, rfl⟩) (by assumption) ?_
    try simp only [Act.put, List.setIfInBounds_toArray, List.set_cons_zero, List.set_cons_succ]
    refine wpAnyH_take (i := 12) (oi := { dst := Option.some 19, op := Go.Op.fieldAddr 43 (Go.Operand.tmp 3) 3, type := 0, pos := "ref.go:58", after := #[{ on := 10, ground := Go.Ground.guard }], guard := Option.some (10, Bool.true) }) (v := undef) rfl (by kernel_rfl) (by kernel_rfl) (by kernel_rfl) (fun _ _ _ h => h) (Or.inr ⟨by rfl, rfl⟩) (by assumption) ?_
    try simp only [Act.put, List.setIfInBounds_toArray, List.set_cons_zero, List.set_cons_succ]
    refine wpAnyH_take (i := 13) (oi := { dst := Option.some 20, op := Go.Op.load 2 (Go.Operand.tmp 19), type := 2, pos := "ref.go:58", after := #[{ on := 12, ground := Go.Ground.data }, { on := 10, ground := Go.Ground.guard }], guard := Option.some (10, Bool.true) }) (v := undef) rfl (by kernel_rfl) (by kernel_rfl) (by kernel_rfl) (fun _ _ _ h => h) (Or.inr ⟨by rfl, rfl⟩) (by assumption) ?_
    try simp only [Act.put, List.setIfInBounds_toArray, List.set_cons_zero, List.set_cons_succ]
    refine wpAnyH_take (i := 14) (oi := { dst := Option.some 21, op := Go.Op.call { callee := Go.Callee.value (Go.Operand.func 30), args := #[Go.Operand.tmp 18, Go.Operand.tmp 20], argTypes := #[36, 2] }, type := 2, pos := "ref.go:58", after := #[{ on := 11, ground := Go.Ground.data }, { on := 13, ground := Go.Ground.data }, { on := 10, ground := Go.Ground.chain }, { on := 10, ground := Go.Ground.guard }], guard := Option.some (10, Bool.true) }) (v := undef) rfl (by kernel_rfl) (by kernel_rfl) (by kernel_rfl) (fun _ _ _ h => h) (Or.inr ⟨by rfl, rfl⟩) (by assumption) ?_
    try simp only [Act.put, List.setIfInBounds_toArray, List.set_cons_zero, List.set_cons_succ]
    refine wpAnyH_take (i := 15) (oi := { dst := Option.some 22, op := Go.Op.binOp Go.BinOp.eql 2 (Go.Operand.tmp 21) (Go.Operand.const (Go.Value.int Go.IntKind.i64 0)) 2, type := 4, pos := "ref.go:58", after := #[{ on := 14, ground := Go.Ground.data }, { on := 10, ground := Go.Ground.guard }], guard := Option.some (10, Bool.true) }) (v := undef) rfl (by kernel_rfl) (by kernel_rfl) (by kernel_rfl) (fun _ _ _ h => h) (Or.inr ⟨by rfl, rfl⟩) (by assumption) ?_
    try simp only [Act.put, List.setIfInBounds_toArray, List.set_cons_zero, List.set_cons_succ]
    refine wpAnyH_take (i := 16) (oi := { dst := Option.some 23, op := Go.Op.pick (Go.Operand.tmp 17) (Go.Operand.tmp 22) (Go.Operand.const (Go.Value.bool Bool.false)), type := 4, pos := "ref.go:58", after := #[{ on := 10, ground := Go.Ground.data }, { on := 15, ground := Go.Ground.data }], guard := Option.none }) (v := ?_) rfl (by kernel_rfl) (by kernel_rfl) (by kernel_rfl) (fun _ _ _ h => h) (Or.inl ⟨by rfl, ?_⟩) (by assumption) ?_
    rotate_left
    · intro w hSw; (try dsimp only at hSw); go_simp; all_goals (with_reducible rfl)
    try simp only [Act.put, List.setIfInBounds_toArray, List.set_cons_zero, List.set_cons_succ]
    refine wpAnyH_done (by kernel_rfl) ?_ _
    have HH := Lib.hid hHeld
    clear hHeld
    have HQ := HH
    clear HH h1
    generalize Z.drew = wq at *
    by_cases hk2 : m.kind = 2
    rotate_left
    · skip
      have e2 : (m.kind == 2) = false := by simpa using hk2
      clear h2 hk1 hk2
      obtain ⟨k0, k1, k3, k4⟩ := HQ.out.2.1
      have HBX := Lib.hid HQ.out.1
      have HZW := Lib.hid (HZZ.out.kept (HQ.out.2.2.1.block _ HZZ.out.lt))
      have HBL := Lib.hid (bell_up HBZ.out HQ.out.2.2.1)
      rw [HIV.out, HDV.out] at HBX ⊢
      generalize wq = wz at *
      obtain ⟨x0, x1, x2, x3, x4⟩ := HBX.out
      have f0 := HZW.out.free 0
      have f1 := HZW.out.free 1
      have f2 := HZW.out.free 2
      have f3 := HZW.out.free 3
      have f4 := HZW.out.free 4
      have z0 := HZW.out.cell 0
      have z1 := HZW.out.cell 1
      have z2 := HZW.out.cell 2
      have z3 := HZW.out.cell 3
      have z4 := HZW.out.cell 4
      have HF := Lib.hid (show Whole (((((wz.setCell ⟨w.heap.size + 1 + 1, 0, none⟩ (.string S)).setCell ⟨w.heap.size + 1 + 1, 1, none⟩ (.int .i64 d)).setCell ⟨w.heap.size + 1 + 1, 2, none⟩ (.int .i64 r)).setCell ⟨w.heap.size + 1 + 1, 3, none⟩ (.slice ia L.length ic)).setCell ⟨w.heap.size + 1 + 1, 4, none⟩ (.slice ja M.length jc)) (w.heap.size + 1 + 1) 36 #[.string S, .int .i64 d, .int .i64 r, .slice ia L.length ic, .slice ja M.length jc] from ((((HZW.out.store 0 _).store 1 _).store 2 _).store 3 _).store 4 _)
      have HCF := Lib.hid (show Chg wz (((((wz.setCell ⟨w.heap.size + 1 + 1, 0, none⟩ (.string S)).setCell ⟨w.heap.size + 1 + 1, 1, none⟩ (.int .i64 d)).setCell ⟨w.heap.size + 1 + 1, 2, none⟩ (.int .i64 r)).setCell ⟨w.heap.size + 1 + 1, 3, none⟩ (.slice ia L.length ic)).setCell ⟨w.heap.size + 1 + 1, 4, none⟩ (.slice ja M.length jc)) (fun k => k = w.heap.size + 1 + 1) from (((((Chg.refl wz (fun k => k = w.heap.size + 1 + 1)).set rfl 0 _).set rfl 1 _).set rfl 2 _).set rfl 3 _).set rfl 4 _)
      go_wp2_with fail
      refine bodyPost_ret (v := .agg #[.string S, .int .i64 d, .int .i64 r, .slice ia L.length ic, .slice ja M.length jc]) (res_one Tryz.results28 _ _ (w.heap.size + 1 + 1) 36 #[.string S, .int .i64 d, .int .i64 r, .slice ia L.length ic, .slice ja M.length jc] _ rfl HF.out Tryz.underlying36 rfl (by kernel_rfl)) rfl ⟨by rw [HIV.out, HDV.out], (Chg.trans (Chg.ofBelow (fun k => k = w.heap.size + 1 + 1) HBL.out) HCF.out).below (fun k hk => by have h3 : k = w.heap.size + 1 + 1 := hk; omega) (Nat.le_refl _)⟩
    have e2 : (m.kind == 2) = true := by simpa using hk2
    obtain ⟨⟨c0, c1, c2, c3, c4⟩, ⟨k0, k1, k3, k4⟩, _⟩ := HQ.out
    have HRV1 := Lib.hid (HRV.out wq HQ.out.2.2)
    go_wp2_with fail
    refine HRV1.out.mono ?_
    rintro e w3 ⟨rfl, hb3⟩
    have HQ3 := Lib.hid (hr8_keep HQ.out hb3)
    clear hb3 c0 c1 c2 c3 c4 k0 k1 k3 k4 HRV1
    by_cases hin : idx L m.id = none
    · skip
      have e3 : (rvd L m.id != 0) = false := by simp; exact (rvd_zero HR.out).2 hin
      have HQ := HQ3
      clear h2 hk1 hk2 hin
      obtain ⟨k0, k1, k3, k4⟩ := HQ.out.2.1
      have HBX := Lib.hid HQ.out.1
      have HZW := Lib.hid (HZZ.out.kept (HQ.out.2.2.1.block _ HZZ.out.lt))
      have HBL := Lib.hid (bell_up HBZ.out HQ.out.2.2.1)
      rw [HIV.out, HDV.out] at HBX ⊢
      generalize w3 = wz at *
      obtain ⟨x0, x1, x2, x3, x4⟩ := HBX.out
      have f0 := HZW.out.free 0
      have f1 := HZW.out.free 1
      have f2 := HZW.out.free 2
      have f3 := HZW.out.free 3
      have f4 := HZW.out.free 4
      have z0 := HZW.out.cell 0
      have z1 := HZW.out.cell 1
      have z2 := HZW.out.cell 2
      have z3 := HZW.out.cell 3
      have z4 := HZW.out.cell 4
      have HF := Lib.hid (show Whole (((((wz.setCell ⟨w.heap.size + 1 + 1, 0, none⟩ (.string S)).setCell ⟨w.heap.size + 1 + 1, 1, none⟩ (.int .i64 d)).setCell ⟨w.heap.size + 1 + 1, 2, none⟩ (.int .i64 r)).setCell ⟨w.heap.size + 1 + 1, 3, none⟩ (.slice ia L.length ic)).setCell ⟨w.heap.size + 1 + 1, 4, none⟩ (.slice ja M.length jc)) (w.heap.size + 1 + 1) 36 #[.string S, .int .i64 d, .int .i64 r, .slice ia L.length ic, .slice ja M.length jc] from ((((HZW.out.store 0 _).store 1 _).store 2 _).store 3 _).store 4 _)
      have HCF := Lib.hid (show Chg wz (((((wz.setCell ⟨w.heap.size + 1 + 1, 0, none⟩ (.string S)).setCell ⟨w.heap.size + 1 + 1, 1, none⟩ (.int .i64 d)).setCell ⟨w.heap.size + 1 + 1, 2, none⟩ (.int .i64 r)).setCell ⟨w.heap.size + 1 + 1, 3, none⟩ (.slice ia L.length ic)).setCell ⟨w.heap.size + 1 + 1, 4, none⟩ (.slice ja M.length jc)) (fun k => k = w.heap.size + 1 + 1) from (((((Chg.refl wz (fun k => k = w.heap.size + 1 + 1)).set rfl 0 _).set rfl 1 _).set rfl 2 _).set rfl 3 _).set rfl 4 _)
      go_wp2_with fail
      refine bodyPost_ret (v := .agg #[.string S, .int .i64 d, .int .i64 r, .slice ia L.length ic, .slice ja M.length jc]) (res_one Tryz.results28 _ _ (w.heap.size + 1 + 1) 36 #[.string S, .int .i64 d, .int .i64 r, .slice ia L.length ic, .slice ja M.length jc] _ rfl HF.out Tryz.underlying36 rfl (by kernel_rfl)) rfl ⟨by rw [HIV.out, HDV.out], (Chg.trans (Chg.ofBelow (fun k => k = w.heap.size + 1 + 1) HBL.out) HCF.out).below (fun k hk => by have h3 : k = w.heap.size + 1 + 1 := hk; omega) (Nat.le_refl _)⟩
    have e3 : (rvd L m.id != 0) = true := by simp; exact fun h => hin ((rvd_zero HR.out).1 h)
    obtain ⟨⟨c0, c1, c2, c3, c4⟩, ⟨k0, k1, k3, k4⟩, _⟩ := HQ3.out
    have HDN1 := Lib.hid (HDN.out w3 HQ3.out.2.2)
    have hmem : m.id ∈ M := by
      by_cases h : m.id ∈ M
      · exact h
      · exact absurd ⟨hk2, hin, h⟩ h2
    have HDE := Lib.hid (show decide (m.id ∈ M) = true by simpa using hmem)
    rw [HDE.out] at HDN1
    clear hmem h2 hk1 hk2 hin
    go_wp2_with fail
    refine HDN1.out.mono ?_
    rintro e w4 ⟨rfl, hb4⟩
    have HQ4 := Lib.hid (hr8_keep HQ3.out hb4)
    have HQ5 := HQ
    clear HQ
    have HQ := HQ4
    clear hb4 c0 c1 c2 c3 c4 k0 k1 k3 k4 HDN1
    obtain ⟨k0, k1, k3, k4⟩ := HQ.out.2.1
    have HBX := Lib.hid HQ.out.1
    have HZW := Lib.hid (HZZ.out.kept (HQ.out.2.2.1.block _ HZZ.out.lt))
    have HBL := Lib.hid (bell_up HBZ.out HQ.out.2.2.1)
    rw [HIV.out, HDV.out] at HBX ⊢
    generalize w4 = wz at *
    obtain ⟨x0, x1, x2, x3, x4⟩ := HBX.out
    have f0 := HZW.out.free 0
    have f1 := HZW.out.free 1
    have f2 := HZW.out.free 2
    have f3 := HZW.out.free 3
    have f4 := HZW.out.free 4
    have z0 := HZW.out.cell 0
    have z1 := HZW.out.cell 1
    have z2 := HZW.out.cell 2
    have z3 := HZW.out.cell 3
    have z4 := HZW.out.cell 4
    have HF := Lib.hid (show Whole (((((wz.setCell ⟨w.heap.size + 1 + 1, 0, none⟩ (.string S)).setCell ⟨w.heap.size + 1 + 1, 1, none⟩ (.int .i64 d)).setCell ⟨w.heap.size + 1 + 1, 2, none⟩ (.int .i64 r)).setCell ⟨w.heap.size + 1 + 1, 3, none⟩ (.slice ia L.length ic)).setCell ⟨w.heap.size + 1 + 1, 4, none⟩ (.slice ja M.length jc)) (w.heap.size + 1 + 1) 36 #[.string S, .int .i64 d, .int .i64 r, .slice ia L.length ic, .slice ja M.length jc] from ((((HZW.out.store 0 _).store 1 _).store 2 _).store 3 _).store 4 _)
    have HCF := Lib.hid (show Chg wz (((((wz.setCell ⟨w.heap.size + 1 + 1, 0, none⟩ (.string S)).setCell ⟨w.heap.size + 1 + 1, 1, none⟩ (.int .i64 d)).setCell ⟨w.heap.size + 1 + 1, 2, none⟩ (.int .i64 r)).setCell ⟨w.heap.size + 1 + 1, 3, none⟩ (.slice ia L.length ic)).setCell ⟨w.heap.size + 1 + 1, 4, none⟩ (.slice ja M.length jc)) (fun k => k = w.heap.size + 1 + 1) from (((((Chg.refl wz (fun k => k = w.heap.size + 1 + 1)).set rfl 0 _).set rfl 1 _).set rfl 2 _).set rfl 3 _).set rfl 4 _)
    go_wp2_with fail
    refine bodyPost_ret (v := .agg #[.string S, .int .i64 d, .int .i64 r, .slice ia L.length ic, .slice ja M.length jc]) (res_one Tryz.results28 _ _ (w.heap.size + 1 + 1) 36 #[.string S, .int .i64 d, .int .i64 r, .slice ia L.length ic, .slice ja M.length jc] _ rfl HF.out Tryz.underlying36 rfl (by kernel_rfl)) rfl ⟨by rw [HIV.out, HDV.out], (Chg.trans (Chg.ofBelow (fun k => k = w.heap.size + 1 + 1) HBL.out) HCF.out).below (fun k hk => by have h3 : k = w.heap.size + 1 + 1 := hk; omega) (Nat.le_refl _)⟩
set_option maxRecDepth 100000 in
set_option maxHeartbeats 8000000 in
theorem rreplay_new (w : World) (V : Value) (m : MsgD) (S : ByteArray) (d r : Int) (iv dv : Value) (L : List Iss) (M : List Int) (hm : MsgIn w V m) (hi : RI w L iv) (hj : RJ w M dv) (hn : L.length ≤ 1048576) (hmn : M.length ≤ 1048576) (hR : Rise L) (h1 : m.kind = 1) (h2 : idx L m.id = none) (h3 : lastR L < m.rev) :
    Calls Tryz.prog 28 #[RO S d r iv dv, V] w fun e w' => ∃ iv', e = .returned (RO S d r iv' dv) ∧ RI w' (L ++ [⟨m.rev, m.id, m.from_, false⟩]) iv' ∧ Below w.heap.size w w' := by
  obtain ⟨i0, hi0, hz0, hz1, hz2⟩ := info_parts Tryz.infoG
  obtain ⟨ia, ic, rfl, hl0⟩ := hi
  have hi : RI w L (.slice ia L.length ic) := ⟨ia, ic, rfl, hl0⟩
  obtain ⟨ja, jc, rfl, hm0⟩ := hj
  have hj : RJ w M (.slice ja M.length jc) := ⟨ja, jc, rfl, hm0⟩
  obtain ⟨iv, hiv⟩ : ∃ iv, iv = Value.slice ia L.length ic := ⟨_, rfl⟩
  obtain ⟨dv, hdv⟩ : ∃ dv, dv = Value.slice ja M.length jc := ⟨_, rfl⟩
  have HIV := Lib.hid hiv
  have HDV := Lib.hid hdv
  have HL0 := Lib.hid hl0
  have HM0 := Lib.hid hm0
  rw [← hiv] at hi ⊢
  rw [← hdv] at hj ⊢
  clear hiv hdv hl0 hm0
  have HK1 := Lib.hid h1
  have HK2 := Lib.hid h2
  have HK3 := Lib.hid h3
  clear h1 h2 h3
  obtain ⟨na, ma, pa, qa, nn, nc, mn, mc, pn, pc, rn, qc, hm⟩ := hm
  have hv := hm.val
  subst hv
  obtain ⟨X, hX, hwX, hbX⟩ := ro_box w S d r iv dv
  obtain ⟨Y, hY, hwY, hbY⟩ := box_new X 43 #[.int .i64 m.kind, .int .i64 m.from_, .int .i64 m.«to», .int .i64 m.id, .int .i64 m.rev, .int .i64 m.epoch, .int .i64 m.slot, .bool m.flag, .slice na nn nc, .slice ma mn mc, .slice pa pn pc, .slice qa rn qc]
  obtain ⟨Z, hZ, hwZ, hbZ⟩ := ro_box Y ⟨#[]⟩ 0 0 (.slice none 0 0) (.slice none 0 0)
  have hsX : X.heap.size = w.heap.size + 1 := by rw [hX]; exact Array.size_push _
  have hsY : Y.heap.size = w.heap.size + 1 + 1 := by rw [hY, ← hsX]; exact Array.size_push _
  rw [hsX] at hwY
  rw [hsY] at hwZ
  have hbXZ := bell_up hbX (bell_up hbY hbZ)
  have HBZ := Lib.hid hbXZ
  have HXZ := Lib.hid ((hwX.kept (hbY.block _ hwX.lt)).kept (hbZ.block _ (Nat.lt_of_lt_of_le hwX.lt hbY.size)))
  have HYZ := Lib.hid (hwY.kept (hbZ.block _ hwY.lt))
  have HZZ := Lib.hid hwZ
  have HI := Lib.hid (hi.below hbXZ)
  have HJ := Lib.hid (hj.below hbXZ)
  have HR := Lib.hid hR
  have HN := Lib.hid hn
  have HM := Lib.hid hmn
  have hla := fun V (h : KP Z V w.heap.size (w.heap.size + 1)) => rlast_any V S d r iv dv L (HI.out.below h.1) HN.out
  have hrv := fun V (h : KP Z V w.heap.size (w.heap.size + 1)) => rrev_any V S d r iv dv L m.id (HI.out.below h.1) HN.out
  have hid := fun V (h : KP Z V w.heap.size (w.heap.size + 1)) => risdone_any V S d r iv dv M m.id (HJ.out.below h.1) HM.out
  have HK0 := Lib.hid (show HR8 Z Z w.heap.size (w.heap.size + 1) S d r iv dv m from ⟨box5_of HXZ.out, ⟨HYZ.out.cell 0, HYZ.out.cell 1, HYZ.out.cell 3, HYZ.out.cell 4⟩, Below.refl _ _, HXZ.out.lt, HYZ.out.lt⟩)
  unfold RO at hla hrv hid ⊢
  have HLA := Lib.hid hla
  have HRV := Lib.hid hrv
  have HDN := Lib.hid hid
  clear hi hj hR hn hmn hla hrv hid hwX hwY hwZ hbX hbY hbZ hbXZ hm hsX hsY
  go_enter Tryz.func28, Tryz.ntmps28
  go_upto_region 1 with fail
  rw [← hX, ← hY, ← hZ]
  clear hX hY hZ
  have e1 : (m.kind == 1) = true := by simpa using HK1.out
  have e2 : (m.kind == 2) = false := by simp; have := HK1.out; omega
  have e3 : (rvd L m.id == 0) = true := by simp; exact (rvd_zero HR.out).2 HK2.out
  have hgt : m.rev > lastR L := HK3.out
  refine wp_region_held_drew (S := fun V => HR8 Z V w.heap.size (w.heap.size + 1) S d r iv dv m) (by kernel_rfl) (hr8_keep HK0.out (below_drewN _ 1)) (fun hHeld => ?_)
  refine wpAnyH_take (i := 0) (oi := { dst := Option.some 7, op := Go.Op.fieldAddr 43 (Go.Operand.tmp 3) 0, type := 0, pos := "ref.go:58", after := #[], guard := Option.none }) (v := ?_) rfl (by kernel_rfl) (by kernel_rfl) (by kernel_rfl) (fun _ _ _ h => h) (Or.inl ⟨by rfl, ?_⟩) (by assumption) ?_
  rotate_left
  · intro w hSw; (try dsimp only at hSw); go_simp; all_goals (with_reducible rfl)
  try simp only [Act.put, List.setIfInBounds_toArray, List.set_cons_zero, List.set_cons_succ]
  refine wpAnyH_take (i := 1) (oi := { dst := Option.some 8, op := Go.Op.load 3 (Go.Operand.tmp 7), type := 3, pos := "ref.go:58", after := #[{ on := 0, ground := Go.Ground.data }], guard := Option.none }) (v := ?_) rfl (by kernel_rfl) (by kernel_rfl) (by kernel_rfl) (fun _ _ _ h => h) (Or.inl ⟨by rfl, ?_⟩) (by assumption) ?_
  rotate_left
  · intro w hSw; (try dsimp only at hSw); go_simp; all_goals (with_reducible rfl)
  try simp only [Act.put, List.setIfInBounds_toArray, List.set_cons_zero, List.set_cons_succ]
  refine wpAnyH_take (i := 2) (oi := { dst := Option.some 9, op := Go.Op.binOp Go.BinOp.eql 3 (Go.Operand.tmp 8) (Go.Operand.const (Go.Value.int Go.IntKind.i64 1)) 3, type := 4, pos := "ref.go:58", after := #[{ on := 1, ground := Go.Ground.data }], guard := Option.none }) (v := ?_) rfl (by kernel_rfl) (by kernel_rfl) (by kernel_rfl) (fun _ _ _ h => h) (Or.inl ⟨by rfl, ?_⟩) (by assumption) ?_
  rotate_left
  · intro w hSw; (try dsimp only at hSw); go_simp; all_goals (with_reducible rfl)
  try simp only [Act.put, List.setIfInBounds_toArray, List.set_cons_zero, List.set_cons_succ]
  refine wpAnyH_take (i := 3) (oi := { dst := Option.some 10, op := Go.Op.move (Go.Operand.tmp 9), type := 4, pos := "ref.go:58", after := #[{ on := 2, ground := Go.Ground.data }], guard := Option.none }) (v := ?_) rfl (by kernel_rfl) (by kernel_rfl) (by kernel_rfl) (fun _ _ _ h => h) (Or.inl ⟨by rfl, ?_⟩) (by assumption) ?_
  rotate_left
  · intro w hSw; (try dsimp only at hSw); go_simp; all_goals (with_reducible rfl)
  try simp only [Act.put, List.setIfInBounds_toArray, List.set_cons_zero, List.set_cons_succ]
  refine wpAnyH_take (i := 4) (oi := { dst := Option.some 11, op := Go.Op.fieldAddr 43 (Go.Operand.tmp 3) 4, type := 0, pos := "ref.go:58", after := #[{ on := 3, ground := Go.Ground.guard }], guard := Option.some (3, Bool.true) }) (v := ?_) rfl (by kernel_rfl) (by kernel_rfl) (by kernel_rfl) (fun _ _ _ h => h) (Or.inl ⟨by rfl, ?_⟩) (by assumption) ?_
  rotate_left
  · intro w hSw; (try dsimp only at hSw); go_simp; all_goals (with_reducible rfl)
  try simp only [Act.put, List.setIfInBounds_toArray, List.set_cons_zero, List.set_cons_succ]
  refine wpAnyH_take (i := 5) (oi := { dst := Option.some 12, op := Go.Op.load 2 (Go.Operand.tmp 11), type := 2, pos := "ref.go:58", after := #[{ on := 4, ground := Go.Ground.data }, { on := 3, ground := Go.Ground.guard }], guard := Option.some (3, Bool.true) }) (v := ?_) rfl (by kernel_rfl) (by kernel_rfl) (by kernel_rfl) (fun _ _ _ h => h) (Or.inl ⟨by rfl, ?_⟩) (by assumption) ?_
  rotate_left
  · intro w hSw; (try dsimp only at hSw); go_simp; all_goals (with_reducible rfl)
  try simp only [Act.put, List.setIfInBounds_toArray, List.set_cons_zero, List.set_cons_succ]
  refine wpAnyH_take (i := 6) (oi := { dst := Option.some 13, op := Go.Op.load 36 (Go.Operand.tmp 2), type := 36, pos := "ref.go:58", after := #[{ on := 3, ground := Go.Ground.guard }], guard := Option.some (3, Bool.true) }) (v := ?_) rfl (by kernel_rfl) (by kernel_rfl) (by kernel_rfl) (fun _ _ _ h => h) (Or.inl ⟨by rfl, ?_⟩) (by assumption) ?_
  rotate_left
  · intro w hSw; (try dsimp only at hSw); go_simp; all_goals (with_reducible rfl)
  try simp only [Act.put, List.setIfInBounds_toArray, List.set_cons_zero, List.set_cons_succ]
  refine wpAnyH_ready (rs := [7]) (by kernel_rfl) (by simp) ?_
  refine AllReadyH.cons (o := { dst := Option.some 14, op := Go.Op.call { callee := Go.Callee.value (Go.Operand.func 20), args := #[Go.Operand.tmp 13], argTypes := #[36] }, type := 2, pos := "ref.go:58", after := #[{ on := 6, ground := Go.Ground.data }, { on := 3, ground := Go.Ground.chain }, { on := 3, ground := Go.Ground.guard }], guard := Option.some (3, Bool.true) }) rfl (fun K hK => ?_) AllReadyH.nil
  go_simp
  refine (HLA.out _ hHeld.2.2).mono ?_
  rintro e w1 ⟨rfl, hb1⟩
  have hH1 := Lib.hid (hr8_keep hHeld hb1)
  clear hHeld hb1
  go_wp2_with fail
  refine hK.out _ _ (hH1.out) (fun hHeld => ?_)
  clear hK K
  try simp only [Act.put, List.setIfInBounds_toArray, List.set_cons_zero, List.set_cons_succ]
  refine wpAnyH_take (i := 8) (oi := { dst := Option.some 15, op := Go.Op.binOp Go.BinOp.gtr 2 (Go.Operand.tmp 12) (Go.Operand.tmp 14) 2, type := 4, pos := "ref.go:58", after := #[{ on := 5, ground := Go.Ground.data }, { on := 7, ground := Go.Ground.data }, { on := 3, ground := Go.Ground.guard }], guard := Option.some (3, Bool.true) }) (v := ?_) rfl (by kernel_rfl) (by kernel_rfl) (by kernel_rfl) (fun _ _ _ h => h) (Or.inl ⟨by rfl, ?_⟩) (by assumption) ?_
  rotate_left
  · intro w hSw; (try dsimp only at hSw); go_simp; all_goals (with_reducible rfl)
  try simp only [Act.put, List.setIfInBounds_toArray, List.set_cons_zero, List.set_cons_succ]
  refine wpAnyH_take (i := 9) (oi := { dst := Option.some 16, op := Go.Op.pick (Go.Operand.tmp 10) (Go.Operand.tmp 15) (Go.Operand.const (Go.Value.bool Bool.false)), type := 4, pos := "ref.go:58", after := #[{ on := 3, ground := Go.Ground.data }, { on := 8, ground := Go.Ground.data }], guard := Option.none }) (v := ?_) rfl (by kernel_rfl) (by kernel_rfl) (by kernel_rfl) (fun _ _ _ h => h) (Or.inl ⟨by rfl, ?_⟩) (by assumption) ?_
  rotate_left
  · intro w hSw; (try dsimp only at hSw); go_simp; all_goals (with_reducible rfl)
  try simp only [Act.put, List.setIfInBounds_toArray, List.set_cons_zero, List.set_cons_succ]
  refine wpAnyH_take (i := 10) (oi := { dst := Option.some 17, op := Go.Op.move (Go.Operand.tmp 16), type := 4, pos := "ref.go:58", after := #[{ on := 9, ground := Go.Ground.data }, { on := 7, ground := Go.Ground.chain }], guard := Option.none }) (v := ?_) rfl (by kernel_rfl) (by kernel_rfl) (by kernel_rfl) (fun _ _ _ h => h) (Or.inl ⟨by rfl, ?_⟩) (by assumption) ?_
  rotate_left
  · intro w hSw; (try dsimp only at hSw); go_simp; all_goals (with_reducible rfl)
  try simp only [Act.put, List.setIfInBounds_toArray, List.set_cons_zero, List.set_cons_succ]
  refine wpAnyH_take (i := 11) (oi := { dst := Option.some 18, op := Go.Op.load 36 (Go.Operand.tmp 2), type := 36, pos := "ref.go:58", after := #[{ on := 10, ground := Go.Ground.guard }], guard := Option.some (10, Bool.true) }) (v := ?_) rfl (by kernel_rfl) (by kernel_rfl) (by kernel_rfl) (fun _ _ _ h => h) (Or.inl ⟨by rfl, ?_⟩) (by assumption) ?_
  rotate_left
  · intro w hSw; (try dsimp only at hSw); go_simp; all_goals (with_reducible rfl)
  try simp only [Act.put, List.setIfInBounds_toArray, List.set_cons_zero, List.set_cons_succ]
  refine wpAnyH_take (i := 12) (oi := { dst := Option.some 19, op := Go.Op.fieldAddr 43 (Go.Operand.tmp 3) 3, type := 0, pos := "ref.go:58", after := #[{ on := 10, ground := Go.Ground.guard }], guard := Option.some (10, Bool.true) }) (v := ?_) rfl (by kernel_rfl) (by kernel_rfl) (by kernel_rfl) (fun _ _ _ h => h) (Or.inl ⟨by rfl, ?_⟩) (by assumption) ?_
  rotate_left
  · intro w hSw; (try dsimp only at hSw); go_simp; all_goals (with_reducible rfl)
  try simp only [Act.put, List.setIfInBounds_toArray, List.set_cons_zero, List.set_cons_succ]
  refine wpAnyH_take (i := 13) (oi := { dst := Option.some 20, op := Go.Op.load 2 (Go.Operand.tmp 19), type := 2, pos := "ref.go:58", after := #[{ on := 12, ground := Go.Ground.data }, { on := 10, ground := Go.Ground.guard }], guard := Option.some (10, Bool.true) }) (v := ?_) rfl (by kernel_rfl) (by kernel_rfl) (by kernel_rfl) (fun _ _ _ h => h) (Or.inl ⟨by rfl, ?_⟩) (by assumption) ?_
  rotate_left
  · intro w hSw; (try dsimp only at hSw); go_simp; all_goals (with_reducible rfl)
  try simp only [Act.put, List.setIfInBounds_toArray, List.set_cons_zero, List.set_cons_succ]
  refine wpAnyH_ready (rs := [14]) (by kernel_rfl) (by simp) ?_
  refine AllReadyH.cons (o := { dst := Option.some 21, op := Go.Op.call { callee := Go.Callee.value (Go.Operand.func 30), args := #[Go.Operand.tmp 18, Go.Operand.tmp 20], argTypes := #[36, 2] }, type := 2, pos := "ref.go:58", after := #[{ on := 11, ground := Go.Ground.data }, { on := 13, ground := Go.Ground.data }, { on := 10, ground := Go.Ground.chain }, { on := 10, ground := Go.Ground.guard }], guard := Option.some (10, Bool.true) }) rfl (fun K hK => ?_) AllReadyH.nil
  go_simp
  refine (HRV.out _ hHeld.2.2).mono ?_
  rintro e w2 ⟨rfl, hb2⟩
  have hH2 := Lib.hid (hr8_keep hHeld hb2)
  clear hHeld hb2
  go_wp2_with fail
  refine hK.out _ _ (hH2.out) (fun hHeld => ?_)
  clear hK K
  try simp only [Act.put, List.setIfInBounds_toArray, List.set_cons_zero, List.set_cons_succ]
  refine wpAnyH_take (i := 15) (oi := { dst := Option.some 22, op := Go.Op.binOp Go.BinOp.eql 2 (Go.Operand.tmp 21) (Go.Operand.const (Go.Value.int Go.IntKind.i64 0)) 2, type := 4, pos := "ref.go:58", after := #[{ on := 14, ground := Go.Ground.data }, { on := 10, ground := Go.Ground.guard }], guard := Option.some (10, Bool.true) }) (v := ?_) rfl (by kernel_rfl) (by kernel_rfl) (by kernel_rfl) (fun _ _ _ h => h) (Or.inl ⟨by rfl, ?_⟩) (by assumption) ?_
  rotate_left
  · intro w hSw; (try dsimp only at hSw); go_simp; all_goals (with_reducible rfl)
  try simp only [Act.put, List.setIfInBounds_toArray, List.set_cons_zero, List.set_cons_succ]
  refine wpAnyH_take (i := 16) (oi := { dst := Option.some 23, op := Go.Op.pick (Go.Operand.tmp 17) (Go.Operand.tmp 22) (Go.Operand.const (Go.Value.bool Bool.false)), type := 4, pos := "ref.go:58", after := #[{ on := 10, ground := Go.Ground.data }, { on := 15, ground := Go.Ground.data }], guard := Option.none }) (v := ?_) rfl (by kernel_rfl) (by kernel_rfl) (by kernel_rfl) (fun _ _ _ h => h) (Or.inl ⟨by rfl, ?_⟩) (by assumption) ?_
  rotate_left
  · intro w hSw; (try dsimp only at hSw); go_simp; all_goals (with_reducible rfl)
  try simp only [Act.put, List.setIfInBounds_toArray, List.set_cons_zero, List.set_cons_succ]
  refine wpAnyH_done (by kernel_rfl) ?_ _
  have HH := Lib.hid hHeld
  clear hHeld
  have HX2 := Lib.hid (HXZ.out.kept (HH.out.2.2.1.block _ HXZ.out.lt))
  have HY2 := Lib.hid (HYZ.out.kept (HH.out.2.2.1.block _ HYZ.out.lt))
  have HZ2 := Lib.hid (HZZ.out.kept (HH.out.2.2.1.block _ HZZ.out.lt))
  have HB2 := Lib.hid (bell_up HBZ.out HH.out.2.2.1)
  have HLL := Lib.hid (HL0.out.1.below HB2.out)
  obtain ⟨⟨c0, c1, c2, c3, c4⟩, ⟨k0, k1, k3, k4⟩, _⟩ := HH.out
  have hbs := empty_msgs
  have hEO := empty_own w2 43 12
  have hb3 := HB2.out.alloc (o := .cells #[] 43) HB2.out.size
  obtain ⟨w3, hw3⟩ : ∃ w3, w3 = w2.alloc (.cells #[] 43) := ⟨_, rfl⟩
  rw [← hw3] at hEO hb3
  have hs3 : w2.heap.size + 1 = w3.heap.size := by rw [hw3]; exact (Array.size_push _).symm
  have HX3 := Lib.hid (show Whole w3 w.heap.size 36 _ from by rw [hw3]; exact HX2.out.kept ((below_alloc w2 _).block _ HX2.out.lt))
  have HY3 := Lib.hid (show Whole w3 (w.heap.size + 1) 43 _ from by rw [hw3]; exact HY2.out.kept ((below_alloc w2 _).block _ HY2.out.lt))
  have HZ3 := Lib.hid (show Whole w3 (w.heap.size + 1 + 1) 36 _ from by rw [hw3]; exact HZ2.out.kept ((below_alloc w2 _).block _ HZ2.out.lt))
  have HL3 := Lib.hid (show Lies w3 43 12 0 ia L.length ic (mIs L) from by rw [hw3]; exact HLL.out.below (below_alloc w2 _))
  have HEO := Lib.hid hEO
  have HB3 := Lib.hid hb3
  have HW3 := Lib.hid hw3
  have HS3 := Lib.hid hs3
  have HS2 := Lib.hid HB2.out.size
  have hln := HN.out
  have hxl := HX2.out.lt
  have hyl := HY2.out.lt
  rw [HIV.out] at c3
  clear hw3 hEO hb3 hs3
  go_upto_region 3 with (at_builtin; rw [← HW3.out]; refine wpList_append_at_any _ rfl _ _ 33 rfl w2.heap.size 43 i0 (.agg MsgZ) 12 160 Tryz.underlying33 hi0 hz0 hz1 hz2 rfl (by decide) _ 0 _ rfl HEO.out ia L.length ic (mIs L) rfl HL3.out.len HL3.out.nil HL3.out.news (fm_one mI_one L) (by unfold maxLen; omega) (by omega) (by have := HS3.out; omega) ?_; intro v4 w4 hown4 hgrow4 hat4)
  obtain ⟨a4, cc4, rfl, _, _⟩ := owned_some hown4
  have hgr : w3.grownBy w4 (some w2.heap.size) := hgrow4
  have hb4 : Below w.heap.size w w4 := HB3.out.grown hgr HB3.out.size (fun j hj => by
    injection hj with hj
    have := HS2.out
    omega)
  have hkeep : ∀ k, k < w2.heap.size → w4.heap[k]? = w3.heap[k]? := fun k hk => hgr.block k (by have := HS3.out; omega) (fun e => by
    injection e with e
    omega)
  have HX4 := Lib.hid (HX3.out.kept (hkeep _ hxl))
  have HY4 := Lib.hid (HY3.out.kept (hkeep _ hyl))
  have HZ4 := Lib.hid (HZ3.out.kept (hkeep _ HZ2.out.lt))
  have HB4 := Lib.hid hb4
  have HO4 := Lib.hid hown4
  have HS4 := Lib.hid (show w2.heap.size ≤ w4.heap.size from Nat.le_trans (by have := HS3.out; omega) hgrow4.size)
  have hx4 := HX4.out.lt
  have hy4 := HY4.out.lt
  clear hown4 hgrow4 hgr hat4 hb4 hkeep c0 c1 c2 c3 c4 k0 k1 k3 k4 hbs HEO HW3
  have k1 := HY4.out.cell 1
  have k3 := HY4.out.cell 3
  have k4 := HY4.out.cell 4
  have HNW := Lib.hid (show ∀ W : World, W = w4.alloc (.cells #[.int .i64 1, .int .i64 m.from_, .int .i64 0, .int .i64 m.id, .int .i64 m.rev, .int .i64 0, .int .i64 0, .bool false, .slice none 0 0, .slice none 0 0, .slice none 0 0, .slice none 0 0] 43) → Whole W w.heap.size 36 _ ∧ Below w.heap.size w W ∧ w4.heap.size ≤ W.heap.size from fun W hW => by
    rw [hW]
    exact ⟨HX4.out.kept ((below_alloc w4 _).block _ HX4.out.lt), HB4.out.alloc HB4.out.size _, (below_alloc w4 _).size⟩)
  go_upto_region 4 with (at_builtin; refine wpList_append_at_any _ rfl _ _ 33 rfl w2.heap.size 43 i0 (.agg MsgZ) 12 160 Tryz.underlying33 hi0 hz0 hz1 hz2 rfl (by decide) _ (0 + L.length) _ rfl (HO4.out.alloc _) (some ⟨w4.heap.size, 0, none⟩) 1 1 [.int .i64 1, .int .i64 m.from_, .int .i64 0, .int .i64 m.id, .int .i64 m.rev, .int .i64 0, .int .i64 0, .bool false, .slice none 0 0, .slice none 0 0, .slice none 0 0, .slice none 0 0] rfl rfl (by intro h; cases h) (by rintro ad he; injection he with he; subst he; exact cells_new _ [.int .i64 1, .int .i64 m.from_, .int .i64 0, .int .i64 m.id, .int .i64 m.rev, .int .i64 0, .int .i64 0, .bool false, .slice none 0 0, .slice none 0 0, .slice none 0 0, .slice none 0 0] _) (mI_one ⟨m.rev, m.id, m.from_, false⟩) (by unfold maxLen; omega) (by omega) (by have := HS4.out; simp; omega) ?_; intro v5 w5 hown5 hgrow5 hat5; obtain ⟨a5, cc5, rfl, _, _⟩ := owned_some hown5; have HO5 := Lib.hid hown5; have HG5 := Lib.hid hgrow5; have HX5 := Lib.hid ((HNW.out _ rfl).1.kept (hgrow5.block _ (Nat.lt_of_lt_of_le HX4.out.lt (HNW.out _ rfl).2.2) (fun e => by have h9 := (HO4.out.lt _ e.symm).1; have h8 := HX2.out.lt; omega))); have y3 := HX5.out.free 3; have x3 := HX5.out.cell 3; clear hown5 hgrow5 hat5)
  have HW4 := Lib.hid (HNW.out _ rfl)
  obtain ⟨wn, hwn⟩ : ∃ wn, wn = w4.alloc (.cells #[.int .i64 1, .int .i64 m.from_, .int .i64 0, .int .i64 m.id, .int .i64 m.rev, .int .i64 0, .int .i64 0, .bool false, .slice none 0 0, .slice none 0 0, .slice none 0 0, .slice none 0 0] 43) := ⟨_, rfl⟩
  rw [← hwn] at HW4 HG5
  have HYn := Lib.hid (show Whole wn (w.heap.size + 1) 43 _ from by rw [hwn]; exact HY4.out.kept ((below_alloc w4 _).block _ HY4.out.lt))
  have HZn := Lib.hid (show Whole wn (w.heap.size + 1 + 1) 36 _ from by rw [hwn]; exact HZ4.out.kept ((below_alloc w4 _).block _ HZ4.out.lt))
  have hne : ∀ k, k < w2.heap.size → some k ≠ (Value.slice a4 (0 + L.length) cc4).ownBlock := fun k hk e => by
    have := (HO4.out.lt _ e.symm).1
    omega
  have HY5 := Lib.hid (HYn.out.kept (HG5.out.block _ HYn.out.lt (hne _ HY2.out.lt)))
  have HZ5 := Lib.hid (HZn.out.kept (HG5.out.block _ HZn.out.lt (hne _ HZ2.out.lt)))
  have HB5 := Lib.hid (show Below w.heap.size w w5 from HW4.out.2.1.grown HG5.out HW4.out.2.1.size (fun j hj => by have := (HO4.out.lt _ hj).1; have := HS2.out; omega))
  have hlen1 : 0 + L.length + 1 = L.length + 1 := by omega
  rw [hlen1] at HO5
  try rw [hlen1]
  have HME := Lib.hid (show [] ++ mIs L ++ [.int .i64 1, .int .i64 m.from_, .int .i64 0, .int .i64 m.id, .int .i64 m.rev, .int .i64 0, .int .i64 0, .bool false, .slice none 0 0, .slice none 0 0, .slice none 0 0, .slice none 0 0] = mIs (L ++ [⟨m.rev, m.id, m.from_, false⟩]) from by rw [mIs_append]; simp [mIs, mI])
  rw [HME.out] at HO5
  obtain ⟨a6, c6, he6, hl6⟩ := Lies.owned HO5.out
  injection he6 with he6 _ hc6
  subst he6 hc6
  have HL6 := Lib.hid hl6
  have HY6 := Lib.hid (Msgy.own HO5.out)
  obtain ⟨wz, hwz⟩ : ∃ wz, wz = w5.setCell ⟨w.heap.size, 3, none⟩ (.slice a5 (L.length + 1) cc5) := ⟨_, rfl⟩
  rw [← hwz]
  have hlz : w.heap.size ≠ w.heap.size + 1 := by omega
  have HXW := Lib.hid (show Whole wz w.heap.size 36 #[.string S, .int .i64 d, .int .i64 r, .slice a5 (L.length + 1) cc5, dv] from by rw [hwz]; exact HX5.out.store 3 _)
  have HYW := Lib.hid (show Whole wz (w.heap.size + 1) 43 _ from by rw [hwz]; exact HY5.out.kept (Below.heap_setCell _ ⟨w.heap.size, 3, none⟩ _ _ (by simp)))
  have HZW := Lib.hid (show Whole wz (w.heap.size + 1 + 1) 36 #[.string ⟨#[]⟩, .int .i64 0, .int .i64 0, .slice none 0 0, .slice none 0 0] from by rw [hwz]; exact HZ5.out.kept (Below.heap_setCell _ ⟨w.heap.size, 3, none⟩ _ _ (by show w.heap.size + 1 + 1 ≠ w.heap.size; omega)))
  have HBL := Lib.hid (show Below w.heap.size w wz from by rw [hwz]; exact HB5.out.setCell (p := ⟨w.heap.size, 3, none⟩) (Nat.le_refl _) _)
  have HCZ := Lib.hid (show Chg w5 wz (fun k => k = w.heap.size) from by rw [hwz]; exact (Chg.refl w5 (fun k => k = w.heap.size)).set rfl 3 _)
  have HBX := Lib.hid (box5_of HXW.out)
  have k0 := HYW.out.cell 0
  clear k1 k3 k4 x3 y3 hwz hwn hlz hlen1 hl6 hne HME
  rw [HDV.out] at HBX
  clear HO5
  obtain ⟨x0, x1, x2, x3, x4⟩ := HBX.out
  have f0 := HZW.out.free 0
  have f1 := HZW.out.free 1
  have f2 := HZW.out.free 2
  have f3 := HZW.out.free 3
  have f4 := HZW.out.free 4
  have z0 := HZW.out.cell 0
  have z1 := HZW.out.cell 1
  have z2 := HZW.out.cell 2
  have z3 := HZW.out.cell 3
  have z4 := HZW.out.cell 4
  have HF := Lib.hid (show Whole (((((wz.setCell ⟨w.heap.size + 1 + 1, 0, none⟩ (.string S)).setCell ⟨w.heap.size + 1 + 1, 1, none⟩ (.int .i64 d)).setCell ⟨w.heap.size + 1 + 1, 2, none⟩ (.int .i64 r)).setCell ⟨w.heap.size + 1 + 1, 3, none⟩ (.slice a5 (L.length + 1) cc5)).setCell ⟨w.heap.size + 1 + 1, 4, none⟩ (.slice ja M.length jc)) (w.heap.size + 1 + 1) 36 #[.string S, .int .i64 d, .int .i64 r, .slice a5 (L.length + 1) cc5, .slice ja M.length jc] from ((((HZW.out.store 0 _).store 1 _).store 2 _).store 3 _).store 4 _)
  have HCF := Lib.hid (show Chg wz (((((wz.setCell ⟨w.heap.size + 1 + 1, 0, none⟩ (.string S)).setCell ⟨w.heap.size + 1 + 1, 1, none⟩ (.int .i64 d)).setCell ⟨w.heap.size + 1 + 1, 2, none⟩ (.int .i64 r)).setCell ⟨w.heap.size + 1 + 1, 3, none⟩ (.slice a5 (L.length + 1) cc5)).setCell ⟨w.heap.size + 1 + 1, 4, none⟩ (.slice ja M.length jc)) (fun k => k = w.heap.size + 1 + 1) from (((((Chg.refl wz (fun k => k = w.heap.size + 1 + 1)).set rfl 0 _).set rfl 1 _).set rfl 2 _).set rfl 3 _).set rfl 4 _)
  go_wp2_with fail
  refine bodyPost_ret (v := .agg #[.string S, .int .i64 d, .int .i64 r, .slice a5 (L.length + 1) cc5, .slice ja M.length jc]) (res_one Tryz.results28 _ _ (w.heap.size + 1 + 1) 36 #[.string S, .int .i64 d, .int .i64 r, .slice a5 (L.length + 1) cc5, .slice ja M.length jc] _ rfl HF.out Tryz.underlying36 rfl (by kernel_rfl)) rfl ⟨.slice a5 (L.length + 1) cc5, by rw [HDV.out], ⟨a5, cc5, by simp, by simpa only [List.length_append, List.length_singleton] using ((Lies.chg (Lies.chg HL6.out HCZ.out (fun j hj => by have h9 : j = w.heap.size := hj; omega)) HCF.out (fun j hj => by have h9 : j = w.heap.size + 1 + 1 := hj; have := HZ2.out.lt; omega)).mono (Nat.zero_le _)), Msgy.chg (Msgy.chg HY6.out HL6.out HCZ.out (fun j hj => by have h9 : j = w.heap.size := hj; omega)) (Lies.chg HL6.out HCZ.out (fun j hj => by have h9 : j = w.heap.size := hj; omega)) HCF.out (fun j hj => by have h9 : j = w.heap.size + 1 + 1 := hj; have := HZ2.out.lt; omega)⟩, (Chg.trans (Chg.ofBelow (fun k => k = w.heap.size + 1 + 1) HBL.out) HCF.out).below (fun k hk => by have h3 : k = w.heap.size + 1 + 1 := hk; omega) (Nat.le_refl _)⟩
set_option maxRecDepth 100000 in
set_option maxHeartbeats 8000000 in
theorem rreplay_mark (w : World) (V : Value) (m : MsgD) (S : ByteArray) (d r : Int) (iv dv : Value) (L : List Iss) (M : List Int) (hm : MsgIn w V m) (hi : RI w L iv) (hj : RJ w M dv) (hn : L.length ≤ 1048576) (hmn : M.length ≤ 1048576) (hR : Rise L) (h1 : m.kind = 2) (h2 : idx L m.id ≠ none) (h3 : m.id ∉ M) :
    Calls Tryz.prog 28 #[RO S d r iv dv, V] w fun e w' => ∃ dv', e = .returned (RO S d r iv dv') ∧ RJ w' (M ++ [m.id]) dv' ∧ Below w.heap.size w w' := by
  obtain ⟨i0, hi0, hz0, hz1, hz2⟩ := info_of2 Tryz.infoI64
  obtain ⟨ia, ic, rfl, hl0⟩ := hi
  have hi : RI w L (.slice ia L.length ic) := ⟨ia, ic, rfl, hl0⟩
  obtain ⟨ja, jc, rfl, hm0⟩ := hj
  have hj : RJ w M (.slice ja M.length jc) := ⟨ja, jc, rfl, hm0⟩
  obtain ⟨iv, hiv⟩ : ∃ iv, iv = Value.slice ia L.length ic := ⟨_, rfl⟩
  obtain ⟨dv, hdv⟩ : ∃ dv, dv = Value.slice ja M.length jc := ⟨_, rfl⟩
  have HIV := Lib.hid hiv
  have HDV := Lib.hid hdv
  have HL0 := Lib.hid hl0
  have HM0 := Lib.hid hm0
  rw [← hiv] at hi ⊢
  rw [← hdv] at hj ⊢
  clear hiv hdv hl0 hm0
  have HK1 := Lib.hid h1
  have HK2 := Lib.hid h2
  have HK3 := Lib.hid h3
  clear h1 h2 h3
  obtain ⟨na, ma, pa, qa, nn, nc, mn, mc, pn, pc, rn, qc, hm⟩ := hm
  have hv := hm.val
  subst hv
  obtain ⟨X, hX, hwX, hbX⟩ := ro_box w S d r iv dv
  obtain ⟨Y, hY, hwY, hbY⟩ := box_new X 43 #[.int .i64 m.kind, .int .i64 m.from_, .int .i64 m.«to», .int .i64 m.id, .int .i64 m.rev, .int .i64 m.epoch, .int .i64 m.slot, .bool m.flag, .slice na nn nc, .slice ma mn mc, .slice pa pn pc, .slice qa rn qc]
  obtain ⟨Z, hZ, hwZ, hbZ⟩ := ro_box Y ⟨#[]⟩ 0 0 (.slice none 0 0) (.slice none 0 0)
  have hsX : X.heap.size = w.heap.size + 1 := by rw [hX]; exact Array.size_push _
  have hsY : Y.heap.size = w.heap.size + 1 + 1 := by rw [hY, ← hsX]; exact Array.size_push _
  rw [hsX] at hwY
  rw [hsY] at hwZ
  have hbXZ := bell_up hbX (bell_up hbY hbZ)
  have HBZ := Lib.hid hbXZ
  have HXZ := Lib.hid ((hwX.kept (hbY.block _ hwX.lt)).kept (hbZ.block _ (Nat.lt_of_lt_of_le hwX.lt hbY.size)))
  have HYZ := Lib.hid (hwY.kept (hbZ.block _ hwY.lt))
  have HZZ := Lib.hid hwZ
  have HI := Lib.hid (hi.below hbXZ)
  have HJ := Lib.hid (hj.below hbXZ)
  have HR := Lib.hid hR
  have HN := Lib.hid hn
  have HM := Lib.hid hmn
  have hla := fun V (h : KP Z V w.heap.size (w.heap.size + 1)) => rlast_any V S d r iv dv L (HI.out.below h.1) HN.out
  have hrv := fun V (h : KP Z V w.heap.size (w.heap.size + 1)) => rrev_any V S d r iv dv L m.id (HI.out.below h.1) HN.out
  have hid := fun V (h : KP Z V w.heap.size (w.heap.size + 1)) => risdone_any V S d r iv dv M m.id (HJ.out.below h.1) HM.out
  have HK0 := Lib.hid (show HR8 Z Z w.heap.size (w.heap.size + 1) S d r iv dv m from ⟨box5_of HXZ.out, ⟨HYZ.out.cell 0, HYZ.out.cell 1, HYZ.out.cell 3, HYZ.out.cell 4⟩, Below.refl _ _, HXZ.out.lt, HYZ.out.lt⟩)
  unfold RO at hla hrv hid ⊢
  have HLA := Lib.hid hla
  have HRV := Lib.hid hrv
  have HDN := Lib.hid hid
  clear hi hj hR hn hmn hla hrv hid hwX hwY hwZ hbX hbY hbZ hbXZ hm hsX hsY
  go_enter Tryz.func28, Tryz.ntmps28
  go_upto_region 1 with fail
  rw [← hX, ← hY, ← hZ]
  clear hX hY hZ
  have e1 : (m.kind == 1) = false := by simp; have := HK1.out; omega
  have e2 : (m.kind == 2) = true := by simpa using HK1.out
  have e3 : (rvd L m.id != 0) = true := by simp; exact fun h => HK2.out ((rvd_zero HR.out).1 h)
  refine wp_region_held_drew (S := fun V => HR8 Z V w.heap.size (w.heap.size + 1) S d r iv dv m) (by kernel_rfl) (hr8_keep HK0.out (below_drewN _ 1)) (fun hHeld => ?_)
  refine wpAnyH_take (i := 0) (oi := { dst := Option.some 7, op := Go.Op.fieldAddr 43 (Go.Operand.tmp 3) 0, type := 0, pos := "ref.go:58", after := #[], guard := Option.none }) (v := ?_) rfl (by kernel_rfl) (by kernel_rfl) (by kernel_rfl) (fun _ _ _ h => h) (Or.inl ⟨by rfl, ?_⟩) (by assumption) ?_
  rotate_left
  · intro w hSw; (try dsimp only at hSw); go_simp; all_goals (with_reducible rfl)
  try simp only [Act.put, List.setIfInBounds_toArray, List.set_cons_zero, List.set_cons_succ]
  refine wpAnyH_take (i := 1) (oi := { dst := Option.some 8, op := Go.Op.load 3 (Go.Operand.tmp 7), type := 3, pos := "ref.go:58", after := #[{ on := 0, ground := Go.Ground.data }], guard := Option.none }) (v := ?_) rfl (by kernel_rfl) (by kernel_rfl) (by kernel_rfl) (fun _ _ _ h => h) (Or.inl ⟨by rfl, ?_⟩) (by assumption) ?_
  rotate_left
  · intro w hSw; (try dsimp only at hSw); go_simp; all_goals (with_reducible rfl)
  try simp only [Act.put, List.setIfInBounds_toArray, List.set_cons_zero, List.set_cons_succ]
  refine wpAnyH_take (i := 2) (oi := { dst := Option.some 9, op := Go.Op.binOp Go.BinOp.eql 3 (Go.Operand.tmp 8) (Go.Operand.const (Go.Value.int Go.IntKind.i64 1)) 3, type := 4, pos := "ref.go:58", after := #[{ on := 1, ground := Go.Ground.data }], guard := Option.none }) (v := ?_) rfl (by kernel_rfl) (by kernel_rfl) (by kernel_rfl) (fun _ _ _ h => h) (Or.inl ⟨by rfl, ?_⟩) (by assumption) ?_
  rotate_left
  · intro w hSw; (try dsimp only at hSw); go_simp; all_goals (with_reducible rfl)
  try simp only [Act.put, List.setIfInBounds_toArray, List.set_cons_zero, List.set_cons_succ]
  refine wpAnyH_take (i := 3) (oi := { dst := Option.some 10, op := Go.Op.move (Go.Operand.tmp 9), type := 4, pos := "ref.go:58", after := #[{ on := 2, ground := Go.Ground.data }], guard := Option.none }) (v := ?_) rfl (by kernel_rfl) (by kernel_rfl) (by kernel_rfl) (fun _ _ _ h => h) (Or.inl ⟨by rfl, ?_⟩) (by assumption) ?_
  rotate_left
  · intro w hSw; (try dsimp only at hSw); go_simp; all_goals (with_reducible rfl)
  try simp only [Act.put, List.setIfInBounds_toArray, List.set_cons_zero, List.set_cons_succ]
  refine wpAnyH_take (i := 4) (oi := { dst := Option.some 11, op := Go.Op.fieldAddr 43 (Go.Operand.tmp 3) 4, type := 0, pos := "ref.go:58", after := #[{ on := 3, ground := Go.Ground.guard }], guard := Option.some (3, Bool.true) }) (v := undef) rfl (by kernel_rfl) (by kernel_rfl) (by kernel_rfl) (fun _ _ _ h => h) (Or.inr ⟨by rfl, rfl⟩) (by assumption) ?_
  try simp only [Act.put, List.setIfInBounds_toArray, List.set_cons_zero, List.set_cons_succ]
  refine wpAnyH_take (i := 5) (oi := { dst := Option.some 12, op := Go.Op.load 2 (Go.Operand.tmp 11), type := 2, pos := "ref.go:58", after := #[{ on := 4, ground := Go.Ground.data }, { on := 3, ground := Go.Ground.guard }], guard := Option.some (3, Bool.true) }) (v := undef) rfl (by kernel_rfl) (by kernel_rfl) (by kernel_rfl) (fun _ _ _ h => h) (Or.inr ⟨by rfl, rfl⟩) (by assumption) ?_
  try simp only [Act.put, List.setIfInBounds_toArray, List.set_cons_zero, List.set_cons_succ]
  refine wpAnyH_take (i := 6) (oi := { dst := Option.some 13, op := Go.Op.load 36 (Go.Operand.tmp 2), type := 36, pos := "ref.go:58", after := #[{ on := 3, ground := Go.Ground.guard }], guard := Option.some (3, Bool.true) }) (v := undef) rfl (by kernel_rfl) (by kernel_rfl) (by kernel_rfl) (fun _ _ _ h => h) (Or.inr ⟨by rfl, rfl⟩) (by assumption) ?_
  try simp only [Act.put, List.setIfInBounds_toArray, List.set_cons_zero, List.set_cons_succ]
  refine wpAnyH_take (i := 7) (oi := { dst := Option.some 14, op := Go.Op.call { callee := Go.Callee.value (Go.Operand.func 20), args := #[Go.Operand.tmp 13], argTypes := #[36] }, type := 2, pos := "ref.go:58", after := #[{ on := 6, ground := Go.Ground.data }, { on := 3, ground := Go.Ground.chain }, { on := 3, ground := Go.Ground.guard }], guard := Option.some (3, Bool.true) }) (v := undef) rfl (by kernel_rfl) (by kernel_rfl) (by kernel_rfl) (fun _ _ _ h => h) (Or.inr ⟨by rfl, rfl⟩) (by assumption) ?_
  try simp only [Act.put, List.setIfInBounds_toArray, List.set_cons_zero, List.set_cons_succ]
  refine wpAnyH_take (i := 8) (oi := { dst := Option.some 15, op := Go.Op.binOp Go.BinOp.gtr 2 (Go.Operand.tmp 12) (Go.Operand.tmp 14) 2, type := 4, pos := "ref.go:58", after := #[{ on := 5, ground := Go.Ground.data }, { on := 7, ground := Go.Ground.data }, { on := 3, ground := Go.Ground.guard }], guard := Option.some (3, Bool.true) }) (v := undef) rfl (by kernel_rfl) (by kernel_rfl) (by kernel_rfl) (fun _ _ _ h => h) (Or.inr ⟨by rfl, rfl⟩) (by assumption) ?_
  try simp only [Act.put, List.setIfInBounds_toArray, List.set_cons_zero, List.set_cons_succ]
  refine wpAnyH_take (i := 9) (oi := { dst := Option.some 16, op := Go.Op.pick (Go.Operand.tmp 10) (Go.Operand.tmp 15) (Go.Operand.const (Go.Value.bool Bool.false)), type := 4, pos := "ref.go:58", after := #[{ on := 3, ground := Go.Ground.data }, { on := 8, ground := Go.Ground.data }], guard := Option.none }) (v := ?_) rfl (by kernel_rfl) (by kernel_rfl) (by kernel_rfl) (fun _ _ _ h => h) (Or.inl ⟨by rfl, ?_⟩) (by assumption) ?_
  rotate_left
  · intro w hSw; (try dsimp only at hSw); go_simp; all_goals (with_reducible rfl)
  try simp only [Act.put, List.setIfInBounds_toArray, List.set_cons_zero, List.set_cons_succ]
  refine wpAnyH_take (i := 10) (oi := { dst := Option.some 17, op := Go.Op.move (Go.Operand.tmp 16), type := 4, pos := "ref.go:58", after := #[{ on := 9, ground := Go.Ground.data }, { on := 7, ground := Go.Ground.chain }], guard := Option.none }) (v := ?_) rfl (by kernel_rfl) (by kernel_rfl) (by kernel_rfl) (fun _ _ _ h => h) (Or.inl ⟨by rfl, ?_⟩) (by assumption) ?_
  rotate_left
  · intro w hSw; (try dsimp only at hSw); go_simp; all_goals (with_reducible rfl)
  try simp only [Act.put, List.setIfInBounds_toArray, List.set_cons_zero, List.set_cons_succ]
  refine wpAnyH_take (i := 11) (oi := { dst := Option.some 18, op := Go.Op.load 36 (Go.Operand.tmp 2), type := 36, pos := "ref.go:58", after := #[{ on := 10, ground := Go.Ground.guard }], guard := Option.some (10, Bool.true) }) (v := undef) rfl (by kernel_rfl) (by kernel_rfl) (by kernel_rfl) (fun _ _ _ h => h) (Or.inr ⟨by rfl, rfl⟩) (by assumption) ?_
  try simp only [Act.put, List.setIfInBounds_toArray, List.set_cons_zero, List.set_cons_succ]
  refine wpAnyH_take (i := 12) (oi := { dst := Option.some 19, op := Go.Op.fieldAddr 43 (Go.Operand.tmp 3) 3, type := 0, pos := "ref.go:58", after := #[{ on := 10, ground := Go.Ground.guard }], guard := Option.some (10, Bool.true) }) (v := undef) rfl (by kernel_rfl) (by kernel_rfl) (by kernel_rfl) (fun _ _ _ h => h) (Or.inr ⟨by rfl, rfl⟩) (by assumption) ?_
  try simp only [Act.put, List.setIfInBounds_toArray, List.set_cons_zero, List.set_cons_succ]
  refine wpAnyH_take (i := 13) (oi := { dst := Option.some 20, op := Go.Op.load 2 (Go.Operand.tmp 19), type := 2, pos := "ref.go:58", after := #[{ on := 12, ground := Go.Ground.data }, { on := 10, ground := Go.Ground.guard }], guard := Option.some (10, Bool.true) }) (v := undef) rfl (by kernel_rfl) (by kernel_rfl) (by kernel_rfl) (fun _ _ _ h => h) (Or.inr ⟨by rfl, rfl⟩) (by assumption) ?_
  try simp only [Act.put, List.setIfInBounds_toArray, List.set_cons_zero, List.set_cons_succ]
  refine wpAnyH_take (i := 14) (oi := { dst := Option.some 21, op := Go.Op.call { callee := Go.Callee.value (Go.Operand.func 30), args := #[Go.Operand.tmp 18, Go.Operand.tmp 20], argTypes := #[36, 2] }, type := 2, pos := "ref.go:58", after := #[{ on := 11, ground := Go.Ground.data }, { on := 13, ground := Go.Ground.data }, { on := 10, ground := Go.Ground.chain }, { on := 10, ground := Go.Ground.guard }], guard := Option.some (10, Bool.true) }) (v := undef) rfl (by kernel_rfl) (by kernel_rfl) (by kernel_rfl) (fun _ _ _ h => h) (Or.inr ⟨by rfl, rfl⟩) (by assumption) ?_
  try simp only [Act.put, List.setIfInBounds_toArray, List.set_cons_zero, List.set_cons_succ]
  refine wpAnyH_take (i := 15) (oi := { dst := Option.some 22, op := Go.Op.binOp Go.BinOp.eql 2 (Go.Operand.tmp 21) (Go.Operand.const (Go.Value.int Go.IntKind.i64 0)) 2, type := 4, pos := "ref.go:58", after := #[{ on := 14, ground := Go.Ground.data }, { on := 10, ground := Go.Ground.guard }], guard := Option.some (10, Bool.true) }) (v := undef) rfl (by kernel_rfl) (by kernel_rfl) (by kernel_rfl) (fun _ _ _ h => h) (Or.inr ⟨by rfl, rfl⟩) (by assumption) ?_
  try simp only [Act.put, List.setIfInBounds_toArray, List.set_cons_zero, List.set_cons_succ]
  refine wpAnyH_take (i := 16) (oi := { dst := Option.some 23, op := Go.Op.pick (Go.Operand.tmp 17) (Go.Operand.tmp 22) (Go.Operand.const (Go.Value.bool Bool.false)), type := 4, pos := "ref.go:58", after := #[{ on := 10, ground := Go.Ground.data }, { on := 15, ground := Go.Ground.data }], guard := Option.none }) (v := ?_) rfl (by kernel_rfl) (by kernel_rfl) (by kernel_rfl) (fun _ _ _ h => h) (Or.inl ⟨by rfl, ?_⟩) (by assumption) ?_
  rotate_left
  · intro w hSw; (try dsimp only at hSw); go_simp; all_goals (with_reducible rfl)
  try simp only [Act.put, List.setIfInBounds_toArray, List.set_cons_zero, List.set_cons_succ]
  refine wpAnyH_done (by kernel_rfl) ?_ _
  have HH := Lib.hid hHeld
  clear hHeld
  have HQ := HH
  clear HH
  generalize Z.drew = wq at *
  obtain ⟨⟨c0, c1, c2, c3, c4⟩, ⟨k0, k1, k3, k4⟩, _⟩ := HQ.out
  have HRV1 := Lib.hid (HRV.out wq HQ.out.2.2)
  go_wp2_with fail
  refine HRV1.out.mono ?_
  rintro e w3 ⟨rfl, hb3⟩
  have HQ3 := Lib.hid (hr8_keep HQ.out hb3)
  clear hb3 c0 c1 c2 c3 c4 k0 k1 k3 k4 HRV1
  obtain ⟨⟨c0, c1, c2, c3, c4⟩, ⟨k0, k1, k3, k4⟩, _⟩ := HQ3.out
  have HDN1 := Lib.hid (HDN.out w3 HQ3.out.2.2)
  have HDE := Lib.hid (show decide (m.id ∈ M) = false by simpa using HK3.out)
  rw [HDE.out] at HDN1
  go_wp2_with fail
  refine HDN1.out.mono ?_
  rintro e w2 ⟨rfl, hb4⟩
  have HH := Lib.hid (hr8_keep HQ3.out hb4)
  clear hb4 c0 c1 c2 c3 c4 k0 k1 k3 k4 HDN1
  have HX2 := Lib.hid (HXZ.out.kept (HH.out.2.2.1.block _ HXZ.out.lt))
  have HY2 := Lib.hid (HYZ.out.kept (HH.out.2.2.1.block _ HYZ.out.lt))
  have HZ2 := Lib.hid (HZZ.out.kept (HH.out.2.2.1.block _ HZZ.out.lt))
  have HB2 := Lib.hid (bell_up HBZ.out HH.out.2.2.1)
  have HLL := Lib.hid (HM0.out.1.below HB2.out)
  obtain ⟨⟨c0, c1, c2, c3, c4⟩, ⟨k0, k1, k3, k4⟩, _⟩ := HH.out
  have hbs := empty_longs
  have hEO := empty_own w2 2 1
  have hb3 := HB2.out.alloc (o := .cells #[] 2) HB2.out.size
  obtain ⟨w9, hw3⟩ : ∃ w9, w9 = w2.alloc (.cells #[] 2) := ⟨_, rfl⟩
  rw [← hw3] at hEO hb3
  have hs3 : w2.heap.size + 1 = w9.heap.size := by rw [hw3]; exact (Array.size_push _).symm
  have HX3 := Lib.hid (show Whole w9 w.heap.size 36 _ from by rw [hw3]; exact HX2.out.kept ((below_alloc w2 _).block _ HX2.out.lt))
  have HY3 := Lib.hid (show Whole w9 (w.heap.size + 1) 43 _ from by rw [hw3]; exact HY2.out.kept ((below_alloc w2 _).block _ HY2.out.lt))
  have HZ3 := Lib.hid (show Whole w9 (w.heap.size + 1 + 1) 36 _ from by rw [hw3]; exact HZ2.out.kept ((below_alloc w2 _).block _ HZ2.out.lt))
  have HL3 := Lib.hid (show Lies w9 2 1 0 ja M.length jc (M.map (Value.int .i64)) from by rw [hw3]; exact HLL.out.below (below_alloc w2 _))
  have HEO := Lib.hid hEO
  have HB3 := Lib.hid hb3
  have HW3 := Lib.hid hw3
  have HS3 := Lib.hid hs3
  have HS2 := Lib.hid HB2.out.size
  have hln := HM.out
  have hxl := HX2.out.lt
  have hyl := HY2.out.lt
  rw [HDV.out] at c4
  clear hw3 hEO hb3 hs3
  have hone : ∀ (l : List Int) (u : Value), u ∈ l.map (Value.int .i64) → u.oneCell' = true := fun l u hu => by
    obtain ⟨k, _, rfl⟩ := List.mem_map.1 hu
    rfl
  have HONE := Lib.hid hone
  clear hone
  go_upto_region 6 with (at_builtin; rw [← HW3.out]; refine wpList_append_at_any _ rfl _ _ 34 rfl w2.heap.size 2 i0 (.int .i64 0) 1 8 Tryz.underlying34 hi0 hz0 hz1 hz2 rfl (by decide) _ 0 _ rfl HEO.out ja M.length jc (M.map (Value.int .i64)) rfl HL3.out.len HL3.out.nil HL3.out.news (HONE.out M) (by unfold maxLen; omega) (by omega) (by have := HS3.out; omega) ?_; intro v4 w4 hown4 hgrow4 hat4)
  obtain ⟨a4, cc4, rfl, _, _⟩ := owned_some hown4
  have hgr : w9.grownBy w4 (some w2.heap.size) := hgrow4
  have hb4 : Below w.heap.size w w4 := HB3.out.grown hgr HB3.out.size (fun j hj => by
    injection hj with hj
    have := HS2.out
    omega)
  have hkeep : ∀ k, k < w2.heap.size → w4.heap[k]? = w9.heap[k]? := fun k hk => hgr.block k (by have := HS3.out; omega) (fun e => by
    injection e with e
    omega)
  have HX4 := Lib.hid (HX3.out.kept (hkeep _ hxl))
  have HY4 := Lib.hid (HY3.out.kept (hkeep _ hyl))
  have HZ4 := Lib.hid (HZ3.out.kept (hkeep _ HZ2.out.lt))
  have HB4 := Lib.hid hb4
  have HO4 := Lib.hid hown4
  have HS4 := Lib.hid (show w2.heap.size ≤ w4.heap.size from Nat.le_trans (by have := HS3.out; omega) hgrow4.size)
  have hx4 := HX4.out.lt
  have hy4 := HY4.out.lt
  clear hown4 hgrow4 hgr hat4 hb4 hkeep c0 c1 c2 c3 c4 k0 k1 k3 k4 hbs HEO HW3
  have k3 := HY4.out.cell 3
  have HNW := Lib.hid (show ∀ W : World, W = w4.alloc (.cells #[.int .i64 m.id] 2) → Whole W w.heap.size 36 _ ∧ Below w.heap.size w W ∧ w4.heap.size ≤ W.heap.size from fun W hW => by
    rw [hW]
    exact ⟨HX4.out.kept ((below_alloc w4 _).block _ HX4.out.lt), HB4.out.alloc HB4.out.size _, (below_alloc w4 _).size⟩)
  go_upto_region 7 with (at_builtin; refine wpList_append_at_any _ rfl _ _ 34 rfl w2.heap.size 2 i0 (.int .i64 0) 1 8 Tryz.underlying34 hi0 hz0 hz1 hz2 rfl (by decide) _ (0 + M.length) _ rfl (HO4.out.alloc _) (some ⟨w4.heap.size, 0, none⟩) 1 1 [.int .i64 m.id] rfl rfl (by intro h; cases h) (by rintro ad he; injection he with he; subst he; exact cells_new _ [.int .i64 m.id] _) (HONE.out [m.id]) (by unfold maxLen; omega) (by omega) (by have := HS4.out; simp; omega) ?_; intro v5 w5 hown5 hgrow5 hat5; obtain ⟨a5, cc5, rfl, _, _⟩ := owned_some hown5; have HO5 := Lib.hid hown5; have HG5 := Lib.hid hgrow5; have HX5 := Lib.hid ((HNW.out _ rfl).1.kept (hgrow5.block _ (Nat.lt_of_lt_of_le HX4.out.lt (HNW.out _ rfl).2.2) (fun e => by have h9 := (HO4.out.lt _ e.symm).1; have h8 := HX2.out.lt; omega))); have y4 := HX5.out.free 4; have x4 := HX5.out.cell 4; clear hown5 hgrow5 hat5)
  have HW4 := Lib.hid (HNW.out _ rfl)
  obtain ⟨wn, hwn⟩ : ∃ wn, wn = w4.alloc (.cells #[.int .i64 m.id] 2) := ⟨_, rfl⟩
  rw [← hwn] at HW4 HG5
  have HZn := Lib.hid (show Whole wn (w.heap.size + 1 + 1) 36 _ from by rw [hwn]; exact HZ4.out.kept ((below_alloc w4 _).block _ HZ4.out.lt))
  have hne : ∀ k, k < w2.heap.size → some k ≠ (Value.slice a4 (0 + M.length) cc4).ownBlock := fun k hk e => by
    have := (HO4.out.lt _ e.symm).1
    omega
  have HZ5 := Lib.hid (HZn.out.kept (HG5.out.block _ HZn.out.lt (hne _ HZ2.out.lt)))
  have HB5 := Lib.hid (show Below w.heap.size w w5 from HW4.out.2.1.grown HG5.out HW4.out.2.1.size (fun j hj => by have := (HO4.out.lt _ hj).1; have := HS2.out; omega))
  have hlen1 : 0 + M.length + 1 = M.length + 1 := by omega
  rw [hlen1] at HO5
  try rw [hlen1]
  have HME := Lib.hid (show [] ++ M.map (Value.int .i64) ++ [.int .i64 m.id] = (M ++ [m.id]).map (Value.int .i64) from by simp)
  rw [HME.out] at HO5
  obtain ⟨a6, c6, he6, hl6⟩ := Lies.owned HO5.out
  injection he6 with he6 _ hc6
  subst he6 hc6
  have HL6 := Lib.hid hl6
  have HY6 := Lib.hid (Msgy.own HO5.out)
  obtain ⟨wz, hwz⟩ : ∃ wz, wz = w5.setCell ⟨w.heap.size, 4, none⟩ (.slice a5 (M.length + 1) cc5) := ⟨_, rfl⟩
  rw [← hwz]
  have HXW := Lib.hid (show Whole wz w.heap.size 36 #[.string S, .int .i64 d, .int .i64 r, iv, .slice a5 (M.length + 1) cc5] from by rw [hwz]; exact HX5.out.store 4 _)
  have HZW := Lib.hid (show Whole wz (w.heap.size + 1 + 1) 36 #[.string ⟨#[]⟩, .int .i64 0, .int .i64 0, .slice none 0 0, .slice none 0 0] from by rw [hwz]; exact HZ5.out.kept (Below.heap_setCell _ ⟨w.heap.size, 4, none⟩ _ _ (by show w.heap.size + 1 + 1 ≠ w.heap.size; omega)))
  have HBL := Lib.hid (show Below w.heap.size w wz from by rw [hwz]; exact HB5.out.setCell (p := ⟨w.heap.size, 4, none⟩) (Nat.le_refl _) _)
  have HCZ := Lib.hid (show Chg w5 wz (fun k => k = w.heap.size) from by rw [hwz]; exact (Chg.refl w5 (fun k => k = w.heap.size)).set rfl 4 _)
  have HBX := Lib.hid (box5_of HXW.out)
  clear k3 x4 y4 hwz hwn hlen1 hl6 hne HME
  rw [HIV.out] at HBX
  clear HO5
  obtain ⟨x0, x1, x2, x3, x4⟩ := HBX.out
  have f0 := HZW.out.free 0
  have f1 := HZW.out.free 1
  have f2 := HZW.out.free 2
  have f3 := HZW.out.free 3
  have f4 := HZW.out.free 4
  have z0 := HZW.out.cell 0
  have z1 := HZW.out.cell 1
  have z2 := HZW.out.cell 2
  have z3 := HZW.out.cell 3
  have z4 := HZW.out.cell 4
  have HF := Lib.hid (show Whole (((((wz.setCell ⟨w.heap.size + 1 + 1, 0, none⟩ (.string S)).setCell ⟨w.heap.size + 1 + 1, 1, none⟩ (.int .i64 d)).setCell ⟨w.heap.size + 1 + 1, 2, none⟩ (.int .i64 r)).setCell ⟨w.heap.size + 1 + 1, 3, none⟩ (.slice ia L.length ic)).setCell ⟨w.heap.size + 1 + 1, 4, none⟩ (.slice a5 (M.length + 1) cc5)) (w.heap.size + 1 + 1) 36 #[.string S, .int .i64 d, .int .i64 r, .slice ia L.length ic, .slice a5 (M.length + 1) cc5] from ((((HZW.out.store 0 _).store 1 _).store 2 _).store 3 _).store 4 _)
  have HCF := Lib.hid (show Chg wz (((((wz.setCell ⟨w.heap.size + 1 + 1, 0, none⟩ (.string S)).setCell ⟨w.heap.size + 1 + 1, 1, none⟩ (.int .i64 d)).setCell ⟨w.heap.size + 1 + 1, 2, none⟩ (.int .i64 r)).setCell ⟨w.heap.size + 1 + 1, 3, none⟩ (.slice ia L.length ic)).setCell ⟨w.heap.size + 1 + 1, 4, none⟩ (.slice a5 (M.length + 1) cc5)) (fun k => k = w.heap.size + 1 + 1) from (((((Chg.refl wz (fun k => k = w.heap.size + 1 + 1)).set rfl 0 _).set rfl 1 _).set rfl 2 _).set rfl 3 _).set rfl 4 _)
  go_wp2_with fail
  refine bodyPost_ret (v := .agg #[.string S, .int .i64 d, .int .i64 r, .slice ia L.length ic, .slice a5 (M.length + 1) cc5]) (res_one Tryz.results28 _ _ (w.heap.size + 1 + 1) 36 #[.string S, .int .i64 d, .int .i64 r, .slice ia L.length ic, .slice a5 (M.length + 1) cc5] _ rfl HF.out Tryz.underlying36 rfl (by kernel_rfl)) rfl ⟨.slice a5 (M.length + 1) cc5, by rw [HIV.out], ⟨a5, cc5, by simp, by simpa only [List.length_append, List.length_singleton] using ((Lies.chg (Lies.chg HL6.out HCZ.out (fun j hj => by have h9 : j = w.heap.size := hj; omega)) HCF.out (fun j hj => by have h9 : j = w.heap.size + 1 + 1 := hj; have := HZ2.out.lt; omega)).mono (Nat.zero_le _)), Msgy.chg (Msgy.chg HY6.out HL6.out HCZ.out (fun j hj => by have h9 : j = w.heap.size := hj; omega)) (Lies.chg HL6.out HCZ.out (fun j hj => by have h9 : j = w.heap.size := hj; omega)) HCF.out (fun j hj => by have h9 : j = w.heap.size + 1 + 1 := hj; have := HZ2.out.lt; omega)⟩, (Chg.trans (Chg.ofBelow (fun k => k = w.heap.size + 1 + 1) HBL.out) HCF.out).below (fun k hk => by have h3 : k = w.heap.size + 1 + 1 := hk; omega) (Nat.le_refl _)⟩
end Go.Proofs.YteodldmbnghfcaaGreat.Rl

namespace Go.Proofs.YteodldmbnghfcaaGreat.Rl
open Go.RowKit

def dstep (L : List Iss) (M : List Int) (m : MsgD) : List Int := if m.kind = 2 ∧ idx L m.id ≠ none ∧ m.id ∉ M then M ++ [m.id] else M
/-- The document's revisions and what is resolved of them. -/
structure DQ (L : List Iss) (M : List Int) (k : Nat) : Prop where
  rise : Rise L
  dn : ∀ x ∈ L, (x.done = true ↔ x.id ∈ M)
  sub : ∀ j ∈ M, j ∈ L.map (·.id)
  nl : L.length ≤ k
  nm : M.length ≤ k
theorem DQ.nil : DQ [] [] 0 := ⟨Rise.nil, by simp, by simp, by simp, by simp⟩
theorem RI.mark {w : World} {L : List Iss} {iv : Value} (h : RI w L iv) (i : Nat) : RI w (mark L i) iv := by
  obtain ⟨a, c, h1, h2, h3⟩ := h
  exact ⟨a, c, by rw [mark_len]; exact h1, by rw [mark_len, mIs_mark]; exact h2, h3⟩
theorem id_nodup {L : List Iss} (h : Rise L) {i j : Nat} {x y : Iss} (hx : L[i]? = some x) (hy : L[j]? = some y) (he : x.id = y.id) : i = j := by
  have h1 := (List.getElem?_eq_some_iff.1 hx)
  have h2 := (List.getElem?_eq_some_iff.1 hy)
  obtain ⟨l1, e1⟩ := h1
  obtain ⟨l2, e2⟩ := h2
  have hn := h.nd
  have hn := List.pairwise_iff_getElem.1 hn
  rcases Nat.lt_trichotomy i j with hij | hij | hij
  · exact ((hn i j (by simpa using l1) (by simpa using l2) hij) (by simp [e1, e2, he])).elim
  · exact hij
  · exact ((hn j i (by simpa using l2) (by simpa using l1) hij) (by simp [e1, e2, he])).elim
theorem DQ.step {L : List Iss} {M : List Int} {k : Nat} (h : DQ L M k) {m : MsgD} (hm : m.in64) : DQ (rstep L m) (dstep L M m) (k + 1) := by
  have hr := h.rise.step hm
  have hlen := (rstep_len L m).2
  by_cases h1 : m.kind = 1 ∧ idx L m.id = none ∧ lastR L < m.rev
  · have hd : dstep L M m = M := by unfold dstep; rw [if_neg (by rintro ⟨h2, _⟩; have := h1.1; omega)]
    rw [hd]
    rw [rstep_new h1.1 h1.2.1 h1.2.2] at hr hlen ⊢
    refine ⟨hr, fun x hx => ?_, fun j hj => ?_, by have := h.nl; rw [List.length_append, List.length_singleton]; omega, by have := h.nm; omega⟩
    · rcases List.mem_append.1 hx with hx | hx
      · exact h.dn x hx
      · rw [List.mem_singleton] at hx
        rw [hx]
        refine ⟨fun hf => (by cases hf), fun hmem => ?_⟩
        exact absurd (h.sub _ hmem) (idx_none_iff.1 h1.2.1)
    · rw [List.map_append]
      exact List.mem_append_left _ (h.sub j hj)
  · by_cases h2 : m.kind = 2 ∧ idx L m.id ≠ none
    · obtain ⟨i, hi⟩ := Option.ne_none_iff_exists'.1 h2.2
      have hin : m.id ∈ L.map (·.id) := by
        by_cases hn : m.id ∈ L.map (·.id)
        · exact hn
        · rw [idx_none hn] at hi; cases hi
      obtain ⟨i', x, hi', hx, hxid⟩ := idx_some hin
      rw [hi] at hi'
      injection hi' with hi'
      subst hi'
      have hdm : m.id ∈ dstep L M m ∧ (∀ j, j ∈ dstep L M m ↔ j ∈ M ∨ j = m.id) ∧ (dstep L M m).length ≤ M.length + 1 := by
        unfold dstep
        by_cases hmem : m.id ∈ M
        · rw [if_neg (fun h3 => h3.2.2 hmem)]
          exact ⟨hmem, fun j => ⟨.inl, fun h3 => h3.elim id (fun e => e ▸ hmem)⟩, by omega⟩
        · rw [if_pos ⟨h2.1, h2.2, hmem⟩]
          refine ⟨by simp, fun j => by simp, by simp⟩
      rw [rstep_mark h2.1 hi] at hr hlen ⊢
      refine ⟨hr, fun y hy => ?_, fun j hj => ?_, by have := h.nl; rw [mark_len]; omega, by have := h.nm; have := hdm.2.2; omega⟩
      · obtain ⟨j, hj⟩ := List.getElem?_of_mem hy
        rw [mark_at] at hj
        rw [hdm.2.1]
        by_cases hij : i = j
        · subst hij
          rw [if_pos rfl, hx] at hj
          simp only [Option.map_some, Option.some.injEq] at hj
          rw [← hj]
          exact ⟨fun _ => .inr hxid, fun _ => rfl⟩
        · rw [if_neg hij] at hj
          have hne : y.id ≠ m.id := fun e => hij (id_nodup h.rise hx hj (hxid.trans e.symm))
          rw [h.dn y (List.mem_of_getElem? hj)]
          exact ⟨.inl, fun h3 => h3.elim id (fun e => absurd e hne)⟩
      · rw [mark_ids]
        rcases (hdm.2.1 j).1 hj with h3 | h3
        · exact h.sub j h3
        · rw [h3]; exact hin
    · have hd : dstep L M m = M := by unfold dstep; rw [if_neg (fun h3 => h2 ⟨h3.1, h3.2.1⟩)]
      rw [hd]
      rw [rstep_same h1 h2] at hr hlen ⊢
      exact ⟨h.rise, h.dn, h.sub, by have := h.nl; omega, by have := h.nm; omega⟩
theorem rreplay_any {k : Nat} (w : World) (V : Value) (m : MsgD) (S : ByteArray) (d r : Int) (iv dv : Value) (L : List Iss) (M : List Int) (hm : MsgIn w V m) (hi : RI w L iv) (hj : RJ w M dv) (hq : DQ L M k) (hk : k ≤ 1048576) :
    Calls Tryz.prog 28 #[RO S d r iv dv, V] w fun e w' => ∃ iv' dv', e = .returned (RO S d r iv' dv') ∧ RI w' (rstep L m) iv' ∧ RJ w' (dstep L M m) dv' ∧ Below w.heap.size w w' := by
  have hn : L.length ≤ 1048576 := Nat.le_trans hq.nl hk
  have hmn : M.length ≤ 1048576 := Nat.le_trans hq.nm hk
  by_cases h1 : m.kind = 1 ∧ idx L m.id = none ∧ lastR L < m.rev
  · have hd : dstep L M m = M := by unfold dstep; rw [if_neg (by rintro ⟨h2, _⟩; have := h1.1; omega)]
    rw [hd, rstep_new h1.1 h1.2.1 h1.2.2]
    refine (rreplay_new w V m S d r iv dv L M hm hi hj hn hmn hq.rise h1.1 h1.2.1 h1.2.2).mono ?_
    rintro e w' ⟨iv', rfl, h2, h3⟩
    exact ⟨iv', dv, rfl, h2, hj.below h3, h3⟩
  · by_cases h2 : m.kind = 2 ∧ idx L m.id ≠ none ∧ m.id ∉ M
    · have hd : dstep L M m = M ++ [m.id] := by unfold dstep; rw [if_pos h2]
      obtain ⟨i, hii⟩ := Option.ne_none_iff_exists'.1 h2.2.1
      rw [hd, rstep_mark h2.1 hii]
      refine (rreplay_mark w V m S d r iv dv L M hm hi hj hn hmn hq.rise h2.1 h2.2.1 h2.2.2).mono ?_
      rintro e w' ⟨dv', rfl, h3, h4⟩
      exact ⟨iv, dv', rfl, (hi.below h4).mark i, h3, h4⟩
    · have hd : dstep L M m = M := by unfold dstep; rw [if_neg h2]
      rw [hd]
      refine (rreplay_same w V m S d r iv dv L M hm hi hj hn hmn hq.rise h1 h2).mono ?_
      rintro e w' ⟨rfl, h4⟩
      refine ⟨iv, dv, rfl, ?_, hj.below h4, h4⟩
      by_cases h5 : m.kind = 2 ∧ idx L m.id ≠ none
      · obtain ⟨i, hii⟩ := Option.ne_none_iff_exists'.1 h5.2
        rw [rstep_mark h5.1 hii]
        exact (hi.below h4).mark i
      · rw [rstep_same h1 h5]
        exact hi.below h4
/-- What records come to: the numbers that are resolved. -/
def dpair (p : List Iss × List Int) (m : MsgD) : List Iss × List Int := (rstep p.1 m, dstep p.1 p.2 m)
def dep (ms : List MsgD) : List Int := (ms.foldl dpair ([], [])).2
theorem dfold_fst (ms : List MsgD) : ∀ p : List Iss × List Int, (ms.foldl dpair p).1 = ms.foldl rstep p.1 := by
  induction ms with
  | nil => intro p; rfl
  | cons m ms ih => intro p; rw [List.foldl_cons, List.foldl_cons, ih]; rfl
theorem dep_snoc (ms : List MsgD) (m : MsgD) : dep (ms ++ [m]) = dstep (rep ms) (dep ms) m := by
  unfold dep
  rw [List.foldl_append]
  show dstep (ms.foldl dpair ([], [])).1 _ m = _
  rw [dfold_fst]
  rfl
theorem dq_fold : ∀ (ms : List MsgD) (p : List Iss × List Int) (k : Nat), DQ p.1 p.2 k → (∀ m ∈ ms, m.in64) → DQ (ms.foldl dpair p).1 (ms.foldl dpair p).2 (k + ms.length) := by
  intro ms
  induction ms with
  | nil => exact fun _ _ h _ => h
  | cons m ms ih =>
    intro p k h hm
    have h1 := ih (dpair p m) (k + 1) (h.step (hm m (by simp))) (fun x hx => hm x (List.mem_cons_of_mem _ hx))
    rw [List.foldl_cons, List.length_cons]
    rwa [show k + 1 + ms.length = k + (ms.length + 1) by omega] at h1
theorem dq_rep (ms : List MsgD) (h : ∀ m ∈ ms, m.in64) : DQ (rep ms) (dep ms) ms.length := by
  have h1 := dq_fold ms ([], []) 0 DQ.nil h
  rw [dfold_fst, Nat.zero_add] at h1
  exact h1
theorem rep_takeS {ms : List MsgD} {i : Nat} {m : MsgD} (h : ms[i]? = some m) : rep (ms.take (i + 1)) = rstep (rep (ms.take i)) m ∧ dep (ms.take (i + 1)) = dstep (rep (ms.take i)) (dep (ms.take i)) m := by
  have e : ms.take (i + 1) = ms.take i ++ [m] := by rw [List.take_add_one, h]; rfl
  rw [e, rep_snoc, dep_snoc]
  exact ⟨rfl, rfl⟩
set_option maxRecDepth 100000 in
set_option maxHeartbeats 8000000 in
theorem ropen14_any (w : World) (S : ByteArray) (d r : Int) (a : Option Addr) (n c : Nat) (ms : List MsgD) (hx : MsgsIn w a n ms) (hf : ∀ m ∈ ms, m.in64) (hn : n ≤ 1048576) :
    Calls Tryz.prog 8 #[RD S d r, .slice a n c] w fun e w' => ∃ iv dv, e = .returned (RO S d r iv dv) ∧ RI w' (rep ms) iv ∧ RJ w' (dep ms) dv ∧ Below w.heap.size w w' := by
  have hml := hx.1
  obtain ⟨X, hX, hwX, hbX⟩ := box_new w 32 #[.string S, .int .i64 d, .int .i64 r]
  obtain ⟨Z, hZ, hwZ, hbZ⟩ := ro_box X ⟨#[]⟩ 0 0 (.slice none 0 0) (.slice none 0 0)
  have hsX : X.heap.size = w.heap.size + 1 := by rw [hX]; exact Array.size_push _
  have hsZ : Z.heap.size = w.heap.size + 1 + 1 := by rw [hZ, ← hsX]; exact Array.size_push _
  rw [hsX] at hwZ
  obtain ⟨O, hO, hwO, hbO⟩ := ro_box Z S d r (.slice none 0 0) (.slice none 0 0)
  rw [hsZ] at hwO
  have HXZ := Lib.hid (hwX.kept (hbZ.block _ hwX.lt))
  have HZO := Lib.hid (hwZ.kept (hbO.block _ hwZ.lt))
  have HOO := Lib.hid hwO
  have HBO := Lib.hid (bell_up hbX (bell_up hbZ hbO))
  have HMS := Lib.hid hx
  have HF := Lib.hid hf
  have HML := Lib.hid hml
  clear hx hf hwX hwZ hwO hbX hbZ hbO hml
  have x0 := HXZ.out.cell 0
  have x1 := HXZ.out.cell 1
  have x2 := HXZ.out.cell 2
  unfold RD
  go_enter Tryz.func8, Tryz.ntmps8
  go_upto_region 1 with fail
  rw [← hX, ← hZ]
  clear hX hZ
  go_upto_region 2 with fail
  rw [← hO]
  clear hO x0 x1 x2
  have HS0 := Lib.hid (show RI O (rep (ms.take 0)) (.slice none 0 0) ∧ RJ O (dep (ms.take 0)) (.slice none 0 0) from ⟨⟨none, 0, rfl, Lies.none _ _ _ _, fun _ h => by cases h⟩, ⟨none, 0, rfl, Lies.none _ _ _ _, fun _ h => by cases h⟩⟩)
  go_wp2_with fail
  go_loopw [6] (fun iv wr => ∃ (i : Nat) (v1 v2 : Value), i ≤ n ∧ iv = .int .i64 (i : Int) ∧ Whole wr (w.heap.size + 1 + 1) 36 #[.string S, .int .i64 d, .int .i64 r, v1, v2] ∧ RI wr (rep (ms.take i)) v1 ∧ RJ wr (dep (ms.take i)) v2 ∧ Whole wr (w.heap.size + 1) 36 #[.string ⟨#[]⟩, .int .i64 0, .int .i64 0, .slice none 0 0, .slice none 0 0] ∧ Below w.heap.size w wr) (fun iv _ => n - (intOf iv).toNat)
  case atStart => exact ⟨0, _, _, by omega, rfl, HOO.out, HS0.out.1, HS0.out.2, HZO.out, HBO.out⟩
  case round =>
    obtain ⟨i, v1, v2, hin, rfl, hwo, hri, hrj, hwz, hbw⟩ := hrel
    obtain ⟨a1, c1, rfl, hl1⟩ := hri
    obtain ⟨a2, c2, rfl, hl2⟩ := hrj
    have HWO := Lib.hid hwo
    have HRI := Lib.hid (show RI wr (rep (ms.take i)) _ from ⟨a1, c1, rfl, hl1⟩)
    have HRJ := Lib.hid (show RJ wr (dep (ms.take i)) _ from ⟨a2, c2, rfl, hl2⟩)
    have HWZ := Lib.hid hwz
    have HBW := Lib.hid hbw
    clear hwo hl1 hl2 hwz hbw
    generalize (rep (ms.take i)).length = n1 at *
    generalize (dep (ms.take i)).length = n2 at *
    by_cases hil : i < n
    · obtain ⟨b, off, rfl, hbl, hcc⟩ := HMS.out.2.resolve_left (by omega)
      obtain ⟨m, hm⟩ : ∃ m, ms[i]? = some m := ⟨_, List.getElem?_eq_getElem (by have := HML.out; omega)⟩
      obtain ⟨s8, s9, s10, s11, hbx, hmi⟩ := hcc i m hm
      obtain ⟨na, ma, pa, qa, nn, nc, mn, mc, pn, pc, rn, qc, hma⟩ := hmi
      obtain ⟨rfl, rfl, rfl, rfl⟩ : s8 = .slice na nn nc ∧ s9 = .slice ma mn mc ∧ s10 = .slice pa pn pc ∧ s11 = .slice qa rn qc := by simpa using hma.val
      have hmi : MsgIn w (.agg #[.int .i64 m.kind, .int .i64 m.from_, .int .i64 m.«to», .int .i64 m.id, .int .i64 m.rev, .int .i64 m.epoch, .int .i64 m.slot, .bool m.flag, .slice na nn nc, .slice ma mn mc, .slice pa pn pc, .slice qa rn qc]) m := ⟨na, ma, pa, qa, nn, nc, mn, mc, pn, pc, rn, qc, hma⟩
      obtain ⟨q0, q1, q2, q3, q4, q5, q6, q7, q8, q9, q10, q11⟩ := hbx
      have p0 := (HBW.out.cell (p := ⟨b, _, none⟩) hbl).trans q0
      have p1 := (HBW.out.cell (p := ⟨b, _, none⟩) hbl).trans q1
      have p2 := (HBW.out.cell (p := ⟨b, _, none⟩) hbl).trans q2
      have p3 := (HBW.out.cell (p := ⟨b, _, none⟩) hbl).trans q3
      have p4 := (HBW.out.cell (p := ⟨b, _, none⟩) hbl).trans q4
      have p5 := (HBW.out.cell (p := ⟨b, _, none⟩) hbl).trans q5
      have p6 := (HBW.out.cell (p := ⟨b, _, none⟩) hbl).trans q6
      have p7 := (HBW.out.cell (p := ⟨b, _, none⟩) hbl).trans q7
      have p8 := (HBW.out.cell (p := ⟨b, _, none⟩) hbl).trans q8
      have p9 := (HBW.out.cell (p := ⟨b, _, none⟩) hbl).trans q9
      have p10 := (HBW.out.cell (p := ⟨b, _, none⟩) hbl).trans q10
      have p11 := (HBW.out.cell (p := ⟨b, _, none⟩) hbl).trans q11
      obtain ⟨c0, k1, k2, k3, k4⟩ := box5_of HWO.out
      have hij : (0:Int) ≤ (i:Int) ∧ (i:Int) < (n:Int) := by omega
      have hlo := HWO.out.lt
      have HDQ := Lib.hid (dq_rep (ms.take i) (fun x hx => HF.out x (List.mem_of_mem_take hx)))
      have HTS := Lib.hid (rep_takeS hm)
      have HM64 := Lib.hid (HF.out m (List.mem_of_getElem? hm))
      have hb0 := below_drewN wr 1
      have hrp := rreplay_any wr.drew _ m S d r _ _ _ _ (msgin_up hmi (HBW.out.trans (hb0.mono HBW.out.size))) (HRI.out.below hb0) (HRJ.out.below hb0) HDQ.out (by rw [List.length_take]; omega)
      unfold RO at hrp
      have HRP := Lib.hid hrp
      clear hrp hmi hma hm hcc q0 q1 q2 q3 q4 q5 q6 q7 q8 q9 q10 q11 hb0
      go_wp2_with fail
      refine wp_region_still_tail 5 (by kernel_rfl) (by kernel_rfl) ?_
      simp only [List.take_succ_cons, List.take_zero, List.drop_succ_cons, List.drop_zero]
      repeat still_step
      refine wpStill_nil ?_
      change wpList _ _ _ _ _ wr.drew
      go_wp2_with fail
      refine HRP.out.mono ?_
      rintro e w2 ⟨v3, v4, rfl, hri2, hrj2, hb2⟩
      rw [← HTS.out.1] at hri2
      rw [← HTS.out.2] at hrj2
      obtain ⟨a3, c3, rfl, hl3⟩ := hri2
      obtain ⟨a4, c4, rfl, hl4⟩ := hrj2
      have HB2 := Lib.hid (show Below wr.heap.size wr w2 from (below_drewN wr 1).trans hb2)
      have hw2 := HWO.out.kept (HB2.out.block _ HWO.out.lt)
      have hz2 := HWZ.out.kept (HB2.out.block _ HWZ.out.lt)
      have hbw2 := HBW.out.trans (HB2.out.mono HBW.out.size)
      have HR3 := Lib.hid (show RI w2 (rep (ms.take (i + 1))) _ from ⟨a3, c3, rfl, hl3⟩)
      have HR4 := Lib.hid (show RJ w2 (dep (ms.take (i + 1))) _ from ⟨a4, c4, rfl, hl4⟩)
      generalize (rep (ms.take (i + 1))).length = n3 at *
      generalize (dep (ms.take (i + 1))).length = n4 at *
      obtain ⟨f0, f1, f2, f3, f4⟩ : w2.frozen? ⟨w.heap.size + 1 + 1, 0, none⟩ = false ∧ w2.frozen? ⟨w.heap.size + 1 + 1, 1, none⟩ = false ∧ w2.frozen? ⟨w.heap.size + 1 + 1, 2, none⟩ = false ∧ w2.frozen? ⟨w.heap.size + 1 + 1, 3, none⟩ = false ∧ w2.frozen? ⟨w.heap.size + 1 + 1, 4, none⟩ = false := ⟨hw2.free 0, hw2.free 1, hw2.free 2, hw2.free 3, hw2.free 4⟩
      obtain ⟨g0, g1, g2, g3, g4⟩ := box5_of hw2
      obtain ⟨wz, hwz⟩ : ∃ wz, wz = ((((w2.setCell ⟨w.heap.size + 1 + 1, 0, none⟩ (.string S)).setCell ⟨w.heap.size + 1 + 1, 1, none⟩ (.int .i64 d)).setCell ⟨w.heap.size + 1 + 1, 2, none⟩ (.int .i64 r)).setCell ⟨w.heap.size + 1 + 1, 3, none⟩ (.slice a3 n3 c3)).setCell ⟨w.heap.size + 1 + 1, 4, none⟩ (.slice a4 n4 c4) := ⟨_, rfl⟩
      have HWW := Lib.hid (show Whole wz (w.heap.size + 1 + 1) 36 #[.string S, .int .i64 d, .int .i64 r, .slice a3 n3 c3, .slice a4 n4 c4] from by rw [hwz]; exact ((((hw2.store 0 _).store 1 _).store 2 _).store 3 _).store 4 _)
      have hch : Chg w2 wz (fun k => k = w.heap.size + 1 + 1) := by rw [hwz]; exact (((((Chg.refl w2 (fun k => k = w.heap.size + 1 + 1)).set rfl 0 _).set rfl 1 _).set rfl 2 _).set rfl 3 _).set rfl 4 _
      have HRZ3 := Lib.hid (HR3.out.chg hw2 hch (by decide))
      have HRZ4 := Lib.hid (HR4.out.chg hw2 hch (by decide))
      have HZW := Lib.hid (hz2.kept (hch.block _ hz2.lt (by show w.heap.size + 1 ≠ w.heap.size + 1 + 1; omega)))
      have HBZ := Lib.hid ((Chg.trans (Chg.ofBelow (fun k => k = w.heap.size + 1 + 1) hbw2) hch).below (fun k hk => by have h3 : k = w.heap.size + 1 + 1 := hk; omega) (Nat.le_refl _))
      clear hl3 hl4 hb2 hw2 hz2 hbw2 hch c0 k1 k2 k3 k4 p0 p1 p2 p3 p4 p5 p6 p7 p8 p9 p10 p11
      go_wp2_with fail
      rw [← hwz]
      clear hwz f0 f1 f2 f3 f4 g0 g1 g2 g3 g4
      exact ⟨⟨i + 1, _, _, by omega, by go_num, HWW.out, HRZ3.out, HRZ4.out, HZW.out, HBZ.out⟩, by simp [intOf]; omega⟩
    · obtain rfl : i = n := by omega
      have HTK := Lib.hid (show ms.take i = ms from by rw [← HML.out, List.take_length])
      have HRI2 := Lib.hid (show RI wr (rep ms) _ from by have := HRI.out; rw [HTK.out] at this; exact this)
      have HRJ2 := Lib.hid (show RJ wr (dep ms) _ from by have := HRJ.out; rw [HTK.out] at this; exact this)
      obtain ⟨c0, k1, k2, k3, k4⟩ := box5_of HWO.out
      obtain ⟨z0, z1, z2, z3, z4⟩ := box5_of HWZ.out
      obtain ⟨f0, f1, f2, f3, f4⟩ : wr.frozen? ⟨w.heap.size + 1, 0, none⟩ = false ∧ wr.frozen? ⟨w.heap.size + 1, 1, none⟩ = false ∧ wr.frozen? ⟨w.heap.size + 1, 2, none⟩ = false ∧ wr.frozen? ⟨w.heap.size + 1, 3, none⟩ = false ∧ wr.frozen? ⟨w.heap.size + 1, 4, none⟩ = false := ⟨HWZ.out.free 0, HWZ.out.free 1, HWZ.out.free 2, HWZ.out.free 3, HWZ.out.free 4⟩
      have HFW := Lib.hid (show Whole (((((wr.setCell ⟨w.heap.size + 1, 0, none⟩ (.string S)).setCell ⟨w.heap.size + 1, 1, none⟩ (.int .i64 d)).setCell ⟨w.heap.size + 1, 2, none⟩ (.int .i64 r)).setCell ⟨w.heap.size + 1, 3, none⟩ (.slice a1 n1 c1)).setCell ⟨w.heap.size + 1, 4, none⟩ (.slice a2 n2 c2)) (w.heap.size + 1) 36 #[.string S, .int .i64 d, .int .i64 r, .slice a1 n1 c1, .slice a2 n2 c2] from ((((HWZ.out.store 0 _).store 1 _).store 2 _).store 3 _).store 4 _)
      have HCF := Lib.hid (show Chg wr (((((wr.setCell ⟨w.heap.size + 1, 0, none⟩ (.string S)).setCell ⟨w.heap.size + 1, 1, none⟩ (.int .i64 d)).setCell ⟨w.heap.size + 1, 2, none⟩ (.int .i64 r)).setCell ⟨w.heap.size + 1, 3, none⟩ (.slice a1 n1 c1)).setCell ⟨w.heap.size + 1, 4, none⟩ (.slice a2 n2 c2)) (fun k => k = w.heap.size + 1) from (((((Chg.refl wr (fun k => k = w.heap.size + 1)).set rfl 0 _).set rfl 1 _).set rfl 2 _).set rfl 3 _).set rfl 4 _)
      go_wp2_with fail
      refine bodyPost_ret (v := .agg #[.string S, .int .i64 d, .int .i64 r, .slice a1 n1 c1, .slice a2 n2 c2]) (res_one Tryz.results8 _ _ (w.heap.size + 1) 36 #[.string S, .int .i64 d, .int .i64 r, .slice a1 n1 c1, .slice a2 n2 c2] _ rfl HFW.out Tryz.underlying36 rfl (by kernel_rfl)) rfl ⟨_, _, rfl, HRI2.out.chg HWZ.out HCF.out (by decide), HRJ2.out.chg HWZ.out HCF.out (by decide), (Chg.trans (Chg.ofBelow (fun k => k = w.heap.size + 1) HBW.out) HCF.out).below (fun k hk => by have h3 : k = w.heap.size + 1 := hk; omega) (Nat.le_refl _)⟩
end Go.Proofs.YteodldmbnghfcaaGreat.Rl

namespace Go.Proofs.YteodldmbnghfcaaGreat.Rl
open Go.RowKit

/-- What a written record comes to in the document. -/
def RWr (S : ByteArray) (d : Int) (r : Nat) (iv dv : Value) (L : List Iss) (M : List Int) (m : MsgD) (e : Ending) (w' : World) : Prop :=
  (S.size + (rcd m).length ≤ r ∧ ∃ iv' dv', e = .returned (.tuple #[RO (S ++ strOfNums (rcd m)) ((S ++ strOfNums (rcd m)).size : Nat) r iv' dv', .int .i64 0]) ∧ RI w' (rstep L m) iv' ∧ RJ w' (dstep L M m) dv') ∨ (r < S.size + (rcd m).length ∧ e = .returned (.tuple #[RO S d r iv dv, .int .i64 3]))
set_option maxRecDepth 100000 in
set_option maxHeartbeats 8000000 in
theorem rwrite14_any {kq : Nat} (w : World) (V : Value) (m : MsgD) (S : ByteArray) (d : Int) (r : Nat) (iv dv : Value) (L : List Iss) (M : List Int) (hm : MsgIn w V m) (hs : m.small) (hg : m.good) (hi : RI w L iv) (hj : RJ w M dv) (hq : DQ L M kq) (hk : kq ≤ 1048576) (hS : S.size ≤ 1048576) :
    Calls Tryz.prog 31 #[RO S d r iv dv, V] w fun e w' => RWr S d r iv dv L M m e w' ∧ Below w.heap.size w w' := by
  obtain ⟨na, ma, pa, qa, nn, nc, mn, mc, pn, pc, rn, qc, hm⟩ := hm
  have hv := hm.val
  subst hv
  have hm : MsgIn w (.agg #[.int .i64 m.kind, .int .i64 m.from_, .int .i64 m.«to», .int .i64 m.id, .int .i64 m.rev, .int .i64 m.epoch, .int .i64 m.slot, .bool m.flag, .slice na nn nc, .slice ma mn mc, .slice pa pn pc, .slice qa rn qc]) m := ⟨na, ma, pa, qa, nn, nc, mn, mc, pn, pc, rn, qc, hm⟩
  obtain ⟨a1, c1, rfl, hl1⟩ := hi
  obtain ⟨a2, c2, rfl, hl2⟩ := hj
  have HI := Lib.hid (show RI w L _ from ⟨a1, c1, rfl, hl1⟩)
  have HJ := Lib.hid (show RJ w M _ from ⟨a2, c2, rfl, hl2⟩)
  generalize L.length = n1 at *
  generalize M.length = n2 at *
  obtain ⟨X, hX, hwX, hbX⟩ := ro_box w S d r (.slice a1 n1 c1) (.slice a2 n2 c2)
  obtain ⟨Y, hY, hwY, hbY⟩ := box_new X 43 #[.int .i64 m.kind, .int .i64 m.from_, .int .i64 m.«to», .int .i64 m.id, .int .i64 m.rev, .int .i64 m.epoch, .int .i64 m.slot, .bool m.flag, .slice na nn nc, .slice ma mn mc, .slice pa pn pc, .slice qa rn qc]
  obtain ⟨Z, hZ, hwZ, hbZ⟩ := ro_box Y ⟨#[]⟩ 0 0 (.slice none 0 0) (.slice none 0 0)
  have hsX : X.heap.size = w.heap.size + 1 := by rw [hX]; exact Array.size_push _
  have hsY : Y.heap.size = w.heap.size + 1 + 1 := by rw [hY, ← hsX]; exact Array.size_push _
  rw [hsX] at hwY
  rw [hsY] at hwZ
  have hbXZ := bell_up hbX (bell_up hbY hbZ)
  have HBZ := Lib.hid hbXZ
  have HXZ := Lib.hid ((hwX.kept (hbY.block _ hwX.lt)).kept (hbZ.block _ (Nat.lt_of_lt_of_le hwX.lt hbY.size)))
  have HYZ := Lib.hid (hwY.kept (hbZ.block _ hwY.lt))
  have HZZ := Lib.hid hwZ
  have HAD := Lib.hid (radd_any (.agg #[.int .i64 m.kind, .int .i64 m.from_, .int .i64 m.«to», .int .i64 m.id, .int .i64 m.rev, .int .i64 m.epoch, .int .i64 m.slot, .bool m.flag, .slice na nn nc, .slice ma mn mc, .slice pa pn pc, .slice qa rn qc]) Z m (msgin_up hm hbXZ) hs S d r hS)
  have HMI := Lib.hid hm
  have HG := Lib.hid hg
  have HQ := Lib.hid hq
  have HK := Lib.hid hk
  clear hl1 hl2 hm hs hg hq hk hwX hwY hwZ hbX hbY hbZ hbXZ hsX hsY
  obtain ⟨x0, x1, x2, x3, x4⟩ := box5_of HXZ.out
  have y0 := HYZ.out.cell 0
  have y1 := HYZ.out.cell 1
  have y2 := HYZ.out.cell 2
  have y3 := HYZ.out.cell 3
  have y4 := HYZ.out.cell 4
  have y5 := HYZ.out.cell 5
  have y6 := HYZ.out.cell 6
  have y7 := HYZ.out.cell 7
  have y8 := HYZ.out.cell 8
  have y9 := HYZ.out.cell 9
  have y10 := HYZ.out.cell 10
  have y11 := HYZ.out.cell 11
  unfold RO
  unfold RD at HAD
  go_enter Tryz.func31, Tryz.ntmps31
  go_upto_region 1 with fail
  rw [← hX, ← hY, ← hZ]
  clear hX hY hZ
  go_wp2_with fail
  refine HAD.out.mono ?_
  rintro e w1 ⟨⟨_, hfit, rfl⟩ | ⟨_, hno, rfl⟩ | ⟨hbad, _⟩, hb1⟩
  rotate_right
  · exact absurd HG.out hbad
  · skip
    have HB1 := Lib.hid hb1
    have HX1 := Lib.hid (HXZ.out.kept (hb1.block _ HXZ.out.lt))
    have HY1 := Lib.hid (HYZ.out.kept (hb1.block _ HYZ.out.lt))
    have HZ1 := Lib.hid (HZZ.out.kept (hb1.block _ HZZ.out.lt))
    unfold RD
    clear hb1 x0 x1 x2 x3 x4 y0 y1 y2 y3 y4 y5 y6 y7 y8 y9 y10 y11 HAD
    have HFI := Lib.hid hfit
    obtain ⟨T, hT⟩ : ∃ T, T = S ++ strOfNums (rcd m) := ⟨_, rfl⟩
    rw [← hT]
    have HT := Lib.hid hT
    clear hfit hT
    obtain ⟨E, hE, hwE, hbE⟩ := box_new w1 32 #[.string T, .int .i64 d, .int .i64 (r : Int)]
    have HXE := Lib.hid (HX1.out.kept (hbE.block _ HX1.out.lt))
    have HYE := Lib.hid (HY1.out.kept (hbE.block _ HY1.out.lt))
    have HZE := Lib.hid (HZ1.out.kept (hbE.block _ HZ1.out.lt))
    have HBE := Lib.hid (bell_up HBZ.out (bell_up HB1.out hbE))
    have e0 := hwE.cell 0
    have e1 := hwE.cell 1
    have e2 := hwE.cell 2
    have HEE := Lib.hid hwE
    go_upto_region 2 with fail
    rw [← hE]
    clear hE hwE hbE
    generalize w1.heap.size = eb at *
    have HSY := rsync_any T d r E
    unfold RD at HSY
    have HSY := Lib.hid HSY
    go_wp2_with fail
    refine HSY.out.mono ?_
    rintro e w2 ⟨rfl, hb2⟩
    have HX2 := Lib.hid (HXE.out.kept (hb2.block _ HXE.out.lt))
    have HY2 := Lib.hid (HYE.out.kept (hb2.block _ HYE.out.lt))
    have HZ2 := Lib.hid (HZE.out.kept (hb2.block _ HZE.out.lt))
    have HB2 := Lib.hid (bell_up HBE.out hb2)
    clear hb2 e0 e1 e2
    obtain ⟨x0, x1, x2, x3, x4⟩ := box5_of HX2.out
    have f0 := HX2.out.free 0
    have f1 := HX2.out.free 1
    have f2 := HX2.out.free 2
    obtain ⟨w3, hw3⟩ : ∃ w3, w3 = ((w2.setCell ⟨w.heap.size, 0, none⟩ (.string T)).setCell ⟨w.heap.size, 1, none⟩ (.int .i64 (T.size : Int))).setCell ⟨w.heap.size, 2, none⟩ (.int .i64 (r : Int)) := ⟨_, rfl⟩
    have HX3 := Lib.hid (show Whole w3 (w.heap.size) 36 #[.string T, .int .i64 (T.size : Int), .int .i64 (r : Int), .slice a1 n1 c1, .slice a2 n2 c2] from by rw [hw3]; exact ((HX2.out.store 0 _).store 1 _).store 2 _)
    have hc3 : Chg w2 w3 (fun k => k = w.heap.size) := by rw [hw3]; exact ((((Chg.refl w2 (fun k => k = w.heap.size)).set (b := w.heap.size) rfl 0 _).set (b := w.heap.size) rfl 1 _).set (b := w.heap.size) rfl 2 _)
    have HY3 := Lib.hid (HY2.out.kept (hc3.block _ HY2.out.lt (by show w.heap.size + 1 ≠ w.heap.size; omega)))
    have HZ3 := Lib.hid (HZ2.out.kept (hc3.block _ HZ2.out.lt (by show w.heap.size + 1 + 1 ≠ w.heap.size; omega)))
    have HB3 := Lib.hid (show Below w.heap.size w w3 from (Chg.trans (Chg.ofBelow (fun k => k = w.heap.size) HB2.out) hc3).below (fun k hk => by have h3 : k = w.heap.size := hk; omega) (Nat.le_refl _))
    have HI3 := Lib.hid (RI.chg (HI.out.below HB2.out) HX2.out hc3 (by decide))
    have HJ3 := Lib.hid (RJ.chg (HJ.out.below HB2.out) HX2.out hc3 (by decide))
    clear hc3
    go_upto_region 5 with fail
    rw [← hw3]
    clear hw3 x0 x1 x2 x3 x4 f0 f1 f2
    obtain ⟨x0, x1, x2, x3, x4⟩ := box5_of HX3.out
    have y0 := HY3.out.cell 0
    have y1 := HY3.out.cell 1
    have y2 := HY3.out.cell 2
    have y3 := HY3.out.cell 3
    have y4 := HY3.out.cell 4
    have y5 := HY3.out.cell 5
    have y6 := HY3.out.cell 6
    have y7 := HY3.out.cell 7
    have y8 := HY3.out.cell 8
    have y9 := HY3.out.cell 9
    have y10 := HY3.out.cell 10
    have y11 := HY3.out.cell 11
    have hrp := rreplay_any w3 _ m T (T.size : Int) (r : Int) _ _ _ _ (msgin_up HMI.out HB3.out) HI3.out HJ3.out HQ.out HK.out
    unfold RO at hrp
    have HRP := Lib.hid hrp
    clear hrp
    go_wp2_with fail
    refine HRP.out.mono ?_
    rintro e w4 ⟨v3, v4, rfl, hri, hrj, hb4⟩
    obtain ⟨a3, c3, rfl, hl3⟩ := hri
    obtain ⟨a4, c4, rfl, hl4⟩ := hrj
    have HI4 := Lib.hid (show RI w4 (rstep L m) _ from ⟨a3, c3, rfl, hl3⟩)
    have HJ4 := Lib.hid (show RJ w4 (dstep L M m) _ from ⟨a4, c4, rfl, hl4⟩)
    generalize (rstep L m).length = n3 at *
    generalize (dstep L M m).length = n4 at *
    have HZ4 := Lib.hid (HZ3.out.kept (hb4.block _ HZ3.out.lt))
    have HB4 := Lib.hid (bell_up HB3.out hb4)
    clear hl3 hl4 hb4 HRP x0 x1 x2 x3 x4 y0 y1 y2 y3 y4 y5 y6 y7 y8 y9 y10 y11
    obtain ⟨z0, z1, z2, z3, z4⟩ := box5_of HZ4.out
    obtain ⟨f0, f1, f2, f3, f4⟩ : w4.frozen? ⟨w.heap.size + 1 + 1, 0, none⟩ = false ∧ w4.frozen? ⟨w.heap.size + 1 + 1, 1, none⟩ = false ∧ w4.frozen? ⟨w.heap.size + 1 + 1, 2, none⟩ = false ∧ w4.frozen? ⟨w.heap.size + 1 + 1, 3, none⟩ = false ∧ w4.frozen? ⟨w.heap.size + 1 + 1, 4, none⟩ = false := ⟨(HZ4.out).free 0, (HZ4.out).free 1, (HZ4.out).free 2, (HZ4.out).free 3, (HZ4.out).free 4⟩
    have HFW := Lib.hid (show Whole (((((w4.setCell ⟨w.heap.size + 1 + 1, 0, none⟩ (.string T)).setCell ⟨w.heap.size + 1 + 1, 1, none⟩ (.int .i64 (T.size : Int))).setCell ⟨w.heap.size + 1 + 1, 2, none⟩ (.int .i64 (r : Int))).setCell ⟨w.heap.size + 1 + 1, 3, none⟩ (.slice a3 n3 c3)).setCell ⟨w.heap.size + 1 + 1, 4, none⟩ (.slice a4 n4 c4)) (w.heap.size + 1 + 1) 36 #[.string T, .int .i64 (T.size : Int), .int .i64 (r : Int), .slice a3 n3 c3, .slice a4 n4 c4] from (((((HZ4.out).store 0 _).store 1 _).store 2 _).store 3 _).store 4 _)
    have HFC := Lib.hid (show Chg w4 (((((w4.setCell ⟨w.heap.size + 1 + 1, 0, none⟩ (.string T)).setCell ⟨w.heap.size + 1 + 1, 1, none⟩ (.int .i64 (T.size : Int))).setCell ⟨w.heap.size + 1 + 1, 2, none⟩ (.int .i64 (r : Int))).setCell ⟨w.heap.size + 1 + 1, 3, none⟩ (.slice a3 n3 c3)).setCell ⟨w.heap.size + 1 + 1, 4, none⟩ (.slice a4 n4 c4)) (fun k => k = w.heap.size + 1 + 1) from ((((((Chg.refl w4 (fun k => k = w.heap.size + 1 + 1)).set (b := w.heap.size + 1 + 1) rfl 0 _).set (b := w.heap.size + 1 + 1) rfl 1 _).set (b := w.heap.size + 1 + 1) rfl 2 _).set (b := w.heap.size + 1 + 1) rfl 3 _).set (b := w.heap.size + 1 + 1) rfl 4 _))
    go_wp2_with fail
    refine bodyPost_ret (v := .tuple #[.agg #[.string T, .int .i64 (T.size : Int), .int .i64 (r : Int), .slice a3 n3 c3, .slice a4 n4 c4], .int .i64 0]) (res_two Tryz.results31 _ _ (w.heap.size + 1 + 1) 36 #[.string T, .int .i64 (T.size : Int), .int .i64 (r : Int), .slice a3 n3 c3, .slice a4 n4 c4] _ _ rfl rfl HFW.out Tryz.underlying36 rfl (by kernel_rfl)) rfl ⟨.inl ⟨HFI.out, .slice a3 n3 c3, .slice a4 n4 c4, by rw [← HT.out]; rfl, RI.chg HI4.out HZ4.out HFC.out (by decide), RJ.chg HJ4.out HZ4.out HFC.out (by decide)⟩, (Chg.trans (Chg.ofBelow (fun k => k = w.heap.size + 1 + 1) HB4.out) HFC.out).below (fun k hk => by have h3 : k = w.heap.size + 1 + 1 := hk; omega) (Nat.le_refl _)⟩
  · skip
    have HB1 := Lib.hid hb1
    have HX1 := Lib.hid (HXZ.out.kept (hb1.block _ HXZ.out.lt))
    have HY1 := Lib.hid (HYZ.out.kept (hb1.block _ HYZ.out.lt))
    have HZ1 := Lib.hid (HZZ.out.kept (hb1.block _ HZZ.out.lt))
    unfold RD
    clear hb1 x0 x1 x2 x3 x4 y0 y1 y2 y3 y4 y5 y6 y7 y8 y9 y10 y11 HAD
    have HFI := Lib.hid hno
    clear hno
    obtain ⟨E, hE, hwE, hbE⟩ := box_new w1 32 #[.string S, .int .i64 d, .int .i64 (r : Int)]
    have HXE := Lib.hid (HX1.out.kept (hbE.block _ HX1.out.lt))
    have HYE := Lib.hid (HY1.out.kept (hbE.block _ HY1.out.lt))
    have HZE := Lib.hid (HZ1.out.kept (hbE.block _ HZ1.out.lt))
    have HBE := Lib.hid (bell_up HBZ.out (bell_up HB1.out hbE))
    have e0 := hwE.cell 0
    have e1 := hwE.cell 1
    have e2 := hwE.cell 2
    have HEE := Lib.hid hwE
    go_upto_region 2 with fail
    rw [← hE]
    clear hE hwE hbE
    generalize w1.heap.size = eb at *
    obtain ⟨x0, x1, x2, x3, x4⟩ := box5_of HXE.out
    obtain ⟨z0, z1, z2, z3, z4⟩ := box5_of HZE.out
    obtain ⟨f0, f1, f2, f3, f4⟩ : E.frozen? ⟨w.heap.size + 1 + 1, 0, none⟩ = false ∧ E.frozen? ⟨w.heap.size + 1 + 1, 1, none⟩ = false ∧ E.frozen? ⟨w.heap.size + 1 + 1, 2, none⟩ = false ∧ E.frozen? ⟨w.heap.size + 1 + 1, 3, none⟩ = false ∧ E.frozen? ⟨w.heap.size + 1 + 1, 4, none⟩ = false := ⟨(HZE.out).free 0, (HZE.out).free 1, (HZE.out).free 2, (HZE.out).free 3, (HZE.out).free 4⟩
    have HFW := Lib.hid (show Whole (((((E.setCell ⟨w.heap.size + 1 + 1, 0, none⟩ (.string S)).setCell ⟨w.heap.size + 1 + 1, 1, none⟩ (.int .i64 d)).setCell ⟨w.heap.size + 1 + 1, 2, none⟩ (.int .i64 (r : Int))).setCell ⟨w.heap.size + 1 + 1, 3, none⟩ (.slice a1 n1 c1)).setCell ⟨w.heap.size + 1 + 1, 4, none⟩ (.slice a2 n2 c2)) (w.heap.size + 1 + 1) 36 #[.string S, .int .i64 d, .int .i64 (r : Int), .slice a1 n1 c1, .slice a2 n2 c2] from (((((HZE.out).store 0 _).store 1 _).store 2 _).store 3 _).store 4 _)
    have HFC := Lib.hid (show Chg E (((((E.setCell ⟨w.heap.size + 1 + 1, 0, none⟩ (.string S)).setCell ⟨w.heap.size + 1 + 1, 1, none⟩ (.int .i64 d)).setCell ⟨w.heap.size + 1 + 1, 2, none⟩ (.int .i64 (r : Int))).setCell ⟨w.heap.size + 1 + 1, 3, none⟩ (.slice a1 n1 c1)).setCell ⟨w.heap.size + 1 + 1, 4, none⟩ (.slice a2 n2 c2)) (fun k => k = w.heap.size + 1 + 1) from ((((((Chg.refl E (fun k => k = w.heap.size + 1 + 1)).set (b := w.heap.size + 1 + 1) rfl 0 _).set (b := w.heap.size + 1 + 1) rfl 1 _).set (b := w.heap.size + 1 + 1) rfl 2 _).set (b := w.heap.size + 1 + 1) rfl 3 _).set (b := w.heap.size + 1 + 1) rfl 4 _))
    go_wp2_with fail
    refine bodyPost_ret (v := .tuple #[.agg #[.string S, .int .i64 d, .int .i64 (r : Int), .slice a1 n1 c1, .slice a2 n2 c2], .int .i64 3]) (res_two Tryz.results31 _ _ (w.heap.size + 1 + 1) 36 #[.string S, .int .i64 d, .int .i64 (r : Int), .slice a1 n1 c1, .slice a2 n2 c2] _ _ rfl rfl HFW.out Tryz.underlying36 rfl (by kernel_rfl)) rfl ⟨.inr ⟨HFI.out, rfl⟩, (Chg.trans (Chg.ofBelow (fun k => k = w.heap.size + 1 + 1) HBE.out) HFC.out).below (fun k hk => by have h3 : k = w.heap.size + 1 + 1 := hk; omega) (Nat.le_refl _)⟩
end Go.Proofs.YteodldmbnghfcaaGreat.Rl

namespace Go.Proofs.YteodldmbnghfcaaGreat.Rl
open Go.RowKit

theorem res_three {P : Program} {fn : Func} {p u u2 : Tmp} {ty : TypeId} (h : fn.results = #[.cell p ty, .tmp u, .tmp u2]) (tmps : Array Value) (w : World) (g : Nat) (t : TypeId) (cs : Array Value) (d : TypeDesc) (v v2 : Value)
    (hp : tmps.getD p undef = .pointer (some ⟨g, 0, none⟩)) (hq : tmps.getD u undef = v) (hq2 : tmps.getD u2 undef = v2) (hg : Whole w g t cs)
    (hu : P.underlying ty = some d) (hd : (match d with | .struct _ | .array _ _ => true | _ => false) = true) (hi : (P.info? ty).map (·.size) = some cs.size) :
    (results fn tmps).run P w = .ok (.tuple #[.agg cs, v, v2]) w := by
  have hp' : tmps[p]?.getD undef = .pointer (some ⟨g, 0, none⟩) := by simpa using hp
  have hq' : tmps[u]?.getD undef = v := by simpa using hq
  have hq2' : tmps[u2]?.getD undef = v2 := by simpa using hq2
  simp [results, h, hp', hq', hq2', asAddr, run_loadVar_row w g t ty cs (0, 0) d hg hu hd hi]
theorem od_small {k f i r : Int} : (oD k f i r).small := ⟨by simp [oD], by simp [oD], by simp [oD]⟩
/-- What the document's Ask comes to. -/
def RAsk (S : ByteArray) (d : Int) (r : Nat) (iv dv : Value) (L : List Iss) (M : List Int) (k f : Int) (e : Ending) (w' : World) : Prop :=
  (rvd L k ≠ 0 ∧ e = .returned (.tuple #[RO S d r iv dv, .int .i64 (rvd L k), .int .i64 0])) ∨
  (rvd L k = 0 ∧ 1125899906842624 ≤ lastR L ∧ e = .returned (.tuple #[RO S d r iv dv, .int .i64 0, .int .i64 1])) ∨
  (rvd L k = 0 ∧ lastR L < 1125899906842624 ∧ S.size + (rcd (oD 1 f k (lastR L + 1))).length ≤ r ∧ ∃ iv' dv', e = .returned (.tuple #[RO (S ++ strOfNums (rcd (oD 1 f k (lastR L + 1)))) ((S ++ strOfNums (rcd (oD 1 f k (lastR L + 1)))).size : Nat) r iv' dv', .int .i64 (lastR L + 1), .int .i64 0]) ∧ RI w' (rstep L (oD 1 f k (lastR L + 1))) iv' ∧ RJ w' (dstep L M (oD 1 f k (lastR L + 1))) dv') ∨
  (rvd L k = 0 ∧ lastR L < 1125899906842624 ∧ r < S.size + (rcd (oD 1 f k (lastR L + 1))).length ∧ e = .returned (.tuple #[RO S d r iv dv, .int .i64 0, .int .i64 3]))
/-- What the document's Settle comes to. -/
def RSet (S : ByteArray) (d : Int) (r : Nat) (iv dv : Value) (L : List Iss) (M : List Int) (k : Int) (e : Ending) (w' : World) : Prop :=
  (rvd L k = 0 ∧ e = .returned (.tuple #[RO S d r iv dv, .int .i64 4])) ∨
  (rvd L k ≠ 0 ∧ k ∈ M ∧ e = .returned (.tuple #[RO S d r iv dv, .int .i64 0])) ∨
  (rvd L k ≠ 0 ∧ k ∉ M ∧ S.size + (rcd (oD 2 0 k 0)).length ≤ r ∧ ∃ iv' dv', e = .returned (.tuple #[RO (S ++ strOfNums (rcd (oD 2 0 k 0))) ((S ++ strOfNums (rcd (oD 2 0 k 0))).size : Nat) r iv' dv', .int .i64 0]) ∧ RI w' (rstep L (oD 2 0 k 0)) iv' ∧ RJ w' (dstep L M (oD 2 0 k 0)) dv') ∨
  (rvd L k ≠ 0 ∧ k ∉ M ∧ r < S.size + (rcd (oD 2 0 k 0)).length ∧ e = .returned (.tuple #[RO S d r iv dv, .int .i64 3]))
set_option maxRecDepth 100000 in
set_option maxHeartbeats 8000000 in
theorem rsettle_any {kq : Nat} (w : World) (S : ByteArray) (d : Int) (r : Nat) (iv dv : Value) (L : List Iss) (M : List Int) (k : Int) (hi : RI w L iv) (hj : RJ w M dv) (hq : DQ L M kq) (hk : kq ≤ 1048576) (hS : S.size ≤ 1048576) (hki : Go.Proofs.YteodldmbnghfcaaGreat.InI k) :
    Calls Tryz.prog 11 #[RO S d r iv dv, .int .i64 k] w fun e w' => RSet S d r iv dv L M k e w' ∧ Below w.heap.size w w' := by
  obtain ⟨a1, c1, rfl, hl1⟩ := hi
  obtain ⟨a2, c2, rfl, hl2⟩ := hj
  have HI := Lib.hid (show RI w L _ from ⟨a1, c1, rfl, hl1⟩)
  have HJ := Lib.hid (show RJ w M _ from ⟨a2, c2, rfl, hl2⟩)
  generalize L.length = n1 at *
  generalize M.length = n2 at *
  obtain ⟨X, hX, hwX, hbX⟩ := ro_box w S d r (.slice a1 n1 c1) (.slice a2 n2 c2)
  obtain ⟨Z, hZ, hwZ, hbZ⟩ := ro_box X ⟨#[]⟩ 0 0 (.slice none 0 0) (.slice none 0 0)
  have hsX : X.heap.size = w.heap.size + 1 := by rw [hX]; exact Array.size_push _
  rw [hsX] at hwZ
  have HBZ := Lib.hid (bell_up hbX hbZ)
  have HXZ := Lib.hid (hwX.kept (hbZ.block _ hwX.lt))
  have HZZ := Lib.hid hwZ
  have HQ := Lib.hid hq
  have HK := Lib.hid hk
  have HS := Lib.hid hS
  have HKI := Lib.hid hki
  have HRL := Lib.hid hq.rise.last_rng
  have hrv := fun W (hb : Below w.heap.size w W) => rrev_any W S d r (.slice a1 n1 c1) (.slice a2 n2 c2) L k (HI.out.below hb) (Nat.le_trans HQ.out.nl HK.out)
  unfold RO at hrv ⊢
  have HRV := Lib.hid hrv
  clear hl1 hl2 hq hk hS hki hwX hwZ hbX hbZ hsX hrv
  obtain ⟨x0, x1, x2, x3, x4⟩ := box5_of HXZ.out
  go_enter Tryz.func11, Tryz.ntmps11
  go_upto_region 1 with fail
  rw [← hX, ← hZ]
  clear hX hZ
  go_wp2_with fail
  refine (HRV.out Z HBZ.out).mono ?_
  rintro e w1 ⟨rfl, hb1⟩
  have HX1 := Lib.hid (HXZ.out.kept (hb1.block _ HXZ.out.lt))
  have HZ1 := Lib.hid (HZZ.out.kept (hb1.block _ HZZ.out.lt))
  have HB1 := Lib.hid (bell_up HBZ.out hb1)
  clear hb1 x0 x1 x2 x3 x4
  obtain ⟨x0, x1, x2, x3, x4⟩ := box5_of HX1.out
  by_cases h0 : rvd L k = 0
  · skip
    have e0 : (rvd L k == 0) = true := by simpa using h0
    have H0 := Lib.hid h0
    clear h0
    obtain ⟨z0, z1, z2, z3, z4⟩ := box5_of HZ1.out
    obtain ⟨f0, f1, f2, f3, f4⟩ : w1.frozen? ⟨w.heap.size + 1, 0, none⟩ = false ∧ w1.frozen? ⟨w.heap.size + 1, 1, none⟩ = false ∧ w1.frozen? ⟨w.heap.size + 1, 2, none⟩ = false ∧ w1.frozen? ⟨w.heap.size + 1, 3, none⟩ = false ∧ w1.frozen? ⟨w.heap.size + 1, 4, none⟩ = false := ⟨(HZ1.out).free 0, (HZ1.out).free 1, (HZ1.out).free 2, (HZ1.out).free 3, (HZ1.out).free 4⟩
    have HFW := Lib.hid (show Whole (((((w1.setCell ⟨w.heap.size + 1, 0, none⟩ (.string S)).setCell ⟨w.heap.size + 1, 1, none⟩ (.int .i64 d)).setCell ⟨w.heap.size + 1, 2, none⟩ (.int .i64 (r : Int))).setCell ⟨w.heap.size + 1, 3, none⟩ (.slice a1 n1 c1)).setCell ⟨w.heap.size + 1, 4, none⟩ (.slice a2 n2 c2)) (w.heap.size + 1) 36 #[.string S, .int .i64 d, .int .i64 (r : Int), .slice a1 n1 c1, .slice a2 n2 c2] from (((((HZ1.out).store 0 _).store 1 _).store 2 _).store 3 _).store 4 _)
    have HFC := Lib.hid (show Chg w1 (((((w1.setCell ⟨w.heap.size + 1, 0, none⟩ (.string S)).setCell ⟨w.heap.size + 1, 1, none⟩ (.int .i64 d)).setCell ⟨w.heap.size + 1, 2, none⟩ (.int .i64 (r : Int))).setCell ⟨w.heap.size + 1, 3, none⟩ (.slice a1 n1 c1)).setCell ⟨w.heap.size + 1, 4, none⟩ (.slice a2 n2 c2)) (fun k => k = w.heap.size + 1) from ((((((Chg.refl w1 (fun k => k = w.heap.size + 1)).set (b := w.heap.size + 1) rfl 0 _).set (b := w.heap.size + 1) rfl 1 _).set (b := w.heap.size + 1) rfl 2 _).set (b := w.heap.size + 1) rfl 3 _).set (b := w.heap.size + 1) rfl 4 _))
    go_wp2_with fail
    refine bodyPost_ret (v := .tuple #[.agg #[.string S, .int .i64 d, .int .i64 (r : Int), .slice a1 n1 c1, .slice a2 n2 c2], .int .i64 4]) (res_two Tryz.results11 _ _ (w.heap.size + 1) 36 #[.string S, .int .i64 d, .int .i64 (r : Int), .slice a1 n1 c1, .slice a2 n2 c2] _ _ rfl rfl HFW.out Tryz.underlying36 rfl (by kernel_rfl)) rfl ⟨.inl ⟨H0.out, rfl⟩, (Chg.trans (Chg.ofBelow (fun k => k = w.heap.size + 1) HB1.out) HFC.out).below (fun k hk => by have h3 : k = w.heap.size + 1 := hk; omega) (Nat.le_refl _)⟩
  have e0 : (rvd L k == 0) = false := by simpa using h0
  have H0 := Lib.hid h0
  clear h0
  have hdn := risdone_any w1 S d r (.slice a1 n1 c1) (.slice a2 n2 c2) M k (HJ.out.below HB1.out) (Nat.le_trans HQ.out.nm HK.out)
  unfold RO at hdn
  have HDN := Lib.hid hdn
  clear hdn
  by_cases hm : k ∈ M
  · skip
    have HM := Lib.hid hm
    have HDE := Lib.hid (show decide (k ∈ M) = true by simpa using hm)
    rw [HDE.out] at HDN
    clear hm
    go_wp2_with fail
    refine HDN.out.mono ?_
    rintro e w2 ⟨rfl, hb2⟩
    have HX2 := Lib.hid (HX1.out.kept (hb2.block _ HX1.out.lt))
    have HZ2 := Lib.hid (HZ1.out.kept (hb2.block _ HZ1.out.lt))
    have HB2 := Lib.hid (bell_up HB1.out hb2)
    clear hb2
    clear x0 x1 x2 x3 x4
    obtain ⟨x0, x1, x2, x3, x4⟩ := box5_of HX2.out
    obtain ⟨z0, z1, z2, z3, z4⟩ := box5_of HZ2.out
    obtain ⟨f0, f1, f2, f3, f4⟩ : w2.frozen? ⟨w.heap.size + 1, 0, none⟩ = false ∧ w2.frozen? ⟨w.heap.size + 1, 1, none⟩ = false ∧ w2.frozen? ⟨w.heap.size + 1, 2, none⟩ = false ∧ w2.frozen? ⟨w.heap.size + 1, 3, none⟩ = false ∧ w2.frozen? ⟨w.heap.size + 1, 4, none⟩ = false := ⟨(HZ2.out).free 0, (HZ2.out).free 1, (HZ2.out).free 2, (HZ2.out).free 3, (HZ2.out).free 4⟩
    have HFW := Lib.hid (show Whole (((((w2.setCell ⟨w.heap.size + 1, 0, none⟩ (.string S)).setCell ⟨w.heap.size + 1, 1, none⟩ (.int .i64 d)).setCell ⟨w.heap.size + 1, 2, none⟩ (.int .i64 (r : Int))).setCell ⟨w.heap.size + 1, 3, none⟩ (.slice a1 n1 c1)).setCell ⟨w.heap.size + 1, 4, none⟩ (.slice a2 n2 c2)) (w.heap.size + 1) 36 #[.string S, .int .i64 d, .int .i64 (r : Int), .slice a1 n1 c1, .slice a2 n2 c2] from (((((HZ2.out).store 0 _).store 1 _).store 2 _).store 3 _).store 4 _)
    have HFC := Lib.hid (show Chg w2 (((((w2.setCell ⟨w.heap.size + 1, 0, none⟩ (.string S)).setCell ⟨w.heap.size + 1, 1, none⟩ (.int .i64 d)).setCell ⟨w.heap.size + 1, 2, none⟩ (.int .i64 (r : Int))).setCell ⟨w.heap.size + 1, 3, none⟩ (.slice a1 n1 c1)).setCell ⟨w.heap.size + 1, 4, none⟩ (.slice a2 n2 c2)) (fun k => k = w.heap.size + 1) from ((((((Chg.refl w2 (fun k => k = w.heap.size + 1)).set (b := w.heap.size + 1) rfl 0 _).set (b := w.heap.size + 1) rfl 1 _).set (b := w.heap.size + 1) rfl 2 _).set (b := w.heap.size + 1) rfl 3 _).set (b := w.heap.size + 1) rfl 4 _))
    go_wp2_with fail
    refine bodyPost_ret (v := .tuple #[.agg #[.string S, .int .i64 d, .int .i64 (r : Int), .slice a1 n1 c1, .slice a2 n2 c2], .int .i64 0]) (res_two Tryz.results11 _ _ (w.heap.size + 1) 36 #[.string S, .int .i64 d, .int .i64 (r : Int), .slice a1 n1 c1, .slice a2 n2 c2] _ _ rfl rfl HFW.out Tryz.underlying36 rfl (by kernel_rfl)) rfl ⟨.inr (.inl ⟨H0.out, HM.out, rfl⟩), (Chg.trans (Chg.ofBelow (fun k => k = w.heap.size + 1) HB2.out) HFC.out).below (fun k hk => by have h3 : k = w.heap.size + 1 := hk; omega) (Nat.le_refl _)⟩
  have HM := Lib.hid hm
  have HDE := Lib.hid (show decide (k ∈ M) = false by simpa using hm)
  rw [HDE.out] at HDN
  clear hm
  go_wp2_with fail
  refine HDN.out.mono ?_
  rintro e w2 ⟨rfl, hb2⟩
  have HX2 := Lib.hid (HX1.out.kept (hb2.block _ HX1.out.lt))
  have HZ2 := Lib.hid (HZ1.out.kept (hb2.block _ HZ1.out.lt))
  have HB2 := Lib.hid (bell_up HB1.out hb2)
  clear hb2
  clear x0 x1 x2 x3 x4
  obtain ⟨x0, x1, x2, x3, x4⟩ := box5_of HX2.out
  have hi0 : Go.Proofs.YteodldmbnghfcaaGreat.InI 0 := by unfold Go.Proofs.YteodldmbnghfcaaGreat.InI; omega
  have hi2 : Go.Proofs.YteodldmbnghfcaaGreat.InI 2 := by unfold Go.Proofs.YteodldmbnghfcaaGreat.InI; omega
  have hwr := rwrite14_any w2 _ (oD 2 0 k 0) S d r _ _ L M (od_in w2 hi2 hi0 HKI.out hi0) od_small (od_good hi2 hi0 HKI.out hi0) (HI.out.below HB2.out) (HJ.out.below HB2.out) HQ.out HK.out HS.out
  unfold RO at hwr
  have HWR := Lib.hid hwr
  clear hwr hi0 hi2
  go_wp2_with fail
  refine HWR.out.mono ?_
  rintro e w3 ⟨⟨hfit, v3, v4, rfl, hri, hrj⟩ | ⟨hno, rfl⟩, hb3⟩
  · skip
    have HX3 := Lib.hid (HX2.out.kept (hb3.block _ HX2.out.lt))
    have HZ3 := Lib.hid (HZ2.out.kept (hb3.block _ HZ2.out.lt))
    have HB3 := Lib.hid (bell_up HB2.out hb3)
    obtain ⟨a3, c3, rfl, hl3⟩ := hri
    obtain ⟨a4, c4, rfl, hl4⟩ := hrj
    have HI4 := Lib.hid (show RI w3 (rstep L (oD 2 0 k 0)) _ from ⟨a3, c3, rfl, hl3⟩)
    have HJ4 := Lib.hid (show RJ w3 (dstep L M (oD 2 0 k 0)) _ from ⟨a4, c4, rfl, hl4⟩)
    generalize (rstep L (oD 2 0 k 0)).length = n3 at *
    generalize (dstep L M (oD 2 0 k 0)).length = n4 at *
    have HFI := Lib.hid hfit
    obtain ⟨T, hT⟩ : ∃ T, T = S ++ strOfNums (rcd (oD 2 0 k 0)) := ⟨_, rfl⟩
    rw [← hT]
    have HT := Lib.hid hT
    clear hl3 hl4 hb3 hfit hT x0 x1 x2 x3 x4
    unfold RO
    obtain ⟨z0, z1, z2, z3, z4⟩ := box5_of HZ3.out
    obtain ⟨f0, f1, f2, f3, f4⟩ : w3.frozen? ⟨w.heap.size + 1, 0, none⟩ = false ∧ w3.frozen? ⟨w.heap.size + 1, 1, none⟩ = false ∧ w3.frozen? ⟨w.heap.size + 1, 2, none⟩ = false ∧ w3.frozen? ⟨w.heap.size + 1, 3, none⟩ = false ∧ w3.frozen? ⟨w.heap.size + 1, 4, none⟩ = false := ⟨(HZ3.out).free 0, (HZ3.out).free 1, (HZ3.out).free 2, (HZ3.out).free 3, (HZ3.out).free 4⟩
    have HFW := Lib.hid (show Whole (((((w3.setCell ⟨w.heap.size + 1, 0, none⟩ (.string T)).setCell ⟨w.heap.size + 1, 1, none⟩ (.int .i64 (T.size : Int))).setCell ⟨w.heap.size + 1, 2, none⟩ (.int .i64 (r : Int))).setCell ⟨w.heap.size + 1, 3, none⟩ (.slice a3 n3 c3)).setCell ⟨w.heap.size + 1, 4, none⟩ (.slice a4 n4 c4)) (w.heap.size + 1) 36 #[.string T, .int .i64 (T.size : Int), .int .i64 (r : Int), .slice a3 n3 c3, .slice a4 n4 c4] from (((((HZ3.out).store 0 _).store 1 _).store 2 _).store 3 _).store 4 _)
    have HFC := Lib.hid (show Chg w3 (((((w3.setCell ⟨w.heap.size + 1, 0, none⟩ (.string T)).setCell ⟨w.heap.size + 1, 1, none⟩ (.int .i64 (T.size : Int))).setCell ⟨w.heap.size + 1, 2, none⟩ (.int .i64 (r : Int))).setCell ⟨w.heap.size + 1, 3, none⟩ (.slice a3 n3 c3)).setCell ⟨w.heap.size + 1, 4, none⟩ (.slice a4 n4 c4)) (fun k => k = w.heap.size + 1) from ((((((Chg.refl w3 (fun k => k = w.heap.size + 1)).set (b := w.heap.size + 1) rfl 0 _).set (b := w.heap.size + 1) rfl 1 _).set (b := w.heap.size + 1) rfl 2 _).set (b := w.heap.size + 1) rfl 3 _).set (b := w.heap.size + 1) rfl 4 _))
    go_wp2_with fail
    refine bodyPost_ret (v := .tuple #[.agg #[.string T, .int .i64 (T.size : Int), .int .i64 (r : Int), .slice a3 n3 c3, .slice a4 n4 c4], .int .i64 0]) (res_two Tryz.results11 _ _ (w.heap.size + 1) 36 #[.string T, .int .i64 (T.size : Int), .int .i64 (r : Int), .slice a3 n3 c3, .slice a4 n4 c4] _ _ rfl rfl HFW.out Tryz.underlying36 rfl (by kernel_rfl)) rfl ⟨.inr (.inr (.inl ⟨H0.out, HM.out, HFI.out, .slice a3 n3 c3, .slice a4 n4 c4, by rw [← HT.out]; rfl, RI.chg HI4.out HZ3.out HFC.out (by decide), RJ.chg HJ4.out HZ3.out HFC.out (by decide)⟩)), (Chg.trans (Chg.ofBelow (fun k => k = w.heap.size + 1) HB3.out) HFC.out).below (fun k hk => by have h3 : k = w.heap.size + 1 := hk; omega) (Nat.le_refl _)⟩
  · skip
    have HX3 := Lib.hid (HX2.out.kept (hb3.block _ HX2.out.lt))
    have HZ3 := Lib.hid (HZ2.out.kept (hb3.block _ HZ2.out.lt))
    have HB3 := Lib.hid (bell_up HB2.out hb3)
    have HFI := Lib.hid hno
    clear hb3 hno x0 x1 x2 x3 x4
    unfold RO
    obtain ⟨z0, z1, z2, z3, z4⟩ := box5_of HZ3.out
    obtain ⟨f0, f1, f2, f3, f4⟩ : w3.frozen? ⟨w.heap.size + 1, 0, none⟩ = false ∧ w3.frozen? ⟨w.heap.size + 1, 1, none⟩ = false ∧ w3.frozen? ⟨w.heap.size + 1, 2, none⟩ = false ∧ w3.frozen? ⟨w.heap.size + 1, 3, none⟩ = false ∧ w3.frozen? ⟨w.heap.size + 1, 4, none⟩ = false := ⟨(HZ3.out).free 0, (HZ3.out).free 1, (HZ3.out).free 2, (HZ3.out).free 3, (HZ3.out).free 4⟩
    have HFW := Lib.hid (show Whole (((((w3.setCell ⟨w.heap.size + 1, 0, none⟩ (.string S)).setCell ⟨w.heap.size + 1, 1, none⟩ (.int .i64 d)).setCell ⟨w.heap.size + 1, 2, none⟩ (.int .i64 (r : Int))).setCell ⟨w.heap.size + 1, 3, none⟩ (.slice a1 n1 c1)).setCell ⟨w.heap.size + 1, 4, none⟩ (.slice a2 n2 c2)) (w.heap.size + 1) 36 #[.string S, .int .i64 d, .int .i64 (r : Int), .slice a1 n1 c1, .slice a2 n2 c2] from (((((HZ3.out).store 0 _).store 1 _).store 2 _).store 3 _).store 4 _)
    have HFC := Lib.hid (show Chg w3 (((((w3.setCell ⟨w.heap.size + 1, 0, none⟩ (.string S)).setCell ⟨w.heap.size + 1, 1, none⟩ (.int .i64 d)).setCell ⟨w.heap.size + 1, 2, none⟩ (.int .i64 (r : Int))).setCell ⟨w.heap.size + 1, 3, none⟩ (.slice a1 n1 c1)).setCell ⟨w.heap.size + 1, 4, none⟩ (.slice a2 n2 c2)) (fun k => k = w.heap.size + 1) from ((((((Chg.refl w3 (fun k => k = w.heap.size + 1)).set (b := w.heap.size + 1) rfl 0 _).set (b := w.heap.size + 1) rfl 1 _).set (b := w.heap.size + 1) rfl 2 _).set (b := w.heap.size + 1) rfl 3 _).set (b := w.heap.size + 1) rfl 4 _))
    go_wp2_with fail
    refine bodyPost_ret (v := .tuple #[.agg #[.string S, .int .i64 d, .int .i64 (r : Int), .slice a1 n1 c1, .slice a2 n2 c2], .int .i64 3]) (res_two Tryz.results11 _ _ (w.heap.size + 1) 36 #[.string S, .int .i64 d, .int .i64 (r : Int), .slice a1 n1 c1, .slice a2 n2 c2] _ _ rfl rfl HFW.out Tryz.underlying36 rfl (by kernel_rfl)) rfl ⟨.inr (.inr (.inr ⟨H0.out, HM.out, HFI.out, rfl⟩)), (Chg.trans (Chg.ofBelow (fun k => k = w.heap.size + 1) HB3.out) HFC.out).below (fun k hk => by have h3 : k = w.heap.size + 1 := hk; omega) (Nat.le_refl _)⟩
set_option maxRecDepth 100000 in
set_option maxHeartbeats 8000000 in
theorem rask_any {kq : Nat} (w : World) (S : ByteArray) (d : Int) (r : Nat) (iv dv : Value) (L : List Iss) (M : List Int) (k f : Int) (hi : RI w L iv) (hj : RJ w M dv) (hq : DQ L M kq) (hk : kq ≤ 1048576) (hS : S.size ≤ 1048576) (hki : Go.Proofs.YteodldmbnghfcaaGreat.InI k) (hfi : Go.Proofs.YteodldmbnghfcaaGreat.InI f) :
    Calls Tryz.prog 10 #[RO S d r iv dv, .int .i64 k, .int .i64 f] w fun e w' => RAsk S d r iv dv L M k f e w' ∧ Below w.heap.size w w' := by
  have HFF := Lib.hid hfi
  clear hfi
  obtain ⟨a1, c1, rfl, hl1⟩ := hi
  obtain ⟨a2, c2, rfl, hl2⟩ := hj
  have HI := Lib.hid (show RI w L _ from ⟨a1, c1, rfl, hl1⟩)
  have HJ := Lib.hid (show RJ w M _ from ⟨a2, c2, rfl, hl2⟩)
  generalize L.length = n1 at *
  generalize M.length = n2 at *
  obtain ⟨X, hX, hwX, hbX⟩ := ro_box w S d r (.slice a1 n1 c1) (.slice a2 n2 c2)
  obtain ⟨Z, hZ, hwZ, hbZ⟩ := ro_box X ⟨#[]⟩ 0 0 (.slice none 0 0) (.slice none 0 0)
  have hsX : X.heap.size = w.heap.size + 1 := by rw [hX]; exact Array.size_push _
  rw [hsX] at hwZ
  have HBZ := Lib.hid (bell_up hbX hbZ)
  have HXZ := Lib.hid (hwX.kept (hbZ.block _ hwX.lt))
  have HZZ := Lib.hid hwZ
  have HQ := Lib.hid hq
  have HK := Lib.hid hk
  have HS := Lib.hid hS
  have HKI := Lib.hid hki
  have HRL := Lib.hid hq.rise.last_rng
  have hrv := fun W (hb : Below w.heap.size w W) => rrev_any W S d r (.slice a1 n1 c1) (.slice a2 n2 c2) L k (HI.out.below hb) (Nat.le_trans HQ.out.nl HK.out)
  unfold RO at hrv ⊢
  have HRV := Lib.hid hrv
  clear hl1 hl2 hq hk hS hki hwX hwZ hbX hbZ hsX hrv
  obtain ⟨x0, x1, x2, x3, x4⟩ := box5_of HXZ.out
  go_enter Tryz.func10, Tryz.ntmps10
  go_upto_region 1 with fail
  rw [← hX, ← hZ]
  clear hX hZ
  go_wp2_with fail
  refine (HRV.out Z HBZ.out).mono ?_
  rintro e w1 ⟨rfl, hb1⟩
  have HX1 := Lib.hid (HXZ.out.kept (hb1.block _ HXZ.out.lt))
  have HZ1 := Lib.hid (HZZ.out.kept (hb1.block _ HZZ.out.lt))
  have HB1 := Lib.hid (bell_up HBZ.out hb1)
  clear hb1 x0 x1 x2 x3 x4
  obtain ⟨x0, x1, x2, x3, x4⟩ := box5_of HX1.out
  by_cases h0 : rvd L k = 0
  rotate_left
  · skip
    have e0 : (rvd L k != 0) = true := by simpa using h0
    have H0 := Lib.hid h0
    have HRV1 := Lib.hid (HRV.out w1.drew (HB1.out.trans ((below_drewN w1 1).mono HB1.out.size)))
    clear h0
    go_wp2_with fail
    go_region_law (go_simp; go_at_call 30; refine HRV1.out.mono ?_; rintro e w2 ⟨rfl, hb2⟩; have hb2 := (below_drewN w1 1).trans hb2; have HX2 := Lib.hid (HX1.out.kept (hb2.block _ HX1.out.lt)); have HZ2 := Lib.hid (HZ1.out.kept (hb2.block _ HZ1.out.lt)); have HB2 := Lib.hid (bell_up HB1.out hb2); clear hb2; clear x0 x1 x2 x3 x4; obtain ⟨x0, x1, x2, x3, x4⟩ := box5_of HX2.out; obtain ⟨z0, z1, z2, z3, z4⟩ := box5_of HZ2.out; have f0 := HZ2.out.free 0; have f1 := HZ2.out.free 1; have f2 := HZ2.out.free 2; have f3 := HZ2.out.free 3; have f4 := HZ2.out.free 4)
    all_goals (
      have HFW := Lib.hid (show Whole (((((w2.setCell ⟨w.heap.size + 1, 0, none⟩ (.string S)).setCell ⟨w.heap.size + 1, 1, none⟩ (.int .i64 d)).setCell ⟨w.heap.size + 1, 2, none⟩ (.int .i64 (r : Int))).setCell ⟨w.heap.size + 1, 3, none⟩ (.slice a1 n1 c1)).setCell ⟨w.heap.size + 1, 4, none⟩ (.slice a2 n2 c2)) (w.heap.size + 1) 36 #[.string S, .int .i64 d, .int .i64 (r : Int), .slice a1 n1 c1, .slice a2 n2 c2] from ((((HZ2.out.store 0 _).store 1 _).store 2 _).store 3 _).store 4 _)
      have HFC := Lib.hid (show Chg w2 (((((w2.setCell ⟨w.heap.size + 1, 0, none⟩ (.string S)).setCell ⟨w.heap.size + 1, 1, none⟩ (.int .i64 d)).setCell ⟨w.heap.size + 1, 2, none⟩ (.int .i64 (r : Int))).setCell ⟨w.heap.size + 1, 3, none⟩ (.slice a1 n1 c1)).setCell ⟨w.heap.size + 1, 4, none⟩ (.slice a2 n2 c2)) (fun k => k = w.heap.size + 1) from ((((((Chg.refl w2 (fun k => k = w.heap.size + 1)).set (b := w.heap.size + 1) rfl 0 _).set (b := w.heap.size + 1) rfl 1 _).set (b := w.heap.size + 1) rfl 2 _).set (b := w.heap.size + 1) rfl 3 _).set (b := w.heap.size + 1) rfl 4 _))
      go_wp2_with fail
      refine bodyPost_ret (v := .tuple #[.agg #[.string S, .int .i64 d, .int .i64 (r : Int), .slice a1 n1 c1, .slice a2 n2 c2], .int .i64 (rvd L k), .int .i64 0]) (res_three Tryz.results10 _ _ (w.heap.size + 1) 36 #[.string S, .int .i64 d, .int .i64 (r : Int), .slice a1 n1 c1, .slice a2 n2 c2] _ _ _ rfl rfl rfl HFW.out Tryz.underlying36 rfl (by kernel_rfl)) rfl ⟨.inl ⟨H0.out, rfl⟩, (Chg.trans (Chg.ofBelow (fun k => k = w.heap.size + 1) HB2.out) HFC.out).below (fun k hk => by have h3 : k = w.heap.size + 1 := hk; omega) (Nat.le_refl _)⟩)
  have e0 : (rvd L k != 0) = false := by simpa using h0
  have H0 := Lib.hid h0
  have hla := fun W (hb : Below w.heap.size w W) => rlast_any W S d r (.slice a1 n1 c1) (.slice a2 n2 c2) L (HI.out.below hb) (Nat.le_trans HQ.out.nl HK.out)
  unfold RO at hla
  have HLA := Lib.hid hla
  clear h0 hla
  go_wp2_with fail
  refine (HLA.out w1 HB1.out).mono ?_
  rintro e w2 ⟨rfl, hb2⟩
  have HX2 := Lib.hid (HX1.out.kept (hb2.block _ HX1.out.lt))
  have HZ2 := Lib.hid (HZ1.out.kept (hb2.block _ HZ1.out.lt))
  have HB2 := Lib.hid (bell_up HB1.out hb2)
  clear hb2
  clear x0 x1 x2 x3 x4
  obtain ⟨x0, x1, x2, x3, x4⟩ := box5_of HX2.out
  by_cases hmx : 1125899906842624 ≤ lastR L
  · skip
    have e1 : decide (lastR L ≥ 1125899906842624) = true := by simpa using hmx
    have HMX := Lib.hid hmx
    clear hmx
    obtain ⟨z0, z1, z2, z3, z4⟩ := box5_of HZ2.out
    obtain ⟨f0, f1, f2, f3, f4⟩ : w2.frozen? ⟨w.heap.size + 1, 0, none⟩ = false ∧ w2.frozen? ⟨w.heap.size + 1, 1, none⟩ = false ∧ w2.frozen? ⟨w.heap.size + 1, 2, none⟩ = false ∧ w2.frozen? ⟨w.heap.size + 1, 3, none⟩ = false ∧ w2.frozen? ⟨w.heap.size + 1, 4, none⟩ = false := ⟨(HZ2.out).free 0, (HZ2.out).free 1, (HZ2.out).free 2, (HZ2.out).free 3, (HZ2.out).free 4⟩
    have HFW := Lib.hid (show Whole (((((w2.setCell ⟨w.heap.size + 1, 0, none⟩ (.string S)).setCell ⟨w.heap.size + 1, 1, none⟩ (.int .i64 d)).setCell ⟨w.heap.size + 1, 2, none⟩ (.int .i64 (r : Int))).setCell ⟨w.heap.size + 1, 3, none⟩ (.slice a1 n1 c1)).setCell ⟨w.heap.size + 1, 4, none⟩ (.slice a2 n2 c2)) (w.heap.size + 1) 36 #[.string S, .int .i64 d, .int .i64 (r : Int), .slice a1 n1 c1, .slice a2 n2 c2] from (((((HZ2.out).store 0 _).store 1 _).store 2 _).store 3 _).store 4 _)
    have HFC := Lib.hid (show Chg w2 (((((w2.setCell ⟨w.heap.size + 1, 0, none⟩ (.string S)).setCell ⟨w.heap.size + 1, 1, none⟩ (.int .i64 d)).setCell ⟨w.heap.size + 1, 2, none⟩ (.int .i64 (r : Int))).setCell ⟨w.heap.size + 1, 3, none⟩ (.slice a1 n1 c1)).setCell ⟨w.heap.size + 1, 4, none⟩ (.slice a2 n2 c2)) (fun k => k = w.heap.size + 1) from ((((((Chg.refl w2 (fun k => k = w.heap.size + 1)).set (b := w.heap.size + 1) rfl 0 _).set (b := w.heap.size + 1) rfl 1 _).set (b := w.heap.size + 1) rfl 2 _).set (b := w.heap.size + 1) rfl 3 _).set (b := w.heap.size + 1) rfl 4 _))
    go_wp2_with fail
    refine bodyPost_ret (v := .tuple #[.agg #[.string S, .int .i64 d, .int .i64 (r : Int), .slice a1 n1 c1, .slice a2 n2 c2], .int .i64 0, .int .i64 1]) (res_three Tryz.results10 _ _ (w.heap.size + 1) 36 #[.string S, .int .i64 d, .int .i64 (r : Int), .slice a1 n1 c1, .slice a2 n2 c2] _ _ _ rfl rfl rfl HFW.out Tryz.underlying36 rfl (by kernel_rfl)) rfl ⟨.inr (.inl ⟨H0.out, HMX.out, rfl⟩), (Chg.trans (Chg.ofBelow (fun k => k = w.heap.size + 1) HB2.out) HFC.out).below (fun k hk => by have h3 : k = w.heap.size + 1 := hk; omega) (Nat.le_refl _)⟩
  have e1 : decide (lastR L ≥ 1125899906842624) = false := by simp; omega
  have HMX := Lib.hid (show lastR L < 1125899906842624 by omega)
  have hw1 : IntKind.i64.wrap (lastR L + 1) = lastR L + 1 := IntWalk.i64_in _ (by have := HRL.out; omega)
  clear hmx
  go_wp2_with fail
  refine (HLA.out w2 HB2.out).mono ?_
  rintro e w3 ⟨rfl, hb3⟩
  have HX3 := Lib.hid (HX2.out.kept (hb3.block _ HX2.out.lt))
  have HZ3 := Lib.hid (HZ2.out.kept (hb3.block _ HZ2.out.lt))
  have HB3 := Lib.hid (bell_up HB2.out hb3)
  clear hb3
  clear x0 x1 x2 x3 x4
  obtain ⟨x0, x1, x2, x3, x4⟩ := box5_of HX3.out
  obtain ⟨E, hE, hwE, hbE⟩ := box_new w3 43 #[.int .i64 1, .int .i64 f, .int .i64 0, .int .i64 k, .int .i64 (lastR L + 1), .int .i64 0, .int .i64 0, .bool false, .slice none 0 0, .slice none 0 0, .slice none 0 0, .slice none 0 0]
  have HEE := Lib.hid hwE
  have HXE := Lib.hid (HX3.out.kept (hbE.block _ HX3.out.lt))
  have HZE := Lib.hid (HZ3.out.kept (hbE.block _ HZ3.out.lt))
  have HBE := Lib.hid (bell_up HB3.out hbE)
  go_upto_region 6 with fail
  rw [← hE]
  clear hE hwE hbE
  clear x0 x1 x2 x3 x4
  obtain ⟨x0, x1, x2, x3, x4⟩ := box5_of HXE.out
  have y0 := HEE.out.cell 0
  have y1 := HEE.out.cell 1
  have y2 := HEE.out.cell 2
  have y3 := HEE.out.cell 3
  have y4 := HEE.out.cell 4
  have y5 := HEE.out.cell 5
  have y6 := HEE.out.cell 6
  have y7 := HEE.out.cell 7
  have y8 := HEE.out.cell 8
  have y9 := HEE.out.cell 9
  have y10 := HEE.out.cell 10
  have y11 := HEE.out.cell 11
  have hi1 : Go.Proofs.YteodldmbnghfcaaGreat.InI 1 := by unfold Go.Proofs.YteodldmbnghfcaaGreat.InI; omega
  have hir : Go.Proofs.YteodldmbnghfcaaGreat.InI (lastR L + 1) := by unfold Go.Proofs.YteodldmbnghfcaaGreat.InI; have := HRL.out; have := HMX.out; omega
  have hwr := rwrite14_any E _ (oD 1 f k (lastR L + 1)) S d r _ _ L M (od_in E hi1 HFF.out HKI.out hir) od_small (od_good hi1 HFF.out HKI.out hir) (HI.out.below HBE.out) (HJ.out.below HBE.out) HQ.out HK.out HS.out
  unfold RO at hwr
  have HWR := Lib.hid hwr
  clear hwr hi1 hir
  generalize w3.heap.size = eb at *
  go_wp2_with fail
  refine HWR.out.mono ?_
  rintro e w4 ⟨⟨hfit, v3, v4, rfl, hri, hrj⟩ | ⟨hno, rfl⟩, hb4⟩
  · skip
    have HX4 := Lib.hid (HXE.out.kept (hb4.block _ HXE.out.lt))
    have HZ4 := Lib.hid (HZE.out.kept (hb4.block _ HZE.out.lt))
    have HE4 := Lib.hid (HEE.out.kept (hb4.block _ HEE.out.lt))
    have HB4 := Lib.hid (bell_up HBE.out hb4)
    obtain ⟨a3, c3, rfl, hl3⟩ := hri
    obtain ⟨a4, c4, rfl, hl4⟩ := hrj
    have HI4 := Lib.hid (show RI w4 (rstep L (oD 1 f k (lastR L + 1))) _ from ⟨a3, c3, rfl, hl3⟩)
    have HJ4 := Lib.hid (show RJ w4 (dstep L M (oD 1 f k (lastR L + 1))) _ from ⟨a4, c4, rfl, hl4⟩)
    generalize (rstep L (oD 1 f k (lastR L + 1))).length = n3 at *
    generalize (dstep L M (oD 1 f k (lastR L + 1))).length = n4 at *
    have HFI := Lib.hid hfit
    obtain ⟨T, hT⟩ : ∃ T, T = S ++ strOfNums (rcd (oD 1 f k (lastR L + 1))) := ⟨_, rfl⟩
    rw [← hT]
    have HT := Lib.hid hT
    clear hl3 hl4 hb4 hfit hT x0 x1 x2 x3 x4 y0 y1 y2 y3 y4 y5 y6 y7 y8 y9 y10 y11 HWR
    unfold RO
    obtain ⟨z0, z1, z2, z3, z4⟩ := box5_of HX4.out
    obtain ⟨f0, f1, f2, f3, f4⟩ : w4.frozen? ⟨w.heap.size, 0, none⟩ = false ∧ w4.frozen? ⟨w.heap.size, 1, none⟩ = false ∧ w4.frozen? ⟨w.heap.size, 2, none⟩ = false ∧ w4.frozen? ⟨w.heap.size, 3, none⟩ = false ∧ w4.frozen? ⟨w.heap.size, 4, none⟩ = false := ⟨(HX4.out).free 0, (HX4.out).free 1, (HX4.out).free 2, (HX4.out).free 3, (HX4.out).free 4⟩
    have HGW := Lib.hid (show Whole (((((w4.setCell ⟨w.heap.size, 0, none⟩ (.string T)).setCell ⟨w.heap.size, 1, none⟩ (.int .i64 (T.size : Int))).setCell ⟨w.heap.size, 2, none⟩ (.int .i64 (r : Int))).setCell ⟨w.heap.size, 3, none⟩ (.slice a3 n3 c3)).setCell ⟨w.heap.size, 4, none⟩ (.slice a4 n4 c4)) (w.heap.size) 36 #[.string T, .int .i64 (T.size : Int), .int .i64 (r : Int), .slice a3 n3 c3, .slice a4 n4 c4] from (((((HX4.out).store 0 _).store 1 _).store 2 _).store 3 _).store 4 _)
    have HGC := Lib.hid (show Chg w4 (((((w4.setCell ⟨w.heap.size, 0, none⟩ (.string T)).setCell ⟨w.heap.size, 1, none⟩ (.int .i64 (T.size : Int))).setCell ⟨w.heap.size, 2, none⟩ (.int .i64 (r : Int))).setCell ⟨w.heap.size, 3, none⟩ (.slice a3 n3 c3)).setCell ⟨w.heap.size, 4, none⟩ (.slice a4 n4 c4)) (fun k => k = w.heap.size) from ((((((Chg.refl w4 (fun k => k = w.heap.size)).set (b := w.heap.size) rfl 0 _).set (b := w.heap.size) rfl 1 _).set (b := w.heap.size) rfl 2 _).set (b := w.heap.size) rfl 3 _).set (b := w.heap.size) rfl 4 _))
    obtain ⟨w5, hw5⟩ : ∃ w5, w5 = ((((w4.setCell ⟨w.heap.size, 0, none⟩ (.string T)).setCell ⟨w.heap.size, 1, none⟩ (.int .i64 (T.size : Int))).setCell ⟨w.heap.size, 2, none⟩ (.int .i64 (r : Int))).setCell ⟨w.heap.size, 3, none⟩ (.slice a3 n3 c3)).setCell ⟨w.heap.size, 4, none⟩ (.slice a4 n4 c4) := ⟨_, rfl⟩
    rw [← hw5] at HGW HGC
    have HZ5 := Lib.hid (HZ4.out.kept (HGC.out.block _ HZ4.out.lt (by show w.heap.size + 1 ≠ w.heap.size; omega)))
    have heb : eb ≠ w.heap.size := whole_ne HE4.out HX4.out (by decide)
    have HE5 := Lib.hid (HE4.out.kept (HGC.out.block _ HE4.out.lt heb))
    have HB5 := Lib.hid (show Below w.heap.size w w5 from (Chg.trans (Chg.ofBelow (fun k => k = w.heap.size) HB4.out) HGC.out).below (fun k hk => by have h3 : k = w.heap.size := hk; omega) (Nat.le_refl _))
    have HI5 := Lib.hid (RI.chg HI4.out HX4.out HGC.out (by decide))
    have HJ5 := Lib.hid (RJ.chg HJ4.out HX4.out HGC.out (by decide))
    clear heb
    go_upto_region 7 with fail
    rw [← hw5]
    clear hw5 z0 z1 z2 z3 z4 f0 f1 f2 f3 f4
    obtain ⟨x0, x1, x2, x3, x4⟩ := box5_of HGW.out
    have y4 := HE5.out.cell 4
    obtain ⟨z0, z1, z2, z3, z4⟩ := box5_of HZ5.out
    obtain ⟨f0, f1, f2, f3, f4⟩ : w5.frozen? ⟨w.heap.size + 1, 0, none⟩ = false ∧ w5.frozen? ⟨w.heap.size + 1, 1, none⟩ = false ∧ w5.frozen? ⟨w.heap.size + 1, 2, none⟩ = false ∧ w5.frozen? ⟨w.heap.size + 1, 3, none⟩ = false ∧ w5.frozen? ⟨w.heap.size + 1, 4, none⟩ = false := ⟨HZ5.out.free 0, HZ5.out.free 1, HZ5.out.free 2, HZ5.out.free 3, HZ5.out.free 4⟩
    have HFW := Lib.hid (show Whole ((((((w5.setCell ⟨w.heap.size + 1, 0, none⟩ (.string T)).setCell ⟨w.heap.size + 1, 1, none⟩ (.int .i64 (T.size : Int))).setCell ⟨w.heap.size + 1, 2, none⟩ (.int .i64 (r : Int))).setCell ⟨w.heap.size + 1, 3, none⟩ (.slice a3 n3 c3)).setCell ⟨w.heap.size + 1, 4, none⟩ (.slice a4 n4 c4)).drew) (w.heap.size + 1) 36 #[.string T, .int .i64 (T.size : Int), .int .i64 (r : Int), .slice a3 n3 c3, .slice a4 n4 c4] from ((((HZ5.out.store 0 _).store 1 _).store 2 _).store 3 _).store 4 _)
    have HFC := Lib.hid (show Chg w5 ((((((w5.setCell ⟨w.heap.size + 1, 0, none⟩ (.string T)).setCell ⟨w.heap.size + 1, 1, none⟩ (.int .i64 (T.size : Int))).setCell ⟨w.heap.size + 1, 2, none⟩ (.int .i64 (r : Int))).setCell ⟨w.heap.size + 1, 3, none⟩ (.slice a3 n3 c3)).setCell ⟨w.heap.size + 1, 4, none⟩ (.slice a4 n4 c4)).drew) (fun k => k = w.heap.size + 1) from Chg.drewN (((((((Chg.refl w5 (fun k => k = w.heap.size + 1)).set (b := w.heap.size + 1) rfl 0 _).set (b := w.heap.size + 1) rfl 1 _).set (b := w.heap.size + 1) rfl 2 _).set (b := w.heap.size + 1) rfl 3 _).set (b := w.heap.size + 1) rfl 4 _)) 1)
    have heb1 : eb ≠ w.heap.size + 1 := whole_ne HE5.out HZ5.out (by decide)
    have heb2 : w.heap.size + 1 ≠ eb := fun h => heb1 h.symm
    go_wp2_with fail
    go_region_law (fail)
    all_goals (
      go_wp2_with fail
      simp only [Act.put, List.setIfInBounds_toArray]
      refine bodyPost_ret (v := .tuple #[.agg #[.string T, .int .i64 (T.size : Int), .int .i64 (r : Int), .slice a3 n3 c3, .slice a4 n4 c4], .int .i64 (lastR L + 1), .int .i64 0]) (res_three Tryz.results10 _ _ (w.heap.size + 1) 36 #[.string T, .int .i64 (T.size : Int), .int .i64 (r : Int), .slice a3 n3 c3, .slice a4 n4 c4] _ _ _ rfl rfl rfl HFW.out Tryz.underlying36 rfl (by kernel_rfl)) rfl ⟨.inr (.inr (.inl ⟨H0.out, HMX.out, HFI.out, .slice a3 n3 c3, .slice a4 n4 c4, by rw [← HT.out]; rfl, RI.chg HI5.out HZ5.out HFC.out (by decide), RJ.chg HJ5.out HZ5.out HFC.out (by decide)⟩)), (Chg.trans (Chg.ofBelow (fun k => k = w.heap.size + 1) HB5.out) HFC.out).below (fun k hk => by have h3 : k = w.heap.size + 1 := hk; omega) (Nat.le_refl _)⟩)
  · skip
    have HX4 := Lib.hid (HXE.out.kept (hb4.block _ HXE.out.lt))
    have HZ4 := Lib.hid (HZE.out.kept (hb4.block _ HZE.out.lt))
    have HE4 := Lib.hid (HEE.out.kept (hb4.block _ HEE.out.lt))
    have HB4 := Lib.hid (bell_up HBE.out hb4)
    have HFI := Lib.hid hno
    clear hb4 hno x0 x1 x2 x3 x4 y0 y1 y2 y3 y4 y5 y6 y7 y8 y9 y10 y11 HWR
    unfold RO
    obtain ⟨z0, z1, z2, z3, z4⟩ := box5_of HX4.out
    obtain ⟨f0, f1, f2, f3, f4⟩ : w4.frozen? ⟨w.heap.size, 0, none⟩ = false ∧ w4.frozen? ⟨w.heap.size, 1, none⟩ = false ∧ w4.frozen? ⟨w.heap.size, 2, none⟩ = false ∧ w4.frozen? ⟨w.heap.size, 3, none⟩ = false ∧ w4.frozen? ⟨w.heap.size, 4, none⟩ = false := ⟨(HX4.out).free 0, (HX4.out).free 1, (HX4.out).free 2, (HX4.out).free 3, (HX4.out).free 4⟩
    have HGW := Lib.hid (show Whole (((((w4.setCell ⟨w.heap.size, 0, none⟩ (.string S)).setCell ⟨w.heap.size, 1, none⟩ (.int .i64 d)).setCell ⟨w.heap.size, 2, none⟩ (.int .i64 (r : Int))).setCell ⟨w.heap.size, 3, none⟩ (.slice a1 n1 c1)).setCell ⟨w.heap.size, 4, none⟩ (.slice a2 n2 c2)) (w.heap.size) 36 #[.string S, .int .i64 d, .int .i64 (r : Int), .slice a1 n1 c1, .slice a2 n2 c2] from (((((HX4.out).store 0 _).store 1 _).store 2 _).store 3 _).store 4 _)
    have HGC := Lib.hid (show Chg w4 (((((w4.setCell ⟨w.heap.size, 0, none⟩ (.string S)).setCell ⟨w.heap.size, 1, none⟩ (.int .i64 d)).setCell ⟨w.heap.size, 2, none⟩ (.int .i64 (r : Int))).setCell ⟨w.heap.size, 3, none⟩ (.slice a1 n1 c1)).setCell ⟨w.heap.size, 4, none⟩ (.slice a2 n2 c2)) (fun k => k = w.heap.size) from ((((((Chg.refl w4 (fun k => k = w.heap.size)).set (b := w.heap.size) rfl 0 _).set (b := w.heap.size) rfl 1 _).set (b := w.heap.size) rfl 2 _).set (b := w.heap.size) rfl 3 _).set (b := w.heap.size) rfl 4 _))
    obtain ⟨w5, hw5⟩ : ∃ w5, w5 = ((((w4.setCell ⟨w.heap.size, 0, none⟩ (.string S)).setCell ⟨w.heap.size, 1, none⟩ (.int .i64 d)).setCell ⟨w.heap.size, 2, none⟩ (.int .i64 (r : Int))).setCell ⟨w.heap.size, 3, none⟩ (.slice a1 n1 c1)).setCell ⟨w.heap.size, 4, none⟩ (.slice a2 n2 c2) := ⟨_, rfl⟩
    rw [← hw5] at HGW HGC
    have HZ5 := Lib.hid (HZ4.out.kept (HGC.out.block _ HZ4.out.lt (by show w.heap.size + 1 ≠ w.heap.size; omega)))
    have HB5 := Lib.hid (show Below w.heap.size w w5 from (Chg.trans (Chg.ofBelow (fun k => k = w.heap.size) HB4.out) HGC.out).below (fun k hk => by have h3 : k = w.heap.size := hk; omega) (Nat.le_refl _))
    go_upto_region 7 with fail
    rw [← hw5]
    clear hw5 z0 z1 z2 z3 z4 f0 f1 f2 f3 f4
    obtain ⟨x0, x1, x2, x3, x4⟩ := box5_of HGW.out
    obtain ⟨z0, z1, z2, z3, z4⟩ := box5_of HZ5.out
    obtain ⟨f0, f1, f2, f3, f4⟩ : w5.frozen? ⟨w.heap.size + 1, 0, none⟩ = false ∧ w5.frozen? ⟨w.heap.size + 1, 1, none⟩ = false ∧ w5.frozen? ⟨w.heap.size + 1, 2, none⟩ = false ∧ w5.frozen? ⟨w.heap.size + 1, 3, none⟩ = false ∧ w5.frozen? ⟨w.heap.size + 1, 4, none⟩ = false := ⟨(HZ5.out).free 0, (HZ5.out).free 1, (HZ5.out).free 2, (HZ5.out).free 3, (HZ5.out).free 4⟩
    have HFW := Lib.hid (show Whole (((((w5.setCell ⟨w.heap.size + 1, 0, none⟩ (.string S)).setCell ⟨w.heap.size + 1, 1, none⟩ (.int .i64 d)).setCell ⟨w.heap.size + 1, 2, none⟩ (.int .i64 (r : Int))).setCell ⟨w.heap.size + 1, 3, none⟩ (.slice a1 n1 c1)).setCell ⟨w.heap.size + 1, 4, none⟩ (.slice a2 n2 c2)) (w.heap.size + 1) 36 #[.string S, .int .i64 d, .int .i64 (r : Int), .slice a1 n1 c1, .slice a2 n2 c2] from (((((HZ5.out).store 0 _).store 1 _).store 2 _).store 3 _).store 4 _)
    have HFC := Lib.hid (show Chg w5 (((((w5.setCell ⟨w.heap.size + 1, 0, none⟩ (.string S)).setCell ⟨w.heap.size + 1, 1, none⟩ (.int .i64 d)).setCell ⟨w.heap.size + 1, 2, none⟩ (.int .i64 (r : Int))).setCell ⟨w.heap.size + 1, 3, none⟩ (.slice a1 n1 c1)).setCell ⟨w.heap.size + 1, 4, none⟩ (.slice a2 n2 c2)) (fun k => k = w.heap.size + 1) from ((((((Chg.refl w5 (fun k => k = w.heap.size + 1)).set (b := w.heap.size + 1) rfl 0 _).set (b := w.heap.size + 1) rfl 1 _).set (b := w.heap.size + 1) rfl 2 _).set (b := w.heap.size + 1) rfl 3 _).set (b := w.heap.size + 1) rfl 4 _))
    go_wp2_with fail
    refine bodyPost_ret (v := .tuple #[.agg #[.string S, .int .i64 d, .int .i64 (r : Int), .slice a1 n1 c1, .slice a2 n2 c2], .int .i64 0, .int .i64 3]) (res_three Tryz.results10 _ _ (w.heap.size + 1) 36 #[.string S, .int .i64 d, .int .i64 (r : Int), .slice a1 n1 c1, .slice a2 n2 c2] _ _ _ rfl rfl rfl HFW.out Tryz.underlying36 rfl (by kernel_rfl)) rfl ⟨.inr (.inr (.inr ⟨H0.out, HMX.out, HFI.out, rfl⟩)), (Chg.trans (Chg.ofBelow (fun k => k = w.heap.size + 1) HB5.out) HFC.out).below (fun k hk => by have h3 : k = w.heap.size + 1 := hk; omega) (Nat.le_refl _)⟩
end Go.Proofs.YteodldmbnghfcaaGreat.Rl

namespace Go.Proofs.YteodldmbnghfcaaGreat.Rl
open Go.RowKit

theorem ofRoot {w w' : World} {P : Nat → Prop} (h : Go.Proofs.YteodldmbnghfcaaGreat.Chg w w' P) : Chg w w' P := ⟨h.os, h.tape, h.output, h.size, h.block⟩
theorem OS.one {w w' : World} {B go gl mb g k r : Nat} {v row : Value} {ms : List MsgD} {T : TypeId} {cs : Array Value} (h : OS w B go gl mb g v row ms r) (hk : Whole w k T cs) (h1 : T ≠ 81) (h2 : T ≠ 83) (h3 : T ≠ 91) (h4 : T ≠ 73) (h5 : T ≠ 5) (hc : Chg w w' (fun j => j = k)) : OS w' B go gl mb g v row ms r := by
  have hno := h.other hk h1 h2 h3 h4 h5
  have hb : ∀ j, SB go gl mb g v row j → w'.heap[j]? = w.heap[j]? := fun j hj => hc.block j (h.ge hj).2 (fun e => hno (by have e2 : j = k := e; rw [← e2]; exact hj))
  have hl : Lg w B gl g v (cat ms) (cat ms).length r ms.length := h.log
  have hd : Whole w g 73 _ := hl.disk.blk
  refine ⟨(show Lg w' B gl g v (cat ms) (cat ms).length r ms.length from ⟨hl.lg.kept (hb gl (.inl rfl)), hl.ge, ⟨hd.kept (hb g (.inr (.inl rfl))), hl.disk.ge, owns_keep hl.disk.own fun j hj => hb j (.inr (.inr (.inl hj))), hl.disk.byte, hl.disk.hd, hl.disk.hr, hl.disk.hm⟩⟩), h.ora.kept fun j hj => hb j (.inr (.inr (.inr hj))), h.fine⟩
theorem lg_one {w w' : World} {B gl g d r n k : Nat} {v : Value} {xs : List Int} {T : TypeId} {cs : Array Value} (hl : Lg w B gl g v xs d r n) (hk : Whole w k T cs) (h3 : T ≠ 91) (h4 : T ≠ 73) (h5 : T ≠ 5) (hc : Chg w w' (fun j => j = k)) : Lg w' B gl g v xs d r n := by
  have hd : Whole w g 73 _ := hl.disk.blk
  refine ⟨hl.lg.kept (hc.block _ hl.lg.lt (fun e => whole_ne hk hl.lg h3 (by have e2 : gl = k := e; exact e2.symm))), hl.ge, ⟨hd.kept (hc.block _ hd.lt (fun e => whole_ne hk hd h4 (by have e2 : g = k := e; exact e2.symm))), hl.disk.ge, owns_keep hl.disk.own fun j hj => hc.block j (hl.disk.own.lt j hj).2 (fun e => ?_), hl.disk.byte, hl.disk.hd, hl.disk.hr, hl.disk.hm⟩⟩
  obtain ⟨_, cur, hW⟩ := owned_block hl.disk.own hj
  exact whole_ne hk hW h5 (by have e2 : j = k := e; exact e2.symm)
theorem RI.sb {w w' : World} {B go gl mb g r : Nat} {v row : Value} {ms : List MsgD} {L : List Iss} {iv : Value} (h : RI w L iv) (ho : OS w B go gl mb g v row ms r) (hc : Chg w w' (SB go gl mb g v row)) : RI w' L iv := by
  obtain ⟨a, c, h1, h2, h3⟩ := h
  have hne : ∀ ad, a = some ad → ¬ SB go gl mb g v row ad.block := fun ad ha => by
    obtain ⟨ds, hw⟩ := h3 ad ha
    exact ho.other hw (by decide) (by decide) (by decide) (by decide) (by decide)
  exact ⟨a, c, h1, h2.keep hc.size (fun ad ha => hc.block _ (h2.at_ ad ha).2.1 (hne ad ha)), fun ad ha => by
    obtain ⟨ds, hw⟩ := h3 ad ha
    exact ⟨ds, hw.kept (hc.block _ hw.lt (hne ad ha))⟩⟩
theorem RJ.sb {w w' : World} {B go gl mb g r : Nat} {v row : Value} {ms : List MsgD} {M : List Int} {dv : Value} (h : RJ w M dv) (ho : OS w B go gl mb g v row ms r) (hc : Chg w w' (SB go gl mb g v row)) : RJ w' M dv := by
  obtain ⟨a, c, h1, h2, h3⟩ := h
  have hne : ∀ ad, a = some ad → ¬ SB go gl mb g v row ad.block := fun ad ha => by
    obtain ⟨ds, hw⟩ := h3 ad ha
    exact ho.other hw (by decide) (by decide) (by decide) (by decide) (by decide)
  exact ⟨a, c, h1, h2.keep hc.size (fun ad ha => hc.block _ (h2.at_ ad ha).2.1 (hne ad ha)), fun ad ha => by
    obtain ⟨ds, hw⟩ := h3 ad ha
    exact ⟨ds, hw.kept (hc.block _ hw.lt (hne ad ha))⟩⟩
theorem RI.chg2 {w w' : World} {L : List Iss} {iv : Value} {t : TypeId} {k : Nat} {cs : Array Value} (h : RI w L iv) (hk : Whole w k t cs) (hc : Chg w w' (fun j => j = k)) (ht : t ≠ 43) : RI w' L iv := RI.chg h hk hc ht
/-- Both oracles: the program's over its log, the document's in block ob. -/
structure PQ (w W : World) (ob g r go gl mb : Nat) (v row : Value) (ms : List MsgD) (d : Int) (T : ByteArray) (iv dv : Value) : Prop where
  os : OS W w.heap.size go gl mb g v row ms r
  m : Whole W ob 36 #[.string T, .int .i64 d, .int .i64 (r : Int), iv, dv]
  ri : RI W (rep ms) iv
  rj : RJ W (dep ms) dv
  b : Below w.heap.size w W
  ge : w.heap.size ≤ ob
section
variable {w W W' : World} {ob g r go gl mb : Nat} {v row iv dv : Value} {ms : List MsgD} {d : Int} {T : ByteArray}
theorem PQ.below (h : PQ w W ob g r go gl mb v row ms d T iv dv) (hb : Below W.heap.size W W') : PQ w W' ob g r go gl mb v row ms d T iv dv := ⟨h.os.below hb, h.m.kept (hb.block _ h.m.lt), h.ri.below hb, h.rj.below hb, h.b.trans (hb.mono h.b.size), h.ge⟩
theorem PQ.bytes (h : PQ w W ob g r go gl mb v row ms d T iv dv) : (cat ms).length ≤ r ∧ r ≤ 1048576 ∧ ms.length * 20 ≤ (cat ms).length := by
  have hl : Lg W w.heap.size gl g v (cat ms) (cat ms).length r ms.length := h.os.log
  exact ⟨hl.disk.hr, hl.disk.hm, cat_len ms⟩
theorem PQ.dq (h : PQ w W ob g r go gl mb v row ms d T iv dv) : DQ (rep ms) (dep ms) ms.length := dq_rep ms (fun m hm => (h.os.fine m hm).2)
theorem PQ.few (h : PQ w W ob g r go gl mb v row ms d T iv dv) : ms.length ≤ 1048576 := by have := h.bytes; omega
/-- The document's oracle and its rows behind a change of the program's. -/
theorem PQ.doc (h : PQ w W ob g r go gl mb v row ms d T iv dv) (hc : Go.Proofs.YteodldmbnghfcaaGreat.Chg W W' (SB go gl mb g v row)) : Whole W' ob 36 #[.string T, .int .i64 d, .int .i64 (r : Int), iv, dv] ∧ RI W' (rep ms) iv ∧ RJ W' (dep ms) dv ∧ Below w.heap.size w W' :=
  ⟨h.m.kept (hc.block _ h.m.lt (h.os.other h.m (by decide) (by decide) (by decide) (by decide) (by decide))), h.ri.sb h.os (ofRoot hc), h.rj.sb h.os (ofRoot hc), h.b.trans (h.os.sb_ge hc h.b.size)⟩
/-- The document's oracle is stored. -/
theorem PQ.store {a b c x y : Value} {T' : ByteArray} {d' : Int} {iv' dv' : Value} (ho : OS W w.heap.size go gl mb g v row ms r) (hm : Whole W ob 36 #[a, b, c, x, y]) (hi : RI W (rep ms) iv') (hj : RJ W (dep ms) dv') (hb : Below w.heap.size w W) (hg : w.heap.size ≤ ob)
    (hW : W' = ((((W.setCell ⟨ob, 0, none⟩ (.string T')).setCell ⟨ob, 1, none⟩ (.int .i64 d')).setCell ⟨ob, 2, none⟩ (.int .i64 (r : Int))).setCell ⟨ob, 3, none⟩ iv').setCell ⟨ob, 4, none⟩ dv') : PQ w W' ob g r go gl mb v row ms d' T' iv' dv' := by
  have hc : Chg W W' (fun k => k = ob) := by rw [hW]; exact (((((Chg.refl W (fun k => k = ob)).set (b := ob) rfl 0 _).set (b := ob) rfl 1 _).set (b := ob) rfl 2 _).set (b := ob) rfl 3 _).set (b := ob) rfl 4 _
  refine ⟨OS.one ho hm (by decide) (by decide) (by decide) (by decide) (by decide) hc, ?_, RI.chg hi hm hc (by decide), RJ.chg hj hm hc (by decide), (Chg.trans (Chg.ofBelow (fun k => k = ob) hb) hc).below (fun k hk => by have h3 : k = ob := hk; omega) (Nat.le_refl _), hg⟩
  rw [hW]
  exact ((((hm.store 0 _).store 1 _).store 2 _).store 3 _).store 4 _
theorem rvd_idx {L : List Iss} {k : Int} (h : rvd L k ≠ 0) : ∃ j x, idx L k = some j ∧ L[j]? = some x ∧ rvd L k = x.rev := by
  cases hi : idx L k with
  | none => exact absurd (rvd_none hi) h
  | some i =>
    have hm : k ∈ L.map (·.id) := by
      by_cases hn : k ∈ L.map (·.id)
      · exact hn
      · rw [idx_none hn] at hi; cases hi
    obtain ⟨j, x, h1, h2, _⟩ := idx_some hm
    rw [hi] at h1
    injection h1 with h1
    subst h1
    exact ⟨i, x, rfl, h2, rvd_some hi h2⟩
theorem strs_cat (ms : List MsgD) (m : MsgD) : strOfNums (cat ms) ++ strOfNums (rcd m) = strOfNums (cat (ms ++ [m])) := by rw [cat_snoc, str_append]
/-- Issue at the program's oracle, whatever is asked. -/
theorem PQ.issue (h : PQ w W ob g r go gl mb v row ms d T iv dv) (k f : Int) (hk : Go.Proofs.YteodldmbnghfcaaGreat.InI k) (hf : Go.Proofs.YteodldmbnghfcaaGreat.InI f) :
    Calls Tryz.prog 9 #[.pointer (some ⟨go, 0, none⟩), .int .i64 k, .int .i64 f] W fun e w' =>
      (rvd (rep ms) k ≠ 0 ∧ e = .returned (.tuple #[.int .i64 (rvd (rep ms) k), .int .i64 0]) ∧ Below W.heap.size W w') ∨
      (rvd (rep ms) k = 0 ∧ 1125899906842624 ≤ lastR (rep ms) ∧ e = .returned (.tuple #[.int .i64 0, .int .i64 1]) ∧ Below W.heap.size W w') ∨
      (rvd (rep ms) k = 0 ∧ lastR (rep ms) < 1125899906842624 ∧ (cat ms).length + (rcd (oD 1 f k (lastR (rep ms) + 1))).length ≤ r ∧ e = .returned (.tuple #[.int .i64 (lastR (rep ms) + 1), .int .i64 0]) ∧ ∃ v' row', OS w' w.heap.size go gl mb g v' row' (ms ++ [oD 1 f k (lastR (rep ms) + 1)]) r ∧ Go.Proofs.YteodldmbnghfcaaGreat.Chg W w' (SB go gl mb g v row)) ∨
      (rvd (rep ms) k = 0 ∧ lastR (rep ms) < 1125899906842624 ∧ r < (cat ms).length + (rcd (oD 1 f k (lastR (rep ms) + 1))).length ∧ e = .returned (.tuple #[.int .i64 0, .int .i64 3]) ∧ Below W.heap.size W w') := by
  have hR := h.os.ora.rise
  by_cases h0 : rvd (rep ms) k = 0
  · have hi := (rvd_zero hR).1 h0
    by_cases hl : 1125899906842624 ≤ lastR (rep ms)
    · refine (issue_range W h.os k f hk hi hl).mono ?_
      rintro e w' ⟨rfl, n, rfl⟩
      exact .inr (.inl ⟨h0, hl, rfl, below_drewN _ _⟩)
    · refine (issue_new W h.os h.b.size k f hk hf hi (by omega)).mono ?_
      rintro e w' ⟨c, rfl, ⟨rfl, h1, v', row', h2, h3⟩ | ⟨rfl, h1, h2, h3⟩⟩
      · exact .inr (.inr (.inl ⟨h0, by omega, h1, rfl, v', row', h2, h3⟩))
      · exact .inr (.inr (.inr ⟨h0, by omega, h1, rfl, h3⟩))
  · obtain ⟨j, x, h1, h2, h3⟩ := rvd_idx h0
    refine (issue_old W h.os k f hk j x h1 h2).mono ?_
    rintro e w' ⟨rfl, rfl⟩
    exact .inl ⟨h0, by rw [h3], Below.refl _ _⟩
/-- Resolve at the program's oracle, whatever is asked. -/
theorem os_resolve (ho : OS W w.heap.size go gl mb g v row ms r) (hb : Below w.heap.size w W) (k : Int) (hk : Go.Proofs.YteodldmbnghfcaaGreat.InI k) :
    Calls Tryz.prog 12 #[.pointer (some ⟨go, 0, none⟩), .int .i64 k] W fun e w' =>
      (rvd (rep ms) k = 0 ∧ e = .returned (.int .i64 4) ∧ Below W.heap.size W w') ∨
      (rvd (rep ms) k ≠ 0 ∧ k ∈ dep ms ∧ e = .returned (.int .i64 0) ∧ Below W.heap.size W w') ∨
      (rvd (rep ms) k ≠ 0 ∧ k ∉ dep ms ∧ (cat ms).length + (rcd (oD 2 0 k 0)).length ≤ r ∧ e = .returned (.int .i64 0) ∧ ∃ v' row', OS w' w.heap.size go gl mb g v' row' (ms ++ [oD 2 0 k 0]) r ∧ Go.Proofs.YteodldmbnghfcaaGreat.Chg W w' (SB go gl mb g v row)) ∨
      (rvd (rep ms) k ≠ 0 ∧ k ∉ dep ms ∧ r < (cat ms).length + (rcd (oD 2 0 k 0)).length ∧ e = .returned (.int .i64 3) ∧ Below W.heap.size W w') := by
  have hR := ho.ora.rise
  by_cases h0 : rvd (rep ms) k = 0
  · refine (resolve_none W ho k hk ((rvd_zero hR).1 h0)).mono ?_
    rintro e w' ⟨rfl, rfl⟩
    exact .inl ⟨h0, rfl, Below.refl _ _⟩
  · obtain ⟨j, x, h1, h2, h3⟩ := rvd_idx h0
    have hxk : x.id = k := by
      obtain ⟨j2, x2, h4, h5, h6⟩ := idx_some (L := rep ms) (k := k) (by
        by_cases hn : k ∈ (rep ms).map (·.id)
        · exact hn
        · rw [idx_none hn] at h1; cases h1)
      rw [h1] at h4
      injection h4 with h4
      subst h4
      rw [h2] at h5
      injection h5 with h5
      rw [h5]; exact h6
    have hdn := (dq_rep ms (fun m hm => (ho.fine m hm).2)).dn x (List.mem_of_getElem? h2)
    rw [hxk] at hdn
    by_cases hm : k ∈ dep ms
    · refine (resolve_done W ho k hk j x h1 h2 (hdn.2 hm)).mono ?_
      rintro e w' ⟨rfl, rfl⟩
      exact .inr (.inl ⟨h0, hm, rfl, Below.refl _ _⟩)
    · have hf : x.done = false := by
        cases hd : x.done with
        | false => rfl
        | true => exact absurd (hdn.1 hd) hm
      refine (resolve_new W ho hb.size k hk j x h1 h2 hf).mono ?_
      rintro e w' ⟨c, rfl, ⟨rfl, h4, v', row', h5, h6⟩ | ⟨rfl, h4, h5, h6⟩⟩
      · exact .inr (.inr (.inl ⟨h0, hm, h4, rfl, v', row', h5, h6⟩))
      · exact .inr (.inr (.inr ⟨h0, hm, h4, rfl, h6⟩))
end
/-- What is known where a call of the script is behind. -/
def PC14 (w W : World) (ob g r : Nat) (ov : Value) : Prop := ∃ (go gl mb : Nat) (v row : Value) (ms : List MsgD) (d : Int) (T : ByteArray) (iv dv : Value), ov = .pointer (some ⟨go, 0, none⟩) ∧ T = strOfNums (cat ms) ∧ PQ w W ob g r go gl mb v row ms d T iv dv
end Go.Proofs.YteodldmbnghfcaaGreat.Rl
