/- log: rows of messages, and the law's own comparing of them. log: plain facts on records one behind the other. log: a log of whole records; a row with messages that came in. -/
import Derived.Test.YteodldmbnghfcaaGreatL4
namespace Go.Proofs.YteodldmbnghfcaaGreat
open Go.RowKit

/-- The cells of one message of a row. -/
abbrev BoxAt (V : World) (b o : Nat) (v0 v1 v2 v3 v4 v5 v6 v7 v8 v9 v10 v11 : Value) : Prop := V.cell? ⟨b, o, none⟩ = some v0 ∧ V.cell? ⟨b, o + 1, none⟩ = some v1 ∧ V.cell? ⟨b, o + 2, none⟩ = some v2 ∧ V.cell? ⟨b, o + 3, none⟩ = some v3 ∧ V.cell? ⟨b, o + 4, none⟩ = some v4 ∧ V.cell? ⟨b, o + 5, none⟩ = some v5 ∧ V.cell? ⟨b, o + 6, none⟩ = some v6 ∧ V.cell? ⟨b, o + 7, none⟩ = some v7 ∧ V.cell? ⟨b, o + 8, none⟩ = some v8 ∧ V.cell? ⟨b, o + 9, none⟩ = some v9 ∧ V.cell? ⟨b, o + 10, none⟩ = some v10 ∧ V.cell? ⟨b, o + 11, none⟩ = some v11
/-- One message of a row. -/
def MsgCell (w : World) (b o : Nat) (m : MsgD) : Prop := ∃ s8 s9 s10 s11 : Value, BoxAt w b o (.int .i64 m.kind) (.int .i64 m.from_) (.int .i64 m.«to») (.int .i64 m.id) (.int .i64 m.rev) (.int .i64 m.epoch) (.int .i64 m.slot) (.bool m.flag) (s8) (s9) (s10) (s11) ∧ MsgIn w (.agg #[.int .i64 m.kind, .int .i64 m.from_, .int .i64 m.«to», .int .i64 m.id, .int .i64 m.rev, .int .i64 m.epoch, .int .i64 m.slot, .bool m.flag, s8, s9, s10, s11]) m
/-- A row of messages in some world. -/
def MsgsIn (w : World) (a : Option Addr) (n : Nat) (ms : List MsgD) : Prop :=
  ms.length = n ∧ (n = 0 ∨ ∃ b off, a = some ⟨b, off, none⟩ ∧ b < w.heap.size ∧ ∀ i m, ms[i]? = some m → MsgCell w b (off + i * 12) m)
theorem BoxAt.below {w w' : World} {b o : Nat} {v0 v1 v2 v3 v4 v5 v6 v7 v8 v9 v10 v11 : Value} (h : BoxAt w b o v0 v1 v2 v3 v4 v5 v6 v7 v8 v9 v10 v11) (hb : Below w.heap.size w w') (hlt : b < w.heap.size) : BoxAt w' b o v0 v1 v2 v3 v4 v5 v6 v7 v8 v9 v10 v11 := by
  obtain ⟨h0, h1, h2, h3, h4, h5, h6, h7, h8, h9, h10, h11⟩ := h
  exact ⟨(hb.cell (p := ⟨b, o, none⟩) hlt).trans h0, (hb.cell (p := ⟨b, o + 1, none⟩) hlt).trans h1, (hb.cell (p := ⟨b, o + 2, none⟩) hlt).trans h2, (hb.cell (p := ⟨b, o + 3, none⟩) hlt).trans h3, (hb.cell (p := ⟨b, o + 4, none⟩) hlt).trans h4, (hb.cell (p := ⟨b, o + 5, none⟩) hlt).trans h5, (hb.cell (p := ⟨b, o + 6, none⟩) hlt).trans h6, (hb.cell (p := ⟨b, o + 7, none⟩) hlt).trans h7, (hb.cell (p := ⟨b, o + 8, none⟩) hlt).trans h8, (hb.cell (p := ⟨b, o + 9, none⟩) hlt).trans h9, (hb.cell (p := ⟨b, o + 10, none⟩) hlt).trans h10, (hb.cell (p := ⟨b, o + 11, none⟩) hlt).trans h11⟩
theorem MsgCell.below {w w' : World} {b o : Nat} {m : MsgD} (h : MsgCell w b o m) (hb : Below w.heap.size w w') (hlt : b < w.heap.size) : MsgCell w' b o m := by
  obtain ⟨s8, s9, s10, s11, h1, h2⟩ := h
  exact ⟨s8, s9, s10, s11, h1.below hb hlt, h2.below hb⟩
theorem MsgsIn.below {w w' : World} {a : Option Addr} {n : Nat} {ms : List MsgD} (h : MsgsIn w a n ms) (hb : Below w.heap.size w w') : MsgsIn w' a n ms := by
  refine ⟨h.1, h.2.imp_right ?_⟩
  rintro ⟨b, off, h1, h2, h3⟩
  exact ⟨b, off, h1, Nat.lt_of_lt_of_le h2 hb.size, fun i m hi => (h3 i m hi).below hb h2⟩
theorem MsgsIn.head {w : World} {a : Option Addr} {n : Nat} {ms : List MsgD} (h : MsgsIn w a n ms) (k : Nat) (hk : k ≤ n) : MsgsIn w a k (ms.take k) := by
  refine ⟨by have := h.1; rw [List.length_take]; omega, ?_⟩
  rcases h.2 with h0 | ⟨b, off, h1, h2, h3⟩
  · exact .inl (by omega)
  · refine .inr ⟨b, off, h1, h2, fun i m hi => h3 i m ?_⟩
    have hik : i < k := by have := (List.getElem?_eq_some_iff.1 hi).1; rw [List.length_take] at this; omega
    rwa [List.getElem?_take, if_pos hik] at hi
theorem rows_msgs {w : World} {base n c : Nat} {a : Option Addr} {ms : List MsgR} (h : RowsOwn w base (.slice a n c) ms) : MsgsIn w a n (ms.map unR) := by
  obtain ⟨qs, h1, h2, h3⟩ := h
  have hn : ms.length = n := by
    rcases owned_some h2 with ⟨a', c', e, _⟩
    injection e with _ e _
    exact e.symm
  refine ⟨by simpa using hn, ?_⟩
  rcases own_cases h2 with ⟨e, h0⟩ | ⟨g, c', e, _, _, hg, hcell⟩
  · exact .inl (by omega)
  · injection e with e1 e2 e3
    subst e1 e3
    refine .inr ⟨g, 0, rfl, hg, fun i m hi => ?_⟩
    rw [List.getElem?_map] at hi
    obtain ⟨r, hr, rfl⟩ := Option.map_eq_some_iff.1 hi
    rw [← h1, List.getElem?_map] at hr
    obtain ⟨q, hq, rfl⟩ := Option.map_eq_some_iff.1 hr
    have hf : ∀ j, j < 12 → (qs.flatMap qC)[i * 12 + j]? = (qC q)[j]? := fun j hj => flat_at (f := qC) (k := 12) (fun _ => rfl) qs i j q hq hj
    obtain ⟨hO, hfine⟩ := h3 q (List.mem_of_getElem? hq)
    rw [Nat.zero_add]
    exact ⟨q.2.1, q.2.2.1, q.2.2.2.1, q.2.2.2.2, ⟨hcell (i * 12) _ (hf 0 (by omega)), hcell (i * 12 + 1) _ (hf 1 (by omega)), hcell (i * 12 + 2) _ (hf 2 (by omega)), hcell (i * 12 + 3) _ (hf 3 (by omega)), hcell (i * 12 + 4) _ (hf 4 (by omega)), hcell (i * 12 + 5) _ (hf 5 (by omega)), hcell (i * 12 + 6) _ (hf 6 (by omega)), hcell (i * 12 + 7) _ (hf 7 (by omega)), hcell (i * 12 + 8) _ (hf 8 (by omega)), hcell (i * 12 + 9) _ (hf 9 (by omega)), hcell (i * 12 + 10) _ (hf 10 (by omega)), hcell (i * 12 + 11) _ (hf 11 (by omega))⟩, own_in hO hfine⟩
/-- What is held in the region of same, hidden from the walk. -/
def KeptS (w V : World) (b b2 : Nat) (cs cs2 : Array Value) (m m2 : MsgD) : Prop :=
  Below w.heap.size w V ∧ b < V.heap.size ∧ b2 < V.heap.size ∧ MsgIn V (.agg cs) m ∧ MsgIn V (.agg cs2) m2
theorem keptS_in1 {w V : World} {b b2 : Nat} {cs cs2 : Array Value} {m m2 : MsgD} (h : KeptS w V b b2 cs cs2 m m2) : MsgIn V (.agg cs) m := h.2.2.2.1
theorem keptS_in2 {w V : World} {b b2 : Nat} {cs cs2 : Array Value} {m m2 : MsgD} (h : KeptS w V b b2 cs cs2 m m2) : MsgIn V (.agg cs2) m2 := h.2.2.2.2
theorem keptS_keep {w V V' : World} {b b2 : Nat} {cs cs2 : Array Value} {m m2 : MsgD} (h : KeptS w V b b2 cs cs2 m m2) (hb : Below V.heap.size V V') : KeptS w V' b b2 cs cs2 m m2 :=
  ⟨h.1.trans (hb.mono h.1.size), Nat.lt_of_lt_of_le h.2.1 hb.size, Nat.lt_of_lt_of_le h.2.2.1 hb.size, h.2.2.2.1.below hb, h.2.2.2.2.below hb⟩
abbrev HeldS (w V : World) (b o b2 o2 : Nat) (v0 v1 v2 v3 v4 v5 v6 v7 v8 v9 v10 v11 u0 u1 u2 u3 u4 u5 u6 u7 u8 u9 u10 u11 : Value) (m m2 : MsgD) : Prop := BoxAt V b o v0 v1 v2 v3 v4 v5 v6 v7 v8 v9 v10 v11 ∧ BoxAt V b2 o2 u0 u1 u2 u3 u4 u5 u6 u7 u8 u9 u10 u11 ∧ KeptS w V b b2 #[v0, v1, v2, v3, v4, v5, v6, v7, v8, v9, v10, v11] #[u0, u1, u2, u3, u4, u5, u6, u7, u8, u9, u10, u11] m m2
theorem heldS_keep {w V : World} {b o b2 o2 : Nat} {v0 v1 v2 v3 v4 v5 v6 v7 v8 v9 v10 v11 u0 u1 u2 u3 u4 u5 u6 u7 u8 u9 u10 u11 : Value} {m m2 : MsgD} {V' : World} (h : HeldS w V b o b2 o2 v0 v1 v2 v3 v4 v5 v6 v7 v8 v9 v10 v11 u0 u1 u2 u3 u4 u5 u6 u7 u8 u9 u10 u11 m m2) (hb : Below V.heap.size V V') : HeldS w V' b o b2 o2 v0 v1 v2 v3 v4 v5 v6 v7 v8 v9 v10 v11 u0 u1 u2 u3 u4 u5 u6 u7 u8 u9 u10 u11 m m2 := ⟨h.1.below hb h.2.2.2.1, h.2.1.below hb h.2.2.2.2.1, keptS_keep h.2.2 hb⟩
/-- What same comes to. -/
def SmDone (w : World) (ms ms2 : List MsgD) (e : Ending) (w' : World) : Prop := ∃ r : Bool, e = .returned (.bool r) ∧ (r = true ↔ ms = ms2) ∧ Below w.heap.size w w'
set_option maxRecDepth 100000 in
set_option maxHeartbeats 4000000 in
theorem same_msgs (a : Option Addr) (n c : Nat) (ms : List MsgD) (a2 : Option Addr) (n2 c2 : Nat) (ms2 : List MsgD) (w : World) (h : MsgsIn w a n ms) (h2 : MsgsIn w a2 n2 ms2) (hn : n ≤ 9223372036854775806) (hn2 : n2 ≤ 9223372036854775806) :
    Calls Tryz.prog 23 #[.slice a n c, .slice a2 n2 c2] w (SmDone w ms ms2) := by
  have H := Lib.hid h
  have H2 := Lib.hid h2
  have hl := h.1
  have hl2 := h2.1
  have HL := Lib.hid hl
  have HL2 := Lib.hid hl2
  clear h h2 hl hl2
  by_cases hnn : n = n2
  rotate_left
  · have hb : ((n : Int) != (n2 : Int)) = true := by simp; omega
    have HN := Lib.hid (show ms ≠ ms2 from fun h => hnn (by rw [← HL.out, ← HL2.out, h]))
    clear hnn
    go_enter Tryz.func23, Tryz.ntmps23
    go_wp2
    go_ret
    exact ⟨false, rfl, by simp [HN.out], Below.refl _ _⟩
  subst hnn
  go_enter Tryz.func23, Tryz.ntmps23
  go_wp2_with fail
  go_loopw [13] (fun iv wr => ∃ j : Nat, j ≤ n ∧ iv = .int .i64 j ∧ ms.take j = ms2.take j ∧ Below w.heap.size w wr) (fun iv _ => n - (intOf iv).toNat)
  case atStart => exact ⟨0, by omega, rfl, rfl, Below.refl _ _⟩
  case round =>
    obtain ⟨j, hj, rfl, htk, hbr⟩ := hrel
    by_cases hjn : j < n
    · obtain ⟨b, off, rfl, hbl, hc⟩ := H.out.2.resolve_left (by omega)
      obtain ⟨b2, off2, rfl, hbl2, hc2⟩ := H2.out.2.resolve_left (by omega)
      obtain ⟨x, hx⟩ := get_some HL.out hjn
      obtain ⟨y, hy⟩ := get_some HL2.out hjn
      obtain ⟨s8, s9, s10, s11, hbx, hix⟩ := (hc j x hx).below hbr hbl
      obtain ⟨t8, t9, t10, t11, hby, hiy⟩ := (hc2 j y hy).below hbr hbl2
      have HS0 := Lib.hid (show HeldS w wr b (off + j * 12) b2 (off2 + j * 12) (.int .i64 x.kind) (.int .i64 x.from_) (.int .i64 x.«to») (.int .i64 x.id) (.int .i64 x.rev) (.int .i64 x.epoch) (.int .i64 x.slot) (.bool x.flag) (s8) (s9) (s10) (s11) (.int .i64 y.kind) (.int .i64 y.from_) (.int .i64 y.«to») (.int .i64 y.id) (.int .i64 y.rev) (.int .i64 y.epoch) (.int .i64 y.slot) (.bool y.flag) (t8) (t9) (t10) (t11) x y from ⟨hbx, hby, hbr, Nat.lt_of_lt_of_le hbl hbr.size, Nat.lt_of_lt_of_le hbl2 hbr.size, hix, hiy⟩)
      have HX := Lib.hid hx
      have HY := Lib.hid hy
      have HTK := Lib.hid htk
      clear hbx hby hix hiy hc hc2 hx hy htk hbr
      have hjj : (0:Int) ≤ (j:Int) ∧ (j:Int) < (n:Int) := by omega
      obtain ⟨r, hr⟩ : ∃ r : Bool, r = true ↔ x = y := by
        by_cases q : x = y
        · exact ⟨true, by simp [q]⟩
        · exact ⟨false, by simp [q]⟩
      have HR := Lib.hid hr
      clear hr
      go_wp2_with fail
      go_region_held3 (fun V => HeldS w V b (off + j * 12) b2 (off2 + j * 12) (.int .i64 x.kind) (.int .i64 x.from_) (.int .i64 x.«to») (.int .i64 x.id) (.int .i64 x.rev) (.int .i64 x.epoch) (.int .i64 x.slot) (.bool x.flag) (s8) (s9) (s10) (s11) (.int .i64 y.kind) (.int .i64 y.from_) (.int .i64 y.«to») (.int .i64 y.id) (.int .i64 y.rev) (.int .i64 y.epoch) (.int .i64 y.slot) (.bool y.flag) (t8) (t9) (t10) (t11) x y) (first
          | exact heldS_keep HS0.out (below_drewN _ 1)
          | assumption
          | exact heldS_keep (by assumption) (by assumption)
          | exact ⟨BoxAt.below (by assumption) (by assumption) (And.left (And.right (by assumption))), BoxAt.below (by assumption) (by assumption) (And.left (And.right (And.right (by assumption)))), keptS_keep (by assumption) (by assumption)⟩) (first
        | (go_at_call 46; (with_reducible refine (same_bool _ _ x y _ (keptS_in1 (And.right (And.right (by assumption)))) (keptS_in2 (And.right (And.right (by assumption)))) r HR.out).mono ?_); rintro e w' ⟨rfl, hbn⟩))
      have HF := Lib.hid (show Below w.heap.size w w' from (show HeldS w w' b (off + j * 12) b2 (off2 + j * 12) (.int .i64 x.kind) (.int .i64 x.from_) (.int .i64 x.«to») (.int .i64 x.id) (.int .i64 x.rev) (.int .i64 x.epoch) (.int .i64 x.slot) (.bool x.flag) (s8) (s9) (s10) (s11) (.int .i64 y.kind) (.int .i64 y.from_) (.int .i64 y.«to») (.int .i64 y.id) (.int .i64 y.rev) (.int .i64 y.epoch) (.int .i64 y.slot) (.bool y.flag) (t8) (t9) (t10) (t11) x y by assumption).2.2.1)
      cases r
      · have HNE := Lib.hid (show ms ≠ ms2 from fun h => by
          have h1 := HX.out
          rw [h, HY.out] at h1
          injection h1 with h1
          exact absurd (HR.out.2 h1.symm) (by decide))
        go_wp2
        go_ret
        exact ⟨false, rfl, by simp [HNE.out], HF.out⟩
      · have HTN := Lib.hid (take_next HTK.out HX.out (by rw [HY.out, HR.out.1 rfl]))
        go_wp2
        exact ⟨⟨j + 1, by omega, by go_num, HTN.out, HF.out⟩, by simp [intOf]; omega⟩
    · obtain rfl : j = n := by omega
      have HE := Lib.hid (show ms = ms2 from take_whole HL.out HL2.out htk)
      have HBR := Lib.hid hbr
      clear htk hbr
      go_wp2
      go_ret
      exact ⟨true, rfl, by simp [HE.out], HBR.out⟩
end Go.Proofs.YteodldmbnghfcaaGreat

namespace Go.Proofs.YteodldmbnghfcaaGreat
open Go.RowKit

namespace Fr
theorem wd_append (xs r : List Int) (h : 4 ≤ xs.length) : wd (xs ++ r) 4 = wd xs 4 := by
  obtain ⟨a, b, c, d, l, rfl⟩ : ∃ a b c d l, xs = a :: b :: c :: d :: l := by
    match xs, h with
    | a :: b :: c :: d :: l, _ => exact ⟨a, b, c, d, l, rfl⟩
  rfl
end Fr
/-- A message whose record can stand on a disk. -/
def MsgD.fine (m : MsgD) : Prop := m.good ∧ m.in64
theorem unp_rcd {m : MsgD} (h : m.fine) (r : List Int) : unp (rcd m ++ r) = some (toR m, (rcd m).length) := by
  have h1 := h.1.2
  have h2 := unp_ok (Fr.err_sealed (enc m) h1 r) (m := toR m) (by rw [Fr.pay_sealed (enc m) h1 r]; exact dec_enc h.1.1 h.2 h1)
  rw [Fr.wd_sealed (enc m) h1 r, ← rcd_len] at h2
  exact h2
theorem unp_cut {m : MsgD} (h : m.good) {q : List Int} (hq : q <+: rcd m) (hne : q ≠ rcd m) : unp q = none := by
  refine unp_no ?_
  obtain ⟨r, hr⟩ := hq
  have hl : q.length < 8 + (enc m).length := by
    have h1 := congrArg List.length hr
    rw [List.length_append, rcd_len] at h1
    rcases Nat.eq_zero_or_pos r.length with h0 | h0
    · obtain rfl := List.eq_nil_of_length_eq_zero h0
      rw [List.append_nil] at hr
      exact absurd hr hne
    · omega
  rw [Fr.err]
  split
  · omega
  · rename_i h8
    have hw : Fr.wd q 4 = (enc m).length := by
      have h1 := Fr.wd_append q r (by omega)
      rw [hr] at h1
      rw [← h1]
      have h2 := Fr.wd_sealed (enc m) h.2 []
      rwa [List.append_nil] at h2
    have h2 := h.2
    rw [hw, if_neg (by omega), if_pos hl]
    omega
/-- Records one behind the other. -/
def cat (ms : List MsgD) : List Int := (ms.map rcd).flatten
theorem cat_nil : cat [] = [] := rfl
theorem cat_cons (m : MsgD) (ms : List MsgD) : cat (m :: ms) = rcd m ++ cat ms := by simp [cat]
theorem cat_snoc (m : MsgD) (ms : List MsgD) : cat (ms ++ [m]) = cat ms ++ rcd m := by simp [cat]
theorem cat_append (a b : List MsgD) : cat (a ++ b) = cat a ++ cat b := by simp [cat]
/-- How many records lie whole in so many bytes. -/
def cnt : List MsgD → Nat → Nat
  | [], _ => 0
  | m :: ms, k => if (rcd m).length ≤ k then cnt ms (k - (rcd m).length) + 1 else 0
theorem recs_take : ∀ (ms : List MsgD) (k : Nat), (∀ m ∈ ms, m.fine) → recs ((cat ms).take k) = ((ms.take (cnt ms k)).map toR, (cat (ms.take (cnt ms k))).length)
  | [], k, _ => by
    rw [cat_nil, List.take_nil, recs_end unp_nil]
    rfl
  | m :: ms, k, h => by
    have hm := h m (by simp)
    rw [cat_cons, cnt]
    split
    · rename_i hk
      rw [List.take_append, List.take_of_length_le hk, recs_step (unp_rcd hm _), List.drop_left, recs_take ms _ (fun x hx => h x (List.mem_cons_of_mem _ hx)), List.take_succ_cons, List.map_cons, cat_cons, List.length_append]
    · rename_i hk
      rw [List.take_append_of_le_length (by omega), recs_end (unp_cut hm.1 (List.take_prefix _ _) (by intro e; have := congrArg List.length e; rw [List.length_take] at this; omega))]
      rfl
theorem cnt_le : ∀ (ms : List MsgD) (k : Nat), cnt ms k ≤ ms.length
  | [], _ => Nat.le_refl _
  | m :: ms, k => by
    rw [cnt]
    split
    · have := cnt_le ms (k - (rcd m).length)
      simp only [List.length_cons]
      omega
    · omega
theorem cnt_cat : ∀ (ms : List MsgD) (k : Nat), (cat (ms.take (cnt ms k))).length ≤ k
  | [], k => by rw [cnt]; exact Nat.zero_le _
  | m :: ms, k => by
    rw [cnt]
    split
    · have := cnt_cat ms (k - (rcd m).length)
      rw [List.take_succ_cons, cat_cons, List.length_append]
      omega
    · exact Nat.zero_le _
theorem le_cnt : ∀ (ms : List MsgD) (k s : Nat), s ≤ ms.length → (cat (ms.take s)).length ≤ k → s ≤ cnt ms k
  | _, _, 0, _, _ => Nat.zero_le _
  | [], _, s + 1, h, _ => by simp at h
  | m :: ms, k, s + 1, h, hk => by
    rw [List.take_succ_cons, cat_cons, List.length_append] at hk
    rw [cnt, if_pos (by omega)]
    have := le_cnt ms (k - (rcd m).length) s (by simpa using h) (by omega)
    omega
theorem cat_take (ms : List MsgD) (j : Nat) : (cat ms).take (cat (ms.take j)).length = cat (ms.take j) := by
  conv => lhs; rw [← List.take_append_drop j ms, cat_append]
  rw [List.take_append_drop, List.take_left]
theorem cat_cut (ms : List MsgD) (k : Nat) : ((cat ms).take k).take (cat (ms.take (cnt ms k))).length = cat (ms.take (cnt ms k)) := by
  rw [List.take_take, Nat.min_eq_left (cnt_cat ms k), cat_take]
theorem cat_pre (ms : List MsgD) (i j : Nat) (h : i ≤ j) : (cat (ms.take i)).length ≤ (cat (ms.take j)).length := by
  have : ms.take i = (ms.take j).take i := by rw [List.take_take, Nat.min_eq_left h]
  rw [this]
  conv => rhs; rw [← List.take_append_drop i (ms.take j), cat_append, List.length_append]
  omega
theorem rcd_pos (m : MsgD) : 20 ≤ (rcd m).length := by
  rw [rcd_len]
  have h1 : ∀ n : Int, 1 ≤ (Vi.int n).length := fun n => Vi.vi_pos _
  have hl : ∀ {α : Type} (f : α → List Int) (l : List α), 1 ≤ (lst f l).length := fun f l => by
    have := h1 (l.length : Int)
    rw [lst, List.length_append]
    omega
  have e : (enc m).length = (Vi.int m.kind).length + ((Vi.int m.from_).length + ((Vi.int m.«to»).length + ((Vi.int m.id).length + ((Vi.int m.rev).length + ((Vi.int m.epoch).length + ((Vi.int m.slot).length + (1 + ((lst Vi.int m.nodes).length + ((lst mutB m.muts).length + ((lst mutB m.pre).length + (lst rowOf m.rows).length)))))))))) := by
    simp only [enc, List.length_append, List.length_singleton]
  have := h1 m.kind
  have := h1 m.from_
  have := h1 m.«to»
  have := h1 m.id
  have := h1 m.rev
  have := h1 m.epoch
  have := h1 m.slot
  have := hl Vi.int m.nodes
  have := hl mutB m.muts
  have := hl mutB m.pre
  have := hl rowOf m.rows
  omega
theorem cat_len (ms : List MsgD) : ms.length * 20 ≤ (cat ms).length := by
  induction ms with
  | nil => exact Nat.zero_le _
  | cons m ms ih =>
    have := rcd_pos m
    rw [cat_cons, List.length_append, List.length_cons]
    omega
theorem recs_cat (ms : List MsgD) (h : ∀ m ∈ ms, m.fine) : recs (cat ms) = (ms.map toR, (cat ms).length) := by
  have hc : cnt ms (cat ms).length = ms.length := by
    have h1 := cnt_le ms (cat ms).length
    have h2 := le_cnt ms (cat ms).length ms.length (Nat.le_refl _) (by rw [List.take_length]; exact Nat.le_refl _)
    omega
  have := recs_take ms (cat ms).length h
  rwa [List.take_length, hc, List.take_length] at this
theorem map_unR (ms : List MsgD) : (ms.map toR).map unR = ms := by
  rw [List.map_map]
  conv => rhs; rw [← List.map_id ms]
  exact List.map_congr_left fun x _ => unR_toR
/-- Kinds alone. -/
def kindD (k : Int) : MsgD := { zeroD with kind := k }
theorem kind_in64 {k : Int} (h : In64 k) : (kindD k).in64 := ⟨h, in0, in0, in0, in0, in0, in0, by simp [kindD, zeroD], by simp [kindD, zeroD]⟩
theorem kind_good {k : Int} (h : In64 k) : (kindD k).good := by
  refine ⟨⟨by simp [kindD, zeroD], ⟨by simp [kindD, zeroD], by simp [kindD, zeroD]⟩, ⟨by simp [kindD, zeroD], by simp [kindD, zeroD]⟩, ⟨by simp [kindD, zeroD], by simp [kindD, zeroD]⟩⟩, ?_⟩
  have h1 := Vi.int_length k h.1 h.2
  have h0 := Vi.int_length 0 (by omega) (by omega)
  simp only [enc, kindD, zeroD, List.length_append, lst, List.map_nil, List.flatten_nil, List.length_nil, List.length_singleton]
  have : ((0 : Nat) : Int) = 0 := rfl
  rw [this]
  omega
theorem kind_fine {k : Int} (h : In64 k) : (kindD k).fine := ⟨kind_good h, kind_in64 h⟩
theorem kind_in (w : World) {k : Int} (h : In64 k) : MsgIn w (.agg #[.int .i64 k, .int .i64 0, .int .i64 0, .int .i64 0, .int .i64 0, .int .i64 0, .int .i64 0, .bool false, .slice none 0 0, .slice none 0 0, .slice none 0 0, .slice none 0 0]) (kindD k) :=
  ⟨none, none, none, none, 0, 0, 0, 0, 0, 0, 0, 0, ⟨rfl, h, in0, in0, in0, in0, in0, in0, ⟨rfl, .inl rfl⟩, ⟨rfl, .inl rfl⟩, ⟨rfl, .inl rfl⟩, ⟨rfl, .inl rfl⟩, by omega, by omega, by omega, by omega⟩⟩
theorem kind_len {k : Int} (h : 0 ≤ k ∧ k < 64) : (rcd (kindD k)).length = 20 := by
  rw [rcd_len]
  have hz : ∀ j : Int, 0 ≤ j ∧ j < 64 → (Vi.int j).length = 1 := fun j hj => by
    rw [Vi.int, Vi.vi_small _ (by unfold Vi.zig; rw [if_pos hj.1]; omega)]
    rfl
  simp only [enc, kindD, zeroD, List.length_append, lst, List.map_nil, List.flatten_nil, List.length_nil, List.length_singleton]
  rw [hz k h, show ((0 : Nat) : Int) = 0 from rfl, hz 0 (by omega)]
end Go.Proofs.YteodldmbnghfcaaGreat

namespace Go.Proofs.YteodldmbnghfcaaGreat
open Go.RowKit

/-- A log with just these records. -/
def Ls (w : World) (B gl g : Nat) (v : Value) (ms : List MsgD) (d r : Nat) : Prop := Lg w B gl g v (cat ms) d r ms.length
theorem Ls.snoc {w : World} {B gl g : Nat} {v : Value} {ms : List MsgD} {m : MsgD} {d r : Nat} (h : Lg w B gl g v (cat ms ++ rcd m) d r (ms.length + 1)) : Ls w B gl g v (ms ++ [m]) d r := by
  unfold Ls
  rw [cat_snoc, List.length_append]
  exact h
theorem Ls.small {w : World} {B gl g : Nat} {v : Value} {ms : List MsgD} {d r : Nat} (h : Ls w B gl g v ms d r) : ms.length * 20 ≤ r ∧ r ≤ 1048576 := by
  have h1 := h.disk.hr
  have h2 := h.disk.hm
  have h3 := cat_len ms
  omega
/-- What Add comes to. -/
def AddR (w : World) (B gl g : Nat) (v : Value) (ms : List MsgD) (d r : Nat) (m : MsgD) (e : Ending) (w' : World) : Prop :=
  ∃ c : Int, e = .returned (.int .i64 c) ∧ ((c = 0 ∧ m.good ∧ (cat ms).length + (rcd m).length ≤ r ∧ ∃ v', Ls w' B gl g v' (ms ++ [m]) d r ∧ Kept w w' gl g v ∧ (v'.ownBlock = v.ownBlock ∨ ∃ q, v'.ownBlock = some q ∧ w.heap.size ≤ q)) ∨
    ((c = 3 ∧ m.good ∧ r < (cat ms).length + (rcd m).length ∨ c = 2 ∧ ¬ m.good) ∧ Ls w' B gl g v ms d r ∧ Below w.heap.size w w'))
theorem ladd_any (B gl g : Nat) (v : Value) (ms : List MsgD) (d r : Nat) (V : Value) (m : MsgD) (w : World) (h : Ls w B gl g v ms d r) (hm : MsgIn w V m) :
    Calls Tryz.prog 35 #[.pointer (some ⟨gl, 0, none⟩), V] w (AddR w B gl g v ms d r m) := by
  refine (add_any B gl g v (cat ms) d r ms.length V m w h hm (by have := h.small; omega)).mono ?_
  rintro e w' (⟨h1, h2, rfl, v', h3, h4, h5⟩ | ⟨⟨h1, h2⟩, rfl, h3, h4⟩ | ⟨h1, rfl, h3, h4⟩)
  · exact ⟨0, rfl, .inl ⟨rfl, h1, h2, v', Ls.snoc h3, h4, h5⟩⟩
  · exact ⟨3, rfl, .inr ⟨.inl ⟨rfl, h1, h2⟩, h3, h4⟩⟩
  · exact ⟨2, rfl, .inr ⟨.inr ⟨rfl, h1⟩, h3, h4⟩⟩
/-- What Write comes to. -/
def WriteR (w : World) (B gl g : Nat) (v : Value) (ms : List MsgD) (d r : Nat) (m : MsgD) (e : Ending) (w' : World) : Prop :=
  ∃ c : Int, e = .returned (.int .i64 c) ∧ ((c = 0 ∧ m.good ∧ (cat ms).length + (rcd m).length ≤ r ∧ ∃ v', Ls w' B gl g v' (ms ++ [m]) (cat (ms ++ [m])).length r ∧ Kept w w' gl g v ∧ (v'.ownBlock = v.ownBlock ∨ ∃ q, v'.ownBlock = some q ∧ w.heap.size ≤ q)) ∨
    ((c = 3 ∧ m.good ∧ r < (cat ms).length + (rcd m).length ∨ c = 2 ∧ ¬ m.good) ∧ Ls w' B gl g v ms d r ∧ Below w.heap.size w w'))
theorem lwrite_any (B gl g : Nat) (v : Value) (ms : List MsgD) (d r : Nat) (V : Value) (m : MsgD) (w : World) (h : Ls w B gl g v ms d r) (hm : MsgIn w V m) :
    Calls Tryz.prog 14 #[.pointer (some ⟨gl, 0, none⟩), V] w (WriteR w B gl g v ms d r m) := by
  refine (write_any B gl g v (cat ms) d r ms.length V m w h hm (by have := h.small; omega)).mono ?_
  rintro e w' (⟨h1, h2, rfl, v', h3, h4, h5⟩ | ⟨⟨h1, h2⟩, rfl, h3, h4⟩ | ⟨h1, rfl, h3, h4⟩)
  · refine ⟨0, rfl, .inl ⟨rfl, h1, h2, v', ?_, h4, h5⟩⟩
    rw [← cat_snoc] at h3
    unfold Ls
    rw [List.length_append]
    exact h3
  · exact ⟨3, rfl, .inr ⟨.inl ⟨rfl, h1, h2⟩, h3, h4⟩⟩
  · exact ⟨2, rfl, .inr ⟨.inr ⟨rfl, h1⟩, h3, h4⟩⟩
/-- What Open comes to. -/
def OpenR (w : World) (B g : Nat) (v : Value) (ms : List MsgD) (r : Nat) (e : Ending) (w' : World) : Prop :=
  ∃ gl ra rc v', e = .returned (.tuple #[.pointer (some ⟨gl, 0, none⟩), .slice ra ms.length rc]) ∧ ms.length ≤ rc ∧ rc ≤ maxLen ∧ w.heap.size ≤ gl ∧ Ls w' B gl g v' ms (cat ms).length r ∧ v'.ownBlock = v.ownBlock ∧ RowsOwn w' w.heap.size (.slice ra ms.length rc) (ms.map toR) ∧ MsgsIn w' ra ms.length ms ∧ Dk.Turned w w' g none
theorem lopen_cut (B g : Nat) (v : Value) (ms : List MsgD) (k d r : Nat) (w : World) (h : Dk.DAt w B g v ((cat ms).take k) d r) (hf : ∀ m ∈ ms, m.fine) :
    Calls Tryz.prog 13 #[.pointer (some ⟨g, 0, none⟩)] w (OpenR w B g v (ms.take (cnt ms k)) r) := by
  refine (lopen_any B g v _ d r w h).mono ?_
  rintro e w' ⟨gl, rv, v', rfl, h1, h2, h3, h4, h5⟩
  have hr := recs_take ms k hf
  rw [hr] at h2 h4
  simp only [cat_cut, List.length_map] at h2
  obtain ⟨ra, rc, rfl, h6, h7⟩ := h4.slice
  simp only [List.length_map] at h4 h6 ⊢
  have h8 := rows_msgs h4
  rw [map_unR] at h8
  exact ⟨gl, ra, rc, v', rfl, h6, h7, h1, h2, h3, h4, h8, h5⟩
theorem lopen_cat (B g : Nat) (v : Value) (ms : List MsgD) (d r : Nat) (w : World) (h : Dk.DAt w B g v (cat ms) d r) (hf : ∀ m ∈ ms, m.fine) :
    Calls Tryz.prog 13 #[.pointer (some ⟨g, 0, none⟩)] w (OpenR w B g v ms r) := by
  have hc : cnt ms (cat ms).length = ms.length := by
    have h1 := cnt_le ms (cat ms).length
    have h2 := le_cnt ms (cat ms).length ms.length (Nat.le_refl _) (by rw [List.take_length]; exact Nat.le_refl _)
    omega
  have := lopen_cut B g v ms (cat ms).length d r w (by rwa [List.take_length]) hf
  rwa [hc, List.take_length] at this

abbrev S4 := Value × Value × Value × Value
def mC (m : MsgD) (s : S4) : List Value := [.int .i64 m.kind, .int .i64 m.from_, .int .i64 m.«to», .int .i64 m.id, .int .i64 m.rev, .int .i64 m.epoch, .int .i64 m.slot, .bool m.flag, s.1, s.2.1, s.2.2.1, s.2.2.2]
def MsgB (w : World) (B : Nat) (V : Value) (m : MsgD) : Prop := ∃ na ma pa ra nn nc mn mc pn pc rn rc, MsgAt w B V m na ma pa ra nn nc mn mc pn pc rn rc
theorem MsgB.below {w w' : World} {B : Nat} {V : Value} {m : MsgD} (h : MsgB w B V m) (hb : Below B w w') : MsgB w' B V m := by
  obtain ⟨na, ma, pa, ra, nn, nc, mn, mc, pn, pc, rn, rc, h⟩ := h
  exact ⟨na, ma, pa, ra, nn, nc, mn, mc, pn, pc, rn, rc, h.up hb (Nat.le_refl _)⟩
theorem MsgB.msg {w : World} {B : Nat} {V : Value} {m : MsgD} (h : MsgB w B V m) (hB : B ≤ w.heap.size) : MsgIn w V m := by
  obtain ⟨na, ma, pa, ra, nn, nc, mn, mc, pn, pc, rn, rc, h⟩ := h
  exact ⟨na, ma, pa, ra, nn, nc, mn, mc, pn, pc, rn, rc, h.up (Below.refl _ _) hB⟩
/-- A row of the call's own with messages that lie below B. -/
def AllAt (w : World) (B : Nat) (v : Value) (ms : List MsgD) : Prop :=
  ∃ ss : List (MsgD × S4), ss.map (·.1) = ms ∧ w.ownsRow B 43 12 v ms.length (ss.flatMap fun q => mC q.1 q.2) ∧ ∀ q ∈ ss, MsgB w B (.agg (mC q.1 q.2).toArray) q.1
theorem AllAt.nil (w : World) (B : Nat) : AllAt w B (.slice none 0 0) [] := ⟨[], rfl, ⟨rfl, .inl ⟨rfl, rfl⟩⟩, by simp⟩
theorem AllAt.below {w w' : World} {B : Nat} {v : Value} {ms : List MsgD} (h : AllAt w B v ms) (hb : Below w.heap.size w w') (hB : B ≤ w.heap.size) : AllAt w' B v ms := by
  obtain ⟨ss, h1, h2, h3⟩ := h
  exact ⟨ss, h1, owns_below h2 hb, fun q hq => (h3 q hq).below (hb.mono hB)⟩
theorem AllAt.kept {w w' : World} {B B' gl g d r n : Nat} {u v : Value} {xs : List Int} {ms : List MsgD} (h : AllAt w B v ms) (hl : Lg w B' gl g u xs d r n) (hk : Kept w w' gl g u) (hB : B ≤ B') (hw : B' ≤ w.heap.size) : AllAt w' B v ms := by
  obtain ⟨ss, h1, h2, h3⟩ := h
  exact ⟨ss, h1, hl.row hk h2 (by decide) (by decide) (by decide), fun q hq => (h3 q hq).below ((hl.below hk hw).mono hB)⟩
theorem AllAt.slice {w : World} {B : Nat} {v : Value} {ms : List MsgD} (h : AllAt w B v ms) : ∃ a c, v = .slice a ms.length c ∧ ms.length ≤ c ∧ c ≤ maxLen := by
  obtain ⟨ss, h1, h2, h3⟩ := h
  exact owned_some h2
theorem AllAt.msgs {w : World} {B n c : Nat} {a : Option Addr} {ms : List MsgD} (h : AllAt w B (.slice a n c) ms) (hB : B ≤ w.heap.size) : MsgsIn w a n ms := by
  obtain ⟨ss, h1, h2, h3⟩ := h
  have hn : ms.length = n := by
    rcases owned_some h2 with ⟨a', c', e, _⟩
    injection e with _ e _
    exact e.symm
  refine ⟨hn, ?_⟩
  rcases own_cases h2 with ⟨e, h0⟩ | ⟨g, c', e, _, _, hg, hcell⟩
  · exact .inl (by omega)
  · injection e with e1 e2 e3
    subst e1 e3
    refine .inr ⟨g, 0, rfl, hg, fun i m hi => ?_⟩
    rw [← h1, List.getElem?_map] at hi
    obtain ⟨q, hq, rfl⟩ := Option.map_eq_some_iff.1 hi
    have hf : ∀ j, j < 12 → (ss.flatMap fun q => mC q.1 q.2)[i * 12 + j]? = (mC q.1 q.2)[j]? := fun j hj => flat_at (f := fun q : MsgD × S4 => mC q.1 q.2) (k := 12) (fun _ => rfl) ss i j q hq hj
    rw [Nat.zero_add]
    exact ⟨q.2.1, q.2.2.1, q.2.2.2.1, q.2.2.2.2, ⟨hcell (i * 12) _ (hf 0 (by omega)), hcell (i * 12 + 1) _ (hf 1 (by omega)), hcell (i * 12 + 2) _ (hf 2 (by omega)), hcell (i * 12 + 3) _ (hf 3 (by omega)), hcell (i * 12 + 4) _ (hf 4 (by omega)), hcell (i * 12 + 5) _ (hf 5 (by omega)), hcell (i * 12 + 6) _ (hf 6 (by omega)), hcell (i * 12 + 7) _ (hf 7 (by omega)), hcell (i * 12 + 8) _ (hf 8 (by omega)), hcell (i * 12 + 9) _ (hf 9 (by omega)), hcell (i * 12 + 10) _ (hf 10 (by omega)), hcell (i * 12 + 11) _ (hf 11 (by omega))⟩, (h3 q (List.mem_of_getElem? hq)).msg hB⟩
theorem AllAt.step {w w' : World} {B : Nat} {v v' : Value} {ms : List MsgD} {m : MsgD} {s : S4} (h : AllAt w B v ms) (hB : B ≤ w.heap.size) (hm : MsgB w B (.agg (mC m s).toArray) m)
    (hrow : ∀ l, w.ownsRow B 43 12 v ms.length l → w'.ownsRow B 43 12 v' (ms.length + 1) (l ++ mC m s)) (hg : w.grownBy w' v.ownBlock) : AllAt w' B v' (ms ++ [m]) ∧ Below B w w' := by
  obtain ⟨ss, h1, h2, h3⟩ := h
  have hb : Below B w w' := (Below.refl _ _).grown hg hB (fun j hj => (h2.lt j hj).1)
  refine ⟨⟨ss ++ [(m, s)], by simp [h1], ?_, ?_⟩, hb⟩
  · have := hrow _ h2
    simpa using this
  · intro q hq
    rcases List.mem_append.1 hq with hq | hq
    · exact (h3 q hq).below hb
    · obtain rfl : q = (m, s) := by simpa using hq
      exact hm.below hb
theorem row_one {w : World} {base base' n s : Nat} {e : TypeId} {v : Value} {l l' : List Value} (h : w.ownsRow base e s v n l) (h' : w.ownsRow base' e s v n l') : l = l' := by
  rcases h.2 with ⟨_, h0⟩ | ⟨g1, cap1, cur1, e1, _, h1, _, _, _, h2⟩
  · have h3 : l = [] := List.eq_nil_of_length_eq_zero (by have := h.1; rw [this, h0, Nat.zero_mul])
    have h4 : l' = [] := List.eq_nil_of_length_eq_zero (by have := h'.1; rw [this, h0, Nat.zero_mul])
    rw [h3, h4]
  · rcases h'.2 with ⟨e2, _⟩ | ⟨g2, cap2, cur2, e2, _, h3, _, _, _, h4⟩
    · rw [e1] at e2; cases e2
    · rw [e1] at e2
      injection e2 with e2 _ _
      injection e2 with e2
      injection e2 with e2 _ _
      subst e2
      rw [h1] at h3
      injection h3 with h3
      injection h3 with h3
      subst h3
      rw [← h2, ← h4]
end Go.Proofs.YteodldmbnghfcaaGreat
