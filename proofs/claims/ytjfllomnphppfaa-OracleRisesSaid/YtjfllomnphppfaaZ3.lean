/- The oracle writes: write, Issue, Resolve, Open. -/
import Derived.Test.YtjfllomnphppfaaZ2
namespace Go.Proofs.Ytjfllomnphppfaa
open Go.RowKit

section
variable {w w' : World} {B go gl mb g o r : Nat} {v row : Value} {L : List Iss} {ms : List MsgD}
theorem take_any (w : World) (V : Value) (m : MsgD) (hm : MsgIn w V m) (h : OrAt w B go gl mb row L (leadN L)) (hll : L.length ≤ 1048575) (hB : B ≤ w.heap.size) :
    Calls Try.prog 26 #[.pointer (some ⟨go, 0, none⟩), V] w (TakeR w B go gl mb row L m) := by
  by_cases h1 : m.kind = 1 ∧ idx L m.id = none ∧ lastR L < m.rev
  · exact take_new w V m hm h hll hB h1.1 h1.2.1 h1.2.2
  · by_cases h2 : m.kind = 2 ∧ idx L m.id ≠ none
    · obtain ⟨i, hi⟩ := Option.ne_none_iff_exists'.1 h2.2
      exact take_mark w V m i hm h h2.1 hi
    · exact take_same w V m hm h h1 h2
/-- An oracle and its log. -/
structure OS (w : World) (B go gl mb g : Nat) (v row : Value) (ms : List MsgD) (r : Nat) : Prop where
  log : Ls w B gl g v ms (cat ms).length r
  ora : OrAt w B go gl mb row (rep ms) (leadN (rep ms))
  fine : ∀ m ∈ ms, m.fine
theorem OS.below (h : OS w B go gl mb g v row ms r) (hb : Below w.heap.size w w') : OS w' B go gl mb g v row ms r := ⟨Lg.keep h.log hb, h.ora.below hb, h.fine⟩
theorem OS.few (h : OS w B go gl mb g v row ms r) : (rep ms).length ≤ 52429 := by
  have h1 := Ls.small h.log
  have h2 := rep_len ms
  omega
theorem OrAt.kept_log {n d : Nat} {xs : List Int} (h : OrAt w B go gl mb row L o) (hl : Lg w B gl g v xs d r n) (hk : Kept w w' gl g v) : OrAt w' B go gl mb row L o := by
  refine h.kept fun k hk2 => hk.block k (h.lt hk2) ?_ ?_ ?_
  · rintro rfl; exact h.other hl.lg (by decide) (by decide) hk2
  · rintro rfl; exact h.other (show Whole w k 54 _ from hl.disk.blk) (by decide) (by decide) hk2
  · intro e
    obtain ⟨_, cur, hW⟩ := owned_block hl.disk.own e.symm
    exact h.other hW (by decide) (by decide) hk2
theorem Lg.kept_ora {n d : Nat} {xs : List Int} (hl : Lg w B gl g v xs d r n) (h : OrAt w B go gl mb row L o) (hk : Chg w w' (OB go mb row)) : Lg w' B gl g v xs d r n := by
  have hn : ∀ (k : Nat) (T : TypeId) (cs : Array Value), Whole w k T cs → T ≠ 65 → T ≠ 67 → w'.heap[k]? = w.heap[k]? := fun k T cs hW h1 h2 => hk.block k hW.lt (h.other hW h1 h2)
  have hd : Whole w g 54 _ := hl.disk.blk
  refine ⟨hl.lg.kept (hn _ _ _ hl.lg (by decide) (by decide)), hl.ge, ⟨hd.kept (hn _ _ _ hd (by decide) (by decide)), hl.disk.ge, owns_keep hl.disk.own fun j hj => ?_, hl.disk.byte, hl.disk.hd, hl.disk.hr, hl.disk.hm⟩⟩
  obtain ⟨_, cur, hW⟩ := owned_block hl.disk.own hj
  exact hn _ _ _ hW (by decide) (by decide)
theorem past_log {n d k : Nat} {xs : List Int} {t : TypeId} {cs : Array Value} (hw : Whole w k t cs) (h : Lg w B gl g v xs d r n) (hk : Kept w w' gl g v) (ht : t ≠ 76) (h2 : t ≠ 54) (h3 : t ≠ 5) : Whole w' k t cs := by
  refine hw.kept (hk.block k hw.lt (whole_ne hw h.lg ht) (whole_ne hw (show Whole w g 54 _ from h.disk.blk) h2) fun e => ?_)
  obtain ⟨_, cur, hW⟩ := owned_block h.disk.own e.symm
  exact whole_ne hw hW h3 rfl
/-- The blocks of an oracle and its log. -/
def SB (go gl mb g : Nat) (v row : Value) (k : Nat) : Prop := k = gl ∨ k = g ∨ v.ownBlock = some k ∨ OB go mb row k
theorem OS.ge (h : OS w B go gl mb g v row ms r) {k : Nat} (hk : SB go gl mb g v row k) : B ≤ k ∧ k < w.heap.size := by
  have hl : Lg w B gl g v (cat ms) (cat ms).length r ms.length := h.log
  have hd : Whole w g 54 _ := hl.disk.blk
  rcases hk with h1 | h1 | h1 | h1
  · rw [h1]; exact ⟨hl.ge, hl.lg.lt⟩
  · rw [h1]; exact ⟨hl.disk.ge, hd.lt⟩
  · exact hl.disk.own.lt k h1
  · exact ⟨h.ora.ge h1, h.ora.lt h1⟩
theorem OS.other (h : OS w B go gl mb g v row ms r) {k : Nat} {T : TypeId} {cs : Array Value} (hk : Whole w k T cs) (h1 : T ≠ 65) (h2 : T ≠ 67) (h3 : T ≠ 76) (h4 : T ≠ 54) (h5 : T ≠ 5) : ¬ SB go gl mb g v row k := by
  have hl : Lg w B gl g v (cat ms) (cat ms).length r ms.length := h.log
  have hd : Whole w g 54 _ := hl.disk.blk
  rintro (h6 | h6 | h6 | h6)
  · exact whole_ne hk hl.lg h3 h6
  · exact whole_ne hk hd h4 h6
  · obtain ⟨_, cur, hW⟩ := owned_block hl.disk.own h6
    exact whole_ne hk hW h5 rfl
  · exact h.ora.other hk h1 h2 h6
theorem OS.map_other {m : Lit → Option Value} {N b : Nat} {P : Program} {K : TypeId} (h : OS w B go gl mb g v row ms r) (hm : MapAt w P K b m N) (hb : b ≠ mb) : ¬ SB go gl mb g v row b := by
  have hl : Lg w B gl g v (cat ms) (cat ms).length r ms.length := h.log
  have hd : Whole w g 54 _ := hl.disk.blk
  rintro (h6 | h6 | h6 | h6 | h6 | h6)
  · exact hm.ne hl.lg h6.symm
  · exact hm.ne hd h6.symm
  · obtain ⟨_, cur, hW⟩ := owned_block hl.disk.own h6
    exact hm.ne hW rfl
  · exact hm.ne h.ora.own h6.symm
  · exact hb h6
  · obtain ⟨_, cur, hW⟩ := owned_block h.ora.row h6
    exact hm.ne hW rfl
theorem Kept.chg (h : Kept w w' gl g v) : Chg w w' (SB go gl mb g v row) := ⟨h.os, h.tape, h.output, h.size, fun k hk hn => h.block k hk (fun e => hn (.inl e)) (fun e => hn (.inr (.inl e))) (fun e => hn (.inr (.inr (.inl e.symm))))⟩
/-- What becomes of a record that is written. -/
def OwR (w : World) (B go gl mb g : Nat) (v row : Value) (ms : List MsgD) (r : Nat) (m : MsgD) (c : Int) (w' : World) : Prop :=
  (c = 0 ∧ (cat ms).length + (rcd m).length ≤ r ∧ ∃ v' row', OS w' B go gl mb g v' row' (ms ++ [m]) r ∧ Chg w w' (SB go gl mb g v row)) ∨
    (c = 3 ∧ r < (cat ms).length + (rcd m).length ∧ OS w' B go gl mb g v row ms r ∧ Below w.heap.size w w')
def OwE (w : World) (B go gl mb g : Nat) (v row : Value) (ms : List MsgD) (r : Nat) (m : MsgD) (e : Ending) (w' : World) : Prop := ∃ c : Int, e = .returned (.int .i64 c) ∧ OwR w B go gl mb g v row ms r m c w'
abbrev oV (k f i r : Int) : Value := .agg #[.int .i64 k, .int .i64 f, .int .i64 0, .int .i64 i, .int .i64 r, .int .i64 0, .int .i64 0, .bool false, .slice none 0 0, .slice none 0 0, .slice none 0 0, .slice none 0 0]
set_option maxRecDepth 100000 in
set_option maxHeartbeats 8000000 in
theorem owrite_any (w : World) (h : OS w B go gl mb g v row ms r) (hB : B ≤ w.heap.size) (k f i q : Int) (h1 : InI k) (h2 : InI f) (h3 : InI i) (h4 : InI q) :
    Calls Try.prog 20 #[.pointer (some ⟨go, 0, none⟩), oV k f i q] w (OwE w B go gl mb g v row ms r (oD k f i q)) := by
  have HF := Lib.hid (od_fine h1 h2 h3 h4)
  have HMI := Lib.hid (fun W => od_in W h1 h2 h3 h4)
  obtain ⟨W0, hW0, hw0, hb0⟩ := alloc_box w #[.int .i64 k, .int .i64 f, .int .i64 0, .int .i64 i, .int .i64 q, .int .i64 0, .int .i64 0, .bool false, .slice none 0 0, .slice none 0 0, .slice none 0 0, .slice none 0 0]
  have hOS := h.below hb0
  obtain ⟨c0, _, _, _, _, _⟩ := hOS.ora.cells
  have k0 := hw0.cell 0
  have k1 := hw0.cell 1
  have k2 := hw0.cell 2
  have k3 := hw0.cell 3
  have k4 := hw0.cell 4
  have k5 := hw0.cell 5
  have k6 := hw0.cell 6
  have k7 := hw0.cell 7
  have k8 := hw0.cell 8
  have k9 := hw0.cell 9
  have k10 := hw0.cell 10
  have k11 := hw0.cell 11
  have HB := Lib.hid hB
  have HB0 := Lib.hid hb0
  have HW := Lib.hid hw0
  have HOS := Lib.hid hOS
  have HFEW := Lib.hid hOS.few
  clear hb0 hw0 h hOS hB h1 h2 h3 h4
  go_enter Try.func20, Try.ntmps20
  go_upto_region 1 with fail
  rw [← hW0]
  clear hW0
  refine wp_region_still_tail 5 (by kernel_rfl) (by kernel_rfl) ?_
  simp only [List.take_succ_cons, List.take_zero, List.drop_succ_cons, List.drop_zero]
  repeat still_step
  refine wpStill_nil ?_
  change wpList _ _ _ _ _ W0.drew
  obtain ⟨W1, hW1, hb1⟩ : ∃ W1, W1 = W0.drew ∧ Below W0.heap.size W0 W1 := ⟨_, rfl, below_drewN _ 1⟩
  rw [← hW1]
  have HO1 := Lib.hid (HOS.out.below hb1)
  have HW1 := Lib.hid (HW.out.kept (hb1.block _ HW.out.lt))
  have HB1 := Lib.hid (bell_up HB0.out hb1)
  clear hW1 hb1 k0 k1 k2 k3 k4 k5 k6 k7 k8 k9 k10 k11 c0
  go_wp2_with fail
  refine (lwrite_any B gl g v ms _ r _ (oD k f i q) _ HO1.out.log (HMI.out _)).mono ?_
  rintro e w2 ⟨c, rfl, hc⟩
  rcases hc with ⟨rfl, hg, hle, v2, hL2, hK, hv2⟩ | ⟨hc, hL2, hb2⟩
  · have hx2 := past_log HW1.out HO1.out.log hK (by decide) (by decide) (by decide)
    have hO2 := OrAt.kept_log HO1.out.ora HO1.out.log hK
    have hB2 : Below B W1 w2 := Lg.below HO1.out.log hK (by have := HB1.out.size; have := HB.out; omega)
    have k0 := hx2.cell 0
    have k1 := hx2.cell 1
    have k2 := hx2.cell 2
    have k3 := hx2.cell 3
    have k4 := hx2.cell 4
    have k5 := hx2.cell 5
    have k6 := hx2.cell 6
    have k7 := hx2.cell 7
    have k8 := hx2.cell 8
    have k9 := hx2.cell 9
    have k10 := hx2.cell 10
    have k11 := hx2.cell 11
    have HL2 := Lib.hid hL2
    have HO2 := Lib.hid hO2
    have HK2 := Lib.hid (Kept.chg (go := go) (mb := mb) (row := row) hK)
    have HLE := Lib.hid hle
    have HBS := Lib.hid (show B ≤ w2.heap.size by have := HB.out; have := HB1.out.size; have := hB2.size; omega)
    clear hg hle hL2 hK hv2 hx2 hO2 hB2
    go_wp2_with fail
    refine (take_any _ _ (oD k f i q) (HMI.out _) HO2.out (by have := HFEW.out; omega) HBS.out).mono ?_
    rintro e w3 ⟨rfl, row', hO3, hC3, hr3⟩
    have hL3 := Lg.kept_ora HL2.out HO2.out hC3
    have HE := Lib.hid (show OwE w B go gl mb g v row ms r (oD k f i q) (.returned (.int .i64 0)) w3 from ⟨0, rfl, .inl ⟨rfl, HLE.out, v2, row', ⟨hL3, by rw [rep_snoc]; exact hO3, fun m hm => by
      rcases List.mem_append.1 hm with h1 | h1
      · exact HO1.out.fine m h1
      · rw [List.mem_singleton] at h1; rw [h1]; exact HF.out⟩, (Chg.ofBelow _ HB1.out).trans (HK2.out.trans (hC3.mono fun k _ hk => .inr (.inr (.inr hk))))⟩⟩)
    clear hO3 hC3 hr3 hL3
    go_wp2
    go_ret
    exact HE.out
  · have hc3 : c = 3 ∧ r < (cat ms).length + (rcd (oD k f i q)).length := by
      rcases hc with ⟨h1, _, h2⟩ | ⟨_, h2⟩
      · exact ⟨h1, h2⟩
      · exact absurd HF.out.1 h2
    obtain ⟨rfl, hlt⟩ := hc3
    have HE := Lib.hid (show OwE w B go gl mb g v row ms r (oD k f i q) (.returned (.int .i64 3)) w2 from ⟨3, rfl, .inr ⟨rfl, hlt, HO1.out.below hb2, bell_up HB1.out hb2⟩⟩)
    clear hc hlt hL2 hb2
    go_wp2
    go_ret
    exact HE.out
set_option maxRecDepth 100000 in
set_option maxHeartbeats 4000000 in
theorem issue_old (w : World) (h : OS w B go gl mb g v row ms r) (k f : Int) (hk : InI k) (j : Nat) (x : Iss) (hj : idx (rep ms) k = some j) (hx : (rep ms)[j]? = some x) :
    Calls Try.prog 9 #[.pointer (some ⟨go, 0, none⟩), .int .i64 k, .int .i64 f] w fun e w' => e = .returned (.tuple #[.int .i64 x.rev, .int .i64 0]) ∧ w = w' := by
  have hlk := h.ora.find hk
  rw [hj] at hlk
  simp only [Option.getD_some, Option.isSome_some] at hlk
  obtain ⟨_, c1, c2, _, _, _⟩ := h.ora.cells
  have hlt := (List.getElem?_eq_some_iff.1 hx).1
  have hlen := h.few
  obtain ⟨q, c, hrow, _, hq, d0, _, _, _, _⟩ := h.ora.at_ hx
  subst hrow
  clear h hj hx
  generalize (rep ms).length = n at *
  go_enter Try.func9, Try.ntmps9
  go_wp2
  go_ret2
  exact ⟨rfl, rfl⟩
set_option maxRecDepth 100000 in
set_option maxHeartbeats 4000000 in
theorem issue_range (w : World) (h : OS w B go gl mb g v row ms r) (k f : Int) (hk : InI k) (hj : idx (rep ms) k = none) (hl : 1125899906842624 ≤ lastR (rep ms)) :
    Calls Try.prog 9 #[.pointer (some ⟨go, 0, none⟩), .int .i64 k, .int .i64 f] w fun e w' => e = .returned (.tuple #[.int .i64 0, .int .i64 1]) ∧ ∃ n, w' = w.drewN n := by
  have hlk := h.ora.find hk
  rw [hj] at hlk
  simp only [Option.getD_none, Option.isSome_none] at hlk
  obtain ⟨_, c1, c2, _, _, _⟩ := h.ora.cells
  have HLA := Lib.hid (last_any w h.ora)
  generalize lastR (rep ms) = la at *
  have hd : decide (la ≥ 1125899906842624) = true := by simpa using hl
  clear h hj
  go_enter Try.func9, Try.ntmps9
  go_wp2_with (go_at_call 13; refine HLA.out.mono ?_; rintro e w1 ⟨rfl, n1, rfl⟩)
  go_ret2
  exact ⟨rfl, _, rfl⟩
/-- What Issue comes to where there is none yet. -/
def IssR (w : World) (B go gl mb g : Nat) (v row : Value) (ms : List MsgD) (r : Nat) (k f : Int) (e : Ending) (w' : World) : Prop :=
  ∃ c : Int, e = .returned (.tuple #[.int .i64 (if c = 0 then lastR (rep ms) + 1 else 0), .int .i64 c]) ∧ OwR w B go gl mb g v row ms r (oD 1 f k (lastR (rep ms) + 1)) c w'
theorem OwR.from_ {m : MsgD} {c : Int} {W w' : World} (h : OwR W B go gl mb g v row ms r m c w') (hb : Below w.heap.size w W) : OwR w B go gl mb g v row ms r m c w' := by
  rcases h with ⟨h1, h2, v', row', h3, h4⟩ | ⟨h1, h2, h3, h4⟩
  · exact .inl ⟨h1, h2, v', row', h3, (Chg.ofBelow _ hb).trans h4⟩
  · exact .inr ⟨h1, h2, h3, bell_up hb h4⟩
set_option maxRecDepth 100000 in
set_option maxHeartbeats 4000000 in
theorem issue_new (w : World) (h : OS w B go gl mb g v row ms r) (hB : B ≤ w.heap.size) (k f : Int) (hk : InI k) (hf : InI f) (hj : idx (rep ms) k = none) (hl : lastR (rep ms) < 1125899906842624) :
    Calls Try.prog 9 #[.pointer (some ⟨go, 0, none⟩), .int .i64 k, .int .i64 f] w (IssR w B go gl mb g v row ms r k f) := by
  have hlk := h.ora.find hk
  rw [hj] at hlk
  simp only [Option.getD_none, Option.isSome_none] at hlk
  obtain ⟨_, c1, c2, _, _, _⟩ := h.ora.cells
  have hl0 := h.ora.rise.last_rng.1
  have HLA := Lib.hid (fun n => last_any (w.drewN n) (h.ora.below (below_drewN w n)))
  have HWR := Lib.hid (fun W (hW : Below w.heap.size w W) => owrite_any W (h.below hW) (Nat.le_trans hB hW.size) 1 f k (lastR (rep ms) + 1) (by unfold InI; omega) hf hk (by unfold InI; omega))
  have HR := Lib.hid (fun (c : Int) W (hW : Below w.heap.size w W) w' (h : OwR W B go gl mb g v row ms r (oD 1 f k (lastR (rep ms) + 1)) c w') => h.from_ hW)
  have HM := Lib.hid (show ∀ c e w', e = .returned (.tuple #[.int .i64 (if c = 0 then lastR (rep ms) + 1 else 0), .int .i64 c]) → OwR w B go gl mb g v row ms r (oD 1 f k (lastR (rep ms) + 1)) c w' → IssR w B go gl mb g v row ms r k f e w' from fun c e w' h1 h2 => ⟨c, h1, h2⟩)
  generalize lastR (rep ms) = la at *
  have hd : decide (la ≥ 1125899906842624) = false := by simp; omega
  clear h hj
  go_enter Try.func9, Try.ntmps9
  go_wp2_with fail
  refine (HLA.out 0).mono ?_
  rintro e w1 ⟨rfl, n1, rfl⟩
  go_wp2_with fail
  refine (HLA.out _).mono ?_
  rintro e w1 ⟨rfl, n2, rfl⟩
  go_wp2_with fail
  refine (HWR.out (w.drewN (n1 + n2)) ⟨rfl, rfl, rfl, Nat.le_refl _, fun _ _ => rfl⟩).mono ?_
  rintro e w3 ⟨c, rfl, hc⟩
  have hc2 := HR.out c (w.drewN (n1 + n2)) ⟨rfl, rfl, rfl, Nat.le_refl _, fun _ _ => rfl⟩ _ hc
  have HC := Lib.hid hc2
  clear hc hc2
  by_cases h0 : c = 0
  · subst h0
    go_wp2
    go_ret2
    exact HM.out 0 _ _ (Eq.trans (b := Ending.returned (.tuple #[.int .i64 (la + 1), .int .i64 0])) rfl (by rw [if_pos rfl])) HC.out
  · have HN := Lib.hid h0
    go_wp2
    go_ret2
    exact HM.out c _ _ (Eq.trans (b := Ending.returned (.tuple #[.int .i64 0, .int .i64 c])) rfl (by rw [if_neg HN.out])) HC.out
set_option maxRecDepth 100000 in
set_option maxHeartbeats 4000000 in
theorem resolve_none (w : World) (h : OS w B go gl mb g v row ms r) (k : Int) (hk : InI k) (hj : idx (rep ms) k = none) :
    Calls Try.prog 10 #[.pointer (some ⟨go, 0, none⟩), .int .i64 k] w fun e w' => e = .returned (.int .i64 4) ∧ w = w' := by
  have hlk := h.ora.find hk
  rw [hj] at hlk
  simp only [Option.getD_none, Option.isSome_none] at hlk
  obtain ⟨_, c1, c2, _, _, _⟩ := h.ora.cells
  clear h hj
  go_enter Try.func10, Try.ntmps10
  go_wp2
  go_ret
  exact ⟨rfl, rfl⟩
set_option maxRecDepth 100000 in
set_option maxHeartbeats 4000000 in
theorem resolve_done (w : World) (h : OS w B go gl mb g v row ms r) (k : Int) (hk : InI k) (j : Nat) (x : Iss) (hj : idx (rep ms) k = some j) (hx : (rep ms)[j]? = some x) (hd : x.done = true) :
    Calls Try.prog 10 #[.pointer (some ⟨go, 0, none⟩), .int .i64 k] w fun e w' => e = .returned (.int .i64 0) ∧ w = w' := by
  have hlk := h.ora.find hk
  rw [hj] at hlk
  simp only [Option.getD_some, Option.isSome_some] at hlk
  obtain ⟨_, c1, c2, _, _, _⟩ := h.ora.cells
  have hlt := (List.getElem?_eq_some_iff.1 hx).1
  have hlen := h.few
  obtain ⟨q, c, hrow, _, hq, _, _, _, d3, _⟩ := h.ora.at_ hx
  subst hrow
  rw [hd] at d3
  clear h hj hx hd
  generalize (rep ms).length = n at *
  go_enter Try.func10, Try.ntmps10
  go_wp2
  go_ret
  exact ⟨rfl, rfl⟩
set_option maxRecDepth 100000 in
set_option maxHeartbeats 4000000 in
theorem resolve_new (w : World) (h : OS w B go gl mb g v row ms r) (hB : B ≤ w.heap.size) (k : Int) (hk : InI k) (j : Nat) (x : Iss) (hj : idx (rep ms) k = some j) (hx : (rep ms)[j]? = some x) (hd : x.done = false) :
    Calls Try.prog 10 #[.pointer (some ⟨go, 0, none⟩), .int .i64 k] w (OwE w B go gl mb g v row ms r (oD 2 0 k 0)) := by
  have hlk := h.ora.find hk
  rw [hj] at hlk
  simp only [Option.getD_some, Option.isSome_some] at hlk
  obtain ⟨_, c1, c2, _, _, _⟩ := h.ora.cells
  have HWR := Lib.hid (owrite_any w h hB 2 0 k 0 (by unfold InI; omega) (by unfold InI; omega) hk (by unfold InI; omega))
  have hlt := (List.getElem?_eq_some_iff.1 hx).1
  have hlen := h.few
  obtain ⟨q, c, hrow, _, hq, _, _, _, d3, _⟩ := h.ora.at_ hx
  have HRW := Lib.hid hrow
  rw [hrow] at c1
  rw [hd] at d3
  clear h hj hx hd hrow
  generalize (rep ms).length = n at *
  go_enter Try.func10, Try.ntmps10
  go_wp2_with fail
  refine HWR.out.mono ?_
  rintro e w3 ⟨c, rfl, hc⟩
  have HC := Lib.hid hc
  clear hc
  go_wp2
  go_ret
  exact ⟨c, rfl, HC.out⟩
end
end Go.Proofs.Ytjfllomnphppfaa
