/- The oracle takes a record. -/
import Derived.Test.YtjfllomnphppfaaZ1
import Derived.StillTailTactics
import Derived.Deep.RegionHeld3
namespace Go.Proofs.Ytjfllomnphppfaa
open Go.RowKit
open Go.Maps (Keyed)

theorem step_append_any {P : Program} (w : World) {ops : Array Oper} {o : Oper} {a : Act} {K : Act → World → Prop} {Q : Exit → Act → World → Prop} {E : Prop} (hgd : o.guard = none) (s x : Operand) (t : TypeId)
    (ho : o.op = .call { callee := .builtin .append, args := #[s, x], argTypes := #[t, t] })
    (base : Nat) (e : TypeId) (i : TypeInfo) (z : Value) (size bytes : Nat) (ht : P.underlying t = some (.slice e)) (hi : P.info? e = some i) (hz : i.zero = some z)
    (hsize : i.size = size) (hby : i.bytes = bytes) (hzs : z.cells.size = size) (hsz : 0 < size)
    (v : Value) (n : Nat) (xs : List Value) (hs : a.eval s = v) (hown : w.ownsRow base e size v n xs)
    (ao : Option Addr) (m c : Nat) (news : List Value) (hx : a.eval x = .slice ao m c) (hl : news.length = m * size) (hnone : ao = none → m = 0 ∧ c = 0)
    (hnews : ∀ ad, ao = some ad → ∀ j u, news[j]? = some u → w.cell? (ad.add j) = some u) (h1 : ∀ u ∈ news, u.oneCell' = true)
    (h63 : n + m ≤ maxLen) (hbytes : (n + m) * bytes ≤ 140737488355328) (hbase : base ≤ w.heap.size)
    (h : ∀ v' w', w'.ownsRow base e size v' (n + m) (xs ++ news) → w.grownBy w' v.ownBlock → (v'.ownBlock = v.ownBlock ∨ v'.ownBlock = some w.heap.size) → K (a.put o.dst v') w') :
    if Region.wanted o (yielded ops a.tmps) = true then Oper.wp P o a w K Q else E := by
  have hw : Region.wanted o (yielded ops a.tmps) = true := by simp [Region.wanted, hgd]
  rw [if_pos hw]
  cases ao with
  | some ad =>
    obtain ⟨v', w', hr, h2, h3, _, h4⟩ := run_append_own_at (P := P) w base t o.type e i z size bytes ht hi hz hsize hby hzs hsz v n xs hown ad m c news hl (hnews ad rfl) h1 h63 hbytes hbase
    unfold Oper.wp execOp
    simp only [ho, resolve, invoke, builtin, Sem.run_bind, Sem.run_pure, Result.andThen_ok, List.map_toArray, List.map_cons, List.map_nil, hs, hx, hr]
    exact h v' w' h2 h3 h4
  | none =>
    obtain ⟨rfl, rfl⟩ := hnone rfl
    have hn : news = [] := List.eq_nil_of_length_eq_zero (by simpa using hl)
    subst hn
    have hrun := run_append_owned_none (P := P) (w := w) base t o.type e i size ht hi v n xs hown
    unfold Oper.wp
    simp [execOp, ho, resolve, invoke, builtin, hs, hx, hrun, Result.andThen]
    exact h v w (by simpa using hown) (World.grownBy.refl _ _) (.inl rfl)
theorem Try.zeroPl (w : World) : (zeroValue 3).run Try.prog w = .ok (.int .i64 0) w := by kernel_rfl
theorem Try.info_iss : (Try.prog.info? 67).map (fun i => (i.zero, i.size, i.bytes)) = some (some (.agg #[.int .i64 0, .int .i64 0, .int .i64 0, .bool false]), 4, 32) := by kernel_rfl
theorem isc_one (x : Iss) : ∀ u ∈ isc x, u.oneCell' = true := by
  intro u hu
  simp only [isc, List.mem_cons, List.mem_nil_iff, or_false] at hu
  rcases hu with rfl | rfl | rfl | rfl <;> rfl
section
variable {w w' : World} {B go gl mb o : Nat} {row : Value} {L : List Iss}
theorem OrAt.find (h : OrAt w B go gl mb row L o) {k : Int} (hk : InI k) : (Instr.lookup 63 (.map (some mb)) (.int .i64 k) true).run Try.prog w = .ok (.tuple #[.int .i64 (((idx L k).getD 0 : Nat) : Int), .bool (idx L k).isSome]) w := by
  obtain ⟨mm, hm, hf⟩ := h.map
  have := hm.look Try.keyL Try.underlying63 (Try.zeroPl w) true (key_long k hk)
  rw [hf k hk] at this
  cases hi : idx L k <;> rw [hi] at this <;> simpa using this
/-- What a message's box holds that take reads. -/
structure MBox (w : World) (b : Nat) (kd fr id rv : Int) : Prop where
  k : w.cell? ⟨b, 0, none⟩ = some (.int .i64 kd)
  f : w.cell? ⟨b, 1, none⟩ = some (.int .i64 fr)
  i : w.cell? ⟨b, 3, none⟩ = some (.int .i64 id)
  r : w.cell? ⟨b, 4, none⟩ = some (.int .i64 rv)
  lt : b < w.heap.size
theorem MBox.below {b : Nat} {kd fr id rv : Int} (h : MBox w b kd fr id rv) (hb : Below w.heap.size w w') : MBox w' b kd fr id rv :=
  ⟨(hb.cell (p := ⟨b, 0, none⟩) h.lt).trans h.k, (hb.cell (p := ⟨b, 1, none⟩) h.lt).trans h.f, (hb.cell (p := ⟨b, 3, none⟩) h.lt).trans h.i, (hb.cell (p := ⟨b, 4, none⟩) h.lt).trans h.r, Nat.lt_of_lt_of_le h.lt hb.size⟩
/-- What comes of a record that is taken. -/
def TakeR (w : World) (B go gl mb : Nat) (row : Value) (L : List Iss) (m : MsgD) (e : Ending) (w' : World) : Prop :=
  e = .returned (.tuple #[]) ∧ ∃ row', OrAt w' B go gl mb row' (rstep L m) (leadN (rstep L m)) ∧ Chg w w' (OB go mb row) ∧ (row'.ownBlock = row.ownBlock ∨ ∃ q, row'.ownBlock = some q ∧ w.heap.size ≤ q)
set_option maxRecDepth 100000 in
set_option maxHeartbeats 8000000 in
theorem take_same (w : World) (V : Value) (m : MsgD) (hm : MsgIn w V m) (h : OrAt w B go gl mb row L (leadN L)) (h1 : ¬ (m.kind = 1 ∧ idx L m.id = none ∧ lastR L < m.rev)) (h2 : ¬ (m.kind = 2 ∧ idx L m.id ≠ none)) :
    Calls Try.prog 26 #[.pointer (some ⟨go, 0, none⟩), V] w (TakeR w B go gl mb row L m) := by
  obtain ⟨na, ma, pa, ra, nn, nc, mn, mc, pn, pc, rn, rc, hm⟩ := hm
  have hv := hm.val
  subst hv
  have hid : InI m.id := hm.id
  obtain ⟨W0, hW0, hw0, hb0⟩ := alloc_box w #[.int .i64 m.kind, .int .i64 m.from_, .int .i64 m.«to», .int .i64 m.id, .int .i64 m.rev, .int .i64 m.epoch, .int .i64 m.slot, .bool m.flag, .slice na nn nc, .slice ma mn mc, .slice pa pn pc, .slice ra rn rc]
  have hO := h.below hb0
  have hrs := rstep_same h1 h2
  have HEND := Lib.hid (fun W (hW : Below W0.heap.size W0 W) => (show TakeR w B go gl mb row L m (.returned (.tuple #[])) W from ⟨rfl, row, by rw [hrs]; exact hO.below hW, Chg.ofBelow _ (hb0.trans (hW.mono hb0.size)), .inl rfl⟩))
  obtain ⟨k0, k1, k3, k4, klt⟩ : MBox W0 w.heap.size m.kind m.from_ m.id m.rev := ⟨hw0.cell 0, hw0.cell 1, hw0.cell 3, hw0.cell 4, hw0.lt⟩
  have hlk := fun n => (hO.below (below_drewN W0 n)).find hid
  have HLA := Lib.hid (fun W (hb : Below W0.heap.size W0 W) => last_any W (hO.below hb))
  obtain ⟨_, _, c2, _, _, _⟩ := hO.cells
  have HB0 := Lib.hid hb0
  have HMB := Lib.hid (show MBox W0 w.heap.size m.kind m.from_ m.id m.rev from ⟨k0, k1, k3, k4, klt⟩)
  clear hm hb0 hw0 h hO hrs klt
  generalize m.kind = kd at *
  generalize m.rev = rv at *
  rcases Option.eq_none_or_eq_some (idx L m.id) with hi | ⟨i, hi⟩
  · rw [hi] at hlk h1 h2
    simp only [Option.getD_none, Option.isSome_none] at hlk
    clear hi
    by_cases hk1 : kd = 1
    · subst hk1
      have hle : decide (lastR L < rv) = false := by simpa using h1
      have hle2 : ¬ lastR L < rv := by simpa using h1
      generalize lastR L = la at *
      clear h1 h2
      go_enter Try.func26, Try.ntmps26
      go_upto_region 1 with fail
      rw [← hW0]
      clear hW0
      go_wp2_with fail
      go_quiet (fail)
      go_wp2_with fail
      obtain ⟨W1, hW1, hb1⟩ : ∃ W1, W1 = W0.drewN nq ∧ Below W0.heap.size W0 W1 := ⟨_, rfl, below_drewN _ _⟩
      rw [← hW1]
      obtain ⟨k0, k1, k3, k4, klt⟩ := HMB.out.below hb1
      have HB1 := Lib.hid hb1
      clear hW1 hb1
      go_quiet ((go_at_call 13; exact Calls.quiet_of (HLA.out _ (bell_up HB1.out (below_drewN _ _)))))
      go_wp2_with fail
      all_goals
        go_end0
        exact HEND.out _ (bell_up HB1.out (below_drewN _ _))
    · have e1 : (kd == 1) = false := by simpa using hk1
      have e2 : decide (kd = 1) = false := by simpa using hk1
      clear h1 h2
      go_enter Try.func26, Try.ntmps26
      go_upto_region 1 with fail
      rw [← hW0]
      clear hW0
      go_wp2_with fail
      go_quiet (fail)
      go_wp2_with fail
      go_quiet (fail)
      go_wp2_with fail
      all_goals
        go_end0
        exact HEND.out _ (by first | exact below_drewN _ _ | exact (below_drewN _ _).trans (below_drewN _ _))
  · rw [hi] at hlk h1 h2
    simp only [Option.getD_some, Option.isSome_some] at hlk
    clear hi
    have hk2 : ¬ kd = 2 := fun e => h2 ⟨e, by simp⟩
    have e3 : (kd == 2) = false := by simpa using hk2
    have e4 : decide (kd = 2) = false := by simpa using hk2
    by_cases hk1 : kd = 1
    · subst hk1
      clear h1 h2
      go_enter Try.func26, Try.ntmps26
      go_upto_region 1 with fail
      rw [← hW0]
      clear hW0
      go_wp2_with fail
      go_quiet (fail)
      go_wp2_with fail
      go_quiet (fail)
      go_wp2_with fail
      all_goals
        go_end0
        exact HEND.out _ (by first | exact below_drewN _ _ | exact (below_drewN _ _).trans (below_drewN _ _))
    · have e1 : (kd == 1) = false := by simpa using hk1
      have e2 : decide (kd = 1) = false := by simpa using hk1
      clear h1 h2
      go_enter Try.func26, Try.ntmps26
      go_upto_region 1 with fail
      rw [← hW0]
      clear hW0
      go_wp2_with fail
      go_quiet (fail)
      go_wp2_with fail
      go_quiet (fail)
      go_wp2_with fail
      all_goals
        go_end0
        exact HEND.out _ (by first | exact below_drewN _ _ | exact (below_drewN _ _).trans (below_drewN _ _))
theorem iscs_mark : ∀ (L : List Iss) (i : Nat), iscs (mark L i) = (iscs L).set (i * 4 + 3) (.bool true) ∨ L.length ≤ i
  | [], i => .inr (Nat.zero_le _)
  | x :: L, 0 => .inl rfl
  | x :: L, i + 1 => by
    rcases iscs_mark L i with h | h
    · refine .inl ?_
      have e1 : iscs (mark (x :: L) (i + 1)) = isc x ++ iscs (mark L i) := rfl
      have e2 : iscs (x :: L) = isc x ++ iscs L := rfl
      rw [e1, e2, h, List.set_append_right _ _ (by rw [isc_len]; omega), isc_len]
      congr 2
      omega
    · exact .inr (by simpa using h)
theorem OrAt.marked (h : OrAt w B go gl mb row L o) {i : Nat} (hi : i < L.length) {q c : Nat} (hr : row = .slice (some ⟨q, 0, none⟩) L.length c) : OrAt (w.setCell ⟨q, i * 4 + 3, none⟩ (.bool true)) B go gl mb row (mark L i) o ∧ OB go mb row q := by
  have hq : OB go mb row q := .inr (.inr (by rw [hr]; rfl))
  obtain ⟨_, cur, hW⟩ := owned_block h.row (show row.ownBlock = some q by rw [hr]; rfl)
  have hgo : q ≠ go := whole_ne hW h.own (by decide)
  obtain ⟨mm, hm, hf⟩ := h.map
  have hmb : q ≠ mb := hm.ne hW
  have hrow := h.row
  rw [hr] at hrow
  have hst := (hrow.stored (i * 4 + 3) (.bool true)).1
  rcases iscs_mark L i with he | he
  · refine ⟨⟨h.own.kept (Below.heap_setCell _ ⟨q, _, none⟩ _ go hgo.symm), ?_, ⟨mm, by rw [mark_len]; exact hm.kept (Below.heap_setCell _ ⟨q, _, none⟩ _ mb hmb.symm), fun k hk => by rw [idx_mark]; exact hf k hk⟩, h.rise.mark i, by rw [mark_len]; exact h.len, h.geo, h.gem⟩, hq⟩
    rw [he, mark_len, hr]
    exact hst
  · omega
set_option maxRecDepth 100000 in
set_option maxHeartbeats 8000000 in
theorem take_mark (w : World) (V : Value) (m : MsgD) (i : Nat) (hm : MsgIn w V m) (h : OrAt w B go gl mb row L (leadN L)) (h1 : m.kind = 2) (h2 : idx L m.id = some i) :
    Calls Try.prog 26 #[.pointer (some ⟨go, 0, none⟩), V] w (TakeR w B go gl mb row L m) := by
  obtain ⟨na, ma, pa, ra, nn, nc, mn, mc, pn, pc, rn, rc, hm⟩ := hm
  have hv := hm.val
  subst hv
  have hid : InI m.id := hm.id
  obtain ⟨W0, hW0, hw0, hb0⟩ := alloc_box w #[.int .i64 m.kind, .int .i64 m.from_, .int .i64 m.«to», .int .i64 m.id, .int .i64 m.rev, .int .i64 m.epoch, .int .i64 m.slot, .bool m.flag, .slice na nn nc, .slice ma mn mc, .slice pa pn pc, .slice ra rn rc]
  have hO := h.below hb0
  obtain ⟨i', x, hi', hx, _⟩ := idx_some (L := L) (k := m.id) (by
    by_cases hn : m.id ∈ L.map (·.id)
    · exact hn
    · rw [idx_none hn] at h2; cases h2)
  rw [h2] at hi'
  injection hi' with hi'
  subst hi'
  have hil := (List.getElem?_eq_some_iff.1 hx).1
  have HRS := Lib.hid (rstep_mark h1 h2)
  have hMB : MBox W0 w.heap.size m.kind m.from_ m.id m.rev := ⟨hw0.cell 0, hw0.cell 1, hw0.cell 3, hw0.cell 4, hw0.lt⟩
  obtain ⟨k0, k1, k3, k4, klt⟩ := hMB
  have hlk := fun n => (hO.below (below_drewN W0 n)).find hid
  have HLA := Lib.hid (fun W (hb : Below W0.heap.size W0 W) => last_any W (hO.below hb))
  obtain ⟨_, c1, c2, _, z1, _⟩ := hO.cells
  have HB0 := Lib.hid hb0
  have HH := Lib.hid h
  have hlen := h.len
  have HO := Lib.hid hO
  obtain ⟨q, c, hrow, _, hq, _, _, _, d3, z3⟩ := hO.at_ hx
  have HROW := Lib.hid hrow
  subst hrow
  rw [h1] at k0
  rw [h2] at hlk
  simp only [Option.getD_some, Option.isSome_some] at hlk
  have HIL := Lib.hid hil
  clear hm hb0 hw0 h hO klt h1 h2 hx
  go_enter Try.func26, Try.ntmps26
  go_upto_region 1 with fail
  rw [← hW0]
  clear hW0
  go_wp2_with fail
  go_quiet (fail)
  go_wp2_with fail
  go_quiet (fail)
  go_wp2_with (go_at_call 29; refine (close_any _ (((HO.out.below (below_drewN _ _)).marked HIL.out rfl).1) (mark_lead _ _)).mono ?_; rintro e w' ⟨rfl, hO', hC⟩)
  have HO2 := Lib.hid hO'
  have HC2 := Lib.hid hC
  clear hO' hC
  go_end0
  refine ⟨rfl, _, by rw [HRS.out]; exact HO2.out, ?_, .inl rfl⟩
  exact (((Chg.ofBelow _ (HB0.out.trans ((below_drewN _ _).mono HB0.out.size))).set (.inr (.inr rfl)) _ _).trans HC2.out)
theorem one_iss (W : World) (q : Nat) (x : Iss) (hq : q = W.heap.size) : ∀ ad, (some ⟨q, 0, none⟩ : Option Addr) = some ad → ∀ j u, (isc x)[j]? = some u → (W.alloc (.cells #[.int .i64 x.rev, .int .i64 x.id, .int .i64 x.fr, .bool x.done] 67)).cell? (ad.add j) = some u := by
  subst hq
  intro ad had j u hu
  injection had with had
  subst had
  rw [add_plain, Nat.zero_add, new_cell]
  simpa [isc] using hu
/-- The state where the key is in the map already, the row not yet. -/
structure Half (w : World) (B go gl mb : Nat) (row : Value) (L : List Iss) (o : Nat) (k : Int) : Prop where
  own : Whole w go 65 #[.pointer (some ⟨gl, 0, none⟩), row, .map (some mb), .int .i64 (o : Int)]
  row : w.ownsRow B 67 4 row L.length (iscs L)
  map : ∃ mm, MapAt w Try.prog 2 mb mm (L.length + 1) ∧ ∀ j, InI j → mm (.int .i64 j) = if j = k then some (.int .i64 (L.length : Int)) else (idx L j).map fun i => .int .i64 (i : Int)
theorem Half.kept {k : Int} (h : Half w B go gl mb row L o k) (hb : ∀ j, OB go mb row j → w'.heap[j]? = w.heap[j]?) : Half w' B go gl mb row L o k := by
  obtain ⟨mm, hm, hf⟩ := h.map
  exact ⟨h.own.kept (hb go (.inl rfl)), owns_keepk h.row (fun k hk => hb k (.inr (.inr hk))), ⟨mm, hm.kept (hb mb (.inr (.inl rfl))), hf⟩⟩
theorem Half.below {k : Int} (h : Half w B go gl mb row L o k) (hb : Below w.heap.size w w') : Half w' B go gl mb row L o k := h.kept fun j hj => hb.block j (by
  rcases hj with h1 | h1 | h1
  · rw [h1]; exact h.own.lt
  · obtain ⟨mm, hm, _⟩ := h.map
    rw [h1]; exact hm.lt
  · obtain ⟨_, cur, hW⟩ := owned_block h.row h1
    exact hW.lt)
theorem Half.done {w3 w5 : World} {k f r : Int} {v5 : Value} (h : Half w3 B go gl mb row L (leadN L) k) (hR : Rise L) (hlen : L.length ≤ 1048575) (hg : B ≤ go) (hg2 : B ≤ mb) (hgr : w3.grownBy w5 row.ownBlock) (hown : w5.ownsRow B 67 4 v5 (L.length + 1) (iscs L ++ isc ⟨r, k, f, false⟩)) (hk : k ∉ L.map (·.id)) (hf : InI f) (hki : InI k) (hr : lastR L < r) (hr2 : r ≤ 9223372036854775807) :
    Whole w5 go 65 #[.pointer (some ⟨gl, 0, none⟩), row, .map (some mb), .int .i64 (leadN L : Int)] ∧ OrAt (w5.setCell ⟨go, 1, none⟩ v5) B go gl mb v5 (L ++ [⟨r, k, f, false⟩]) (leadN (L ++ [⟨r, k, f, false⟩])) := by
  obtain ⟨mm, hm, hmf⟩ := h.map
  have hne : row.ownBlock ≠ some go := fun e => by
    obtain ⟨_, cur, hW⟩ := owned_block h.row e
    exact whole_ne hW h.own (by decide) rfl
  have hne2 : row.ownBlock ≠ some mb := fun e => by
    obtain ⟨_, cur, hW⟩ := owned_block h.row e
    exact hm.ne hW rfl
  have ho5 : Whole w5 go 65 #[.pointer (some ⟨gl, 0, none⟩), row, .map (some mb), .int .i64 (leadN L : Int)] := h.own.kept (hgr.block go h.own.lt fun e => hne e.symm)
  have hm5 := hm.kept (hgr.block mb hm.lt fun e => hne2 e.symm)
  have hgm : go ≠ mb := hm.ne h.own
  refine ⟨ho5, ⟨?_, ?_, ⟨mm, ?_, fun j hj => ?_⟩, hR.push hk hf hki hr hr2, by simp; omega, hg, hg2⟩⟩
  · have := ho5.store 1 v5
    rw [leadN_push _ _ rfl]
    simpa using this
  · rw [List.length_append, iscs_append]
    refine owns_keepk (by simpa [iscs] using hown) fun q hq => Below.heap_setCell _ ⟨go, 1, none⟩ _ q ?_
    rintro rfl
    obtain ⟨_, cur, hW⟩ := owned_block hown hq
    exact whole_ne hW ho5 (by decide) rfl
  · rw [List.length_append]
    exact hm5.kept (Below.heap_setCell _ ⟨go, 1, none⟩ _ mb hgm.symm)
  · rw [hmf j hj, idx_push]
    by_cases hjk : j = k
    · subst hjk
      rw [if_pos rfl, if_neg hk, if_pos rfl]
      rfl
    · rw [if_neg hjk]
      by_cases hj2 : j ∈ L.map (·.id)
      · rw [if_pos hj2]
      · rw [if_neg hj2, idx_none hj2, if_neg (fun e => hjk e.symm)]
set_option maxRecDepth 100000 in
set_option maxHeartbeats 8000000 in
theorem take_new (w : World) (V : Value) (m : MsgD) (hm : MsgIn w V m) (h : OrAt w B go gl mb row L (leadN L)) (hll : L.length ≤ 1048575) (hB : B ≤ w.heap.size) (h1 : m.kind = 1) (h2 : idx L m.id = none) (h3 : lastR L < m.rev) :
    Calls Try.prog 26 #[.pointer (some ⟨go, 0, none⟩), V] w (TakeR w B go gl mb row L m) := by
  obtain ⟨na, ma, pa, ra, nn, nc, mn, mc, pn, pc, rn, rc, hm⟩ := hm
  have hv := hm.val
  subst hv
  have hid : InI m.id := hm.id
  obtain ⟨W0, hW0, hw0, hb0⟩ := alloc_box w #[.int .i64 m.kind, .int .i64 m.from_, .int .i64 m.«to», .int .i64 m.id, .int .i64 m.rev, .int .i64 m.epoch, .int .i64 m.slot, .bool m.flag, .slice na nn nc, .slice ma mn mc, .slice pa pn pc, .slice ra rn rc]
  have hO := h.below hb0
  have hfr : InI m.from_ := hm.from_
  have hrv : InI m.rev := hm.rev
  have HRS := Lib.hid (rstep_new h1 h2 h3)
  have hMB : MBox W0 w.heap.size m.kind m.from_ m.id m.rev := ⟨hw0.cell 0, hw0.cell 1, hw0.cell 3, hw0.cell 4, hw0.lt⟩
  obtain ⟨k0, k1, k3, k4, klt⟩ := hMB
  have hlk := fun n => (hO.below (below_drewN W0 n)).find hid
  have HLA := Lib.hid (fun W (hb : Below W0.heap.size W0 W) => last_any W (hO.below hb))
  obtain ⟨_, c1, c2, _, z1, _⟩ := hO.cells
  have HB0 := Lib.hid hb0
  have HH := Lib.hid h
  have HNI := Lib.hid (idx_none_iff.1 h2)
  have HGE := Lib.hid (And.intro h.geo h.gem)
  have HRI := Lib.hid h.rise
  have hdl : decide (lastR L < m.rev) = true := by simpa using h3
  have H3 := Lib.hid h3
  have HK0 := Lib.hid h1
  rw [h1] at k0
  rw [h2] at hlk
  simp only [Option.getD_none, Option.isSome_none] at hlk
  have HO := Lib.hid hO
  have HMB := Lib.hid (show MBox W0 w.heap.size m.kind m.from_ m.id m.rev from ⟨hw0.cell 0, hw0.cell 1, hw0.cell 3, hw0.cell 4, hw0.lt⟩)
  have HW0 := Lib.hid hw0
  have HID := Lib.hid hid
  have HFR := Lib.hid hfr
  have HRV := Lib.hid hrv
  clear hm hb0 hw0 h hO klt h1 h2 h3 hid hfr hrv
  go_enter Try.func26, Try.ntmps26
  go_upto_region 1 with fail
  rw [← hW0]
  clear hW0
  go_wp2_with fail
  go_quiet (fail)
  go_wp2_with fail
  obtain ⟨W1, hW1, hb1⟩ : ∃ W1, W1 = W0.drewN nq ∧ Below W0.heap.size W0 W1 := ⟨_, rfl, below_drewN _ _⟩
  rw [← hW1]
  obtain ⟨k0, k1, k3, k4, klt⟩ := HMB.out.below hb1
  rw [HK0.out] at k0
  obtain ⟨_, c1, c2, _, z1, _⟩ := (HO.out.below hb1).cells
  have HB1 := Lib.hid hb1
  clear hW1 hb1
  go_quiet ((go_at_call 13; exact Calls.quiet_of (HLA.out _ (bell_up HB1.out (below_drewN _ _)))))
  go_wp2_with fail
  obtain ⟨Wq, hWq, hbq⟩ : ∃ Wq, Wq = W1.drewN nq ∧ Below W0.heap.size W0 Wq := ⟨_, rfl, bell_up HB1.out (below_drewN _ _)⟩
  rw [← hWq]
  obtain ⟨k0, k1, k3, k4, klt⟩ := HMB.out.below hbq
  obtain ⟨_, c1, c2, _, z1, _⟩ := (HO.out.below hbq).cells
  have hlk2 := (HO.out.below hbq).find HID.out
  have HBQ := Lib.hid hbq
  clear hWq hbq
  refine wp_region_still_tail 11 (by kernel_rfl) (by kernel_rfl) ?_
  simp only [List.take_succ_cons, List.take_zero, List.drop_succ_cons, List.drop_zero]
  obtain ⟨a0, cc0, hrow, _⟩ := HO.out.slice
  have HROW := Lib.hid hrow
  subst hrow
  repeat still_step
  refine wpStill_nil ?_
  change wpList _ _ _ _ _ Wq.drew
  obtain ⟨W2, hW2, hb2⟩ : ∃ W2, W2 = Wq.drew ∧ Below W0.heap.size W0 W2 := ⟨_, rfl, bell_up HBQ.out (below_drewN _ 1)⟩
  rw [← hW2]
  have hO2 := HO.out.below hb2
  have hbox2 := HW0.out.kept (hb2.block _ HW0.out.lt)
  obtain ⟨mm, hmap, hmf⟩ := hO2.map
  have HO2 := Lib.hid hO2
  have HM2 := Lib.hid hmap
  have HMF := Lib.hid hmf
  have HX2 := Lib.hid hbox2
  have HB2 := Lib.hid hb2
  clear hW2 hb2 hO2 hmap hmf hbox2 hlk c1 c2 z1 k0 k1 k3 k4 hdl
  go_wp2_with (at_mapUpdate; refine wpList_store_map _ rfl _ _ _ 63 rfl 2 3 Try.keyL Try.underlying63 _ (Try.zeroPl _) mb L.length mm rfl HM2.out (by unfold maxLen; omega) (.int .i64 m.id) (.int .i64 (L.length : Int)) (.int .i64 m.id) rfl rfl (key_long m.id HID.out) ?_; intro w3 hm3 hg3 hs3)
  have hnm : mm (.int .i64 m.id) = none := by rw [HMF.out _ HID.out, idx_none HNI.out]; rfl
  rw [hnm] at hm3
  simp only [Option.isSome_none, Bool.false_eq_true, if_false] at hm3
  have hgm : go ≠ mb := HM2.out.ne HO2.out.own
  have hhalf : Half w3 B go gl mb (.slice a0 L.length cc0) L (leadN L) m.id := by
    refine ⟨HO2.out.own.kept (hg3.block go HO2.out.own.lt fun e => hgm (Option.some.inj e)), owns_keepk HO2.out.row (fun q hq => hg3.block q ?_ ?_), ⟨_, hm3, fun j hj => ?_⟩⟩
    · exact (HO2.out.row.lt q hq).2
    · intro e
      obtain ⟨_, cur, hW⟩ := owned_block HO2.out.row hq
      exact HM2.out.ne hW (Option.some.inj e)
    · by_cases hjk : j = m.id
      · subst hjk
        rw [if_pos rfl, mset_same (Try.keyL.key (key_long m.id hj))]
      · rw [if_neg hjk, mset_other (fun e => hjk (by injection e)), HMF.out j hj]
  have hX3 := HX2.out.kept (hg3.block _ HX2.out.lt fun e => HM2.out.ne HX2.out (Option.some.inj e))
  have k1 := hX3.cell 1
  have k3 := hX3.cell 3
  have k4 := hX3.cell 4
  have klt := hX3.lt
  have c1 := hhalf.own.cell 1
  have hgo3 := hhalf.own.lt
  have HH3 := Lib.hid hhalf
  have HG3 := Lib.hid (show Chg w w3 (OB go mb (.slice a0 L.length cc0)) from (Chg.ofBelow _ (HB0.out.trans (HB2.out.mono HB0.out.size))).toGrown hg3 (.inr (.inl rfl)))
  have HBW := Lib.hid (show B ≤ w3.heap.size by have := HG3.out.size; omega)
  obtain ⟨i0, hi0, hz0, hz1, hz2⟩ := info_of Try.info_iss
  have hne5 : w.heap.size ≠ w3.heap.size := by omega
  have hne6 : go ≠ w3.heap.size := by omega
  clear hm3 hg3 hs3 hnm hhalf hX3 hgm
  go_wp2_with fail
  go_region_law (first
    | (refine step_append_any _ rfl (.tmp 46) (.tmp 54) 62 rfl B 67 i0 (.agg #[.int .i64 0, .int .i64 0, .int .i64 0, .bool false]) 4 32 Try.underlying62 hi0 hz0 hz1 hz2 rfl (by decide) (.slice a0 L.length cc0) L.length (iscs L) rfl (HH3.out.row.alloc _) (some ⟨w3.heap.size, 0, none⟩) 1 1 (isc ⟨m.rev, m.id, m.from_, false⟩) rfl rfl (by intro e; cases e) (one_iss _ _ _ rfl) (isc_one _) (by unfold maxLen; omega) (by omega) (by have := HBW.out; simp; omega) ?_
       intro v5 w5 hown5 hgrow5 hv5
       obtain ⟨a5, c5, rfl, _⟩ := Lies.owned hown5
       have HV5 := Lib.hid hv5
       have hdone := (HH3.out.below (w' := w3.drew.alloc (.cells #[.int .i64 m.rev, .int .i64 m.id, .int .i64 m.from_, .bool false] 67)) (bell_up (below_drewN w3 1) (below_alloc w3.drew _))).done HRI.out (by omega) HGE.out.1 HGE.out.2 hgrow5 hown5 HNI.out HFR.out HID.out H3.out HRV.out.2
       have c1' := hdone.1.cell 1
       have z1' := hdone.1.free 1
       have HD := Lib.hid hdone.2
       have HG5 := Lib.hid ((HG3.out.up ((bell_up (below_drewN w3 1) (below_alloc w3.drew (.cells #[.int .i64 m.rev, .int .i64 m.id, .int .i64 m.from_, .bool false] 67))).mono HG3.out.size)).grow hgrow5 (fun b hb => .inl (.inr (.inr hb))))
       have HOW := Lib.hid hown5
       clear hdone hown5 hgrow5 hv5))
  all_goals
    go_wp2_with fail
    go_end0
    refine ⟨rfl, _, by rw [HRS.out]; exact HD.out, HG5.out.set (.inl rfl) 1 _, ?_⟩
    rcases HV5.out with h5 | h5
    · exact .inl h5
    · exact .inr ⟨_, h5, Nat.le_trans HG3.out.size (below_alloc _ _).size⟩
end
end Go.Proofs.Ytjfllomnphppfaa
