/- The oracle in memory: Last, Closed. -/
import Derived.Test.YtjfllomnphppfaaZ0
import Derived.Deep.QuietTactic
import Derived.BigQuiet
import Derived.Maps.AppendAt
import Derived.Deep.RegionLaw
namespace Go.Proofs.Ytjfllomnphppfaa
open Go.RowKit
open Go.Maps (Keyed)

/-- Only these blocks, and new memory, are other than they were. -/
structure Chg (w w' : World) (P : Nat → Prop) : Prop where
  os : w'.os = w.os
  tape : w'.tape = w.tape
  output : w'.output = w.output
  size : w.heap.size ≤ w'.heap.size
  block : ∀ k, k < w.heap.size → ¬ P k → w'.heap[k]? = w.heap[k]?
theorem Chg.refl (w : World) (P : Nat → Prop) : Chg w w P := ⟨rfl, rfl, rfl, Nat.le_refl _, fun _ _ _ => rfl⟩
theorem Chg.set {w w' : World} {P : Nat → Prop} (h : Chg w w' P) {b : Nat} (hb : P b) (i : Nat) (u : Value) : Chg w (w'.setCell ⟨b, i, none⟩ u) P :=
  ⟨h.os, h.tape, h.output, by simpa [World.setCell] using h.size, fun k hk hn => (Below.heap_setCell w' ⟨b, i, none⟩ u k (by rintro rfl; exact hn hb)).trans (h.block k hk hn)⟩
theorem Chg.drew {w w' : World} {P : Nat → Prop} (h : Chg w w' P) : Chg w w'.drew P := ⟨h.os, h.tape, h.output, h.size, h.block⟩
theorem Chg.drewN {w w' : World} {P : Nat → Prop} (h : Chg w w' P) (n : Nat) : Chg w (w'.drewN n) P := ⟨h.os, h.tape, h.output, h.size, h.block⟩
theorem Chg.trans {a b c : World} {P : Nat → Prop} (h : Chg a b P) (k : Chg b c P) : Chg a c P :=
  ⟨k.os.trans h.os, k.tape.trans h.tape, k.output.trans h.output, Nat.le_trans h.size k.size, fun i hi hn => (k.block i (Nat.lt_of_lt_of_le hi h.size) hn).trans (h.block i hi hn)⟩
theorem Chg.mono {w w' : World} {P Q : Nat → Prop} (h : Chg w w' P) (hpq : ∀ k, k < w.heap.size → P k → Q k) : Chg w w' Q := ⟨h.os, h.tape, h.output, h.size, fun k hk hn => h.block k hk (fun hp => hn (hpq k hk hp))⟩
theorem Chg.ofBelow {w w' : World} (P : Nat → Prop) (h : Below w.heap.size w w') : Chg w w' P := ⟨h.os, h.tape, h.output, h.size, fun k hk _ => h.block k hk⟩
theorem Chg.below {w w' : World} {P : Nat → Prop} {B : Nat} (h : Chg w w' P) (hP : ∀ k, P k → B ≤ k) (hB : B ≤ w.heap.size) : Below B w w' := ⟨h.os, h.tape, h.output, h.size, fun k hk => h.block k (by omega) (fun hp => by have := hP k hp; omega)⟩
theorem Chg.toGrown {w w1 w2 : World} {P : Nat → Prop} {b : Nat} (h : Chg w w1 P) (hg : w1.grownBy w2 (some b)) (hb : P b) : Chg w w2 P :=
  ⟨hg.os.trans h.os, hg.tape.trans h.tape, hg.output.trans h.output, Nat.le_trans h.size hg.size, fun k hk hn => (hg.block k (Nat.lt_of_lt_of_le hk h.size) (by intro e; injection e with e; subst e; exact hn hb)).trans (h.block k hk hn)⟩
theorem Chg.grow {w w1 w2 : World} {P : Nat → Prop} {ob : Option Nat} (h : Chg w w1 P) (hg : w1.grownBy w2 ob) (hb : ∀ b, ob = some b → P b ∨ w.heap.size ≤ b) : Chg w w2 P :=
  ⟨hg.os.trans h.os, hg.tape.trans h.tape, hg.output.trans h.output, Nat.le_trans h.size hg.size, fun k hk hn => (hg.block k (Nat.lt_of_lt_of_le hk h.size) (by
    intro e
    rcases hb k e.symm with h1 | h1
    · exact hn h1
    · omega)).trans (h.block k hk hn)⟩
theorem Chg.up {w a b : World} {P : Nat → Prop} (h : Chg w a P) (hb : Below w.heap.size a b) : Chg w b P :=
  ⟨hb.os.trans h.os, hb.tape.trans h.tape, hb.output.trans h.output, Nat.le_trans h.size hb.size, fun k hk hn => (hb.block k hk).trans (h.block k hk hn)⟩
theorem whole_ne {w : World} {g k : Nat} {t u : TypeId} {cs ds : Array Value} (h : Whole w g t cs) (h2 : Whole w k u ds) (hn : t ≠ u) : g ≠ k := by
  rintro rfl
  unfold Whole at h h2
  rw [h] at h2
  injection h2 with h2
  injection h2 with _ h2
  exact hn h2
theorem owned_block {w : World} {base n s k : Nat} {v : Value} {e : TypeId} {l : List Value} (h : w.ownsRow base e s v n l) (hk : v.ownBlock = some k) : base ≤ k ∧ ∃ cur, Whole w k e cur := by
  rcases h.2 with ⟨rfl, _⟩ | ⟨g, cap, cur, rfl, hb, hh, _⟩
  · cases hk
  · have : g = k := by simpa [Value.ownBlock] using hk
    subst this
    exact ⟨hb, cur, hh⟩
theorem owns_keepk {w w' : World} {base n k : Nat} {e : TypeId} {v : Value} {l : List Value} (h : w.ownsRow base e k v n l) (hb : ∀ q, v.ownBlock = some q → w'.heap[q]? = w.heap[q]?) : w'.ownsRow base e k v n l := by
  refine ⟨h.1, ?_⟩
  rcases h.2 with h2 | ⟨g, cap, cur, rfl, h3, h4, r⟩
  · exact .inl h2
  · exact .inr ⟨g, cap, cur, rfl, h3, (hb g rfl).trans h4, r⟩
theorem Try.keyL : Keyed Try.prog 2 := Go.Maps.int_keyed Try.underlying2
theorem key_long (k : Int) (h : InI k) : keyOf Try.prog 2 (Value.int .i64 k) = some (.int .i64 k) := Go.Maps.keyOf_int_mk Try.underlying2 (by unfold InI at h; simp [Lit.wf, IntKind.min, IntKind.max, IntKind.signed, IntKind.bits]; omega)
theorem bell_up {w W W' : World} (hb : Below w.heap.size w W) (h : Below W.heap.size W W') : Below w.heap.size w W' := hb.trans (h.mono hb.size)
/-- An oracle lies in block go, its places in block mb; it writes to the log in block gl. -/
structure OrAt (w : World) (B go gl mb : Nat) (row : Value) (L : List Iss) (o : Nat) : Prop where
  own : Whole w go 65 #[.pointer (some ⟨gl, 0, none⟩), row, .map (some mb), .int .i64 (o : Int)]
  row : w.ownsRow B 67 4 row L.length (iscs L)
  map : ∃ mm, MapAt w Try.prog 2 mb mm L.length ∧ ∀ k, InI k → mm (.int .i64 k) = (idx L k).map fun i => .int .i64 (i : Int)
  rise : Rise L
  len : L.length ≤ 1048576
  geo : B ≤ go
  gem : B ≤ mb
def OB (go mb : Nat) (row : Value) (k : Nat) : Prop := k = go ∨ k = mb ∨ row.ownBlock = some k
section
variable {w w' : World} {B go gl mb o : Nat} {row : Value} {L : List Iss}
theorem OrAt.ge (h : OrAt w B go gl mb row L o) {k : Nat} (hk : OB go mb row k) : B ≤ k := by
  rcases hk with h1 | h1 | h1
  · rw [h1]; exact h.geo
  · rw [h1]; exact h.gem
  · exact (owned_block h.row h1).1
theorem OrAt.lt (h : OrAt w B go gl mb row L o) {k : Nat} (hk : OB go mb row k) : k < w.heap.size := by
  rcases hk with h1 | h1 | h1
  · rw [h1]; exact h.own.lt
  · obtain ⟨mm, hm, _⟩ := h.map
    rw [h1]; exact hm.lt
  · obtain ⟨_, cur, hW⟩ := owned_block h.row h1
    exact hW.lt
theorem OrAt.other (h : OrAt w B go gl mb row L o) {k : Nat} {T : TypeId} {cs : Array Value} (hk : Whole w k T cs) (h1 : T ≠ 65) (h2 : T ≠ 67) : ¬ OB go mb row k := by
  rintro (hb | hb | hb)
  · exact whole_ne hk h.own h1 hb
  · obtain ⟨mm, hm, _⟩ := h.map
    exact hm.ne hk hb
  · obtain ⟨_, cur, hW⟩ := owned_block h.row hb
    exact whole_ne hk hW h2 rfl
theorem OrAt.kept (h : OrAt w B go gl mb row L o) (hb : ∀ k, OB go mb row k → w'.heap[k]? = w.heap[k]?) : OrAt w' B go gl mb row L o := by
  obtain ⟨mm, hm, hf⟩ := h.map
  exact ⟨h.own.kept (hb go (.inl rfl)), owns_keepk h.row (fun k hk => hb k (.inr (.inr hk))), ⟨mm, hm.kept (hb mb (.inr (.inl rfl))), hf⟩, h.rise, h.len, h.geo, h.gem⟩
theorem OrAt.below (h : OrAt w B go gl mb row L o) (hb : Below w.heap.size w w') : OrAt w' B go gl mb row L o := h.kept fun _ hk => hb.block _ (h.lt hk)
theorem OrAt.cells (h : OrAt w B go gl mb row L o) : w.cell? ⟨go, 0, none⟩ = some (.pointer (some ⟨gl, 0, none⟩)) ∧ w.cell? ⟨go, 1, none⟩ = some row ∧ w.cell? ⟨go, 2, none⟩ = some (.map (some mb)) ∧ w.cell? ⟨go, 3, none⟩ = some (.int .i64 (o : Int)) ∧ w.frozen? ⟨go, 1, none⟩ = false ∧ w.frozen? ⟨go, 3, none⟩ = false := by
  refine ⟨?_, ?_, ?_, ?_, h.own.free 1, h.own.free 3⟩ <;> rw [h.own.cell] <;> rfl
/-- The i-th revision's cells. -/
theorem OrAt.at_ (h : OrAt w B go gl mb row L o) {i : Nat} {x : Iss} (hx : L[i]? = some x) : ∃ q c, row = .slice (some ⟨q, 0, none⟩) L.length c ∧ L.length ≤ c ∧ q < w.heap.size ∧ w.cell? ⟨q, i * 4, none⟩ = some (.int .i64 x.rev) ∧ w.cell? ⟨q, i * 4 + 1, none⟩ = some (.int .i64 x.id) ∧ w.cell? ⟨q, i * 4 + 2, none⟩ = some (.int .i64 x.fr) ∧ w.cell? ⟨q, i * 4 + 3, none⟩ = some (.bool x.done) ∧ w.frozen? ⟨q, i * 4 + 3, none⟩ = false := by
  have hl := (List.getElem?_eq_some_iff.1 hx).1
  obtain ⟨a, c, hv, hL⟩ := Lies.owned h.row
  obtain ⟨b, off, rfl, hb, _⟩ := hL.addr (by omega)
  obtain ⟨f0, f1, f2, f3⟩ := iscs_at hx
  rcases h.row.2 with ⟨hv2, h0⟩ | ⟨g, cap, cur, hv2, _, hh, hnc, _⟩
  · omega
  · rw [hv] at hv2
    injection hv2 with e1 e2 e3
    injection e1 with e1
    injection e1 with e1 e4
    subst e1 e4 e3
    have c0 := hL.cell f0
    have c1 := hL.cell f1
    have c2 := hL.cell f2
    have c3 := hL.cell f3
    rw [Nat.zero_add] at c0 c1 c2 c3
    have hW : Whole w b 67 cur := hh
    exact ⟨b, c, hv, hnc, hb, c0, c1, c2, c3, hW.free _⟩
theorem OrAt.slice (h : OrAt w B go gl mb row L o) : ∃ a c, row = .slice a L.length c ∧ L.length ≤ c := by
  obtain ⟨a, c, hv, hL⟩ := Lies.owned h.row
  exact ⟨a, c, hv, hL.room⟩
set_option maxRecDepth 100000 in
set_option maxHeartbeats 2000000 in
theorem last_any (w : World) (h : OrAt w B go gl mb row L o) :
    Calls Try.prog 13 #[.pointer (some ⟨go, 0, none⟩)] w fun e w' => e = .returned (.int .i64 (lastR L)) ∧ ∃ n, w' = w.drewN n := by
  obtain ⟨_, c1, _, _, _, _⟩ := h.cells
  have hlen := h.len
  rcases Nat.eq_zero_or_pos L.length with h0 | h0
  · have hl : lastR L = 0 := by rw [List.eq_nil_of_length_eq_zero h0]; rfl
    obtain ⟨a, c, rfl, _⟩ := h.slice
    rw [h0] at c1
    rw [hl]
    clear h hlen h0 hl
    go_enter Try.func13, Try.ntmps13
    go_wp2
    go_ret
    exact ⟨rfl, 0, rfl⟩
  · obtain ⟨x, hx⟩ : ∃ x, L[L.length - 1]? = some x := ⟨_, List.getElem?_eq_getElem (by omega)⟩
    have hrev := lastR_at hx
    obtain ⟨q, c, rfl, _, hq, d0, _, _, _, _⟩ := h.at_ hx
    obtain ⟨m, hm⟩ : ∃ m, L.length = m + 1 := ⟨L.length - 1, by omega⟩
    rw [hm] at c1 d0 hlen
    rw [show m + 1 - 1 = m by omega, ← hrev] at d0
    have hz : ¬ ((m + 1 : Nat) : Int) = 0 := by omega
    have hsub : IntKind.i64.wrap (((m + 1 : Nat) : Int) - 1) = (m : Int) := by rw [IntWalk.i64_in _ (by omega)]; omega
    have h0m : (0 : Int) ≤ (m : Int) := by omega
    generalize lastR L = r at *
    clear h hx hrev hm h0
    go_enter Try.func13, Try.ntmps13
    go_wp2_with fail
    go_quiet (fail)
    go_wp2
    go_ret
    exact ⟨rfl, _, rfl⟩
set_option maxRecDepth 100000 in
set_option maxHeartbeats 2000000 in
theorem closed_any (w : World) (h : OrAt w B go gl mb row L (leadN L)) :
    Calls Try.prog 12 #[.pointer (some ⟨go, 0, none⟩)] w fun e w' => e = .returned (.int .i64 (closedR L)) ∧ ∃ n, w' = w.drewN n := by
  obtain ⟨_, c1, _, c3, _, _⟩ := h.cells
  have hlen := h.len
  have hle := leadN_le L
  by_cases hf : leadN L = L.length
  · have HL := Lib.hid (fun n => last_any (w.drewN n) (h.below (below_drewN w n)))
    rw [closedR_end hf]
    obtain ⟨a, c, rfl, _⟩ := h.slice
    rw [hf] at c3
    generalize lastR L = r at *
    clear h hf hle
    go_enter Try.func12, Try.ntmps12
    go_wp2_with fail
    go_quiet (fail)
    go_wp2_with fail
    refine (HL.out _).mono ?_
    rintro e w2 ⟨rfl, m, rfl⟩
    go_wp2
    go_ret
    exact ⟨rfl, _, rfl⟩
  · obtain ⟨x, hx⟩ : ∃ x, L[leadN L]? = some x := ⟨_, List.getElem?_eq_getElem (by omega)⟩
    have hpos := h.rise.pos x (List.mem_of_getElem? hx)
    rw [closedR_at hx]
    obtain ⟨q, c, rfl, _, hq, d0, _, _, _, _⟩ := h.at_ hx
    have hne : ¬ (leadN L : Int) = (L.length : Int) := by omega
    have hlt : leadN L < L.length := by omega
    have hsub : IntKind.i64.wrap (x.rev - 1) = x.rev - 1 := IntWalk.i64_in _ (by omega)
    obtain ⟨p1, p2⟩ := hpos
    clear h hx hf
    generalize x.rev = r at *
    generalize leadN L = o at *
    generalize L.length = n at *
    go_enter Try.func12, Try.ntmps12
    go_wp2_with fail
    go_quiet (fail)
    go_wp2_with fail
    go_quiet (fail)
    go_wp2
    go_ret
    exact ⟨rfl, _, World.drewN_drewN _ _ _⟩
/-- Where the open ones begin is looked for. -/
theorem OrAt.open_ (h : OrAt w B go gl mb row L o) (o' : Nat) : OrAt (w.setCell ⟨go, 3, none⟩ (.int .i64 (o' : Int))) B go gl mb row L o' := by
  obtain ⟨mm, hm, hf⟩ := h.map
  refine ⟨by simpa using h.own.store 3 (.int .i64 (o' : Int)), owns_keepk h.row (fun k hk => Below.heap_setCell _ ⟨go, 3, none⟩ _ k ?_), ⟨mm, hm.kept (Below.heap_setCell _ ⟨go, 3, none⟩ _ mb (hm.ne h.own).symm), hf⟩, h.rise, h.len, h.geo, h.gem⟩
  rintro rfl
  obtain ⟨_, cur, hW⟩ := owned_block h.row hk
  exact whole_ne hW h.own (by decide) rfl
set_option maxRecDepth 100000 in
set_option maxHeartbeats 4000000 in
theorem close_any (w : World) (h : OrAt w B go gl mb row L o) (ho : o ≤ leadN L) :
    Calls Try.prog 29 #[.pointer (some ⟨go, 0, none⟩)] w fun e w' => e = .returned (.tuple #[]) ∧ OrAt w' B go gl mb row L (leadN L) ∧ Chg w w' (OB go mb row) := by
  have hle := leadN_le L
  have HH := Lib.hid h
  have hlen := h.len
  clear h
  go_enter Try.func29, Try.ntmps29
  go_wp2_with fail
  go_loopw [] (fun wr => ∃ o' : Nat, o ≤ o' ∧ o' ≤ leadN L ∧ OrAt wr B go gl mb row L o' ∧ Chg w wr (OB go mb row)) (fun wr => L.length - (match wr.cell? ⟨go, 3, none⟩ with | some (.int _ x) => x.toNat | _ => 0))
  case atStart => exact ⟨o, Nat.le_refl _, ho, HH.out, Chg.refl _ _⟩
  case round =>
    obtain ⟨o', h1, h2, hO, hC⟩ := hrel
    obtain ⟨_, c1, _, c3, _, z3⟩ := hO.cells
    have HO := Lib.hid (fun n => hO.below (below_drewN wr n))
    have HC := Lib.hid (fun n => hC.drewN n)
    by_cases hol : o' < L.length
    · obtain ⟨x, hx⟩ : ∃ x, L[o']? = some x := ⟨_, List.getElem?_eq_getElem hol⟩
      obtain ⟨q, c, rfl, _, hq, _, _, _, d3, _⟩ := hO.at_ hx
      by_cases hlt : o' < leadN L
      · rw [leadN_done hlt hx] at d3
        have hadd : IntKind.i64.wrap ((o' : Int) + 1) = (o' : Int) + 1 := IntWalk.i64_in _ (by omega)
        clear hx hO hC
        go_wp2_with fail
        go_quiet (fail)
        go_wp2_with fail
        go_roundw
        case rel =>
          refine ⟨o' + 1, by omega, by omega, ?_, ?_⟩
          · exact (HO.out _).open_ (o' + 1)
          · exact (HC.out _).set (.inl rfl) 3 _
        case measure =>
          have c4 := fun n => ((HO.out n).open_ (o' + 1)).cells.2.2.2.1
          simp only [Int.natCast_add, Int.natCast_one] at c4
          rw [c3, c4]
          show L.length - ((o' : Int) + 1).toNat < L.length - (o' : Int).toNat
          omega
      · have HE := Lib.hid (show o' = leadN L by omega)
        rw [HE.out] at hx
        rw [leadN_stop hx] at d3
        clear hx hO hC
        go_wp2_with fail
        go_quiet (fail)
        go_wp2_with fail
        go_end0
        exact ⟨rfl, HE.out ▸ HO.out _, HC.out _⟩
    · have HE := Lib.hid (show o' = leadN L by omega)
      obtain ⟨a, c, rfl, _⟩ := hO.slice
      have hnl : ¬ (o' : Int) < (L.length : Int) := by omega
      clear hO hC
      go_wp2_with fail
      go_quiet (fail)
      go_wp2_with fail
      go_end0
      exact ⟨rfl, HE.out ▸ HO.out _, HC.out _⟩
end
end Go.Proofs.Ytjfllomnphppfaa
