/- The network: Copy. -/
import Derived.Test.YtmmjgpdclodlfaaN3
namespace Go.Proofs.Ytmmjgpdclodlfaa
open Go.RowKit

section
variable {B g : Nat} {nodes : Int} {v : Value} {ps : List Pk}
/-- Where a packet's cells lie. -/
theorem NAt.at_ {w : World} {i : Nat} {p : Pk} (h : NAt w B g nodes v ps) (hi : ps[i]? = some p) : ∃ b off c, v = .slice (some ⟨b, off, none⟩) ps.length c ∧ b < w.heap.size ∧ i < ps.length ∧ ps.length ≤ c ∧ (w.cell? ⟨b, off + i * 3, none⟩ = some (.int .i64 p.fr) ∧ w.cell? ⟨b, off + i * 3 + 1, none⟩ = some (.int .i64 p.dst) ∧ w.cell? ⟨b, off + i * 3 + 2, none⟩ = some p.v) := by
  obtain ⟨a, c, rfl, hL⟩ := h.row.lies
  have hlt : i < ps.length := by
    rcases Nat.lt_or_ge i ps.length with hl | hl
    · exact hl
    · rw [List.getElem?_eq_none hl] at hi; cases hi
  obtain ⟨b, off, rfl, hb, _⟩ := hL.addr (by omega)
  obtain ⟨e0, e1, e2⟩ := pcs_at hi
  exact ⟨b, off, c, rfl, hb, hlt, hL.room, hL.cell e0, hL.cell e1, hL.cell e2⟩
theorem NAt.flies {i : Nat} {w : World} (h : NAt w B g nodes v ps) (hi : i < ps.length) : Calls Try.prog 22 #[.pointer (some ⟨g, 0, none⟩), .int .i64 (i : Int)] w fun e w' => e = .returned (.bool true) ∧ w' = w := by
  refine (flies_any (i : Int) w h).mono ?_
  rintro e w' ⟨rfl, rfl⟩
  refine ⟨?_, rfl⟩
  congr 2
  rw [Bool.and_eq_true, decide_eq_true_eq, decide_eq_true_eq]
  omega
theorem NAt.noflies {x : Int} {w : World} (h : NAt w B g nodes v ps) (hi : x < 0 ∨ (ps.length : Int) ≤ x) : Calls Try.prog 22 #[.pointer (some ⟨g, 0, none⟩), .int .i64 x] w fun e w' => e = .returned (.bool false) ∧ w' = w := by
  refine (flies_any x w h).mono ?_
  rintro e w' ⟨rfl, rfl⟩
  refine ⟨?_, rfl⟩
  congr 2
  rw [Bool.and_eq_false_iff, decide_eq_false_iff_not, decide_eq_false_iff_not]
  omega
set_option maxRecDepth 100000 in
set_option maxHeartbeats 2000000 in
theorem copy_none (x : Int) (w : World) (h : NAt w B g nodes v ps) (hi : x < 0 ∨ (ps.length : Int) ≤ x) :
    Calls Try.prog 13 #[.pointer (some ⟨g, 0, none⟩), .int .i64 x] w fun e w' => e = .returned (.int .i64 4) ∧ w' = w := by
  have HF := Lib.hid (h.noflies hi)
  clear h hi
  go_enter Try.func13, Try.ntmps13
  go_wp2_with fail
  refine HF.out.mono ?_
  rintro e w' ⟨rfl, rfl⟩
  go_wp2
  go_ret
  exact ⟨rfl, rfl⟩
set_option maxRecDepth 100000 in
set_option maxHeartbeats 2000000 in
theorem copy_call {i : Nat} {p : Pk} {Q : Ending → World → Prop} (w : World) (h : NAt w B g nodes v ps) (hi : ps[i]? = some p)
    (hQ : ∀ a c, p.v = .slice a p.xs.length c → PkIn w a c p.xs → Calls Try.prog 8 #[.pointer (some ⟨g, 0, none⟩), .agg #[.int .i64 p.fr, .int .i64 p.dst, .slice a p.xs.length c]] w fun e w' => (∃ k, e = .returned (.int .i64 k)) ∧ Q e w') :
    Calls Try.prog 13 #[.pointer (some ⟨g, 0, none⟩), .int .i64 (i : Int)] w Q := by
  obtain ⟨b, off, c, rfl, hb, hlt, hc, e0, e1, e2⟩ := h.at_ hi
  obtain ⟨c0, c1, f0, f1⟩ := h.cells
  obtain ⟨a, k, hv, hp⟩ := (h.pks p (List.mem_of_getElem? hi)).in_
  have HF := Lib.hid (h.flies hlt)
  have HQ := Lib.hid (hQ a k hv hp)
  rw [hv] at e2
  clear h hi hp hv hQ
  go_enter Try.func13, Try.ntmps13
  go_wp2_with fail
  refine HF.out.mono ?_
  rintro e w' ⟨rfl, hq⟩
  obtain rfl : w = w' := hq.symm
  go_wp2_with fail
  refine HQ.out.mono ?_
  rintro e w1 ⟨⟨k, rfl⟩, hq⟩
  go_wp2
  exact hq
theorem copy_ok {i : Nat} {p : Pk} (w : World) (h : NAt w B g nodes v ps) (hi : ps[i]? = some p) (h1 : 0 ≤ p.fr) (h2 : p.fr < nodes) (h3 : 0 ≤ p.dst) (h4 : p.dst < nodes) (hn : ps.length < 4096) (hB : B ≤ w.heap.size) :
    Calls Try.prog 13 #[.pointer (some ⟨g, 0, none⟩), .int .i64 (i : Int)] w fun e w' => SendOk w B g nodes v ps p.fr p.dst p.xs e w' :=
  copy_call w h hi fun _ _ _ hp => (send_ok p.fr p.dst w h hp h1 h2 h3 h4 hn hB).mono fun _ _ hs => ⟨⟨0, hs.1⟩, hs⟩
theorem copy_full {i : Nat} {p : Pk} (w : World) (h : NAt w B g nodes v ps) (hi : ps[i]? = some p) (h1 : 0 ≤ p.fr) (h2 : p.fr < nodes) (h3 : 0 ≤ p.dst) (h4 : p.dst < nodes) (hn : ps.length = 4096) :
    Calls Try.prog 13 #[.pointer (some ⟨g, 0, none⟩), .int .i64 (i : Int)] w fun e w' => e = .returned (.int .i64 3) ∧ Below w.heap.size w w' :=
  copy_call w h hi fun _ _ _ _ => (send_full p.fr p.dst w h h1 h2 h3 h4 (by omega)).mono fun _ _ hs => ⟨⟨3, hs.1⟩, hs⟩
end
end Go.Proofs.Ytmmjgpdclodlfaa
