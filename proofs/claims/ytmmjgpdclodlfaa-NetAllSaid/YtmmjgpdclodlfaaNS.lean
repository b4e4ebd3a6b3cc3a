/- The law's question: the same packets. -/
import Derived.Test.YtmmjgpdclodlfaaNR2
import Derived.Laws.StructEq
namespace Go.Proofs.Ytmmjgpdclodlfaa
open Go.RowKit

/-- The document's packet of a packet. -/
def dk (p : Pk) : Dp := (p.fr, p.dst, strOfNums p.xs)
/-- A packet's bytes as they lie. -/
structure PkL (w : World) (p : Pk) : Prop where
  ex : ∃ a c, p.v = .slice a p.xs.length c ∧ IsB w a p.xs.length p.xs
theorem PkL.below {w w' : World} {p : Pk} (h : PkL w p) (hb : Below w.heap.size w w') : PkL w' p := by
  obtain ⟨a, c, hv, hi⟩ := h.ex
  exact ⟨a, c, hv, hi.below hb⟩
theorem PkAt.lies {w : World} {B : Nat} {p : Pk} (h : PkAt w B p) : PkL w p := by
  obtain ⟨a, c, hv, hi, _⟩ := h.isb
  exact ⟨a, c, hv, hi⟩
set_option maxRecDepth 100000 in
set_option maxHeartbeats 8000000 in
theorem same_true {B1 B2 c1 c2 : Nat} {a1 a2 : Option Addr} {ps : List Pk} {l : List Dp} (w : World) (h1 : Lies w 32 3 B1 a1 ps.length c1 (pcs ps)) (hp : ∀ p ∈ ps, PkL w p) (h2 : Ds w B2 a2 c2 l) (he : ps.map dk = l) (hn : ps.length ≤ 4096) :
    Calls Try.prog 12 #[.slice a1 ps.length c1, .slice a2 l.length c2] w fun e w' => e = .returned (.bool true) ∧ Below w.heap.size w w' := by
  have hll : l.length = ps.length := by rw [← he, List.length_map]
  have HE := Lib.hid he
  have H1 := Lib.hid h1
  have H2 := Lib.hid h2
  have HP := Lib.hid hp
  rw [hll]
  clear h1 h2 hp he
  go_enter Try.func12, Try.ntmps12
  go_wp2_with fail
  go_loopw [13] (fun iv wr => ∃ i : Nat, i ≤ ps.length ∧ iv = .int .i64 i ∧ Below w.heap.size w wr) (fun iv _ => ps.length - (intOf iv).toNat)
  case atStart => exact ⟨0, by omega, by go_num, Below.refl _ _⟩
  case round =>
    obtain ⟨i, hi, rfl, hb⟩ := hrel
    by_cases hil : i < ps.length
    · obtain ⟨p, hp⟩ : ∃ p, ps[i]? = some p := ⟨_, List.getElem?_eq_getElem hil⟩
      have hq : l[i]? = some (dk p) := by rw [← HE.out, List.getElem?_map, hp]; rfl
      obtain ⟨b, off, rfl, hbl, _, q0, q1, q2⟩ := ds_at H2.out hq
      obtain ⟨b1, off1, rfl, hbl1, _⟩ := H1.out.addr (by omega)
      obtain ⟨e0, e1, e2⟩ := pcs_at hp
      obtain ⟨pa, pk, hv, his⟩ := (HP.out p (List.mem_of_getElem? hp)).ex
      have d0 := (hb.cell (p := ⟨b1, off1 + i * 3, none⟩) hbl1).trans (H1.out.cell e0)
      have d1 := (hb.cell (p := ⟨b1, off1 + i * 3 + 1, none⟩) hbl1).trans (H1.out.cell e1)
      have d2 := (hb.cell (p := ⟨b1, off1 + i * 3 + 2, none⟩) hbl1).trans (H1.out.cell e2)
      have f0 := (hb.cell (p := ⟨b, off + i * 3, none⟩) hbl).trans q0
      have f1 := (hb.cell (p := ⟨b, off + i * 3 + 1, none⟩) hbl).trans q1
      have f2 := (hb.cell (p := ⟨b, off + i * 3 + 2, none⟩) hbl).trans q2
      simp only [dk] at f0 f1 f2
      rw [hv] at d2
      have hst := ((his.below hb).below (show Below wr.heap.size wr wr.drew from ⟨rfl, rfl, rfl, Nat.le_refl _, fun _ _ => rfl⟩)).str pk
      have HB := Lib.hid hb
      clear e0 e1 e2 q0 q1 q2 hb hq hp his hv
      go_wp2_with fail
      go_region
      go_wp2
      go_roundw
      case rel => exact ⟨i + 1, by omega, by go_num, HB.out.trans ⟨rfl, rfl, rfl, Nat.le_refl _, fun _ _ => rfl⟩⟩
      case measure => simp [intOf]; omega
    · obtain rfl : i = ps.length := by omega
      have HB := Lib.hid hb
      clear hb
      go_wp2
      go_ret
      exact ⟨rfl, HB.out⟩
end Go.Proofs.Ytmmjgpdclodlfaa
