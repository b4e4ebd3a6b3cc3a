/- The network: slices.DeleteFunc. -/
import Derived.Test.YtmmjgpdclodlfaaN7
namespace Go.Proofs.Ytmmjgpdclodlfaa
open Go.RowKit

theorem chg_row {w w' : World} {q : Nat} {cur cur' : Array Value} (h : Chg w w' (fun k => k = q)) (_hW : Whole w' q 32 cur) : Chg w (w'.setRow q cur') (fun k => k = q) :=
  h.trans ⟨rfl, rfl, rfl, by simp [World.setRow], fun k _ hn => setRow_other w' q k _ hn⟩
set_option maxRecDepth 100000 in
set_option maxHeartbeats 8000000 in
theorem del_any {B n tb : Nat} {v : Value} {x : Int} {ps : List Pk} (w : World) (h : FRow w B v n (pcs ps)) (hl : ps.length = n) (hn : n ≤ 4096) (hsl : ∀ p ∈ ps, ∃ a n c, p.v = .slice a n c) (htb : Whole w tb 3 #[.int .i64 x]) :
    Calls Try.prog 23 #[v, toF tb] w fun e w' => ∃ v', e = .returned v' ∧ FRow w' B v' (others ps x).length (pcs (others ps x)) ∧ v'.ownBlock = v.ownBlock ∧ Chg w w' (fun k => v.ownBlock = some k) := by
  obtain ⟨a, c, rfl, hL⟩ := h.lies
  have HI := Lib.hid (index_any w hL hl hn hsl htb)
  have HR := Lib.hid h
  have HT := Lib.hid htb
  have HS := Lib.hid hsl
  clear h hL hsl htb
  unfold toF at *
  go_enter Try.func23, Try.ntmps23
  go_wp2_with fail
  refine HI.out.mono ?_
  rintro e w1 ⟨⟨k, rfl, hk⟩, hb1⟩
  have HB1 := Lib.hid hb1
  clear hb1 HI
  rcases hk with ⟨i, p, rfl, hp, hpx, hnot⟩ | ⟨rfl, hnot⟩
  · have hin : i < n := by
      rcases Nat.lt_or_ge i n with hlt | hge
      · exact hlt
      · rw [List.getElem?_eq_none (by omega)] at hp; cases hp
    obtain ⟨q, rfl, hBq, hRow⟩ := HR.out.rowAt hl (by omega)
    have hMid : Mid w w1 q n c ps x i (i + 1) := ⟨⟨ps, hRow.keep (HB1.out.block _ hRow.lt), by
      rw [others_snoc hp, if_pos hpx, List.append_nil, others_none hnot], rfl⟩, by omega, hin, Chg.ofBelow _ HB1.out⟩
    have HM := Lib.hid hMid
    have hqt : tb ≠ q := by
      obtain ⟨cur, hW, _⟩ := hRow.ex
      exact whole_ne HT.out hW (by decide)
    have hqlt := hRow.lt
    have hcn := hRow.room
    have hne : ((i : Int) == -1) = false := by rw [beq_eq_false_iff_ne]; omega
    clear hp hpx hnot hRow hMid
    go_wp2
    go_loopw [5, 6] (fun iv jv wr => ∃ i j : Nat, iv = .int .i64 i ∧ jv = .int .i64 j ∧ Mid w wr q n c ps x i j) (fun _ jv _ => n - (intOf jv).toNat)
    case atStart => exact ⟨i, i + 1, by go_num, by go_num, HM.out⟩
    case round =>
      clear HM hin hne
      obtain ⟨i, j, rfl, rfl, hM⟩ := hrel
      have hij := hM.lt
      by_cases hjn : j < n
      · obtain ⟨p, hp⟩ : ∃ p, ps[j]? = some p := ⟨_, List.getElem?_eq_getElem (by rw [hl]; exact hjn)⟩
        obtain ⟨L, hR, h1, h2⟩ := hM.ex
        have hpL : L[j]? = some p := by
          have e : (L.drop j)[0]? = (ps.drop j)[0]? := by rw [h2]
          rw [List.getElem?_drop, List.getElem?_drop] at e
          simpa [hp] using e
        obtain ⟨⟨d0, d1, d2⟩, f0, f1, f2⟩ := hR.cells hpL
        obtain ⟨pi, hpi⟩ : ∃ pi, L[i]? = some pi := ⟨_, List.getElem?_eq_getElem (by rw [hR.len]; omega)⟩
        obtain ⟨⟨s0, s1, s2⟩, g0, g1, g2⟩ := hR.cells hpi
        obtain ⟨pa, pn, pc, hv⟩ := HS.out p (List.mem_of_getElem? hp)
        rw [hv] at d2
        have HM := Lib.hid hM
        have HP := Lib.hid hp
        have HV := Lib.hid hv
        have hqr := hR.lt
        have hbA := below_alloc wr (.cells #[.int .i64 p.fr, .int .i64 p.dst, .slice pa pn pc] 32)
        have htr : Whole wr tb 3 #[.int .i64 x] := (HT.out.kept (hM.chg.block _ HT.out.lt hqt))
        have hxA : Whole (wr.alloc (.cells #[.int .i64 p.fr, .int .i64 p.dst, .slice pa pn pc] 32)) wr.heap.size 32 #[.int .i64 p.fr, .int .i64 p.dst, .slice pa pn pc] := heap_alloc_new _ _
        have HXA := Lib.hid hxA
        have HBA := Lib.hid hbA
        have HC := Lib.hid (isto_any (fr := p.fr) (dst := p.dst) (u := .slice pa pn pc) _ (htr.kept (hbA.block _ htr.lt)))
        have HR2 := Lib.hid (fun (w2 : World) (hb : Below wr.heap.size wr w2) => (hR.keep (hb.block _ hR.lt)).cells hpi)
        clear hM hp hR h1 h2 hpL hpi hv hbA htr hxA s0 s1 s2 g0 g1 g2
        go_wp2_with fail
        refine HC.out.mono ?_
        rintro e w2 ⟨rfl, hb2⟩
        have hB2 : Below wr.heap.size wr w2 := HBA.out.trans (hb2.mono HBA.out.size)
        have HB2 := Lib.hid hB2
        have hx2 := HXA.out.kept (hb2.block _ HXA.out.lt)
        obtain ⟨⟨b0, b1, b2⟩, _⟩ := three_of hx2
        obtain ⟨⟨s0, s1, s2⟩, g0, g1, g2⟩ := HR2.out w2 hB2
        have hqw : q < w2.heap.size := by have := hB2.size; omega
        have hne : q ≠ wr.heap.size := by omega
        clear hb2 hB2 hx2 HXA HBA HC HR2
        by_cases hx : p.dst = x
        · have HE := Lib.hid (show (p.dst == x) = true by simpa using hx)
          have HM2 := Lib.hid (HM.out.same HB2.out HP.out hx hjn)
          clear hx
          rw [HE.out]
          go_wp2
          go_roundw
          case rel => exact ⟨i, j + 1, by go_num, by go_num, HM2.out⟩
          case measure => simp [intOf]; omega
        · have HE := Lib.hid (show (p.dst == x) = false by simpa using hx)
          have HM2 := Lib.hid (HM.out.more HB2.out HP.out hx hjn rfl)
          rw [HV.out] at HM2
          clear hx
          rw [HE.out]
          go_wp2
          go_roundw
          case rel => exact ⟨i + 1, j + 1, by go_num, by go_num, HM2.out⟩
          case measure => simp [intOf]; omega
      · obtain ⟨L, hR, h1, h2⟩ := hM.ex
        have hjj := hM.le
        obtain rfl : j = n := by omega
        obtain ⟨cur, hW, hs, ht⟩ := hR.ex
        have hcm := hR.big
        rw [show ps.take j = ps from List.take_of_length_le (by omega)] at h1
        have hst : ∀ w : World, (Instr.slice 45 (.slice (some ⟨q, 0, none⟩) j c) (some (.int .i64 (i : Int))) none none).run Try.prog w = .ok (.slice (some ⟨q, i * 3, none⟩) (j - i) (c - i)) w := fun w => by
          have := slice_tailK (k := 3) Try.underlying45 rfl (some ⟨q, 0, none⟩) j c i (by omega) w (by kernel_rfl)
          rw [this, tailK, if_neg (by omega)]
          simp [add_plain]
        have hsh : ∀ w : World, (Instr.slice 45 (.slice (some ⟨q, 0, none⟩) j c) none (some (.int .i64 (i : Int))) none).run Try.prog w = .ok (.slice (some ⟨q, 0, none⟩) i c) w := fun w =>
          slice_headK (k := 3) Try.underlying45 rfl (some ⟨q, 0, none⟩) j c i (by omega) w (by kernel_rfl)
        obtain ⟨cur', hcl, hz, htk⟩ := run_clear_row wr 0 (q := q) (o := i * 3) (n := j - i) (c := c - i) hW (by have := Nat.mul_le_mul_right 3 (show i + (j - i) ≤ c by omega); rw [Nat.add_mul] at this; omega)
        have HCH := Lib.hid (chg_row (cur' := cur') hM.chg hW)
        have HW' := Lib.hid (setRow_heap wr q cur cur' _ _ hW)
        have hol : (others ps x).length = i := by rw [← h1, List.length_take, hR.len]; omega
        have HF := Lib.hid (show FRow (wr.setRow q cur') B (.slice (some ⟨q, 0, none⟩) i c) (others ps x).length (pcs (others ps x)) from ⟨by rw [pcs_len], .inr ⟨q, c, cur', by rw [hol], hBq, HW'.out, by rw [hol]; omega, hcm, by omega, by
          rw [hol, htk _ (Nat.le_refl _), ← h1, ← pcs_take, ← ht, List.take_take, Nat.min_eq_left (Nat.mul_le_mul_right 3 (by omega))]⟩⟩)
        clear hM hR h1 h2 hW hs ht hcm hz htk hol
        go_wp2
        go_ret
        exact ⟨_, rfl, HF.out, rfl, HCH.out.mono (fun k _ hk => by rw [hk]; rfl)⟩
  · go_wp2
    go_ret
    refine ⟨_, rfl, ?_, rfl, Chg.ofBelow _ HB1.out⟩
    rw [others_none hnot, hl]
    exact HR.out.below HB1.out
end Go.Proofs.Ytmmjgpdclodlfaa
