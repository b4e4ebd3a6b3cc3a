/- The document's outbox: Ack. -/
import Derived.Test.YtefllbmopaiojaaOP0
namespace Go.Proofs.Ytefllbmopaiojaa
open Go.RowKit

def keepK (k : ByteArray) (l : List It) : List It := l.filter (fun x => !decide (x.1 = k))
theorem keepK_snoc (k : ByteArray) (l : List It) (x : It) : keepK k (l ++ [x]) = keepK k l ++ (if x.1 = k then [] else [x]) := by
  unfold keepK
  rw [List.filter_append]
  by_cases h : x.1 = k <;> simp [h]
theorem keepK_len (k : ByteArray) (l : List It) : (keepK k l).length ≤ l.length := List.length_filter_le _ _
theorem cell_news (w : World) (cs : Array Value) (t : TypeId) : ∀ ad, some (⟨w.heap.size, 0, none⟩ : Addr) = some ad → ∀ j u, cs.toList[j]? = some u → (w.alloc (.cells cs t)).cell? (ad.add j) = some u := by
  rintro ad he j u hu
  injection he with he
  subst he
  rw [add_plain, Nat.zero_add, new_cell]
  simpa using hu
set_option maxRecDepth 100000 in
set_option maxHeartbeats 4000000 in
theorem rack_any {B c : Nat} {a : Option Addr} {l : List It} (k : ByteArray) (now p s : Int) (w : World) (h : Is w B a c l) (hl : l.length ≤ 4096) :
    Calls Try.prog 12 #[.agg #[.slice a l.length c, .int .i64 now, .int .i64 p, .int .i64 s], .string k] w fun e w' => ∃ a' c', e = .returned (.tuple #[.agg #[.slice a' (keepK k l).length c', .int .i64 now, .int .i64 p, .int .i64 s], .bool (decide ((keepK k l).length < l.length))]) ∧ Is w' w.heap.size a' c' (keepK k l) ∧ Below w.heap.size w w' := by
  obtain ⟨i0, hi, hz0, hz1, hz2⟩ := info_of Try.infoIt
  obtain ⟨w0, hw0⟩ : ∃ w0, w0 = (w.alloc (.cells #[.slice a l.length c, .int .i64 now, .int .i64 p, .int .i64 s] 31)).alloc (.cells #[.slice none 0 0, .int .i64 0, .int .i64 0, .int .i64 0] 31) := ⟨_, rfl⟩
  have HT := Lib.hid (fun W (hW : Below w0.heap.size w0 W) => two_boxes hw0 hW)
  have hs0 : w0.heap.size = w.heap.size + 1 + 1 := by rw [hw0]; simp
  have HS0 := Lib.hid hs0
  have HH := Lib.hid (h.below (HT.out w0 (Below.refl _ _)).2.2)
  clear h hs0
  go_enter Try.func12, Try.ntmps12
  go_wp2_with fail
  rw [← hw0]
  clear hw0
  go_loopw [6, 7] (fun t6 t7 wr => ∃ i : Nat, i ≤ l.length ∧ t7 = .int .i64 i ∧ wr.ownsRow w0.heap.size 48 3 t6 (keepK k (l.take i)).length (ics (keepK k (l.take i))) ∧ Below w0.heap.size w0 wr) (fun _ t7 _ => l.length - (intOf t7).toNat)
  case atStart => exact ⟨0, by omega, rfl, ⟨rfl, .inl ⟨rfl, rfl⟩⟩, Below.refl _ _⟩
  case round =>
    obtain ⟨i, hi', rfl, hown, hb⟩ := hrel
    obtain ⟨ta, tc, rfl, _⟩ := Lies.owned hown
    obtain ⟨hB0, hB1, hbw⟩ := HT.out wr hb
    obtain ⟨x0, x1, x2, x3, z0, z1, z2, z3⟩ := four_of hB0
    by_cases hil : i < l.length
    · obtain ⟨⟨k1, v1, s1⟩, hx⟩ : ∃ x, l[i]? = some x := ⟨_, List.getElem?_eq_getElem hil⟩
      obtain ⟨b, off, rfl, hbl, c0, c1, c2⟩ := HH.out.cells hx
      have e0 := (hb.cell (p := ⟨b, off + i * 3, none⟩) hbl).trans c0
      have e1 := (hb.cell (p := ⟨b, off + i * 3 + 1, none⟩) hbl).trans c1
      have e2 := (hb.cell (p := ⟨b, off + i * 3 + 2, none⟩) hbl).trans c2
      simp only at e0 e1 e2
      have HSN := Lib.hid (take_snoc hx)
      have HOW := Lib.hid hown
      have HB := Lib.hid hb
      have hkl := keepK_len k (l.take i)
      have hkl2 : (l.take i).length ≤ i := List.length_take_le _ _
      have hkn : (keepK k (l.take i)).length ≤ 4096 := by omega
      have hsz := hb.size
      clear hx c0 c1 c2 hown hb hB0 hB1 hbw hkl hkl2
      by_cases hk : k1 = k
      · subst hk
        have HK := Lib.hid (show keepK k1 (l.take (i + 1)) = keepK k1 (l.take i) by rw [HSN.out, keepK_snoc, if_pos rfl, List.append_nil])
        have heq : (k1.toList == k1.toList) = true := by simp
        go_wp2_with fail
        go_roundw
        case rel => exact ⟨i + 1, by omega, by go_num, by rw [HK.out]; exact HOW.out, HB.out⟩
        case measure => simp [intOf]; omega
      · have HK := Lib.hid (show keepK k (l.take (i + 1)) = keepK k (l.take i) ++ [(k1, v1, s1)] by rw [HSN.out, keepK_snoc, if_neg hk])
        have hne := str_ne hk
        generalize hkk : keepK k (l.take i) = kk at *
        clear hkk hk
        go_wp2_with (
          at_builtin
          (refine wpList_append_at_any _ rfl _ _ 29 rfl w0.heap.size 48 i0 (.agg #[.string ⟨#[]⟩, .int .i64 0, .int .i64 0]) 3 32 Try.underlying29 hi hz0 hz1 hz2 rfl (by decide) _ kk.length _ rfl (HOW.out.alloc _) (some ⟨wr.heap.size, 0, none⟩) 1 1 [.string k1, .int .i64 v1, .int .i64 s1] rfl rfl (by intro h; cases h) (cell_news _ _ _) (by intro q hq; simp at hq; rcases hq with rfl | rfl | rfl <;> rfl) (by unfold maxLen; omega) (by omega) (by simp; omega) ?_)
          intro v2 w2 hown2 hgrow2 hat2)
        have hB3 := (HB.out.alloc hsz (.cells #[.string k1, .int .i64 v1, .int .i64 s1] 48)).grown hgrow2 (by simp; omega) (fun q hq => (HOW.out.lt q hq).1)
        have hown3 : w2.ownsRow w0.heap.size 48 3 v2 (keepK k (l.take (i + 1))).length (ics (keepK k (l.take (i + 1)))) := by
          rw [HK.out, List.length_append, ics_append]
          exact hown2
        have HR1 := Lib.hid hown3
        have HR2 := Lib.hid hB3
        clear hown2 hgrow2 hat2 hB3 hown3
        go_roundw
        case rel => exact ⟨i + 1, by omega, by go_num, HR1.out, HR2.out⟩
        case measure => simp [intOf]; omega
    · obtain rfl : i = l.length := by omega
      have e : l.take l.length = l := List.take_length
      rw [e] at hown
      have HOW := Lib.hid hown
      have HX0 := Lib.hid hB0
      have HX1 := Lib.hid hB1
      have HBW := Lib.hid hbw
      have hsz := hb.size
      have hszw := HS0.out
      obtain ⟨y0, y1, y2, y3, f0, f1, f2, f3⟩ := four_of hB1
      have hkk : keepK k (l.take l.length) = keepK k l := by rw [e]
      rw [hkk]
      clear hown hb hB0 hB1 hbw e hkk
      go_wp2
      obtain ⟨a', c', hv, hI⟩ := Is.owned HOW.out
      injection hv with hv1 hv2 hv3
      subst hv1 hv3
      have hz1 := (HX1.out.kept (Below.heap_setCell wr ⟨w.heap.size, 0, none⟩ (.slice ta (keepK k l).length tc) _ (by simp))).store4 (.slice ta (keepK k l).length tc) (.int .i64 now) (.int .i64 p) (.int .i64 s)
      refine bodyPost_ret (v := .tuple #[.agg #[.slice ta (keepK k l).length tc, .int .i64 now, .int .i64 p, .int .i64 s], .bool (decide ((keepK k l).length < l.length))]) (res_two Try.results12 _ _ (w.heap.size + 1) 31 _ _ _ rfl rfl hz1 Try.underlying31 rfl Try.infoOb) rfl ⟨ta, tc, rfl, ?_, ?_⟩
      · exact (is_far4 (is_far hI (by omega) 0 _) (by omega) _ _ _ _).mono (by omega)
      · exact below_set4 (HBW.out.setCell (p := ⟨w.heap.size, 0, none⟩) (Nat.le_refl _) _) (Nat.le_succ _) _ _ _ _
end Go.Proofs.Ytefllbmopaiojaa
