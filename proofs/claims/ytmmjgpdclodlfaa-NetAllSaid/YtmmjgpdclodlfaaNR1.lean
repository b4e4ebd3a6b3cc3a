/- The document's network: Lose. -/
import Derived.Test.YtmmjgpdclodlfaaNR0
namespace Go.Proofs.Ytmmjgpdclodlfaa
open Go.RowKit

/-- The document's packets that are not to that node. -/
def dothers (l : List Dp) (x : Int) : List Dp := l.filter (fun p => !(p.2.1 == x))
theorem dothers_snoc {l : List Dp} {x : Int} {j : Nat} {p : Dp} (hp : l[j]? = some p) : dothers (l.take (j + 1)) x = dothers (l.take j) x ++ (if p.2.1 = x then [] else [p]) := by
  unfold dothers
  rw [List.take_add_one, hp, Option.toList_some, List.filter_append]
  by_cases h : p.2.1 = x <;> simp [h]
theorem dothers_len (l : List Dp) (x : Int) : (dothers l x).length ≤ l.length := List.length_filter_le _ _
set_option maxRecDepth 100000 in
set_option maxHeartbeats 8000000 in
theorem rlose_any {B c : Nat} {a : Option Addr} {l : List Dp} (x : Int) (w : World) (h : Ds w B a c l) (hn : l.length ≤ 4096) :
    Calls Try.prog 16 #[.slice a l.length c, .int .i64 x] w fun e w' => (∃ a' c', e = .returned (.tuple #[.slice a' (dothers l x).length c', .int .i64 ((l.length - (dothers l x).length : Nat) : Int)]) ∧ Ds w' w.heap.size a' c' (dothers l x)) ∧ Below w.heap.size w w' := by
  obtain ⟨i0, hi0, hz0, hz1, hz2⟩ := info_of Try.infoD
  have HP := Lib.hid h
  clear h
  go_enter Try.func16, Try.ntmps16
  go_wp2_with fail
  go_loopw [6, 7] (fun lv iv wr => ∃ i : Nat, i ≤ l.length ∧ iv = .int .i64 i ∧ (∃ oa oc, lv = .slice oa (dothers (l.take i) x).length oc) ∧ wr.ownsRow w.heap.size 39 3 lv (dothers (l.take i) x).length (dcs (dothers (l.take i) x)) ∧ Below w.heap.size w wr) (fun _ iv _ => l.length - (intOf iv).toNat)
  case atStart => exact ⟨0, by omega, by go_num, ⟨_, _, rfl⟩, World.ownsRow_nil _ _ _ _, Below.refl _ _⟩
  case round =>
    obtain ⟨i, hi, rfl, ⟨oa, oc, rfl⟩, hO, hb⟩ := hrel
    have hol := dothers_len (l.take i) x
    have htl : (l.take i).length ≤ 4096 := by rw [List.length_take]; omega
    by_cases hil : i < l.length
    · obtain ⟨p, hp⟩ : ∃ p, l[i]? = some p := ⟨_, List.getElem?_eq_getElem hil⟩
      have hsn := dothers_snoc (x := x) hp
      obtain ⟨b, off, rfl, hbl, _⟩ := HP.out.row.addr (by omega)
      obtain ⟨e0, e1, e2⟩ := dcs_at hp
      have d0 := (hb.cell (p := ⟨b, off + i * 3, none⟩) hbl).trans (HP.out.row.cell e0)
      have d1 := (hb.cell (p := ⟨b, off + i * 3 + 1, none⟩) hbl).trans (HP.out.row.cell e1)
      have d2 := (hb.cell (p := ⟨b, off + i * 3 + 2, none⟩) hbl).trans (HP.out.row.cell e2)
      obtain ⟨fr, dst, S⟩ := p
      simp only at d0 d1 d2 hsn
      have HO := Lib.hid hO
      have HB := Lib.hid hb
      have hws := hb.size
      clear e0 e1 e2 hO hb hp
      by_cases hx : dst = x
      · rw [if_pos hx, List.append_nil] at hsn
        have HE := Lib.hid hsn
        have hxx : (dst != x) = false := by simp [hx]
        clear hsn hx
        go_wp2
        go_roundw
        case rel => exact ⟨i + 1, by omega, by go_num, ⟨_, _, by rw [HE.out]⟩, by rw [HE.out]; exact HO.out, HB.out⟩
        case measure => simp [intOf]; omega
      · rw [if_neg hx] at hsn
        have HE := Lib.hid hsn
        have hxx : (dst != x) = true := by simpa using hx
        generalize hk : (dothers (l.take i) x).length = k at *
        have HK := Lib.hid hk
        clear hsn hx hk
        go_wp2_with (first
          | (at_builtin; (refine wpList_append_at_any _ rfl (.tmp 21) (.tmp 26) 29 rfl w.heap.size 39 i0 (.agg #[.int .i64 0, .int .i64 0, .string ⟨#[]⟩]) 3 32 Try.underlying29 hi0 hz0 hz1 hz2 rfl (by decide) _ k (dcs (dothers (l.take i) x)) rfl (HO.out.alloc _) (some ⟨wr.heap.size, 0, none⟩) 1 1 [.int .i64 fr, .int .i64 dst, .string S] rfl rfl (by intro e; cases e) (by rintro ad ⟨⟩ j u hu; rw [add_plain, Nat.zero_add, new_cell]; simpa using hu) (by simp; exact ⟨rfl, rfl, rfl⟩) (by unfold maxLen; omega) (by omega) (by simp; omega) ?_); intro v3 w3 hown3 hgrow3 hat3
             have hb3 : Below w.heap.size w w3 := (HB.out.trans ((below_alloc wr _).mono hws)).grown hgrow3 (by simp; omega) (fun q hq => (HO.out.lt q hq).1)
             have HB3 := Lib.hid hb3
             have hown4 : w3.ownsRow w.heap.size 39 3 v3 (dothers (l.take (i + 1)) x).length (dcs (dothers (l.take (i + 1)) x)) := (by
               rw [HE.out, dcs_append, List.length_append, HK.out]
               exact hown3)
             obtain ⟨a3, c3, hv3, _⟩ := Lies.owned hown4
             have HO3 := Lib.hid hown4
             have HV3 := Lib.hid hv3
             clear hgrow3 hat3 hb3 hown3 hown4 hv3))
        go_roundw
        case rel => exact ⟨i + 1, by omega, by go_num, ⟨_, _, HV3.out⟩, HO3.out, HB3.out⟩
        case measure => simp [intOf]; omega
    · obtain rfl : i = l.length := by omega
      rw [List.take_of_length_le (Nat.le_refl _)] at hO hol ⊢
      obtain ⟨_, _, hv, hD⟩ := Ds.owned hO
      injection hv with e1 e2 e3
      subst e1 e3
      have HD := Lib.hid hD
      have HB := Lib.hid hb
      clear hO hD hb
      generalize hk : (dothers l x).length = k at *
      have HK := Lib.hid hk
      clear hk
      go_wp2
      go_ret2
      refine ⟨⟨_, _, ?_, HD.out⟩, HB.out⟩
      rw [HK.out, Int.ofNat_sub hol]
      rfl
end Go.Proofs.Ytmmjgpdclodlfaa
