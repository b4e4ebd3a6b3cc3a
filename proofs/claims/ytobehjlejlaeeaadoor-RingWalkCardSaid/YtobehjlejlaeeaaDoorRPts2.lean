/- The points of so many nodes. -/
import Derived.Test.YtobehjlejlaeeaaDoorRPts
namespace Go.Proofs.YtobehjlejlaeeaaDoor
open Go.RowKit

theorem Tryd.infoPt : (Tryd.prog.info? 58).map (fun i => (i.zero, i.size, i.bytes)) = some (some (.agg #[.int .u32 0, .int .i64 0]), 2, 16) := by kernel_rfl
theorem nodeText_size (n p : Nat) : (Mt.nodeText n p).size ≤ 100 := by
  have h1 := Mt.dec_size n
  have h2 := Mt.dec_size p
  unfold Mt.nodeText
  simp only [ByteArray.size_append]
  have e1 : (⟨#[110, 111, 100, 101, 32]⟩ : ByteArray).size = 5 := rfl
  have e2 : (⟨#[32, 112, 111, 105, 110, 116, 32]⟩ : ByteArray).size = 7 := rfl
  omega
theorem node_adds (i k : Nat) (w : World) :
    (Op.stringOp .add ⟨#[110, 111, 100, 101, 32]⟩ (Mt.dec i)).run Tryd.prog w = .ok (.string (⟨#[110, 111, 100, 101, 32]⟩ ++ Mt.dec i)) w ∧
    (Op.stringOp .add (⟨#[110, 111, 100, 101, 32]⟩ ++ Mt.dec i) ⟨#[32, 112, 111, 105, 110, 116, 32]⟩).run Tryd.prog w = .ok (.string (⟨#[110, 111, 100, 101, 32]⟩ ++ Mt.dec i ++ ⟨#[32, 112, 111, 105, 110, 116, 32]⟩)) w ∧
    (Op.stringOp .add (⟨#[110, 111, 100, 101, 32]⟩ ++ Mt.dec i ++ ⟨#[32, 112, 111, 105, 110, 116, 32]⟩) (Mt.dec k)).run Tryd.prog w = .ok (.string (Mt.nodeText i k)) w := by
  have h1 := Mt.dec_size i
  have h2 := Mt.dec_size k
  have e1 : (⟨#[110, 111, 100, 101, 32]⟩ : ByteArray).size = 5 := rfl
  have e2 : (⟨#[32, 112, 111, 105, 110, 116, 32]⟩ : ByteArray).size = 7 := rfl
  refine ⟨run_string_add_sum w _ _ (by omega), run_string_add_sum w _ _ (by rw [ByteArray.size_append]; omega), run_string_add_sum w _ _ (by rw [ByteArray.size_append, ByteArray.size_append]; omega)⟩
theorem owns_alloc2 {w : World} {base n k : Nat} {e : TypeId} {v : Value} {l : List Value} (h : w.ownsRow base e k v n l) (o : Obj) : (w.alloc o).ownsRow base e k v n l := by
  refine ⟨h.1, ?_⟩
  rcases h.2 with h2 | ⟨g, cap, cur, rfl, h3, h4, r⟩
  · exact .inl h2
  · refine .inr ⟨g, cap, cur, rfl, h3, ?_, r⟩
    have hg : g < w.heap.size := by
      rcases Nat.lt_or_ge g w.heap.size with hl | hl
      · exact hl
      · rw [Array.getElem?_eq_none hl] at h4
        cases h4
    exact ((below_alloc w o).block _ hg).trans h4
set_option maxRecDepth 100000 in
set_option maxHeartbeats 4000000 in
theorem points_any (nodes points : Nat) (w : World) (h1 : nodes ≤ 8) (h2 : points ≤ 64) :
    Calls Tryd.prog 23 #[.int .i64 nodes, .int .i64 points] w fun e w' => (∃ v, e = .returned v ∧ w'.ownsRow w.heap.size 58 2 v (nodes * points) ((Mt.pts nodes points).flatMap ptc)) ∧ Below w.heap.size w w' := by
  obtain ⟨i0, hi0, hz0, hz1, hz2⟩ := info_of Tryd.infoPt
  have hm : nodes * points ≤ 512 := Nat.le_trans (Nat.mul_le_mul h1 h2) (by omega)
  obtain ⟨cs, hmk, hcs⟩ := made_row w 53 58 i0 _ 2 16 Tryd.underlying53 hi0 hz0 hz1 hz2 0 (nodes * points) (Nat.zero_le _) (by omega) (by unfold maxLen; omega)
  rw [Int.natCast_zero, Int.natCast_mul] at hmk
  have hown := World.ownsRow_made (base := w.heap.size) (size := 2) (e := 58) w cs (nodes * points) (Nat.le_refl _) (by unfold maxLen; omega) hcs
  have hb0 := below_alloc w (.cells cs 58)
  have HI0 := Lib.hid hi0; have HZ0 := Lib.hid hz0; have HZ1 := Lib.hid hz1; have HZ2 := Lib.hid hz2
  clear hi0 hz0 hz1 hz2 hcs
  go_enter Tryd.func23, Tryd.ntmps23
  go_wp2
  have HOWN := Lib.hid hown
  have HB0 := Lib.hid hb0
  clear hown hb0 hmk
  generalize w.alloc (.cells cs 58) = w0 at *
  go_loopw [5, 14] (fun v iv wr => (∃ i : Nat, i ≤ nodes ∧ iv = .int .i64 i ∧ wr.ownsRow w.heap.size 58 2 v (i * points) ((Mt.pts i points).flatMap ptc)) ∧ Below w.heap.size w wr) (fun _ iv _ => nodes - (intOf iv).toNat)
  case atStart => exact ⟨⟨0, by omega, rfl, by simpa [Mt.pts] using HOWN.out⟩, HB0.out⟩
  case round =>
    obtain ⟨⟨i, hin, rfl, hv⟩, hb⟩ := hrel
    have HV := Lib.hid hv
    have HB := Lib.hid hb
    clear hv hb
    by_cases hi : i < nodes
    · have hip : i * points ≤ 448 := by
        have : i * points ≤ 7 * 64 := Nat.mul_le_mul (by omega) h2
        omega
      have HSU := Lib.hid (Mt.pts_succ i points)
      go_wp2
      go_loopw [5, 18] (fun v kv wr => (∃ k : Nat, k ≤ points ∧ kv = .int .i64 k ∧ wr.ownsRow w.heap.size 58 2 v (i * points + k) ((Mt.pts i points ++ Mt.row i k).flatMap ptc)) ∧ Below w.heap.size w wr) (fun _ kv _ => points - (intOf kv).toNat)
      case atStart => exact ⟨⟨0, by omega, rfl, by simpa [Mt.row] using HV.out⟩, HB.out⟩
      case round =>
        obtain ⟨⟨k, hkp, rfl, hv2⟩, hb2⟩ := hrel
        have HV2 := Lib.hid hv2
        have HB2 := Lib.hid hb2
        clear hv2 hb2
        by_cases hk : k < points
        · have HT := Lib.hid (nodeText_size i k)
          have HR := Lib.hid (Mt.row_succ i k)
          obtain ⟨a1, a2, a3⟩ := node_adds i k wr
          go_wp2_with (first
            | (go_at_call 25; refine (itoa_any _ _ (by omega)).mono ?_; rintro e w1 ⟨rfl, rfl⟩)
            | (go_at_call 10; refine (hash_any _ _ (by have := HT.out; omega)).mono ?_; rintro e w1 ⟨rfl, rfl⟩; clear a1 a2 a3)
            | (at_builtin; (refine wpList_append_own_any _ rfl (.tmp 29) (.tmp 33) 53 rfl w.heap.size 58 i0 (.agg #[.int .u32 0, .int .i64 0]) 2 16 Tryd.underlying53 HI0.out HZ0.out HZ1.out HZ2.out rfl (by decide) _ (i * points + k) _ rfl (owns_alloc2 HV2.out (.cells (ptc (Mt.pt i k)).toArray 58)) (some ⟨wr.heap.size, 0, none⟩) 1 1 (ptc (Mt.pt i k)) rfl rfl (by intro e; cases e) (by intro ad e j u hu; cases e; rw [add_plain, Nat.zero_add, new_cell]; simpa [ptc, Mt.pt] using hu) (ptc_one _) (by unfold maxLen; omega) (by omega) (by have := HB2.out.size; simp; omega) ?_); intro v2 w2 hown2 hgrow2
               have hB2 : Below w.heap.size w w2 := (HB2.out.alloc HB2.out.size (.cells (ptc (Mt.pt i k)).toArray 58)).grown hgrow2 (by have := HB2.out.size; simp; omega) (fun q hq => (HV2.out.lt q hq).1)
               have HO2 := Lib.hid hown2; have HBB := Lib.hid hB2; clear hown2 hgrow2 hB2))
          go_roundw
          case rel =>
            refine ⟨⟨k + 1, by omega, by go_num, ?_⟩, HBB.out⟩
            rw [HR.out, ← List.append_assoc, List.flatMap_append, ← Nat.add_assoc]
            simpa using HO2.out
          case measure => simp [intOf]; omega
        · obtain rfl : k = points := by omega
          go_wp2
          go_roundw
          case rel => exact ⟨⟨i + 1, by omega, by go_num, by rw [HSU.out, Nat.succ_mul]; exact HV2.out⟩, HB2.out⟩
          case measure => simp [intOf]; omega
    · obtain rfl : i = nodes := by omega
      go_wp2
      go_ret
      exact ⟨⟨_, rfl, HV.out⟩, HB.out⟩
end Go.Proofs.YtobehjlejlaeeaaDoor
