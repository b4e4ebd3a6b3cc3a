/- The reader: texts. -/
import Derived.Test.YteodldmbnghfcaaGreatC10
namespace Go.Proofs.YteodldmbnghfcaaGreat
open Go.RowKit

/-- A text: how long, and then its bytes. -/
def rtext (xs : List Int) : Except Int (List Int × List Int) := match rcount 128 xs with
  | .error c => .error c
  | .ok (n, l) => if (l.length : Int) < n then .error 10 else .ok (l.take n.toNat, l.drop n.toNat)
theorem rtext_bad {c : Int} {xs : List Int} (h : rcount 128 xs = .error c) : rtext xs = .error c := by rw [rtext, h]
theorem rtext_out {n : Int} {xs l : List Int} (h : rcount 128 xs = .ok (n, l)) (hn : (l.length : Int) < n) : rtext xs = .error 10 := by
  rw [rtext, h]
  show (if (l.length : Int) < n then _ else _) = _
  rw [if_pos hn]
theorem rtext_in {n : Int} {xs l : List Int} (h : rcount 128 xs = .ok (n, l)) (hn : ¬ (l.length : Int) < n) : rtext xs = .ok (l.take n.toNat, l.drop n.toNat) := by
  rw [rtext, h]
  show (if (l.length : Int) < n then _ else _) = _
  rw [if_neg hn]
theorem rcount_range {most n : Int} {xs l : List Int} (h : rcount most xs = .ok (n, l)) : 0 ≤ n ∧ n ≤ most := by
  unfold rcount at h
  split at h
  · cases h
  · rename_i n' l' _
    by_cases hn : n' < 0 ∨ most < n'
    · rw [if_pos hn] at h; cases h
    · rw [if_neg hn] at h
      injection h with h
      injection h with h1 h2
      omega
theorem lies_head {w : World} {b off k : Nat} {xs : List Int} (hk : k ≤ xs.length) (h5 : ∀ i x, xs[i]? = some x → w.cell? ⟨b, off + i, none⟩ = some (.int .u8 x) ∧ 0 ≤ x ∧ x < 256) : IsB w (some ⟨b, off, none⟩) k (xs.take k) := by
  refine ⟨by rw [List.length_take]; omega, fun x hx => LiesAt.bytes h5 x (List.mem_of_mem_take hx), .inr ⟨b, off, rfl, fun i hi => ?_⟩⟩
  have h1 : xs[i]? = some xs[i] := List.getElem?_eq_getElem (by omega)
  rw [(h5 i _ h1).1]
  have h2 : (xs.take k)[i]? = some xs[i] := by rw [List.getElem?_take_of_lt hi]; exact h1
  rw [List.getD_eq_getElem?_getD, h2]
  rfl

set_option maxRecDepth 100000 in
set_option maxHeartbeats 4000000 in
theorem rtext_any (B g : Nat) (v : Value) (xs : List Int) (w : World) (h : RAt w B g v xs) :
    Calls Tryz.prog 103 #[.pointer (some ⟨g, 0, none⟩)] w (RDone w B g (rtext xs) (fun l => .string (strOfNums l))) := by
  have HN := Lib.hid (rcount_any B g v xs 128 w h)
  clear h
  go_enter Tryz.func103, Tryz.ntmps103
  go_wp2_with fail
  refine HN.out.mono ?_
  rintro e w1 (⟨n, ys, u, hr, rfl, hA, hF⟩ | ⟨c, hr, rfl, hF⟩)
  · have hrange := rcount_range hr
    obtain ⟨k, rfl⟩ : ∃ k : Nat, n = (k : Int) := ⟨n.toNat, by omega⟩
    have HF := Lib.hid hF
    have HA := Lib.hid hA
    have HRR := Lib.hid hr
    have k0 : w1.cell? ⟨g, 0, none⟩ = some u := by rw [hA.blk.cell]; rfl
    have z0 : w1.frozen? ⟨g, 0, none⟩ = false := hA.blk.free 0
    clear hF hr
    rcases hA.lies with ⟨rfl, rfl⟩ | ⟨b, off, c, rfl, h2, h3, h4, h5⟩
    · clear hA
      by_cases hk : k = 0
      · subst hk
        have hstr : (convert 68 9 (.slice none 0 0)).run Tryz.prog w1 = .ok (.string (strOfNums [])) w1 := IsB.str (xs := []) ⟨rfl, by simp, .inl rfl⟩ 0
        have hin := rtext_in HRR.out (by simp)
        have HIN := Lib.hid hin
        clear hin
        go_wp2
        go_ret
        exact .inl ⟨[], [], _, HIN.out, rfl, HA.out.set (.inl ⟨rfl, rfl⟩), HF.out.trans (RF.set _ _)⟩
      · have hout := rtext_out HRR.out (by simp; omega)
        have HIN := Lib.hid hout
        clear hout
        go_wp2
        exact ⟨rfl, .inr ⟨10, HIN.out, rfl, HF.out⟩⟩
    · clear hA
      by_cases hk : ys.length < k
      · have hout := rtext_out HRR.out (by omega)
        have HIN := Lib.hid hout
        obtain ⟨nx, hnx⟩ : ∃ nx, nx = ys.length := ⟨_, rfl⟩
        rw [← hnx] at k0 hk h2
        clear hout h5 hnx
        unfold maxLen at h3
        go_wp2
        exact ⟨rfl, .inr ⟨10, HIN.out, rfl, HF.out⟩⟩
      · have hin := rtext_in HRR.out (by omega)
        rw [Int.toNat_natCast] at hin
        have HIN := Lib.hid hin
        have hstr := (lies_head (k := k) (by omega) h5).str c
        obtain ⟨S, hS⟩ : ∃ S, S = strOfNums (ys.take k) := ⟨_, rfl⟩
        rw [← hS] at hstr
        have HS := Lib.hid hS
        have hld := lies_drop (k := k) (by omega) h2 h3 h4 h5
        have hle : c = k → LiesAt w1 B (.slice (some ⟨b, off, none⟩) 0 0) (ys.drop k) := fun hc => lies_end (by omega) h4
        obtain ⟨nx, hnx⟩ : ∃ nx, nx = ys.length := ⟨_, rfl⟩
        rw [← hnx] at k0 hk h2 hld
        have HLD := Lib.hid hld
        have HLE := Lib.hid hle
        clear hin h5 hnx hS hld hle
        unfold maxLen at h3
        by_cases hc : c = k
        · subst hc
          go_wp2
          go_ret
          exact .inl ⟨_, _, _, HIN.out, by rw [HS.out]; rfl, HA.out.set (HLE.out trivial), HF.out.trans (RF.set _ _)⟩
        · go_wp2
          go_ret
          exact .inl ⟨_, _, _, HIN.out, by rw [HS.out]; rfl, HA.out.set HLD.out, HF.out.trans (RF.set _ _)⟩
  · have HF := Lib.hid hF
    have HRR := Lib.hid hr
    clear hF hr
    go_wp2
    exact ⟨rfl, .inr ⟨c, rtext_bad HRR.out, rfl, HF.out⟩⟩
end Go.Proofs.YteodldmbnghfcaaGreat
