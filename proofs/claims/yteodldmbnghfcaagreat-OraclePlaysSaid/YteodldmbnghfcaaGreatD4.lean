/- The disk's calls: Crash. -/
import Derived.Test.YteodldmbnghfcaaGreatD3
import Derived.WalkLawsBesides
import Derived.StillTailTactics
namespace Go.Proofs.YteodldmbnghfcaaGreat.Dk
open Go.RowKit

/-- How many bytes are left behind a crash. -/
def left (n d : Nat) (keep : Int) : Nat := d + min keep.toNat (n - d)

set_option maxRecDepth 100000 in
set_option maxHeartbeats 1000000 in
theorem crash_any {B g d r : Nat} {v : Value} {xs : List Int} (keep : Int) (w : World) (h : DAt w B g v xs d r) (hk : keep < 9223372036854775808) :
    Calls Tryz.prog 17 #[.pointer (some ⟨g, 0, none⟩), .int .i64 keep] w fun e w' => e = .returned (.tuple #[]) ∧ ∃ v', DAt w' B g v' (xs.take (left xs.length d keep)) (left xs.length d keep) r ∧ Turned w w' g none ∧ v'.ownBlock = v.ownBlock := by
  have hd := h.hd
  have hr := h.hr
  have hm := h.hm
  have H := Lib.hid h
  have hsub : IntKind.i64.wrap ((xs.length : Int) - (d : Int)) = ((xs.length - d : Nat) : Int) := by rw [IntWalk.i64_in _ (by omega)]; omega
  have hx : IntKind.i64.wrap ((d : Int) + if ((xs.length - d : Nat) : Int) < (if keep < 0 then 0 else keep) then ((xs.length - d : Nat) : Int) else if keep < 0 then 0 else keep) = ((left xs.length d keep : Nat) : Int) := by
    have e : ((d : Int) + if ((xs.length - d : Nat) : Int) < (if keep < 0 then 0 else keep) then ((xs.length - d : Nat) : Int) else if keep < 0 then 0 else keep) = ((left xs.length d keep : Nat) : Int) := by
      unfold left
      split <;> split <;> omega
    rw [e, IntWalk.i64_in _ (by unfold left; omega)]
  clear h
  go_enter Tryz.func17, Tryz.ntmps17
  go_wp2
  go_quiet ((first | (go_at_call 40; exact Calls.quiet_of (size_q _ H.out _)) | (go_at_call 41; exact Calls.quiet_of (durable_q _ H.out _))))
  go_wp2
  have hq : DAt (w.drewN nq).drew B g v xs d r := H.out.drewN (nq + 1)
  have HQ := Lib.hid hq
  clear hq
  refine wp_region_still_tail 12 (by kernel_rfl) (by kernel_rfl) ?_
  simp only [List.take_succ_cons, List.take_zero, List.drop_succ_cons, List.drop_zero]
  repeat still_step
  still_call ((durable_any (B := B) (g := g) (d := d) (r := r) (v := v) (xs := xs) _ HQ.out).mono fun _ _ h => ⟨h.1, h.2.symm⟩)
  repeat still_step
  refine wpStill_nil ?_
  change wpList _ _ _ _ _ (w.drewN nq).drew
  have ht : Turned w (w.drewN nq).drew g none := ⟨rfl, rfl, rfl, Nat.le_refl _, fun _ _ _ _ => rfl⟩
  have HT := Lib.hid ht
  clear ht hx hsub
  generalize (w.drewN nq).drew = w2 at *
  go_wp2_with (go_at_call 42; refine (cut_any _ _ HQ.out (by unfold left; omega)).mono ?_; rintro e w' ⟨rfl, v', hd', ht, ho⟩; have HD := Lib.hid hd'; have HT2 := Lib.hid ht; have HO := Lib.hid ho; clear hd' ht ho)
  all_goals
    go_end0
    exact ⟨rfl, v', HD.out, HT.out.then_ HT2.out (.inl rfl), HO.out⟩
end Go.Proofs.YteodldmbnghfcaaGreat.Dk
