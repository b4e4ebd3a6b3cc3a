/- The document's Collect, whatever is asked. -/
import Derived.Test.YtmjdngomjjhhiaaGreatE72
import Derived.Test.YtmjdngomjjhhiaaGreatE70
namespace Go.Proofs.YtmjdngomjjhhiaaGreat
open Go.RowKit
open Go.Maps (Keyed)

theorem colE_cases (wm rev : Int) : (rev < 0 ∧ colE wm rev = 1) ∨ (¬ rev < 0 ∧ 1125899906842624 < rev ∧ colE wm rev = 1) ∨ (¬ rev < 0 ∧ ¬ 1125899906842624 < rev ∧ rev < wm ∧ colE wm rev = 70) ∨ (¬ rev < 0 ∧ ¬ 1125899906842624 < rev ∧ ¬ rev < wm ∧ colE wm rev = 0) := by
  unfold colE
  by_cases h1 : rev < 0
  · exact .inl ⟨h1, if_pos (.inl h1)⟩
  · by_cases h2 : 1125899906842624 < rev
    · exact .inr (.inl ⟨h1, h2, if_pos (.inr h2)⟩)
    · by_cases h3 : rev < wm
      · exact .inr (.inr (.inl ⟨h1, h2, h3, by rw [if_neg (by omega), if_pos h3]⟩))
      · exact .inr (.inr (.inr ⟨h1, h2, h3, by rw [if_neg (by omega), if_neg h3]⟩))
set_option maxHeartbeats 8000000 in
set_option maxRecDepth 100000 in
theorem rcollect_all {X : Nat → Prop} {R : List Rw} {v : Value} {w : World} (hX : ∀ b, X b → b < w.heap.size) (hR : DR w X R v) (hrn : R.length ≤ 1099511627000) (wm rev : Int) :
    Calls Tryz.prog 25 #[stV v wm, .int .i64 rev] w fun e w' => ∃ v', e = .returned (.tuple #[stV v' (if colE wm rev = 0 then rev else wm), .int .i64 (colE wm rev)]) ∧ DR w' X (if colE wm rev = 0 then collectR R rev else R) v' ∧ Below w.heap.size w w' := by
  have hfit := hR.fits
  obtain ⟨w0, hw0⟩ : ∃ w0, w0 = ((w.alloc (.cells #[v, .int .i64 wm] 28)).alloc (.cells #[.slice none 0 0, .int .i64 0] 28)) := ⟨_, rfl⟩
  have hS : ApS w w0 X wm v R := by rw [hw0]; exact ApS.start hR wm
  obtain ⟨ra, rc, rfl, hra⟩ := hR.slice
  have HS := Lib.hid hS
  obtain ⟨q0, hq0⟩ : ∃ q0, q0 = w.heap.size := ⟨_, rfl⟩
  have HQ := Lib.hid hq0
  have HQ1 := Lib.hid (show q0 + 1 = w.heap.size + 1 by rw [hq0])
  rcases colE_cases wm rev with ⟨h1, he⟩ | ⟨h1, h2, he⟩ | ⟨h1, h2, h3, he⟩ | ⟨h1, h2, h3, he⟩
  case inr.inr.inr =>
    rw [he, if_pos rfl, if_pos rfl]
    refine (rcollect_any (rc := rc) hra (by omega) wm rev (by omega) (by unfold maxRev; omega) (by omega)).mono ?_
    rintro e w' ⟨v, he, hrow, hb⟩
    exact ⟨v, he, DR.made hrow hX (fun r hr => hfit r (List.mem_filter.1 hr).1), hb⟩
  all_goals
    rw [he, if_neg (by decide), if_neg (by decide)]
    clear hX hR hrn hfit hra hS he
    go_enter Tryz.func25, Tryz.ntmps25
    go_upto_region 1 with fail
    rw [← hw0, ← hq0]
    clear hw0 hq0
    have x0 : w0.cell? ⟨q0, 0, none⟩ = some (.slice ra R.length rc) := by rw [HQ.out, HS.out.x0.cell]; rfl
    have x1 : w0.cell? ⟨q0, 1, none⟩ = some (.int .i64 wm) := by rw [HQ.out, HS.out.x0.cell]; rfl
    have y0 : w0.cell? ⟨q0 + 1, 0, none⟩ = some (.slice none 0 0) := by rw [HQ1.out, HS.out.x1.cell]; rfl
    have y1 : w0.cell? ⟨q0 + 1, 1, none⟩ = some (.int .i64 0) := by rw [HQ1.out, HS.out.x1.cell]; rfl
    have f0 : w0.frozen? ⟨q0 + 1, 0, none⟩ = false := by rw [HQ1.out]; exact HS.out.x1.free 0
    have f1 : w0.frozen? ⟨q0 + 1, 1, none⟩ = false := by rw [HQ1.out]; exact HS.out.x1.free 1
    obtain ⟨d1, d2, d3, d4⟩ := HS.out.fin
    rw [← HQ1.out] at d1 d2 d3 d4
    have HD1 := Lib.hid d1
    have HD2 := Lib.hid d2
    clear d1 d2
    go_wp2
    refine bodyPost_ret (by simp [results, Tryz.results25, go_sem, d3, d4]) rfl ⟨_, rfl, HD1.out, HD2.out⟩
end Go.Proofs.YtmjdngomjjhhiaaGreat
