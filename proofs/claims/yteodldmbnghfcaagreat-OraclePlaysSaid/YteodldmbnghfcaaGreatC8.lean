/- The walk of code.Encode. -/
import Derived.Test.YteodldmbnghfcaaGreatC7
namespace Go.Proofs.YteodldmbnghfcaaGreat
open Go.RowKit

/-- The four new blocks of Encode. -/
def encW (w : World) (cs : Array Value) : World := (((w.alloc (.cells cs 43)).alloc (.cells #[.slice none 0 0] 68)).alloc (.cells #[.int .i64 0] 25)).alloc (.cells #[.slice none 0 0] 157)
theorem encW_size (w : World) (cs : Array Value) : (encW w cs).heap.size = w.heap.size + 4 := by simp [encW]
theorem encW_below (w : World) (cs : Array Value) : Below w.heap.size w (encW w cs) :=
  ((((Below.refl _ _).alloc (Nat.le_refl _) _).alloc (by simp) _).alloc (by simp; omega) _).alloc (by simp; omega) _
theorem encW_at (w : World) (cs : Array Value) : Whole (encW w cs) w.heap.size 43 cs ∧ Whole (encW w cs) (w.heap.size + 1) 68 #[.slice none 0 0] ∧ Whole (encW w cs) (w.heap.size + 2) 25 #[.int .i64 0] ∧ Whole (encW w cs) (w.heap.size + 3) 157 #[.slice none 0 0] := by
  obtain ⟨w1, h1⟩ : ∃ w1, w1 = w.alloc (.cells cs 43) := ⟨_, rfl⟩
  obtain ⟨w2, h2⟩ : ∃ w2, w2 = w1.alloc (.cells #[.slice none 0 0] 68) := ⟨_, rfl⟩
  obtain ⟨w3, h3⟩ : ∃ w3, w3 = w2.alloc (.cells #[.int .i64 0] 25) := ⟨_, rfl⟩
  obtain ⟨w4, h4⟩ : ∃ w4, w4 = w3.alloc (.cells #[.slice none 0 0] 157) := ⟨_, rfl⟩
  have e : encW w cs = w4 := by rw [h4, h3, h2, h1]; rfl
  have s1 : w1.heap.size = w.heap.size + 1 := by rw [h1]; simp
  have s2 : w2.heap.size = w.heap.size + 2 := by rw [h2]; simp [s1]
  have s3 : w3.heap.size = w.heap.size + 3 := by rw [h3]; simp [s2]
  rw [e]
  have a0 : Whole w1 w.heap.size 43 cs := by rw [h1]; exact heap_alloc_new w _
  have a1 : Whole w2 (w.heap.size + 1) 68 #[.slice none 0 0] := by rw [h2, ← s1]; exact heap_alloc_new w1 _
  have a2 : Whole w3 (w.heap.size + 2) 25 #[.int .i64 0] := by rw [h3, ← s2]; exact heap_alloc_new w2 _
  have a3 : Whole w4 (w.heap.size + 3) 157 #[.slice none 0 0] := by rw [h4, ← s3]; exact heap_alloc_new w3 _
  have k2 : ∀ k, k < w.heap.size + 1 → w2.heap[k]? = w1.heap[k]? := fun k hk => by rw [h2]; exact Below.heap_alloc _ _ _ (by omega)
  have k3 : ∀ k, k < w.heap.size + 2 → w3.heap[k]? = w2.heap[k]? := fun k hk => by rw [h3]; exact Below.heap_alloc _ _ _ (by omega)
  have k4 : ∀ k, k < w.heap.size + 3 → w4.heap[k]? = w3.heap[k]? := fun k hk => by rw [h4]; exact Below.heap_alloc _ _ _ (by omega)
  exact ⟨((a0.kept (k2 _ (by omega))).kept (k3 _ (by omega))).kept (k4 _ (by omega)), (a1.kept (k3 _ (by omega))).kept (k4 _ (by omega)), a2.kept (k4 _ (by omega)), a3⟩
theorem encW_wat (w : World) (cs : Array Value) : WAt (encW w cs) w.heap.size (w.heap.size + 3) (.slice none 0 0) [] :=
  ⟨(encW_at w cs).2.2.2, by omega, ⟨rfl, .inl ⟨rfl, rfl⟩⟩, by simp⟩
theorem MsgAt.below {w w' : World} {B : Nat} {V : Value} {m : MsgD} {na ma pa ra : Option Addr} {nn nc mn mc pn pc rn rc : Nat} (hm : MsgAt w B V m na ma pa ra nn nc mn mc pn pc rn rc) (hb : Below B w w') : MsgAt w' B V m na ma pa ra nn nc mn mc pn pc rn rc := by
  obtain ⟨rfl, hk0, hk1, hk2, hk3, hk4, hk5, hk6, hnodes, hmuts, hpre, hrows, hln, hlm, hlp, hlr⟩ := hm
  exact ⟨rfl, hk0, hk1, hk2, hk3, hk4, hk5, hk6, hnodes.below hb, hmuts.below hb, hpre.below hb, hrows.below hb, hln, hlm, hlp, hlr⟩

/-- Encode's answer: the bytes, or the error. -/
def EncOk (w : World) (xs : List Int) (e : Ending) (w' : World) : Prop := ∃ v', e = .returned (.tuple #[v', .int .i64 0]) ∧ w'.ownsRow w.heap.size 5 1 v' xs.length (xs.map (Value.int .u8)) ∧ Below w.heap.size w w'
def EncNo (w : World) (e : Ending) (w' : World) : Prop := e = .returned (.tuple #[.slice none 0 0, .int .i64 2]) ∧ Below w.heap.size w w'

set_option maxRecDepth 100000 in
set_option maxHeartbeats 4000000 in
theorem encode_fits (V : Value) (m : MsgD) (na ma pa ra : Option Addr) (nn nc mn mc pn pc rn rc : Nat) (w : World) (hm : MsgAt w w.heap.size V m na ma pa ra nn nc mn mc pn pc rn rc) (ok : m.ok) (hl : (enc m).length ≤ 16384) :
    Calls Tryz.prog 65 #[V] w (EncOk w (enc m)) := by
  have hmf : ∀ (fn : Fn) (first cap : Array Value) (w : World), (Instr.makeFunc fn first cap).run Tryz.prog w = .ok (.func fn first cap) w := fun _ _ _ _ => rfl
  have HM := Lib.hid hm
  obtain ⟨rfl, _, _, _, _, _, _, _, _, _, _, _, _, _, _, _⟩ := hm
  go_enter_defers Tryz.func65, Tryz.ntmps65
  go_wp2_with fail
  refine (show Calls Tryz.prog 76 #[.pointer (some ⟨w.heap.size + 3, 0, none⟩), .agg #[.int .i64 m.kind, .int .i64 m.from_, .int .i64 m.to, .int .i64 m.id, .int .i64 m.rev, .int .i64 m.epoch, .int .i64 m.slot, .bool m.flag, .slice na nn nc, .slice ma mn mc, .slice pa pn pc, .slice ra rn rc]] (encW w #[.int .i64 m.kind, .int .i64 m.from_, .int .i64 m.to, .int .i64 m.id, .int .i64 m.rev, .int .i64 m.epoch, .int .i64 m.slot, .bool m.flag, .slice na nn nc, .slice ma mn mc, .slice pa pn pc, .slice ra rn rc]) _ from (message_fits w.heap.size (w.heap.size + 3) _ _ m na ma pa ra nn nc mn mc pn pc rn rc _ (encW_wat w _) (HM.out.below (encW_below w _)) ok (by rw [encW_size]; omega)).mono ?_)
  rintro e w1 ⟨rfl, v1, h1, hf1, hB1⟩
  obtain ⟨hc0, hc1, hc2, hc3⟩ := encW_at w #[.int .i64 m.kind, .int .i64 m.from_, .int .i64 m.to, .int .i64 m.id, .int .i64 m.rev, .int .i64 m.epoch, .int .i64 m.slot, .bool m.flag, .slice na nn nc, .slice ma mn mc, .slice pa pn pc, .slice ra rn rc]
  have h1p := hf1.whole hc1 (by decide) (by omega)
  have h1q := hf1.whole hc2 (by decide) (by omega)
  have kp : w1.cell? ⟨w.heap.size + 1, 0, none⟩ = some (.slice none 0 0) := by rw [h1p.cell]; rfl
  have kq : w1.cell? ⟨w.heap.size + 1 + 1, 0, none⟩ = some (.int .i64 0) := by rw [show w.heap.size + 1 + 1 = w.heap.size + 2 from rfl, h1q.cell]; rfl
  have kg : w1.cell? ⟨w.heap.size + 1 + 1 + 1, 0, none⟩ = some v1 := by rw [show w.heap.size + 1 + 1 + 1 = w.heap.size + 3 from rfl, h1.blk.cell]; rfl
  have zp : w1.frozen? ⟨w.heap.size + 1, 0, none⟩ = false := h1p.free 0
  have zq : w1.frozen? ⟨w.heap.size + 1 + 1, 0, none⟩ = false := h1q.free 0
  have zg : w1.frozen? ⟨w.heap.size + 1 + 1 + 1, 0, none⟩ = false := h1.blk.free 0
  have hap : v1.ownBlock ≠ some (w.heap.size + 1) := whole_apart h1p (by decide) h1.own
  have haq : v1.ownBlock ≠ some (w.heap.size + 2) := whole_apart h1q (by decide) h1.own
  have hbl := (encW_below w #[.int .i64 m.kind, .int .i64 m.from_, .int .i64 m.to, .int .i64 m.id, .int .i64 m.rev, .int .i64 m.epoch, .int .i64 m.slot, .bool m.flag, .slice na nn nc, .slice ma mn mc, .slice pa pn pc, .slice ra rn rc]).trans hf1.below
  obtain ⟨va, vc, rfl, _, _⟩ := owned_any h1.own
  obtain ⟨xs, hxs⟩ : ∃ xs, xs = enc m := ⟨_, rfl⟩
  rw [← hxs] at h1 hl kg hap haq ⊢
  have H1 := Lib.hid h1
  have HBL := Lib.hid hbl
  have HX := Lib.hid hxs
  have hpq : (⟨w.heap.size + 1, 0, none⟩ : Addr) ≠ ⟨w.heap.size + 1 + 1, 0, none⟩ := by intro h; injection h with h; omega
  clear hbl h1 h1p h1q hf1 hc0 hc1 hc2 hc3 HM hxs
  go_wp2
  refine leaves_cons (f := 75) (args := #[.pointer (some ⟨w.heap.size + 1, 0, none⟩), .pointer (some ⟨w.heap.size + 1 + 1, 0, none⟩)]) (by simp) (by simp [go_sem]) ?_
  refine (ecatch_idle _ _ _).mono ?_
  rintro e u' w'' ⟨rfl, rfl, rfl⟩
  have c1 : ((w1.setCell ⟨w.heap.size + 1, 0, none⟩ (.slice va xs.length vc)).setCell ⟨w.heap.size + 1 + 1, 0, none⟩ (.int .i64 0)).cell? ⟨w.heap.size + 1, 0, none⟩ = some (.slice va xs.length vc) := by
    rw [World.cell?_setCell_other _ _ _ _ (Ne.symm hpq)]; exact World.cell?_setCell_same _ _ _ kp
  have c2 : ((w1.setCell ⟨w.heap.size + 1, 0, none⟩ (.slice va xs.length vc)).setCell ⟨w.heap.size + 1 + 1, 0, none⟩ (.int .i64 0)).cell? ⟨w.heap.size + 1 + 1, 0, none⟩ = some (.int .i64 0) := by
    exact World.cell?_setCell_same _ _ _ (show (w1.setCell ⟨w.heap.size + 1, 0, none⟩ (.slice va xs.length vc)).cell? ⟨w.heap.size + 1 + 1, 0, none⟩ = some (.int .i64 0) by rw [World.cell?_setCell_other _ _ _ _ hpq]; exact kq)
  simp [Leaves, settle, results, Tryz.results65, go_sem, c1, c2]
  refine ⟨_, rfl, ?_, ((HBL.out.setCell (p := ⟨w.heap.size + 1, 0, none⟩) (by simp) _).setCell (p := ⟨w.heap.size + 1 + 1, 0, none⟩) (by simp; omega) _)⟩
  rw [← HX.out]
  exact owns_far (owns_far H1.out.own _ 0 hap _) _ 0 haq _
set_option maxRecDepth 100000 in
set_option maxHeartbeats 4000000 in
theorem encode_big (V : Value) (m : MsgD) (na ma pa ra : Option Addr) (nn nc mn mc pn pc rn rc : Nat) (w : World) (hm : MsgAt w w.heap.size V m na ma pa ra nn nc mn mc pn pc rn rc) (ok : m.ok) (hl : 16384 < (enc m).length) :
    Calls Tryz.prog 65 #[V] w (EncNo w) := by
  have hmf : ∀ (fn : Fn) (first cap : Array Value) (w : World), (Instr.makeFunc fn first cap).run Tryz.prog w = .ok (.func fn first cap) w := fun _ _ _ _ => rfl
  have HM := Lib.hid hm
  obtain ⟨rfl, _, _, _, _, _, _, _, _, _, _, _, _, _, _, _⟩ := hm
  go_enter_defers Tryz.func65, Tryz.ntmps65
  go_wp2_with fail
  refine (show Calls Tryz.prog 76 #[.pointer (some ⟨w.heap.size + 3, 0, none⟩), .agg #[.int .i64 m.kind, .int .i64 m.from_, .int .i64 m.to, .int .i64 m.id, .int .i64 m.rev, .int .i64 m.epoch, .int .i64 m.slot, .bool m.flag, .slice na nn nc, .slice ma mn mc, .slice pa pn pc, .slice ra rn rc]] (encW w #[.int .i64 m.kind, .int .i64 m.from_, .int .i64 m.to, .int .i64 m.id, .int .i64 m.rev, .int .i64 m.epoch, .int .i64 m.slot, .bool m.flag, .slice na nn nc, .slice ma mn mc, .slice pa pn pc, .slice ra rn rc]) _ from (message_fits w.heap.size (w.heap.size + 3) _ _ m na ma pa ra nn nc mn mc pn pc rn rc _ (encW_wat w _) (HM.out.below (encW_below w _)) ok (by rw [encW_size]; omega)).mono ?_)
  rintro e w1 ⟨rfl, v1, h1, hf1, hB1⟩
  obtain ⟨hc0, hc1, hc2, hc3⟩ := encW_at w #[.int .i64 m.kind, .int .i64 m.from_, .int .i64 m.to, .int .i64 m.id, .int .i64 m.rev, .int .i64 m.epoch, .int .i64 m.slot, .bool m.flag, .slice na nn nc, .slice ma mn mc, .slice pa pn pc, .slice ra rn rc]
  have h1p := hf1.whole hc1 (by decide) (by omega)
  have h1q := hf1.whole hc2 (by decide) (by omega)
  have kp : w1.cell? ⟨w.heap.size + 1, 0, none⟩ = some (.slice none 0 0) := by rw [h1p.cell]; rfl
  have kq : w1.cell? ⟨w.heap.size + 1 + 1, 0, none⟩ = some (.int .i64 0) := by rw [show w.heap.size + 1 + 1 = w.heap.size + 2 from rfl, h1q.cell]; rfl
  have kg : w1.cell? ⟨w.heap.size + 1 + 1 + 1, 0, none⟩ = some v1 := by rw [show w.heap.size + 1 + 1 + 1 = w.heap.size + 3 from rfl, h1.blk.cell]; rfl
  have zp : w1.frozen? ⟨w.heap.size + 1, 0, none⟩ = false := h1p.free 0
  have zq : w1.frozen? ⟨w.heap.size + 1 + 1, 0, none⟩ = false := h1q.free 0
  have zg : w1.frozen? ⟨w.heap.size + 1 + 1 + 1, 0, none⟩ = false := h1.blk.free 0
  have hap : v1.ownBlock ≠ some (w.heap.size + 1) := whole_apart h1p (by decide) h1.own
  have haq : v1.ownBlock ≠ some (w.heap.size + 2) := whole_apart h1q (by decide) h1.own
  have hbl := (encW_below w #[.int .i64 m.kind, .int .i64 m.from_, .int .i64 m.to, .int .i64 m.id, .int .i64 m.rev, .int .i64 m.epoch, .int .i64 m.slot, .bool m.flag, .slice na nn nc, .slice ma mn mc, .slice pa pn pc, .slice ra rn rc]).trans hf1.below
  obtain ⟨va, vc, rfl, _, _⟩ := owned_any h1.own
  obtain ⟨xs, hxs⟩ : ∃ xs, xs = enc m := ⟨_, rfl⟩
  rw [← hxs] at h1 hl kg hap haq
  have H1 := Lib.hid h1
  have HBL := Lib.hid hbl
  have HX := Lib.hid hxs
  have hpq : (⟨w.heap.size + 1, 0, none⟩ : Addr) ≠ ⟨w.heap.size + 1 + 1, 0, none⟩ := by intro h; injection h with h; omega
  clear hbl h1 h1p h1q hf1 hc0 hc1 hc2 hc3 HM hxs
  go_wp2
  refine leaves_cons (f := 75) (args := #[.pointer (some ⟨w.heap.size + 1, 0, none⟩), .pointer (some ⟨w.heap.size + 1 + 1, 0, none⟩)]) (by simp) (by simp [go_sem]) ?_
  refine (ecatch_idle _ _ _).mono ?_
  rintro e u' w'' ⟨rfl, rfl, rfl⟩
  have c1 : ((w1.setCell ⟨w.heap.size + 1, 0, none⟩ (.slice none 0 0)).setCell ⟨w.heap.size + 1 + 1, 0, none⟩ (.int .i64 2)).cell? ⟨w.heap.size + 1, 0, none⟩ = some (.slice none 0 0) := by
    rw [World.cell?_setCell_other _ _ _ _ (Ne.symm hpq)]; exact World.cell?_setCell_same _ _ _ kp
  have c2 : ((w1.setCell ⟨w.heap.size + 1, 0, none⟩ (.slice none 0 0)).setCell ⟨w.heap.size + 1 + 1, 0, none⟩ (.int .i64 2)).cell? ⟨w.heap.size + 1 + 1, 0, none⟩ = some (.int .i64 2) := by
    exact World.cell?_setCell_same _ _ _ (show (w1.setCell ⟨w.heap.size + 1, 0, none⟩ (.slice none 0 0)).cell? ⟨w.heap.size + 1 + 1, 0, none⟩ = some (.int .i64 0) by rw [World.cell?_setCell_other _ _ _ _ hpq]; exact kq)
  simp [Leaves, settle, results, Tryz.results65, go_sem, c1, c2]
  exact ⟨rfl, ((HBL.out.setCell (p := ⟨w.heap.size + 1, 0, none⟩) (by simp) _).setCell (p := ⟨w.heap.size + 1 + 1, 0, none⟩) (by simp; omega) _)⟩
set_option maxRecDepth 100000 in
set_option maxHeartbeats 4000000 in
theorem encode_long (V : Value) (m : MsgD) (na ma pa ra : Option Addr) (nn nc mn mc pn pc rn rc : Nat) (w : World) (hm : MsgAt w w.heap.size V m na ma pa ra nn nc mn mc pn pc rn rc) (bad : ¬ m.ok) :
    Calls Tryz.prog 65 #[V] w (EncNo w) := by
  have hmf : ∀ (fn : Fn) (first cap : Array Value) (w : World), (Instr.makeFunc fn first cap).run Tryz.prog w = .ok (.func fn first cap) w := fun _ _ _ _ => rfl
  have HM := Lib.hid hm
  obtain ⟨rfl, _, _, _, _, _, _, _, _, _, _, _, _, _, _, _⟩ := hm
  go_enter_defers Tryz.func65, Tryz.ntmps65
  go_wp2_with fail
  refine (show Calls Tryz.prog 76 #[.pointer (some ⟨w.heap.size + 3, 0, none⟩), .agg #[.int .i64 m.kind, .int .i64 m.from_, .int .i64 m.to, .int .i64 m.id, .int .i64 m.rev, .int .i64 m.epoch, .int .i64 m.slot, .bool m.flag, .slice na nn nc, .slice ma mn mc, .slice pa pn pc, .slice ra rn rc]] (encW w #[.int .i64 m.kind, .int .i64 m.from_, .int .i64 m.to, .int .i64 m.id, .int .i64 m.rev, .int .i64 m.epoch, .int .i64 m.slot, .bool m.flag, .slice na nn nc, .slice ma mn mc, .slice pa pn pc, .slice ra rn rc]) _ from (message_long w.heap.size (w.heap.size + 3) _ _ m na ma pa ra nn nc mn mc pn pc rn rc _ (encW_wat w _) (HM.out.below (encW_below w _)) bad (by rw [encW_size]; omega)).mono ?_)
  rintro e w1 ⟨rfl, hb1, hB1, ho1⟩
  obtain ⟨hc0, hc1, hc2, hc3⟩ := encW_at w #[.int .i64 m.kind, .int .i64 m.from_, .int .i64 m.to, .int .i64 m.id, .int .i64 m.rev, .int .i64 m.epoch, .int .i64 m.slot, .bool m.flag, .slice na nn nc, .slice ma mn mc, .slice pa pn pc, .slice ra rn rc]
  have h1p : Whole w1 (w.heap.size + 1) 68 #[.slice none 0 0] := ho1 _ _ _ _ (by decide) (by omega) hc1
  have h1q : Whole w1 (w.heap.size + 2) 25 #[.int .i64 0] := ho1 _ _ _ _ (by decide) (by omega) hc2
  have kp : w1.cell? ⟨w.heap.size + 1, 0, none⟩ = some (.slice none 0 0) := by rw [h1p.cell]; rfl
  have kq : w1.cell? ⟨w.heap.size + 1 + 1, 0, none⟩ = some (.int .i64 0) := by rw [show w.heap.size + 1 + 1 = w.heap.size + 2 from rfl, h1q.cell]; rfl
  have zp : w1.frozen? ⟨w.heap.size + 1, 0, none⟩ = false := h1p.free 0
  have zq : w1.frozen? ⟨w.heap.size + 1 + 1, 0, none⟩ = false := h1q.free 0
  have hbl := (encW_below w #[.int .i64 m.kind, .int .i64 m.from_, .int .i64 m.to, .int .i64 m.id, .int .i64 m.rev, .int .i64 m.epoch, .int .i64 m.slot, .bool m.flag, .slice na nn nc, .slice ma mn mc, .slice pa pn pc, .slice ra rn rc]).trans hb1
  have HBL := Lib.hid hbl
  have hpq : (⟨w.heap.size + 1, 0, none⟩ : Addr) ≠ ⟨w.heap.size + 1 + 1, 0, none⟩ := by intro h; injection h with h; omega
  clear hbl h1p h1q hb1 ho1 hc0 hc1 hc2 hc3 HM
  go_wp2
  refine leaves_cons (f := 75) (args := #[.pointer (some ⟨w.heap.size + 1, 0, none⟩), .pointer (some ⟨w.heap.size + 1 + 1, 0, none⟩)]) (by simp) (by simp [go_sem]) ?_
  refine (ecatch_panicking _ _ hpq _ _ _ kp zp kq zq).mono ?_
  rintro e u' w'' ⟨rfl, rfl, rfl⟩
  have c1 : ((w1.setCell ⟨w.heap.size + 1, 0, none⟩ (.slice none 0 0)).setCell ⟨w.heap.size + 1 + 1, 0, none⟩ (.int .i64 2)).cell? ⟨w.heap.size + 1, 0, none⟩ = some (.slice none 0 0) := by
    rw [World.cell?_setCell_other _ _ _ _ (Ne.symm hpq)]; exact World.cell?_setCell_same _ _ _ kp
  have c2 : ((w1.setCell ⟨w.heap.size + 1, 0, none⟩ (.slice none 0 0)).setCell ⟨w.heap.size + 1 + 1, 0, none⟩ (.int .i64 2)).cell? ⟨w.heap.size + 1 + 1, 0, none⟩ = some (.int .i64 2) := by
    exact World.cell?_setCell_same _ _ _ (show (w1.setCell ⟨w.heap.size + 1, 0, none⟩ (.slice none 0 0)).cell? ⟨w.heap.size + 1 + 1, 0, none⟩ = some (.int .i64 0) by rw [World.cell?_setCell_other _ _ _ _ hpq]; exact kq)
  simp [Leaves, settle, results, Tryz.results65, go_sem, c1, c2]
  exact ⟨rfl, ((HBL.out.setCell (p := ⟨w.heap.size + 1, 0, none⟩) (by simp) _).setCell (p := ⟨w.heap.size + 1 + 1, 0, none⟩) (by simp; omega) _).trans (show Below _ _ (World.drew _) from ⟨rfl, rfl, rfl, Nat.le_refl _, fun _ _ => rfl⟩)⟩
end Go.Proofs.YteodldmbnghfcaaGreat
