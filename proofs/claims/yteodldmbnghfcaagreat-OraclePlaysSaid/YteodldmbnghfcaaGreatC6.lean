/- The writer's message. -/
import Derived.Test.YteodldmbnghfcaaGreatC5
namespace Go.Proofs.YteodldmbnghfcaaGreat
open Go.RowKit

/-- A message. -/
structure MsgD where
  kind : Int
  from_ : Int
  to : Int
  id : Int
  rev : Int
  epoch : Int
  slot : Int
  flag : Bool
  nodes : List Int
  muts : List Mut
  pre : List Mut
  rows : List RowD
def In64 (x : Int) : Prop := -9223372036854775808 ≤ x ∧ x ≤ 9223372036854775807
/-- A message as it lies in memory, its lists ahead of block B. -/
structure MsgAt (w : World) (B : Nat) (V : Value) (m : MsgD) (na ma pa ra : Option Addr) (nn nc mn mc pn pc rn rc : Nat) : Prop where
  val : V = .agg #[.int .i64 m.kind, .int .i64 m.from_, .int .i64 m.to, .int .i64 m.id, .int .i64 m.rev, .int .i64 m.epoch, .int .i64 m.slot, .bool m.flag, .slice na nn nc, .slice ma mn mc, .slice pa pn pc, .slice ra rn rc]
  kind : In64 m.kind
  from_ : In64 m.from_
  to : In64 m.to
  id : In64 m.id
  rev : In64 m.rev
  epoch : In64 m.epoch
  slot : In64 m.slot
  nodes : IntsAt w B na nn m.nodes
  muts : MutsAt w B ma mn m.muts
  pre : MutsAt w B pa pn m.pre
  rows : RowsAt w B ra rn m.rows
  ln : nn ≤ 9223372036854775807
  lm : mn ≤ 9223372036854775807
  lp : pn ≤ 9223372036854775807
  lr : rn ≤ 9223372036854775807
/-- No list too long, no text too long. -/
structure MsgD.ok (m : MsgD) : Prop where
  nodes : m.nodes.length ≤ 1024
  muts : m.muts.length ≤ 1024 ∧ ∀ x ∈ m.muts, x.ok
  pre : m.pre.length ≤ 1024 ∧ ∀ x ∈ m.pre, x.ok
  rows : m.rows.length ≤ 1024 ∧ ∀ x ∈ m.rows, x.ok
/-- A message's bytes. -/
def enc (m : MsgD) : List Int :=
  Vi.int m.kind ++ (Vi.int m.from_ ++ (Vi.int m.to ++ (Vi.int m.id ++ (Vi.int m.rev ++ (Vi.int m.epoch ++ (Vi.int m.slot ++ ([bit m.flag] ++ (lst Vi.int m.nodes ++ (lst mutB m.muts ++ (lst mutB m.pre ++ lst rowOf m.rows))))))))))
theorem lst_length {α : Type} (f : α → List Int) (l : List α) (h : ∀ x ∈ l, (f x).length ≤ 450) (hl : l.length ≤ 1024) : (lst f l).length ≤ 460810 := by
  have h1 := flat_len f l h
  have h2 := Vi.int_length (l.length : Int) (by omega) (by omega)
  rw [lst, List.length_append]
  omega
theorem IntsAt.below {w w' : World} {B : Nat} {a : Option Addr} {n : Nat} {l : List Int} (h : IntsAt w B a n l) (hb : Below B w w') : IntsAt w' B a n l := by
  refine ⟨h.1, h.2.imp_right ?_⟩
  rintro ⟨b, off, h1, h2, h3⟩
  exact ⟨b, off, h1, h2, fun i z hz => ⟨(hb.cell (p := ⟨b, off + i, none⟩) h2).trans (h3 i z hz).1, (h3 i z hz).2⟩⟩
theorem MutsAt.below {w w' : World} {B : Nat} {a : Option Addr} {n : Nat} {l : List Mut} (h : MutsAt w B a n l) (hb : Below B w w') : MutsAt w' B a n l := by
  refine ⟨h.1, h.2.imp_right ?_⟩
  rintro ⟨b, off, h1, h2, h3⟩
  refine ⟨b, off, h1, h2, fun i z hz => ?_⟩
  obtain ⟨k0, k1, k2, k3, k4⟩ := h3 i z hz
  exact ⟨(hb.cell (p := ⟨b, off + i * 4, none⟩) h2).trans k0, (hb.cell (p := ⟨b, off + i * 4 + 1, none⟩) h2).trans k1, (hb.cell (p := ⟨b, off + i * 4 + 2, none⟩) h2).trans k2, (hb.cell (p := ⟨b, off + i * 4 + 3, none⟩) h2).trans k3, k4⟩
theorem RowsAt.below {w w' : World} {B : Nat} {a : Option Addr} {n : Nat} {l : List RowD} (h : RowsAt w B a n l) (hb : Below B w w') : RowsAt w' B a n l := by
  refine ⟨h.1, h.2.imp_right ?_⟩
  rintro ⟨b, off, h1, h2, h3⟩
  refine ⟨b, off, h1, h2, fun i z hz => ?_⟩
  obtain ⟨k0, k1, k2, k3, k4, k5⟩ := h3 i z hz
  exact ⟨(hb.cell (p := ⟨b, off + i * 5, none⟩) h2).trans k0, (hb.cell (p := ⟨b, off + i * 5 + 1, none⟩) h2).trans k1, (hb.cell (p := ⟨b, off + i * 5 + 2, none⟩) h2).trans k2, (hb.cell (p := ⟨b, off + i * 5 + 3, none⟩) h2).trans k3, (hb.cell (p := ⟨b, off + i * 5 + 4, none⟩) h2).trans k4, k5⟩
theorem rows_450 {w : World} {B : Nat} {a : Option Addr} {n : Nat} {l : List RowD} (h : RowsAt w B a n l) (ok : ∀ x ∈ l, x.ok) : ∀ x ∈ l, (rowOf x).length ≤ 450 := by
  intro x hx
  obtain ⟨q, hq⟩ := List.getElem?_of_mem hx
  rcases h.2 with h0 | ⟨b, off, _, _, hcc⟩
  · have := (List.getElem?_eq_some_iff.1 hq).1
    have := h.1
    omega
  · obtain ⟨_, _, _, _, _, _, _, _, hs, hu⟩ := hcc q x hq
    exact rowOf_length (ok x hx) hs hu
theorem ints_450 {w : World} {B : Nat} {a : Option Addr} {n : Nat} {l : List Int} (h : IntsAt w B a n l) : ∀ x ∈ l, (Vi.int x).length ≤ 450 := by
  intro x hx
  obtain ⟨q, hq⟩ := List.getElem?_of_mem hx
  rcases h.2 with h0 | ⟨b, off, _, _, hcc⟩
  · have := (List.getElem?_eq_some_iff.1 hq).1
    have := h.1
    omega
  · obtain ⟨_, h1, h2⟩ := hcc q x hq
    have := Vi.int_length x h1 h2
    omega

set_option maxRecDepth 100000 in
set_option maxHeartbeats 8000000 in
theorem message_fits (B g : Nat) (v V : Value) (m : MsgD) (na ma pa ra : Option Addr) (nn nc mn mc pn pc rn rc : Nat) (w : World) (h : WAt w B g v []) (hm : MsgAt w B V m na ma pa ra nn nc mn mc pn pc rn rc) (ok : m.ok) (hB : B ≤ w.heap.size) :
    Calls Tryz.prog 76 #[.pointer (some ⟨g, 0, none⟩), V] w (WDone w B g (enc m)) := by
  have hmf : ∀ (fn : Fn) (first cap : Array Value) (w : World), (Instr.makeFunc fn first cap).run Tryz.prog w = .ok (.func fn first cap) w := fun _ _ _ _ => rfl
  obtain ⟨rfl, hk0, hk1, hk2, hk3, hk4, hk5, hk6, hnodes, hmuts, hpre, hrows, hln, hlm, hlp, hlr⟩ := hm
  have h0 := (h.alloc (.cells #[.pointer (some ⟨g, 0, none⟩)] 155)).alloc (.cells #[.int .i64 m.kind, .int .i64 m.from_, .int .i64 m.to, .int .i64 m.id, .int .i64 m.rev, .int .i64 m.epoch, .int .i64 m.slot, .bool m.flag, .slice na nn nc, .slice ma mn mc, .slice pa pn pc, .slice ra rn rc] 43)
  have hv0 : Whole ((w.alloc (.cells #[.pointer (some ⟨g, 0, none⟩)] 155)).alloc (.cells #[.int .i64 m.kind, .int .i64 m.from_, .int .i64 m.to, .int .i64 m.id, .int .i64 m.rev, .int .i64 m.epoch, .int .i64 m.slot, .bool m.flag, .slice na nn nc, .slice ma mn mc, .slice pa pn pc, .slice ra rn rc] 43)) w.heap.size 155 #[.pointer (some ⟨g, 0, none⟩)] :=
    (show Whole (w.alloc (.cells #[.pointer (some ⟨g, 0, none⟩)] 155)) w.heap.size 155 #[.pointer (some ⟨g, 0, none⟩)] from heap_alloc_new w _).kept (Below.heap_alloc _ _ _ (by simp))
  have hm0 : Whole ((w.alloc (.cells #[.pointer (some ⟨g, 0, none⟩)] 155)).alloc (.cells #[.int .i64 m.kind, .int .i64 m.from_, .int .i64 m.to, .int .i64 m.id, .int .i64 m.rev, .int .i64 m.epoch, .int .i64 m.slot, .bool m.flag, .slice na nn nc, .slice ma mn mc, .slice pa pn pc, .slice ra rn rc] 43)) (w.heap.size + 1) 43 #[.int .i64 m.kind, .int .i64 m.from_, .int .i64 m.to, .int .i64 m.id, .int .i64 m.rev, .int .i64 m.epoch, .int .i64 m.slot, .bool m.flag, .slice na nn nc, .slice ma mn mc, .slice pa pn pc, .slice ra rn rc] := by
    have hz : (w.alloc (.cells #[.pointer (some ⟨g, 0, none⟩)] 155)).heap.size = w.heap.size + 1 := by simp
    rw [← hz]
    exact heap_alloc_new (w.alloc (.cells #[.pointer (some ⟨g, 0, none⟩)] 155)) _
  have hB0 : B ≤ ((w.alloc (.cells #[.pointer (some ⟨g, 0, none⟩)] 155)).alloc (.cells #[.int .i64 m.kind, .int .i64 m.from_, .int .i64 m.to, .int .i64 m.id, .int .i64 m.rev, .int .i64 m.epoch, .int .i64 m.slot, .bool m.flag, .slice na nn nc, .slice ma mn mc, .slice pa pn pc, .slice ra rn rc] 43)).heap.size := by simp; omega
  have hf0 : WF B g w ((w.alloc (.cells #[.pointer (some ⟨g, 0, none⟩)] 155)).alloc (.cells #[.int .i64 m.kind, .int .i64 m.from_, .int .i64 m.to, .int .i64 m.id, .int .i64 m.rev, .int .i64 m.epoch, .int .i64 m.slot, .bool m.flag, .slice na nn nc, .slice ma mn mc, .slice pa pn pc, .slice ra rn rc] 43)) := ((WF.refl B g w).alloc hB _).alloc (by simp; omega) _
  have hnv := h0.typed hv0 (by decide)
  have hnm := h0.typed hm0 (by decide)
  have HV := Lib.hid hv0
  have HM := Lib.hid hm0
  have HNV := Lib.hid hnv
  have HNM := Lib.hid hnm
  have HW0 := Lib.hid h0
  have HF0 := Lib.hid hf0
  have HND := Lib.hid (hnodes.below hf0.below)
  have HMU := Lib.hid (hmuts.below hf0.below)
  have HPR := Lib.hid (hpre.below hf0.below)
  have HRO := Lib.hid (hrows.below hf0.below)
  have e0 := Vi.int_length m.kind hk0.1 hk0.2
  have e1 := Vi.int_length m.from_ hk1.1 hk1.2
  have e2 := Vi.int_length m.to hk2.1 hk2.2
  have e3 := Vi.int_length m.id hk3.1 hk3.2
  have e4 := Vi.int_length m.rev hk4.1 hk4.2
  have e5 := Vi.int_length m.epoch hk5.1 hk5.2
  have e6 := Vi.int_length m.slot hk6.1 hk6.2
  unfold In64 at hk0 hk1 hk2 hk3 hk4 hk5 hk6
  clear h h0 hv0 hm0 hnv hnm hnodes hmuts hpre hrows
  go_enter Tryz.func76, Tryz.ntmps76
  go_wp2_with fail
  generalize hW0 : (w.alloc (.cells #[.pointer (some ⟨g, 0, none⟩)] 155)).alloc (.cells #[.int .i64 m.kind, .int .i64 m.from_, .int .i64 m.to, .int .i64 m.id, .int .i64 m.rev, .int .i64 m.epoch, .int .i64 m.slot, .bool m.flag, .slice na nn nc, .slice ma mn mc, .slice pa pn pc, .slice ra rn rc] 43) = W0 at *
  have HWW := Lib.hid hW0
  clear hW0
  obtain ⟨hok1, hok2, hok3, hok4⟩ := ok
  refine (wnumber_any B g v [] m.kind _ HW0.out hk0.1 hk0.2 hB0 (by simp)).mono ?_
  rintro e w1 ⟨rfl, v1, h1, hf1, hB1⟩
  obtain ⟨E1, hE1⟩ : ∃ E, E = [] ++ Vi.int m.kind := ⟨_, rfl⟩
  have hl1 : E1.length ≤ 10 := by rw [hE1, List.length_append, List.length_nil]; omega
  rw [← hE1] at h1
  have HE1 := Lib.hid hE1
  have HW1 := Lib.hid h1
  have HG1 := Lib.hid (hf1)
  have kv1 : w1.cell? ⟨w.heap.size, 0, none⟩ = some (.pointer (some ⟨g, 0, none⟩)) := by rw [(HG1.out.whole HV.out (by decide) HNV.out).cell]; rfl
  have km1 : w1.cell? ⟨w.heap.size + 1, 1, none⟩ = some (.int .i64 m.from_) := by rw [(HG1.out.whole HM.out (by decide) HNM.out).cell]; rfl
  clear hE1 h1 hf1
  go_wp2_with fail
  refine (wnumber_any B g v1 E1 m.from_ _ HW1.out hk1.1 hk1.2 hB1 (by omega)).mono ?_
  rintro e w2 ⟨rfl, v2, h2, hf2, hB2⟩
  obtain ⟨E2, hE2⟩ : ∃ E, E = E1 ++ Vi.int m.from_ := ⟨_, rfl⟩
  have hl2 : E2.length ≤ 20 := by rw [hE2, List.length_append]; omega
  rw [← hE2] at h2
  have HE2 := Lib.hid hE2
  have HW2 := Lib.hid h2
  have HG2 := Lib.hid (HG1.out.trans hf2)
  have kv2 : w2.cell? ⟨w.heap.size, 0, none⟩ = some (.pointer (some ⟨g, 0, none⟩)) := by rw [(HG2.out.whole HV.out (by decide) HNV.out).cell]; rfl
  have km2 : w2.cell? ⟨w.heap.size + 1, 2, none⟩ = some (.int .i64 m.to) := by rw [(HG2.out.whole HM.out (by decide) HNM.out).cell]; rfl
  clear hE2 h2 hf2 kv1 km1
  go_wp2_with fail
  refine (wnumber_any B g v2 E2 m.to _ HW2.out hk2.1 hk2.2 hB2 (by omega)).mono ?_
  rintro e w3 ⟨rfl, v3, h3, hf3, hB3⟩
  obtain ⟨E3, hE3⟩ : ∃ E, E = E2 ++ Vi.int m.to := ⟨_, rfl⟩
  have hl3 : E3.length ≤ 30 := by rw [hE3, List.length_append]; omega
  rw [← hE3] at h3
  have HE3 := Lib.hid hE3
  have HW3 := Lib.hid h3
  have HG3 := Lib.hid (HG2.out.trans hf3)
  have kv3 : w3.cell? ⟨w.heap.size, 0, none⟩ = some (.pointer (some ⟨g, 0, none⟩)) := by rw [(HG3.out.whole HV.out (by decide) HNV.out).cell]; rfl
  have km3 : w3.cell? ⟨w.heap.size + 1, 3, none⟩ = some (.int .i64 m.id) := by rw [(HG3.out.whole HM.out (by decide) HNM.out).cell]; rfl
  clear hE3 h3 hf3 kv2 km2
  go_wp2_with fail
  refine (wnumber_any B g v3 E3 m.id _ HW3.out hk3.1 hk3.2 hB3 (by omega)).mono ?_
  rintro e w4 ⟨rfl, v4, h4, hf4, hB4⟩
  obtain ⟨E4, hE4⟩ : ∃ E, E = E3 ++ Vi.int m.id := ⟨_, rfl⟩
  have hl4 : E4.length ≤ 40 := by rw [hE4, List.length_append]; omega
  rw [← hE4] at h4
  have HE4 := Lib.hid hE4
  have HW4 := Lib.hid h4
  have HG4 := Lib.hid (HG3.out.trans hf4)
  have kv4 : w4.cell? ⟨w.heap.size, 0, none⟩ = some (.pointer (some ⟨g, 0, none⟩)) := by rw [(HG4.out.whole HV.out (by decide) HNV.out).cell]; rfl
  have km4 : w4.cell? ⟨w.heap.size + 1, 4, none⟩ = some (.int .i64 m.rev) := by rw [(HG4.out.whole HM.out (by decide) HNM.out).cell]; rfl
  clear hE4 h4 hf4 kv3 km3
  go_wp2_with fail
  refine (wnumber_any B g v4 E4 m.rev _ HW4.out hk4.1 hk4.2 hB4 (by omega)).mono ?_
  rintro e w5 ⟨rfl, v5, h5, hf5, hB5⟩
  obtain ⟨E5, hE5⟩ : ∃ E, E = E4 ++ Vi.int m.rev := ⟨_, rfl⟩
  have hl5 : E5.length ≤ 50 := by rw [hE5, List.length_append]; omega
  rw [← hE5] at h5
  have HE5 := Lib.hid hE5
  have HW5 := Lib.hid h5
  have HG5 := Lib.hid (HG4.out.trans hf5)
  have kv5 : w5.cell? ⟨w.heap.size, 0, none⟩ = some (.pointer (some ⟨g, 0, none⟩)) := by rw [(HG5.out.whole HV.out (by decide) HNV.out).cell]; rfl
  have km5 : w5.cell? ⟨w.heap.size + 1, 5, none⟩ = some (.int .i64 m.epoch) := by rw [(HG5.out.whole HM.out (by decide) HNM.out).cell]; rfl
  clear hE5 h5 hf5 kv4 km4
  go_wp2_with fail
  refine (wnumber_any B g v5 E5 m.epoch _ HW5.out hk5.1 hk5.2 hB5 (by omega)).mono ?_
  rintro e w6 ⟨rfl, v6, h6, hf6, hB6⟩
  obtain ⟨E6, hE6⟩ : ∃ E, E = E5 ++ Vi.int m.epoch := ⟨_, rfl⟩
  have hl6 : E6.length ≤ 60 := by rw [hE6, List.length_append]; omega
  rw [← hE6] at h6
  have HE6 := Lib.hid hE6
  have HW6 := Lib.hid h6
  have HG6 := Lib.hid (HG5.out.trans hf6)
  have kv6 : w6.cell? ⟨w.heap.size, 0, none⟩ = some (.pointer (some ⟨g, 0, none⟩)) := by rw [(HG6.out.whole HV.out (by decide) HNV.out).cell]; rfl
  have km6 : w6.cell? ⟨w.heap.size + 1, 6, none⟩ = some (.int .i64 m.slot) := by rw [(HG6.out.whole HM.out (by decide) HNM.out).cell]; rfl
  clear hE6 h6 hf6 kv5 km5
  go_wp2_with fail
  refine (wnumber_any B g v6 E6 m.slot _ HW6.out hk6.1 hk6.2 hB6 (by omega)).mono ?_
  rintro e w7 ⟨rfl, v7, h7, hf7, hB7⟩
  obtain ⟨E7, hE7⟩ : ∃ E, E = E6 ++ Vi.int m.slot := ⟨_, rfl⟩
  have hl7 : E7.length ≤ 70 := by rw [hE7, List.length_append]; omega
  rw [← hE7] at h7
  have HE7 := Lib.hid hE7
  have HW7 := Lib.hid h7
  have HG7 := Lib.hid (HG6.out.trans hf7)
  have kv7 : w7.cell? ⟨w.heap.size, 0, none⟩ = some (.pointer (some ⟨g, 0, none⟩)) := by rw [(HG7.out.whole HV.out (by decide) HNV.out).cell]; rfl
  have km7 : w7.cell? ⟨w.heap.size + 1, 7, none⟩ = some (.bool m.flag) := by rw [(HG7.out.whole HM.out (by decide) HNM.out).cell]; rfl
  clear hE7 h7 hf7 kv6 km6
  go_wp2_with fail
  refine (wtruth_any B g v7 E7 m.flag _ HW7.out hB7 (by omega)).mono ?_
  rintro e w8 ⟨rfl, v8, h8, hf8, hB8⟩
  obtain ⟨E8, hE8⟩ : ∃ E, E = E7 ++ [bit m.flag] := ⟨_, rfl⟩
  have hl8 : E8.length ≤ 80 := by rw [hE8, List.length_append, List.length_singleton]; omega
  rw [← hE8] at h8
  have HE8 := Lib.hid hE8
  have HW8 := Lib.hid h8
  have HG8 := Lib.hid (HG7.out.trans hf8)
  have kv8 : w8.cell? ⟨w.heap.size, 0, none⟩ = some (.pointer (some ⟨g, 0, none⟩)) := by rw [(HG8.out.whole HV.out (by decide) HNV.out).cell]; rfl
  have km8 : w8.cell? ⟨w.heap.size + 1, 8, none⟩ = some (.slice na nn nc) := by rw [(HG8.out.whole HM.out (by decide) HNM.out).cell]; rfl
  clear hE8 h8 hf8 kv7 km7
  have hC9 := Lib.hid (pints_any B g w.heap.size v8 E8 na nn nc m.nodes _ HW8.out (HG8.out.whole HV.out (by decide) HNV.out) (HND.out.below HG8.out.below) (by have := HND.out.1; have := hok1; omega) hB8 (by omega))
  have ll9 := lst_length Vi.int m.nodes (ints_450 HND.out) hok1
  go_wp2_with fail
  refine hC9.out.mono ?_
  rintro e w9 ⟨rfl, v9, h9, hf9, hB9⟩
  obtain ⟨E9, hE9⟩ : ∃ E, E = E8 ++ lst Vi.int m.nodes := ⟨_, rfl⟩
  have hl9 : E9.length ≤ 460910 := by rw [hE9, List.length_append]; omega
  rw [← hE9] at h9
  have HE9 := Lib.hid hE9
  have HW9 := Lib.hid h9
  have HG9 := Lib.hid (HG8.out.trans hf9)
  have kv9 : w9.cell? ⟨w.heap.size, 0, none⟩ = some (.pointer (some ⟨g, 0, none⟩)) := by rw [(HG9.out.whole HV.out (by decide) HNV.out).cell]; rfl
  have km9 : w9.cell? ⟨w.heap.size + 1, 9, none⟩ = some (.slice ma mn mc) := by rw [(HG9.out.whole HM.out (by decide) HNM.out).cell]; rfl
  clear hE9 h9 hf9 kv8 km8 ll9
  have hC10 := Lib.hid (pmuts_fits B g w.heap.size v9 E9 ma mn mc m.muts _ HW9.out (HG9.out.whole HV.out (by decide) HNV.out) (HMU.out.below HG9.out.below) (by have := HMU.out.1; have := hok2.1; omega) hok2.2 hB9 (by omega))
  have ll10 := lst_length mutB m.muts (fun x hx => mutB_length (hok2.2 x hx)) hok2.1
  go_wp2_with fail
  refine hC10.out.mono ?_
  rintro e w10 ⟨rfl, v10, h10, hf10, hB10⟩
  obtain ⟨E10, hE10⟩ : ∃ E, E = E9 ++ lst mutB m.muts := ⟨_, rfl⟩
  have hl10 : E10.length ≤ 921720 := by rw [hE10, List.length_append]; omega
  rw [← hE10] at h10
  have HE10 := Lib.hid hE10
  have HW10 := Lib.hid h10
  have HG10 := Lib.hid (HG9.out.trans hf10)
  have kv10 : w10.cell? ⟨w.heap.size, 0, none⟩ = some (.pointer (some ⟨g, 0, none⟩)) := by rw [(HG10.out.whole HV.out (by decide) HNV.out).cell]; rfl
  have km10 : w10.cell? ⟨w.heap.size + 1, 10, none⟩ = some (.slice pa pn pc) := by rw [(HG10.out.whole HM.out (by decide) HNM.out).cell]; rfl
  clear hE10 h10 hf10 kv9 km9 ll10
  have hC11 := Lib.hid (pcons_fits B g w.heap.size v10 E10 pa pn pc m.pre _ HW10.out (HG10.out.whole HV.out (by decide) HNV.out) (HPR.out.below HG10.out.below) (by have := HPR.out.1; have := hok3.1; omega) hok3.2 hB10 (by omega))
  have ll11 := lst_length mutB m.pre (fun x hx => mutB_length (hok3.2 x hx)) hok3.1
  go_wp2_with fail
  refine hC11.out.mono ?_
  rintro e w11 ⟨rfl, v11, h11, hf11, hB11⟩
  obtain ⟨E11, hE11⟩ : ∃ E, E = E10 ++ lst mutB m.pre := ⟨_, rfl⟩
  have hl11 : E11.length ≤ 1382530 := by rw [hE11, List.length_append]; omega
  rw [← hE11] at h11
  have HE11 := Lib.hid hE11
  have HW11 := Lib.hid h11
  have HG11 := Lib.hid (HG10.out.trans hf11)
  have kv11 : w11.cell? ⟨w.heap.size, 0, none⟩ = some (.pointer (some ⟨g, 0, none⟩)) := by rw [(HG11.out.whole HV.out (by decide) HNV.out).cell]; rfl
  have km11 : w11.cell? ⟨w.heap.size + 1, 11, none⟩ = some (.slice ra rn rc) := by rw [(HG11.out.whole HM.out (by decide) HNM.out).cell]; rfl
  clear hE11 h11 hf11 kv10 km10 ll11
  have hC12 := Lib.hid (prows_fits B g w.heap.size v11 E11 ra rn rc m.rows _ HW11.out (HG11.out.whole HV.out (by decide) HNV.out) (HRO.out.below HG11.out.below) (by have := HRO.out.1; have := hok4.1; omega) hok4.2 hB11 (by omega))
  have ll12 := lst_length rowOf m.rows (rows_450 HRO.out hok4.2) hok4.1
  go_wp2_with fail
  refine hC12.out.mono ?_
  rintro e w12 ⟨rfl, v12, h12, hf12, hB12⟩
  obtain ⟨E12, hE12⟩ : ∃ E, E = E11 ++ lst rowOf m.rows := ⟨_, rfl⟩
  have hl12 : E12.length ≤ 1843340 := by rw [hE12, List.length_append]; omega
  rw [← hE12] at h12
  have HE12 := Lib.hid hE12
  have HW12 := Lib.hid h12
  have HG12 := Lib.hid (HG11.out.trans hf12)
  clear hE12 h12 hf12 kv11 km11 ll12
  go_wp2
  go_end0
  have hq : enc m = E12 := by
    rw [HE12.out, HE11.out, HE10.out, HE9.out, HE8.out, HE7.out, HE6.out, HE5.out, HE4.out, HE3.out, HE2.out, HE1.out]
    simp only [enc, List.nil_append, List.append_assoc]
  exact ⟨rfl, v12, by rw [hq]; exact HW12.out, HF0.out.trans HG12.out, hB12⟩

set_option maxRecDepth 100000 in
set_option maxHeartbeats 8000000 in
theorem message_long (B g : Nat) (v V : Value) (m : MsgD) (na ma pa ra : Option Addr) (nn nc mn mc pn pc rn rc : Nat) (w : World) (h : WAt w B g v []) (hm : MsgAt w B V m na ma pa ra nn nc mn mc pn pc rn rc) (bad : ¬ m.ok) (hB : B ≤ w.heap.size) :
    Calls Tryz.prog 76 #[.pointer (some ⟨g, 0, none⟩), V] w (WLong w B g) := by
  have hmf : ∀ (fn : Fn) (first cap : Array Value) (w : World), (Instr.makeFunc fn first cap).run Tryz.prog w = .ok (.func fn first cap) w := fun _ _ _ _ => rfl
  obtain ⟨rfl, hk0, hk1, hk2, hk3, hk4, hk5, hk6, hnodes, hmuts, hpre, hrows, hln, hlm, hlp, hlr⟩ := hm
  have h0 := (h.alloc (.cells #[.pointer (some ⟨g, 0, none⟩)] 155)).alloc (.cells #[.int .i64 m.kind, .int .i64 m.from_, .int .i64 m.to, .int .i64 m.id, .int .i64 m.rev, .int .i64 m.epoch, .int .i64 m.slot, .bool m.flag, .slice na nn nc, .slice ma mn mc, .slice pa pn pc, .slice ra rn rc] 43)
  have hv0 : Whole ((w.alloc (.cells #[.pointer (some ⟨g, 0, none⟩)] 155)).alloc (.cells #[.int .i64 m.kind, .int .i64 m.from_, .int .i64 m.to, .int .i64 m.id, .int .i64 m.rev, .int .i64 m.epoch, .int .i64 m.slot, .bool m.flag, .slice na nn nc, .slice ma mn mc, .slice pa pn pc, .slice ra rn rc] 43)) w.heap.size 155 #[.pointer (some ⟨g, 0, none⟩)] :=
    (show Whole (w.alloc (.cells #[.pointer (some ⟨g, 0, none⟩)] 155)) w.heap.size 155 #[.pointer (some ⟨g, 0, none⟩)] from heap_alloc_new w _).kept (Below.heap_alloc _ _ _ (by simp))
  have hm0 : Whole ((w.alloc (.cells #[.pointer (some ⟨g, 0, none⟩)] 155)).alloc (.cells #[.int .i64 m.kind, .int .i64 m.from_, .int .i64 m.to, .int .i64 m.id, .int .i64 m.rev, .int .i64 m.epoch, .int .i64 m.slot, .bool m.flag, .slice na nn nc, .slice ma mn mc, .slice pa pn pc, .slice ra rn rc] 43)) (w.heap.size + 1) 43 #[.int .i64 m.kind, .int .i64 m.from_, .int .i64 m.to, .int .i64 m.id, .int .i64 m.rev, .int .i64 m.epoch, .int .i64 m.slot, .bool m.flag, .slice na nn nc, .slice ma mn mc, .slice pa pn pc, .slice ra rn rc] := by
    have hz : (w.alloc (.cells #[.pointer (some ⟨g, 0, none⟩)] 155)).heap.size = w.heap.size + 1 := by simp
    rw [← hz]
    exact heap_alloc_new (w.alloc (.cells #[.pointer (some ⟨g, 0, none⟩)] 155)) _
  have hB0 : B ≤ ((w.alloc (.cells #[.pointer (some ⟨g, 0, none⟩)] 155)).alloc (.cells #[.int .i64 m.kind, .int .i64 m.from_, .int .i64 m.to, .int .i64 m.id, .int .i64 m.rev, .int .i64 m.epoch, .int .i64 m.slot, .bool m.flag, .slice na nn nc, .slice ma mn mc, .slice pa pn pc, .slice ra rn rc] 43)).heap.size := by simp; omega
  have hf0 : WF B g w ((w.alloc (.cells #[.pointer (some ⟨g, 0, none⟩)] 155)).alloc (.cells #[.int .i64 m.kind, .int .i64 m.from_, .int .i64 m.to, .int .i64 m.id, .int .i64 m.rev, .int .i64 m.epoch, .int .i64 m.slot, .bool m.flag, .slice na nn nc, .slice ma mn mc, .slice pa pn pc, .slice ra rn rc] 43)) := ((WF.refl B g w).alloc hB _).alloc (by simp; omega) _
  have hnv := h0.typed hv0 (by decide)
  have hnm := h0.typed hm0 (by decide)
  have HV := Lib.hid hv0
  have HM := Lib.hid hm0
  have HNV := Lib.hid hnv
  have HNM := Lib.hid hnm
  have HW0 := Lib.hid h0
  have HF0 := Lib.hid hf0
  have HND := Lib.hid (hnodes.below hf0.below)
  have HMU := Lib.hid (hmuts.below hf0.below)
  have HPR := Lib.hid (hpre.below hf0.below)
  have HRO := Lib.hid (hrows.below hf0.below)
  have e0 := Vi.int_length m.kind hk0.1 hk0.2
  have e1 := Vi.int_length m.from_ hk1.1 hk1.2
  have e2 := Vi.int_length m.to hk2.1 hk2.2
  have e3 := Vi.int_length m.id hk3.1 hk3.2
  have e4 := Vi.int_length m.rev hk4.1 hk4.2
  have e5 := Vi.int_length m.epoch hk5.1 hk5.2
  have e6 := Vi.int_length m.slot hk6.1 hk6.2
  unfold In64 at hk0 hk1 hk2 hk3 hk4 hk5 hk6
  clear h h0 hv0 hm0 hnv hnm hnodes hmuts hpre hrows
  go_enter Tryz.func76, Tryz.ntmps76
  go_wp2_with fail
  generalize hW0 : (w.alloc (.cells #[.pointer (some ⟨g, 0, none⟩)] 155)).alloc (.cells #[.int .i64 m.kind, .int .i64 m.from_, .int .i64 m.to, .int .i64 m.id, .int .i64 m.rev, .int .i64 m.epoch, .int .i64 m.slot, .bool m.flag, .slice na nn nc, .slice ma mn mc, .slice pa pn pc, .slice ra rn rc] 43) = W0 at *
  have HWW := Lib.hid hW0
  clear hW0
  have HNOT := Lib.hid (show ¬ (m.nodes.length ≤ 1024 ∧ (m.muts.length ≤ 1024 ∧ ∀ x ∈ m.muts, x.ok) ∧ (m.pre.length ≤ 1024 ∧ ∀ x ∈ m.pre, x.ok) ∧ (m.rows.length ≤ 1024 ∧ ∀ x ∈ m.rows, x.ok)) from fun ⟨h1, h2, h3, h4⟩ => bad ⟨h1, h2, h3, h4⟩)
  clear bad
  refine (wnumber_any B g v [] m.kind _ HW0.out hk0.1 hk0.2 hB0 (by simp)).mono ?_
  rintro e w1 ⟨rfl, v1, h1, hf1, hB1⟩
  obtain ⟨E1, hE1⟩ : ∃ E, E = [] ++ Vi.int m.kind := ⟨_, rfl⟩
  have hl1 : E1.length ≤ 10 := by rw [hE1, List.length_append, List.length_nil]; omega
  rw [← hE1] at h1
  have HE1 := Lib.hid hE1
  have HW1 := Lib.hid h1
  have HG1 := Lib.hid (hf1)
  have kv1 : w1.cell? ⟨w.heap.size, 0, none⟩ = some (.pointer (some ⟨g, 0, none⟩)) := by rw [(HG1.out.whole HV.out (by decide) HNV.out).cell]; rfl
  have km1 : w1.cell? ⟨w.heap.size + 1, 1, none⟩ = some (.int .i64 m.from_) := by rw [(HG1.out.whole HM.out (by decide) HNM.out).cell]; rfl
  clear hE1 h1 hf1
  go_wp2_with fail
  refine (wnumber_any B g v1 E1 m.from_ _ HW1.out hk1.1 hk1.2 hB1 (by omega)).mono ?_
  rintro e w2 ⟨rfl, v2, h2, hf2, hB2⟩
  obtain ⟨E2, hE2⟩ : ∃ E, E = E1 ++ Vi.int m.from_ := ⟨_, rfl⟩
  have hl2 : E2.length ≤ 20 := by rw [hE2, List.length_append]; omega
  rw [← hE2] at h2
  have HE2 := Lib.hid hE2
  have HW2 := Lib.hid h2
  have HG2 := Lib.hid (HG1.out.trans hf2)
  have kv2 : w2.cell? ⟨w.heap.size, 0, none⟩ = some (.pointer (some ⟨g, 0, none⟩)) := by rw [(HG2.out.whole HV.out (by decide) HNV.out).cell]; rfl
  have km2 : w2.cell? ⟨w.heap.size + 1, 2, none⟩ = some (.int .i64 m.to) := by rw [(HG2.out.whole HM.out (by decide) HNM.out).cell]; rfl
  clear hE2 h2 hf2 kv1 km1
  go_wp2_with fail
  refine (wnumber_any B g v2 E2 m.to _ HW2.out hk2.1 hk2.2 hB2 (by omega)).mono ?_
  rintro e w3 ⟨rfl, v3, h3, hf3, hB3⟩
  obtain ⟨E3, hE3⟩ : ∃ E, E = E2 ++ Vi.int m.to := ⟨_, rfl⟩
  have hl3 : E3.length ≤ 30 := by rw [hE3, List.length_append]; omega
  rw [← hE3] at h3
  have HE3 := Lib.hid hE3
  have HW3 := Lib.hid h3
  have HG3 := Lib.hid (HG2.out.trans hf3)
  have kv3 : w3.cell? ⟨w.heap.size, 0, none⟩ = some (.pointer (some ⟨g, 0, none⟩)) := by rw [(HG3.out.whole HV.out (by decide) HNV.out).cell]; rfl
  have km3 : w3.cell? ⟨w.heap.size + 1, 3, none⟩ = some (.int .i64 m.id) := by rw [(HG3.out.whole HM.out (by decide) HNM.out).cell]; rfl
  clear hE3 h3 hf3 kv2 km2
  go_wp2_with fail
  refine (wnumber_any B g v3 E3 m.id _ HW3.out hk3.1 hk3.2 hB3 (by omega)).mono ?_
  rintro e w4 ⟨rfl, v4, h4, hf4, hB4⟩
  obtain ⟨E4, hE4⟩ : ∃ E, E = E3 ++ Vi.int m.id := ⟨_, rfl⟩
  have hl4 : E4.length ≤ 40 := by rw [hE4, List.length_append]; omega
  rw [← hE4] at h4
  have HE4 := Lib.hid hE4
  have HW4 := Lib.hid h4
  have HG4 := Lib.hid (HG3.out.trans hf4)
  have kv4 : w4.cell? ⟨w.heap.size, 0, none⟩ = some (.pointer (some ⟨g, 0, none⟩)) := by rw [(HG4.out.whole HV.out (by decide) HNV.out).cell]; rfl
  have km4 : w4.cell? ⟨w.heap.size + 1, 4, none⟩ = some (.int .i64 m.rev) := by rw [(HG4.out.whole HM.out (by decide) HNM.out).cell]; rfl
  clear hE4 h4 hf4 kv3 km3
  go_wp2_with fail
  refine (wnumber_any B g v4 E4 m.rev _ HW4.out hk4.1 hk4.2 hB4 (by omega)).mono ?_
  rintro e w5 ⟨rfl, v5, h5, hf5, hB5⟩
  obtain ⟨E5, hE5⟩ : ∃ E, E = E4 ++ Vi.int m.rev := ⟨_, rfl⟩
  have hl5 : E5.length ≤ 50 := by rw [hE5, List.length_append]; omega
  rw [← hE5] at h5
  have HE5 := Lib.hid hE5
  have HW5 := Lib.hid h5
  have HG5 := Lib.hid (HG4.out.trans hf5)
  have kv5 : w5.cell? ⟨w.heap.size, 0, none⟩ = some (.pointer (some ⟨g, 0, none⟩)) := by rw [(HG5.out.whole HV.out (by decide) HNV.out).cell]; rfl
  have km5 : w5.cell? ⟨w.heap.size + 1, 5, none⟩ = some (.int .i64 m.epoch) := by rw [(HG5.out.whole HM.out (by decide) HNM.out).cell]; rfl
  clear hE5 h5 hf5 kv4 km4
  go_wp2_with fail
  refine (wnumber_any B g v5 E5 m.epoch _ HW5.out hk5.1 hk5.2 hB5 (by omega)).mono ?_
  rintro e w6 ⟨rfl, v6, h6, hf6, hB6⟩
  obtain ⟨E6, hE6⟩ : ∃ E, E = E5 ++ Vi.int m.epoch := ⟨_, rfl⟩
  have hl6 : E6.length ≤ 60 := by rw [hE6, List.length_append]; omega
  rw [← hE6] at h6
  have HE6 := Lib.hid hE6
  have HW6 := Lib.hid h6
  have HG6 := Lib.hid (HG5.out.trans hf6)
  have kv6 : w6.cell? ⟨w.heap.size, 0, none⟩ = some (.pointer (some ⟨g, 0, none⟩)) := by rw [(HG6.out.whole HV.out (by decide) HNV.out).cell]; rfl
  have km6 : w6.cell? ⟨w.heap.size + 1, 6, none⟩ = some (.int .i64 m.slot) := by rw [(HG6.out.whole HM.out (by decide) HNM.out).cell]; rfl
  clear hE6 h6 hf6 kv5 km5
  go_wp2_with fail
  refine (wnumber_any B g v6 E6 m.slot _ HW6.out hk6.1 hk6.2 hB6 (by omega)).mono ?_
  rintro e w7 ⟨rfl, v7, h7, hf7, hB7⟩
  obtain ⟨E7, hE7⟩ : ∃ E, E = E6 ++ Vi.int m.slot := ⟨_, rfl⟩
  have hl7 : E7.length ≤ 70 := by rw [hE7, List.length_append]; omega
  rw [← hE7] at h7
  have HE7 := Lib.hid hE7
  have HW7 := Lib.hid h7
  have HG7 := Lib.hid (HG6.out.trans hf7)
  have kv7 : w7.cell? ⟨w.heap.size, 0, none⟩ = some (.pointer (some ⟨g, 0, none⟩)) := by rw [(HG7.out.whole HV.out (by decide) HNV.out).cell]; rfl
  have km7 : w7.cell? ⟨w.heap.size + 1, 7, none⟩ = some (.bool m.flag) := by rw [(HG7.out.whole HM.out (by decide) HNM.out).cell]; rfl
  clear hE7 h7 hf7 kv6 km6
  go_wp2_with fail
  refine (wtruth_any B g v7 E7 m.flag _ HW7.out hB7 (by omega)).mono ?_
  rintro e w8 ⟨rfl, v8, h8, hf8, hB8⟩
  obtain ⟨E8, hE8⟩ : ∃ E, E = E7 ++ [bit m.flag] := ⟨_, rfl⟩
  have hl8 : E8.length ≤ 80 := by rw [hE8, List.length_append, List.length_singleton]; omega
  rw [← hE8] at h8
  have HE8 := Lib.hid hE8
  have HW8 := Lib.hid h8
  have HG8 := Lib.hid (HG7.out.trans hf8)
  have kv8 : w8.cell? ⟨w.heap.size, 0, none⟩ = some (.pointer (some ⟨g, 0, none⟩)) := by rw [(HG8.out.whole HV.out (by decide) HNV.out).cell]; rfl
  have km8 : w8.cell? ⟨w.heap.size + 1, 8, none⟩ = some (.slice na nn nc) := by rw [(HG8.out.whole HM.out (by decide) HNM.out).cell]; rfl
  clear hE8 h8 hf8 kv7 km7
  by_cases q9 : 1024 < m.nodes.length
  · have hC := Lib.hid (pints_many g na nn nc (.func (.func 93) #[] #[.pointer (some ⟨w.heap.size, 0, none⟩)]) w8 (by have := HND.out.1; omega) hln)
    go_wp2_with fail
    refine hC.out.mono ?_
    rintro e wq ⟨rfl, rfl⟩
    go_wp2
    exact ⟨rfl, (HF0.out.trans HG8.out).long hB8⟩
  · have q9' : m.nodes.length ≤ 1024 := by omega
    have hC := Lib.hid (pints_any B g w.heap.size v8 E8 na nn nc m.nodes _ HW8.out (HG8.out.whole HV.out (by decide) HNV.out) (HND.out.below HG8.out.below) (by have := HND.out.1; omega) hB8 (by omega))
    have ll9 := lst_length Vi.int m.nodes (ints_450 HND.out) q9'
    go_wp2_with fail
    refine hC.out.mono ?_
    rintro e w9 ⟨rfl, v9, h9, hf9, hB9⟩
    obtain ⟨E9, hE9⟩ : ∃ E, E = E8 ++ lst Vi.int m.nodes := ⟨_, rfl⟩
    have hl9 : E9.length ≤ 460910 := by rw [hE9, List.length_append]; omega
    rw [← hE9] at h9
    have HW9 := Lib.hid h9
    have HG9 := Lib.hid (HG8.out.trans hf9)
    have kv9 : w9.cell? ⟨w.heap.size, 0, none⟩ = some (.pointer (some ⟨g, 0, none⟩)) := by rw [(HG9.out.whole HV.out (by decide) HNV.out).cell]; rfl
    have km9 : w9.cell? ⟨w.heap.size + 1, 9, none⟩ = some (.slice ma mn mc) := by rw [(HG9.out.whole HM.out (by decide) HNM.out).cell]; rfl
    clear hE9 h9 hf9 kv8 km8 ll9 hC
    by_cases q10 : 1024 < m.muts.length
    · have hC := Lib.hid (pmuts_many g ma mn mc (.func (.func 95) #[] #[.pointer (some ⟨w.heap.size, 0, none⟩)]) w9 (by have := HMU.out.1; omega) hlm)
      go_wp2_with fail
      refine hC.out.mono ?_
      rintro e wq ⟨rfl, rfl⟩
      go_wp2
      exact ⟨rfl, (HF0.out.trans HG9.out).long hB9⟩
    · have q10' : m.muts.length ≤ 1024 := by omega
      by_cases r10 : ∀ x ∈ m.muts, x.ok
      case neg =>
        have hbad : ∃ x ∈ m.muts, ¬ x.ok := by
          obtain ⟨x, hx⟩ := Classical.not_forall.1 r10
          obtain ⟨h1, h2⟩ := Classical.not_imp.1 hx
          exact ⟨x, h1, h2⟩
        have hC := Lib.hid (pmuts_long B g w.heap.size v9 E9 ma mn mc m.muts _ HW9.out (HG9.out.whole HV.out (by decide) HNV.out) (HMU.out.below HG9.out.below) (by have := HMU.out.1; omega) hbad hB9 (by omega))
        clear hbad r10
        go_wp2_with fail
        refine hC.out.mono ?_
        rintro e wq ⟨rfl, hbq, hBq, hoq⟩
        go_wp2
        exact ⟨rfl, ((HF0.out.trans HG9.out).trans (WF.mk hbq hoq)).long hBq⟩
      have hC := Lib.hid (pmuts_fits B g w.heap.size v9 E9 ma mn mc m.muts _ HW9.out (HG9.out.whole HV.out (by decide) HNV.out) (HMU.out.below HG9.out.below) (by have := HMU.out.1; omega) r10 hB9 (by omega))
      have ll10 := lst_length mutB m.muts (fun x hx => mutB_length (r10 x hx)) q10'
      go_wp2_with fail
      refine hC.out.mono ?_
      rintro e w10 ⟨rfl, v10, h10, hf10, hB10⟩
      obtain ⟨E10, hE10⟩ : ∃ E, E = E9 ++ lst mutB m.muts := ⟨_, rfl⟩
      have hl10 : E10.length ≤ 921720 := by rw [hE10, List.length_append]; omega
      rw [← hE10] at h10
      have HW10 := Lib.hid h10
      have HG10 := Lib.hid (HG9.out.trans hf10)
      have kv10 : w10.cell? ⟨w.heap.size, 0, none⟩ = some (.pointer (some ⟨g, 0, none⟩)) := by rw [(HG10.out.whole HV.out (by decide) HNV.out).cell]; rfl
      have km10 : w10.cell? ⟨w.heap.size + 1, 10, none⟩ = some (.slice pa pn pc) := by rw [(HG10.out.whole HM.out (by decide) HNM.out).cell]; rfl
      clear hE10 h10 hf10 kv9 km9 ll10 hC
      by_cases q11 : 1024 < m.pre.length
      · have hC := Lib.hid (pcons_many g pa pn pc (.func (.func 98) #[] #[.pointer (some ⟨w.heap.size, 0, none⟩)]) w10 (by have := HPR.out.1; omega) hlp)
        go_wp2_with fail
        refine hC.out.mono ?_
        rintro e wq ⟨rfl, rfl⟩
        go_wp2
        exact ⟨rfl, (HF0.out.trans HG10.out).long hB10⟩
      · have q11' : m.pre.length ≤ 1024 := by omega
        by_cases r11 : ∀ x ∈ m.pre, x.ok
        case neg =>
          have hbad : ∃ x ∈ m.pre, ¬ x.ok := by
            obtain ⟨x, hx⟩ := Classical.not_forall.1 r11
            obtain ⟨h1, h2⟩ := Classical.not_imp.1 hx
            exact ⟨x, h1, h2⟩
          have hC := Lib.hid (pcons_long B g w.heap.size v10 E10 pa pn pc m.pre _ HW10.out (HG10.out.whole HV.out (by decide) HNV.out) (HPR.out.below HG10.out.below) (by have := HPR.out.1; omega) hbad hB10 (by omega))
          clear hbad r11
          go_wp2_with fail
          refine hC.out.mono ?_
          rintro e wq ⟨rfl, hbq, hBq, hoq⟩
          go_wp2
          exact ⟨rfl, ((HF0.out.trans HG10.out).trans (WF.mk hbq hoq)).long hBq⟩
        have hC := Lib.hid (pcons_fits B g w.heap.size v10 E10 pa pn pc m.pre _ HW10.out (HG10.out.whole HV.out (by decide) HNV.out) (HPR.out.below HG10.out.below) (by have := HPR.out.1; omega) r11 hB10 (by omega))
        have ll11 := lst_length mutB m.pre (fun x hx => mutB_length (r11 x hx)) q11'
        go_wp2_with fail
        refine hC.out.mono ?_
        rintro e w11 ⟨rfl, v11, h11, hf11, hB11⟩
        obtain ⟨E11, hE11⟩ : ∃ E, E = E10 ++ lst mutB m.pre := ⟨_, rfl⟩
        have hl11 : E11.length ≤ 1382530 := by rw [hE11, List.length_append]; omega
        rw [← hE11] at h11
        have HW11 := Lib.hid h11
        have HG11 := Lib.hid (HG10.out.trans hf11)
        have kv11 : w11.cell? ⟨w.heap.size, 0, none⟩ = some (.pointer (some ⟨g, 0, none⟩)) := by rw [(HG11.out.whole HV.out (by decide) HNV.out).cell]; rfl
        have km11 : w11.cell? ⟨w.heap.size + 1, 11, none⟩ = some (.slice ra rn rc) := by rw [(HG11.out.whole HM.out (by decide) HNM.out).cell]; rfl
        clear hE11 h11 hf11 kv10 km10 ll11 hC
        by_cases q12 : 1024 < m.rows.length
        · have hC := Lib.hid (prows_many g ra rn rc (.func (.func 100) #[] #[.pointer (some ⟨w.heap.size, 0, none⟩)]) w11 (by have := HRO.out.1; omega) hlr)
          go_wp2_with fail
          refine hC.out.mono ?_
          rintro e wq ⟨rfl, rfl⟩
          go_wp2
          exact ⟨rfl, (HF0.out.trans HG11.out).long hB11⟩
        · have q12' : m.rows.length ≤ 1024 := by omega
          by_cases r12 : ∀ x ∈ m.rows, x.ok
          case neg =>
            have hbad : ∃ x ∈ m.rows, ¬ x.ok := by
              obtain ⟨x, hx⟩ := Classical.not_forall.1 r12
              obtain ⟨h1, h2⟩ := Classical.not_imp.1 hx
              exact ⟨x, h1, h2⟩
            have hC := Lib.hid (prows_long B g w.heap.size v11 E11 ra rn rc m.rows _ HW11.out (HG11.out.whole HV.out (by decide) HNV.out) (HRO.out.below HG11.out.below) (by have := HRO.out.1; omega) hbad hB11 (by omega))
            clear hbad r12
            go_wp2_with fail
            refine hC.out.mono ?_
            rintro e wq ⟨rfl, hbq, hBq, hoq⟩
            go_wp2
            exact ⟨rfl, ((HF0.out.trans HG11.out).trans (WF.mk hbq hoq)).long hBq⟩
          exact absurd ⟨q9', ⟨q10', r10⟩, ⟨q11', r11⟩, ⟨q12', r12⟩⟩ HNOT.out
end Go.Proofs.YteodldmbnghfcaaGreat
