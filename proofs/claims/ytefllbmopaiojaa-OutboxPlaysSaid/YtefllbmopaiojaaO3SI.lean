/- The outbox of string,int: Put. -/
import Derived.Test.YtefllbmopaiojaaO2SI
namespace Go.Proofs.Ytefllbmopaiojaa.OI
open Go.RowKit Go.Proofs.Ytefllbmopaiojaa
open Go.Maps (Keyed)

/-- What becomes of the things by a Put, and its answer. -/
def PutTo (w : World) (size : Nat) (k : ByteArray) (v : Int) (es es' : List En) (code : Int) : Prop :=
  (∃ e1 y e2, es = e1 ++ y :: e2 ∧ y.k = k ∧ code = 0 ∧ es' = e1 ++ ⟨y.p, y.k, v, 0⟩ :: e2) ∨
  (k ∉ es.map (·.k) ∧ es.length = size ∧ code = 3 ∧ es' = es) ∨
  (k ∉ es.map (·.k) ∧ es.length < size ∧ code = 0 ∧ ∃ p, w.heap.size ≤ p ∧ es' = es ++ [⟨p, k, v, 0⟩])
def PutPost (w : World) (B g b period size : Nat) (k : ByteArray) (v : Int) (row : Value) (es : List En) (x : Ending) (w' : World) : Prop :=
  ∃ code row' es', x = .returned (.int .i64 code) ∧ OAt w' B g b period size row' es' ∧ PutTo w size k v es es' code ∧ Chg w w' (Blk g b row es)
set_option maxRecDepth 100000 in
set_option maxHeartbeats 4000000 in
theorem put_there {B g b period size : Nat} {row : Value} {e1 e2 : List En} {y : En} (v : Int) (w : World) (h : OAt w B g b period size row (e1 ++ y :: e2)) :
    Calls Try.prog 11 #[.pointer (some ⟨g, 0, none⟩), .string y.k, Value.int .i64 v] w fun x w' => PutPost w B g b period size y.k v row (e1 ++ y :: e2) x w' := by
  have hm : y ∈ e1 ++ y :: e2 := by simp
  have HFI := Lib.hid (find_any y.k w h (h.kr y hm))
  rw [findV_some h.keys] at HFI
  obtain ⟨_, c1, c2, z1, z2⟩ := h.thing hm
  have hwx := h.ent y hm
  have hT := h.turn (w' := (w.setCell ⟨y.p, 1, none⟩ (Value.int .i64 v)).setCell ⟨y.p, 2, none⟩ (.int .i64 0)) v 0 (by have := h.per; omega) (by
    have := (hwx.store 1 (Value.int .i64 v)).store 2 (.int .i64 0)
    simpa using this) (fun k _ hkp => (Below.heap_setCell _ ⟨y.p, 2, none⟩ _ k hkp).trans (Below.heap_setCell _ ⟨y.p, 1, none⟩ _ k hkp))
  have hB : Blk g b row (e1 ++ y :: e2) y.p := .inr (.inr (.inr (List.mem_map.2 ⟨y, hm, rfl⟩)))
  have HQ := Lib.hid (show PutPost w B g b period size y.k v row (e1 ++ y :: e2) (.returned (.int .i64 0)) ((w.setCell ⟨y.p, 1, none⟩ (Value.int .i64 v)).setCell ⟨y.p, 2, none⟩ (.int .i64 0)) from
    ⟨0, row, _, rfl, hT, .inl ⟨e1, y, e2, rfl, rfl, rfl, rfl⟩, ((Chg.refl w _).set hB 1 _).set hB 2 _⟩)
  clear hT hwx hm h hB
  generalize y.p = p at *
  go_enter Try.func11, Try.ntmps11
  go_wp2_with fail
  refine HFI.out.mono ?_
  rintro x w1 ⟨rfl, rfl⟩
  go_wp2
  go_ret
  exact HQ.out
set_option maxRecDepth 100000 in
set_option maxHeartbeats 4000000 in
theorem put_full {B g b period size : Nat} {row : Value} {es : List En} (k : ByteArray) (v : Int) (w : World) (h : OAt w B g b period size row es) (hk : k.size ≤ 9223372036854775807) (hn : k ∉ es.map (·.k)) (hf : es.length = size) :
    Calls Try.prog 11 #[.pointer (some ⟨g, 0, none⟩), .string k, Value.int .i64 v] w fun x w' => PutPost w B g b period size k v row es x w' := by
  have HFI := Lib.hid (find_any k w h hk)
  rw [findV_none hn] at HFI
  obtain ⟨_, d1, d2, _, _⟩ := h.four
  obtain ⟨ra, rc, rfl, _, _⟩ := owned_any h.row
  have HQ := Lib.hid (fun n => show PutPost w B g b period size k v (.slice ra es.length rc) es (.returned (.int .i64 3)) (w.drewN n) from
    ⟨3, _, es, rfl, h.below (below_drewN w n), .inr (.inl ⟨hn, hf, rfl, rfl⟩), Chg.ofBelow _ (below_drewN w n)⟩)
  rw [← hf] at d1
  clear h hn hf
  go_enter Try.func11, Try.ntmps11
  go_wp2_with fail
  refine HFI.out.mono ?_
  rintro x w1 ⟨rfl, rfl⟩
  go_wp2_with fail
  go_region
  all_goals
    go_wp2
    go_ret
    exact HQ.out 1
end Go.Proofs.Ytefllbmopaiojaa.OI
