/- The disk's calls: Fork; what the statements ask first. -/
import Derived.Test.YtnppnccokmcbpaaD5
namespace Go.Proofs.Ytnppnccokmcbpaa
open Go.RowKit

theorem DAt.base {w : World} {B B' g d r : Nat} {v : Value} {xs : List Int} (h : DAt w B g v xs d r) (hB : B' ≤ B) : DAt w B' g v xs d r :=
  ⟨h.blk, Nat.le_trans hB h.ge, ⟨h.own.1, by
    rcases h.own.2 with h2 | ⟨g, cap, cur, h1, h2, r⟩
    · exact .inl h2
    · exact .inr ⟨g, cap, cur, h1, Nat.le_trans hB h2, r⟩⟩, h.byte, h.hd, h.hr, h.hm⟩

set_option maxHeartbeats 4000000 in
theorem fork_any {B g d r : Nat} {v : Value} {xs : List Int} (w : World) (h : DAt w B g v xs d r) :
    Calls Try.prog 19 #[.pointer (some ⟨g, 0, none⟩)] w fun e w' => ∃ g2 u, e = .returned (.pointer (some ⟨g2, 0, none⟩)) ∧ DAt w' w.heap.size g2 u xs d r ∧ Below w.heap.size w w' := by
  obtain ⟨_, _, c2, _⟩ := h.cells
  have H := Lib.hid h
  have hg := h.blk.lt
  clear h
  go_enter Try.func19, Try.ntmps19
  go_wp2
  go_region_held3 (fun W => W.cell? ⟨g, 2, none⟩ = some (.int .i64 r) ∧ DAt W B g v xs d r) (first | exact ⟨c2, H.out.drewN 1⟩ | assumption | (go_split_ands; exact ⟨(hb2.cell (p := ⟨g, 2, none⟩) (Whole.lt (DAt.blk (by assumption)))).trans (by assumption), DAt.below (by assumption) hb2⟩) | (go_split_ands; exact ⟨(((Below.refl _ _).alloc (Nat.le_refl _) _).cell (p := ⟨g, 2, none⟩) (Whole.lt (DAt.blk (by assumption)))).trans (by assumption), DAt.below (by assumption) ((Below.refl _ _).alloc (Nat.le_refl _) _)⟩)) (first
    | (go_at_call 22; (with_reducible refine (durable_any (B := B) (g := g) (d := d) (r := r) (v := v) (xs := xs) _ ?_).mono ?_); (go_split_ands; assumption); rintro e w' ⟨rfl, rfl⟩)
    | (go_at_call 20; (with_reducible refine (bytes_any (B := B) (g := g) (d := d) (r := r) (v := v) (xs := xs) _ ?_).mono ?_); (go_split_ands; assumption); rintro e w2 ⟨u, rfl, hown2, hb2⟩; obtain ⟨ua, uc, rfl, _, _⟩ := owned_any hown2))
  have hs := hb2.size
  have hown3 : w2.ownsRow w.heap.size 5 1 (.slice ua xs.length uc) xs.length (xs.map (Value.int .u8)) := hown2
  have HB2 := Lib.hid hb2
  have HO2 := Lib.hid hown3
  clear hown2 hb2 hown3
  go_wp2
  go_ret
  have hb3 : Below w.heap.size w w2 := ⟨HB2.out.os, HB2.out.tape, HB2.out.output, HB2.out.size, HB2.out.block⟩
  exact ⟨w2.heap.size, _, rfl, ⟨heap_alloc_new w2 _, hs, HO2.out.alloc _, H.out.byte, H.out.hd, H.out.hr, H.out.hm⟩, hb3.alloc hs _⟩

/-- What a call says and leaves alone. -/
theorem PartsIn.one {w : World} {no : Nat → Prop} {b off n c : Nat} {pa : Option Addr} {xs : List Int} (hno : ¬ no b) (hcell : w.cell? ⟨b, off, none⟩ = some (.slice pa n c)) (hn : n ≤ maxLen) (hnil : pa = none → n = 0 ∧ c = 0) (hx : IsB w pa n xs) (haw : n = 0 ∨ ∀ ad, pa = some ad → ¬ no ad.block) : PartsIn w no (some ⟨b, off, none⟩) 1 [xs] :=
  ⟨rfl, by simp [maxLen], fun i hi => by
    obtain rfl : i = 0 := by omega
    exact ⟨b, off, pa, n, c, rfl, hno, hcell, hn, hnil, hx, haw⟩⟩

theorem DAt.alloc {w : World} {B g d r : Nat} {v : Value} {xs : List Int} (h : DAt w B g v xs d r) (o : Obj) : DAt (w.alloc o) B g v xs d r := h.below ((Below.refl _ _).alloc (Nat.le_refl _) _)
theorem DAt.off {w : World} {B g d r : Nat} {v : Value} {xs : List Int} (h : DAt w B g v xs d r) {k : Nat} (hk : w.heap.size ≤ k) : ¬ (k = g ∨ some k = v.ownBlock) := by
  have h1 := h.blk.lt
  rintro (rfl | he)
  · omega
  · have := (h.own.lt k he.symm).2
    omega
theorem new_cell (w : World) (cs : Array Value) (t : TypeId) (fr : Nat × Nat) (i : Nat) : (w.alloc (.cells cs t fr)).cell? ⟨w.heap.size, i, none⟩ = cs[i]? := by
  rw [World.cell?_alloc_mark]
theorem below_alloc (w : World) (o : Obj) : Below w.heap.size w (w.alloc o) := (Below.refl _ _).alloc (Nat.le_refl _) _

/-- The one part of a call, in new memory. -/
theorem PartsIn.new {w : World} {B g d r : Nat} {v : Value} {ys : List Int} (h : DAt w B g v ys d r) {a : Option Addr} {n c : Nat} {xs : List Int} (hn : n ≤ maxLen) (hnil : a = none → n = 0 ∧ c = 0) (hx : IsB w a n xs) (haw : n = 0 ∨ ∀ ad, a = some ad → ¬ (ad.block = g ∨ some ad.block = v.ownBlock)) :
    PartsIn (w.alloc (.cells #[.slice a n c] 31)) (fun k => k = g ∨ some k = v.ownBlock) (some ⟨w.heap.size, 0, none⟩) 1 [xs] :=
  PartsIn.one (h.off (Nat.le_refl _)) (new_cell w #[.slice a n c] 31 (0, 0) 0) hn hnil (hx.alloc _) haw

def zeros (n : Nat) : List Int := List.replicate n 0

set_option maxHeartbeats 4000000 in
theorem awake_any (w : World) : Calls Try.prog 8 #[] w fun e w' => e = .returned (.bool true) ∧ Below w.heap.size w w' := by
  have kc := fun (w : World) (C : Array Value) (n c : Nat) => Lib.run_convert_bytes_const (P := Try.prog) w 31 5 C n c Try.underlying31 Try.underlying5
  have kc2 := fun (w : World) (o : Obj) (C : Array Value) (n c : Nat) => (by simpa using kc (w.alloc o) C n c : (convert 31 31 (.slice (some ⟨w.heap.size + 1, 0, none⟩) n c)).run Try.prog ((w.alloc o).alloc (.cells C 5)) = .ok (.slice (some ⟨w.heap.size + 1, 0, none⟩) n c) ((w.alloc o).alloc (.cells C 5 (C.size, C.size + 1))))
  have hmk : ∀ w : World, (Instr.makeSlice 31 (.int .i64 7) (.int .i64 7)).run Try.prog w = .ok (.slice (some ⟨w.heap.size, 0, none⟩) 7 7) (w.alloc (.cells #[.int .u8 0, .int .u8 0, .int .u8 0, .int .u8 0, .int .u8 0, .int .u8 0, .int .u8 0] 5)) := fun _ => by kernel_rfl
  go_enter Try.func8, Try.ntmps8
  go_wp2_with fail
  refine (new_good w.heap.size 9 _ (by decide) (Nat.le_refl _)).mono ?_
  rintro e w1 ⟨rfl, hd1, hb1⟩
  have HD1 := Lib.hid hd1
  have HB1 := Lib.hid hb1
  have hs1 := hb1.size
  have hg1 := hd1.blk.lt
  clear hd1 hb1
  go_wp2_with fail
  have hd2 := ((HD1.out.alloc (.cells #[.int .u8 97, .int .u8 98] 5 (2, 3))).alloc (.cells #[.int .u8 99] 5 (1, 2))).alloc (.cells #[.slice (some ⟨w1.heap.size, 0, none⟩) 2 2, .slice (some ⟨w1.heap.size + 1, 0, none⟩) 1 1] 31)
  have hp : PartsIn ((((w1.alloc (.cells #[.int .u8 97, .int .u8 98] 5 (2, 3))).alloc (.cells #[.int .u8 99] 5 (1, 2))).alloc (.cells #[.slice (some ⟨w1.heap.size, 0, none⟩) 2 2, .slice (some ⟨w1.heap.size + 1, 0, none⟩) 1 1] 31))) (fun k => k = w.heap.size ∨ some k = (Value.slice none 0 0).ownBlock) (some ⟨w1.heap.size + 1 + 1, 0, none⟩) 2 [[97, 98], [99]] := by
    have h1 : IsB (w1.alloc (.cells #[.int .u8 97, .int .u8 98] 5 (2, 3))) (some ⟨w1.heap.size, 0, none⟩) 2 [97, 98] := IsB.lit w1 [97, 98] (2, 3) (by decide)
    have h2 : IsB ((w1.alloc (.cells #[.int .u8 97, .int .u8 98] 5 (2, 3))).alloc (.cells #[.int .u8 99] 5 (1, 2))) (some ⟨w1.heap.size + 1, 0, none⟩) 1 [99] := by simpa using IsB.lit (w1.alloc (.cells #[.int .u8 97, .int .u8 98] 5 (2, 3))) [99] (1, 2) (by decide)
    have hc := fun i => new_cell ((w1.alloc (.cells #[.int .u8 97, .int .u8 98] 5 (2, 3))).alloc (.cells #[.int .u8 99] 5 (1, 2))) #[.slice (some ⟨w1.heap.size, 0, none⟩) 2 2, .slice (some ⟨w1.heap.size + 1, 0, none⟩) 1 1] 31 (0, 0) i
    refine ⟨rfl, by simp [maxLen], fun i hi => ?_⟩
    match i, hi with
    | 0, _ => exact ⟨_, 0, _, 2, 2, rfl, by simp [Value.ownBlock]; omega, by simpa using hc 0, by simp [maxLen], by simp, (h1.alloc _).alloc _, .inr (by rintro ad he; injection he with he; subst he; simp [Value.ownBlock]; omega)⟩
    | 1, _ => exact ⟨_, 0, _, 1, 1, rfl, by simp [Value.ownBlock]; omega, by simpa using hc 1, by simp [maxLen], by simp, h2.alloc _, .inr (by rintro ad he; injection he with he; subst he; simp [Value.ownBlock]; omega)⟩
  have HP := Lib.hid hp
  have HD2 := Lib.hid hd2
  have hbx : Below w.heap.size w (((w1.alloc (.cells #[.int .u8 97, .int .u8 98] 5 (2, 3))).alloc (.cells #[.int .u8 99] 5 (1, 2))).alloc (.cells #[.slice (some ⟨w1.heap.size, 0, none⟩) 2 2, .slice (some ⟨w1.heap.size + 1, 0, none⟩) 1 1] 31)) := ((HB1.out.alloc hs1 _).alloc (by simp; omega) _).alloc (by simp; omega) _
  have HBX := Lib.hid hbx
  clear hp hd2 hbx
  refine (append_fits _ _ _ _ _ HD2.out HP.out (by decide)).mono ?_
  rintro e w2 ⟨rfl, v2, hd2, ht2, hv2⟩
  have hd2' : DAt w2 w.heap.size w.heap.size v2 [97, 98, 99] 0 9 := hd2
  have hb2 := HBX.out.trans (ht2.below (Nat.le_refl _) (by simp [Value.ownBlock]) HBX.out.size)
  have HDA := Lib.hid hd2'
  have HB2 := Lib.hid hb2
  clear hd2 ht2 hv2 hd2' hb2
  go_wp2_with fail
  have hz : IsB (w2.alloc (.cells #[.int .u8 0, .int .u8 0, .int .u8 0, .int .u8 0, .int .u8 0, .int .u8 0, .int .u8 0] 5)) (some ⟨w2.heap.size, 0, none⟩) 7 [0, 0, 0, 0, 0, 0, 0] := IsB.lit w2 [0, 0, 0, 0, 0, 0, 0] (0, 0) (by decide)
  have hd3 := HDA.out.alloc (.cells #[.int .u8 0, .int .u8 0, .int .u8 0, .int .u8 0, .int .u8 0, .int .u8 0, .int .u8 0] 5)
  have hp3 := PartsIn.new hd3 (c := 7) (by simp [maxLen]) (by simp) hz (.inr (by rintro ad he; injection he with he; subst he; exact HDA.out.off (Nat.le_refl _)))
  have hb3 := (HB2.out.alloc HB2.out.size (.cells #[.int .u8 0, .int .u8 0, .int .u8 0, .int .u8 0, .int .u8 0, .int .u8 0, .int .u8 0] 5)).alloc (by have := HB2.out.size; simp; omega) (.cells #[.slice (some ⟨w2.heap.size, 0, none⟩) 7 7] 31)
  have HP3 := Lib.hid hp3
  have HD3 := Lib.hid (hd3.alloc (.cells #[.slice (some ⟨w2.heap.size, 0, none⟩) 7 7] 31))
  have HB3 := Lib.hid hb3
  clear hz hd3 hp3 hb3
  have hz1 : (w2.alloc (.cells #[.int .u8 0, .int .u8 0, .int .u8 0, .int .u8 0, .int .u8 0, .int .u8 0, .int .u8 0] 5)).heap.size = w2.heap.size + 1 := by simp
  rw [hz1] at HP3
  refine (append_full _ _ _ _ _ HD3.out HP3.out (by decide)).mono ?_
  rintro e w3 ⟨rfl, q, rfl⟩
  go_wp2_with fail
  have hd4 := HD3.out.drewN q
  have hb4 : Below w.heap.size w (((w2.alloc (.cells #[.int .u8 0, .int .u8 0, .int .u8 0, .int .u8 0, .int .u8 0, .int .u8 0, .int .u8 0] 5)).alloc (.cells #[.slice (some ⟨w2.heap.size, 0, none⟩) 7 7] 31)).drewN q) := ⟨HB3.out.os, HB3.out.tape, HB3.out.output, HB3.out.size, HB3.out.block⟩
  have HD4 := Lib.hid hd4
  have HB4 := Lib.hid hb4
  clear hd4 hb4
  generalize ((w2.alloc (.cells #[.int .u8 0, .int .u8 0, .int .u8 0, .int .u8 0, .int .u8 0, .int .u8 0, .int .u8 0] 5)).alloc (.cells #[.slice (some ⟨w2.heap.size, 0, none⟩) 7 7] 31)).drewN q = w4 at *
  refine (crash_any 2 _ HD4.out (by omega)).mono ?_
  rintro e w5 ⟨rfl, v5, hd5, ht5, ho5⟩
  have hd5' : DAt w5 w.heap.size w.heap.size v5 [97, 98] 2 9 := hd5
  have HD5 := Lib.hid hd5'
  have HB5 := Lib.hid (HB4.out.trans (ht5.below (Nat.le_refl _) (by simp) HB4.out.size))
  clear hd5 hd5' ht5 ho5
  go_wp2_with fail
  refine (bytes_any _ HD5.out).mono ?_
  rintro e w6 ⟨u, rfl, hown6, hb6⟩
  obtain ⟨ua, uc, hu, hui, hrest⟩ := owned_slice hown6 HD5.out.byte
  have hu' : u = .slice ua 2 uc := hu
  have hui' : IsB w6 ua 2 [97, 98] := hui
  clear hu hrest
  subst hu'
  have hstr := hui'.str uc
  rw [show strOfNums [97, 98] = ⟨#[97, 98]⟩ from rfl] at hstr
  have HD6 := Lib.hid (HD5.out.below hb6)
  have HB6 := Lib.hid (HB5.out.trans (hb6.mono HB5.out.size))
  clear hown6 hb6 hui hui'
  go_wp2_with (first
    | (go_at_call 21; refine (size_any _ HD6.out).mono ?_; rintro e w' ⟨rfl, rfl⟩)
    | (go_at_call 22; refine (durable_any _ HD6.out).mono ?_; rintro e w' ⟨rfl, rfl⟩)
    | (go_at_call 23; refine (left_any _ HD6.out).mono ?_; rintro e w' ⟨rfl, q2, rfl⟩))
  go_ret
  exact ⟨rfl, ⟨HB6.out.os, HB6.out.tape, HB6.out.output, HB6.out.size, HB6.out.block⟩⟩
end Go.Proofs.Ytnppnccokmcbpaa
