/- NetPlays: the law. -/
import Derived.Test.YtmmjgpdclodlfaaNP0
import Derived.Deep.DeepCutAuto
import Derived.Deep.CutBlock
import Derived.BigQuiet
import Derived.Deep.RegionHeld3
namespace Go.Proofs.Ytmmjgpdclodlfaa
open Go.RowKit

/-- Operations that came in. -/
structure OpAt (w : World) (b o : Nat) (K I Bit fr dst : Int) (ba : Option Addr) (bc : Nat) (xs : List Int) : Prop where
  c0 : w.cell? ⟨b, o, none⟩ = some (.int .i64 K)
  c1 : w.cell? ⟨b, o + 1, none⟩ = some (.int .i64 I)
  c2 : w.cell? ⟨b, o + 2, none⟩ = some (.int .i64 Bit)
  c3 : w.cell? ⟨b, o + 3, none⟩ = some (.int .i64 fr)
  c4 : w.cell? ⟨b, o + 4, none⟩ = some (.int .i64 dst)
  c5 : w.cell? ⟨b, o + 5, none⟩ = some (.slice ba xs.length bc)
  row : PkIn w ba bc xs
  len : xs.length ≤ 140737488351232
  bit : Bit ≤ 9223372036854775807
def OpsIn (w : World) (a : Option Addr) (n : Nat) : Prop :=
  n = 0 ∨ ∃ b off, a = some ⟨b, off, none⟩ ∧ b < w.heap.size ∧ ∀ i, i < n → ∃ K I Bit fr dst ba bc xs, OpAt w b (off + i * 6) K I Bit fr dst ba bc xs
theorem OpAt.below {w w' : World} {b o : Nat} {K I Bit fr dst : Int} {ba : Option Addr} {bc : Nat} {xs : List Int} (h : OpAt w b o K I Bit fr dst ba bc xs) (hb : Below w.heap.size w w') (hl : b < w.heap.size) : OpAt w' b o K I Bit fr dst ba bc xs :=
  ⟨(hb.cell (p := ⟨b, o, none⟩) hl).trans h.c0, (hb.cell (p := ⟨b, o + 1, none⟩) hl).trans h.c1, (hb.cell (p := ⟨b, o + 2, none⟩) hl).trans h.c2, (hb.cell (p := ⟨b, o + 3, none⟩) hl).trans h.c3, (hb.cell (p := ⟨b, o + 4, none⟩) hl).trans h.c4, (hb.cell (p := ⟨b, o + 5, none⟩) hl).trans h.c5, h.row.below hb, h.len, h.bit⟩
/-- What the switch leaves. -/
def NPlay (w W : World) (g : Nat) (nodes : Int) (s8 s11 s12 : Value) : Prop := ∃ code v ps a c, NJ w W g nodes v ps a c (ps.map dk) ∧ s8 = .slice a ps.length c ∧ s11 = .int .i64 code ∧ s12 = .int .i64 code
theorem pkey_dk {qs ps : List Pk} (h : qs.map pkey = ps.map pkey) : qs.map dk = ps.map dk := by
  have e : dk = (fun t : Int × Int × List Int => (t.1, t.2.1, strOfNums t.2.2)) ∘ pkey := rfl
  rw [e, ← List.map_map, ← List.map_map, h]
theorem six_of {w : World} {g : Nat} {t : TypeId} {x y z u v s : Value} (h : Whole w g t #[x, y, z, u, v, s]) : (w.cell? ⟨g, 0, none⟩ = some x ∧ w.cell? ⟨g, 1, none⟩ = some y ∧ w.cell? ⟨g, 2, none⟩ = some z ∧ w.cell? ⟨g, 3, none⟩ = some u ∧ w.cell? ⟨g, 4, none⟩ = some v ∧ w.cell? ⟨g, 5, none⟩ = some s) := by
  refine ⟨?_, ?_, ?_, ?_, ?_, ?_⟩ <;> rw [h.cell] <;> rfl
theorem same_one {W : World} {k1 k2 pk : Nat} {fr dst : Int} {pa : Option Addr} {xs : List Int} (h1 : Whole W k1 32 #[.int .i64 fr, .int .i64 dst, .slice pa xs.length pk]) (h2 : Whole W k2 39 #[.int .i64 fr, .int .i64 dst, .string (strOfNums xs)]) (hb : IsB W pa xs.length xs) :
    Calls Try.prog 12 #[.slice (some ⟨k1, 0, none⟩) 1 1, .slice (some ⟨k2, 0, none⟩) 1 1] W fun e w' => e = .returned (.bool true) ∧ Below W.heap.size W w' := by
  refine same_true (B1 := 0) (B2 := 0) (ps := [⟨fr, dst, .slice pa xs.length pk, xs⟩]) (l := [(fr, dst, strOfNums xs)]) W ⟨rfl, (by intro e; cases e), Nat.le_refl _, by simp [maxLen], ?_⟩ ?_ ⟨⟨rfl, (by intro e; cases e), Nat.le_refl _, by simp [maxLen], ?_⟩⟩ rfl (by simp)
  · rintro ad ⟨⟩
    exact ⟨rfl, h1.lt, Nat.zero_le _, fun j u hu => by rw [add_plain, Nat.zero_add, h1.cell]; simpa [pcs, pc] using hu⟩
  · intro p hp
    rw [List.mem_singleton] at hp
    subst hp
    exact ⟨pa, pk, rfl, hb⟩
  · rintro ad ⟨⟩
    exact ⟨rfl, h2.lt, Nat.zero_le _, fun j u hu => by rw [add_plain, Nat.zero_add, h2.cell]; simpa [dcs, dc] using hu⟩
set_option maxRecDepth 100000 in
set_option maxHeartbeats 4000000 in
theorem nplays_bad (r : Int) (a : Option Addr) (n c : Nat) (w : World) (h : r < 1 ∨ 8 < r) :
    Calls Try.prog 3 #[.int .i64 r, .slice a n c] w fun e w' => e = .returned (.bool true) ∧ Below w.heap.size w w' := by
  have HW := Lib.hid (fun w => rwrong_any r w)
  simp only [if_pos h] at HW
  have H := Lib.hid h
  clear h
  go_enter Try.func3, Try.ntmps3
  go_wp2_with fail
  refine (awake_any _).mono ?_
  rintro e w1 ⟨rfl, hb⟩
  have HB := Lib.hid hb
  have HN := Lib.hid (new_bad r w1 H.out)
  clear hb
  go_wp2_with fail
  refine HN.out.mono ?_
  rintro e w2 ⟨rfl, rfl⟩
  go_wp2_with fail
  refine (HW.out _).mono ?_
  rintro e w3 ⟨rfl, rfl⟩
  go_wp2
  go_ret
  exact ⟨rfl, HB.out⟩
set_option maxRecDepth 100000 in
set_option maxHeartbeats 16000000 in
theorem nplays_good (r : Int) (a : Option Addr) (n c : Nat) (w : World) (h1 : 1 ≤ r) (h2 : r ≤ 8) (ho : OpsIn w a n) (hn : n ≤ 140737488355328) :
    Calls Try.prog 3 #[.int .i64 r, .slice a n c] w fun e w' => e = .returned (.bool true) ∧ Below w.heap.size w w' := by
  have HW := Lib.hid (fun w => rwrong_any r w)
  simp only [if_neg (show ¬ (r < 1 ∨ 8 < r) by omega)] at HW
  have HO := Lib.hid ho
  clear ho
  go_enter Try.func3, Try.ntmps3
  go_wp2_with fail
  refine (awake_any _).mono ?_
  rintro e w1 ⟨rfl, hb⟩
  have HB := Lib.hid hb
  have HN := Lib.hid (new_good r w1 h1 h2)
  clear hb
  go_wp2_with fail
  refine HN.out.mono ?_
  rintro e w2 ⟨rfl, hN2, hb2⟩
  have HJ0 := Lib.hid (show NJ w w2 w1.heap.size r (.slice none 0 0) [] none 0 [] from ⟨⟨hN2.net, HB.out.size, FRow.nil _ _, by simp, by simp⟩, ⟨by simp, by simp⟩, Ds.none _ _, (by rintro ad ⟨⟩), HB.out.trans (hb2.mono HB.out.size)⟩)
  clear hN2 hb2 HN
  generalize w1.heap.size = g at *
  go_wp2_with fail
  refine (HW.out _).mono ?_
  rintro e w3 ⟨rfl, rfl⟩
  go_wp2_with fail
  go_loopw [8, 51] (fun s8 iv wr => ∃ i : Nat, i ≤ n ∧ iv = .int .i64 i ∧ ∃ v ps a c, NJ w wr g r v ps a c (ps.map dk) ∧ s8 = .slice a ps.length c) (fun _ iv _ => n - (intOf iv).toNat)
  case atStart => exact ⟨0, by omega, rfl, _, _, _, _, HJ0.out, rfl⟩
  case round =>
    clear HJ0
    obtain ⟨i, hin, rfl, v, ps, a2, c2, hj, rfl⟩ := hrel
    by_cases hil : i < n
    · obtain ⟨bo, off, rfl, hbo, hop⟩ := HO.out.resolve_left (by omega)
      obtain ⟨K, I, Bit, fr, dst, ba, bc, xs, hop⟩ := hop i hil
      have hopr := hop.below hj.up hbo
      obtain ⟨d0, d1, d2, d3, d4, d5, _, _, _⟩ := hopr
      obtain ⟨w4, hw4⟩ : ∃ w4, w4 = wr.alloc (.cells #[.int .i64 K, .int .i64 I, .int .i64 Bit, .int .i64 fr, .int .i64 dst, .slice ba xs.length bc] 34) := ⟨_, rfl⟩
      have hb4 : Below wr.heap.size wr w4 := by rw [hw4]; exact below_alloc _ _
      have hx4 : Whole w4 wr.heap.size 34 #[.int .i64 K, .int .i64 I, .int .i64 Bit, .int .i64 fr, .int .i64 dst, .slice ba xs.length bc] := by rw [hw4]; exact heap_alloc_new _ _
      have hnx : ∀ k, NX g v ps k → k ≠ wr.heap.size := fun k hk => by have := (hj.net.nx hk).2; omega
      have HJ4 := Lib.hid (hj.below hb4)
      have HX4 := Lib.hid hx4
      have HNX := Lib.hid hnx
      have HOP := Lib.hid hop
      have hps := hj.good.len
      have hql : wr.heap.size < w4.heap.size := hx4.lt
      clear hj hb4 hx4 hnx hop
      go_upto_block 2 with fail
      rw [← hw4]
      clear hw4 d0 d1 d2 d3 d4 d5
      generalize wr.heap.size = q at *
      obtain ⟨d0, d1, d2, d3, d4, d5⟩ := six_of HX4.out
      go_cut [8, 11, 12] (fun s8 s11 s12 wx => NPlay w wx g r s8 s11 s12)
      case first J KK hJR hMK =>
        by_cases hK : K = 0 ∨ K = 1 ∨ K = 2 ∨ K = 3 ∨ K = 4
        · rcases hK with rfl | rfl | rfl | rfl | rfl
          · obtain ⟨code, l', hS, hR⟩ := send_pair (g := g) (v := v) fr dst HJ4.out.good HOP.out.len
            have HS := Lib.hid (hS w4 w.heap.size ba bc HJ4.out.net HJ4.out.up.size (HOP.out.row.below HJ4.out.up))
            have HR := Lib.hid hR
            clear hS hR
            go_wp2_with fail
            refine HS.out.mono ?_
            rintro e w5 ⟨rfl, hp⟩
            obtain ⟨v5, ps5, hj5, he5⟩ := HJ4.out.net_step hp
            have hx5 := HX4.out.kept (hp.chg.block _ HX4.out.lt (fun hk => HNX.out _ hk rfl))
            clear d0 d1 d2 d3 d4 d5
            obtain ⟨d0, d1, d2, d3, d4, d5⟩ := six_of hx5
            have hql5 : q < w5.heap.size := hx5.lt
            have HJ5 := Lib.hid hj5
            have HE5 := Lib.hid he5
            have HX5 := Lib.hid hx5
            have HRC := Lib.hid (HR.out w5 w.heap.size a2 c2 hj5.doc hj5.up.size)
            rw [List.length_map] at HRC
            have hst := (HOP.out.row.below hj5.up).isb.str bc
            clear hp hj5 hx5 he5 HS HR
            go_wp2_with fail
            refine HRC.out.mono ?_
            rintro e w6 ⟨val, rfl, hd⟩
            obtain ⟨a6, c6, rfl, hj6⟩ := HJ5.out.doc_step hd
            have HN := Lib.hid (show NPlay w w6 g r (.slice a6 l'.length c6) (.int .i64 code) (.int .i64 code) from ⟨code, v5, ps5, a6, c6, by rw [HE5.out]; exact hj6, by rw [← HE5.out, List.length_map], rfl, rfl⟩)
            clear hj6 hd
            go_wp2_with fail
            go_meet
            exact HN.out
          · obtain ⟨code, fr1, dst1, ys, l', hS, hR⟩ := deliver_pair (g := g) (v := v) I HJ4.out.good
            have HS := Lib.hid (hS w4 w.heap.size HJ4.out.net HJ4.out.up.size)
            have HR := Lib.hid hR
            clear hS hR
            go_wp2_with fail
            refine HS.out.mono ?_
            rintro e w5 ⟨pa, pk, rfl, hib, hp⟩
            obtain ⟨v5, ps5, hj5, he5⟩ := HJ4.out.net_step hp
            have hx5 := HX4.out.kept (hp.chg.block _ HX4.out.lt (fun hk => HNX.out _ hk rfl))
            clear d0 d1 d2 d3 d4 d5
            obtain ⟨d0, d1, d2, d3, d4, d5⟩ := six_of hx5
            have hql5 : q < w5.heap.size := hx5.lt
            have HJ5 := Lib.hid hj5
            have HE5 := Lib.hid he5
            have HX5 := Lib.hid hx5
            obtain ⟨w5a, hw5a⟩ : ∃ w5a, w5a = w5.alloc (.cells #[.int .i64 fr1, .int .i64 dst1, .slice pa ys.length pk] 32) := ⟨_, rfl⟩
            have hb5a : Below w5.heap.size w5 w5a := by rw [hw5a]; exact below_alloc _ _
            have hx5a : Whole w5a w5.heap.size 32 #[.int .i64 fr1, .int .i64 dst1, .slice pa ys.length pk] := by rw [hw5a]; exact heap_alloc_new _ _
            have HB5A := Lib.hid hb5a
            have HX5A := Lib.hid hx5a
            have HJ5A := Lib.hid (hj5.below hb5a)
            have HIB := Lib.hid (hib.below hb5a)
            have HRC := Lib.hid (HR.out w5a w.heap.size a2 c2 HJ5A.out.doc HJ5A.out.up.size)
            rw [List.length_map] at HRC
            have hz5 : w5.heap.size < w5a.heap.size := hx5a.lt
            clear hp hj5 hx5 he5 HS HR hb5a hx5a hib
            go_wp2_with fail
            rw [← hw5a]
            clear hw5a
            refine HRC.out.mono ?_
            rintro e w6 ⟨val, rfl, hd⟩
            obtain ⟨a6, c6, rfl, hj6⟩ := HJ5A.out.doc_step hd
            have HJ6 := Lib.hid hj6
            have HB6 := Lib.hid hd.below
            obtain ⟨w6a, hw6a⟩ : ∃ w6a, w6a = w6.alloc (.cells #[.int .i64 fr1, .int .i64 dst1, .string (strOfNums ys)] 39) := ⟨_, rfl⟩
            have hb6a : Below w6.heap.size w6 w6a := by rw [hw6a]; exact below_alloc _ _
            have hx6b := HX5A.out.kept (hd.below.block _ HX5A.out.lt)
            have hlt6 : w5.heap.size < w6.heap.size := hx6b.lt
            have hne6 : w5.heap.size ≠ w6.heap.size := by omega
            clear d0 d1 d2 d3 d4 d5 hj6 hd
            obtain ⟨⟨d3, d4, d5⟩, _⟩ := three_of hx6b
            have HX6B := Lib.hid hx6b
            clear hx6b hw6a
            obtain ⟨wx, hwx⟩ : ∃ wx, wx = ((w6.alloc (.cells #[.int .i64 fr1, .int .i64 dst1, .string (strOfNums ys)] 39)).alloc (.cells #[.int .i64 fr1, .int .i64 dst1, .slice pa ys.length pk] 32)).alloc (.cells #[.int .i64 fr1, .int .i64 dst1, .string (strOfNums ys)] 39) := ⟨_, rfl⟩
            have hk1 : Whole wx (w6.heap.size + 1) 32 #[.int .i64 fr1, .int .i64 dst1, .slice pa ys.length pk] := by
              have h := heap_alloc_new (w6.alloc (.cells #[.int .i64 fr1, .int .i64 dst1, .string (strOfNums ys)] 39)) (.cells #[.int .i64 fr1, .int .i64 dst1, .slice pa ys.length pk] 32)
              rw [World.size_alloc] at h
              rw [hwx]
              exact Whole.kept h ((below_alloc _ _).block _ (by simp))
            have hk2 : Whole wx (w6.heap.size + 1 + 1) 39 #[.int .i64 fr1, .int .i64 dst1, .string (strOfNums ys)] := by
              have h := heap_alloc_new ((w6.alloc (.cells #[.int .i64 fr1, .int .i64 dst1, .string (strOfNums ys)] 39)).alloc (.cells #[.int .i64 fr1, .int .i64 dst1, .slice pa ys.length pk] 32)) (.cells #[.int .i64 fr1, .int .i64 dst1, .string (strOfNums ys)] 39)
              rw [World.size_alloc, World.size_alloc] at h
              rw [hwx]
              exact h
            have hbx : Below w6.heap.size w6 wx := by
              rw [hwx]
              exact ((below_alloc _ _).trans ((below_alloc _ _).mono (by simp))).trans ((below_alloc _ _).mono (by simp; omega))
            have HSO := Lib.hid (same_one hk1 hk2 ((HIB.out.below HB6.out).below hbx))
            have HNX2 := Lib.hid (fun (W : World) (hb : Below wx.heap.size wx W) => show NPlay w W g r (.slice a6 l'.length c6) (.int .i64 code) (.int .i64 code) from ⟨code, v5, ps5, a6, c6, by rw [HE5.out]; exact HJ6.out.below (hbx.trans (hb.mono hbx.size)), by rw [← HE5.out, List.length_map], rfl, rfl⟩)
            clear hk1 hk2 hbx
            go_wp2_with fail
            rw [← hwx]
            clear hwx
            refine HSO.out.mono ?_
            rintro e w8 ⟨rfl, hb8⟩
            have HN8 := Lib.hid (HNX2.out w8 hb8)
            clear hb8
            go_wp2_with fail
            go_meet
            exact HN8.out
          · obtain ⟨wrong, code, fr1, dst1, ys, l', hwc, hS, hR, hR2⟩ := copy_pair (g := g) (v := v) I HJ4.out.good
            have HS := Lib.hid (hS w4 w.heap.size HJ4.out.net HJ4.out.up.size)
            have HR := Lib.hid hR
            have HR2 := Lib.hid hR2
            have HWC := Lib.hid hwc
            clear hS hR hR2 hwc
            go_wp2_with fail
            refine HS.out.mono ?_
            rintro e w5 ⟨rfl, hp⟩
            obtain ⟨v5, ps5, hj5, he5⟩ := HJ4.out.net_step hp
            have hx5 := HX4.out.kept (hp.chg.block _ HX4.out.lt (fun hk => HNX.out _ hk rfl))
            clear d0 d1 d2 d3 d4 d5
            obtain ⟨d0, d1, d2, d3, d4, d5⟩ := six_of hx5
            have hql5 : q < w5.heap.size := hx5.lt
            have HJ5 := Lib.hid hj5
            have HE5 := Lib.hid he5
            have HX5 := Lib.hid hx5
            have HRC := Lib.hid (HR.out w5 w.heap.size a2 c2 hj5.doc hj5.up.size)
            rw [List.length_map] at HRC
            clear hp hj5 hx5 he5 HS HR
            go_wp2_with fail
            refine HRC.out.mono ?_
            rintro e w6 ⟨a1, n1, c1, rfl, hb6⟩
            have HJ6 := Lib.hid (HJ5.out.below hb6)
            have hx6 := HX5.out.kept (hb6.block _ HX5.out.lt)
            clear d0 d1 d2 d3 d4 d5
            obtain ⟨d0, d1, d2, d3, d4, d5⟩ := six_of hx6
            obtain ⟨w6a, hw6a⟩ : ∃ w6a, w6a = w6.alloc (.cells #[.int .i64 fr1, .int .i64 dst1, .string (strOfNums ys)] 39) := ⟨_, rfl⟩
            have hb6a : Below w6.heap.size w6 w6a := by rw [hw6a]; exact below_alloc _ _
            have HJ6A := Lib.hid (HJ6.out.below hb6a)
            clear hb6 hx6 hb6a
            rcases HWC.out with rfl | ⟨rfl, rfl, rfl⟩
            · have HRD := Lib.hid (HR2.out rfl w6a w.heap.size a2 c2 HJ6A.out.doc HJ6A.out.up.size)
              rw [List.length_map] at HRD
              go_wp2_with fail
              rw [← hw6a]
              clear hw6a
              refine HRD.out.mono ?_
              rintro e w7 ⟨val, rfl, hd⟩
              obtain ⟨a6, c6, rfl, hj6⟩ := HJ6A.out.doc_step hd
              have HN := Lib.hid (show NPlay w w7 g r (.slice a6 l'.length c6) (.int .i64 code) (.int .i64 code) from ⟨code, v5, ps5, a6, c6, by rw [HE5.out]; exact hj6, by rw [← HE5.out, List.length_map], rfl, rfl⟩)
              clear hj6 hd
              go_wp2_with fail
              go_meet
              exact HN.out
            · have HN := Lib.hid (show NPlay w w6a g r (.slice a2 ps.length c2) (.int .i64 4) (.int .i64 4) from ⟨4, v5, ps5, a2, c2, by rw [HE5.out]; exact HJ6A.out, by rw [show ps5.length = ps.length by rw [← List.length_map (f := dk), HE5.out, List.length_map]], rfl, rfl⟩)
              go_wp2_with fail
              rw [← hw6a]
              clear hw6a
              go_meet
              exact HN.out
          · obtain ⟨code, l', hS, hR⟩ := flip_pair (g := g) (v := v) I Bit HOP.out.bit HJ4.out.good (fun p hp => (HJ4.out.net.pks p hp).byte)
            have HS := Lib.hid (hS w4 w.heap.size HJ4.out.net HJ4.out.up.size)
            have HR := Lib.hid hR
            clear hS hR
            go_wp2_with fail
            refine HS.out.mono ?_
            rintro e w5 ⟨rfl, hp⟩
            obtain ⟨v5, ps5, hj5, he5⟩ := HJ4.out.net_step hp
            have hx5 := HX4.out.kept (hp.chg.block _ HX4.out.lt (fun hk => HNX.out _ hk rfl))
            clear d0 d1 d2 d3 d4 d5
            obtain ⟨d0, d1, d2, d3, d4, d5⟩ := six_of hx5
            have hql5 : q < w5.heap.size := hx5.lt
            have HJ5 := Lib.hid hj5
            have HE5 := Lib.hid he5
            have HX5 := Lib.hid hx5
            have HRC := Lib.hid (HR.out w5 w.heap.size a2 c2 hj5.doc hj5.up.size)
            rw [List.length_map] at HRC
            clear hp hj5 hx5 he5 HS HR
            go_wp2_with fail
            refine HRC.out.mono ?_
            rintro e w6 ⟨val, rfl, hd⟩
            obtain ⟨a6, c6, rfl, hj6⟩ := HJ5.out.doc_step hd
            have HN := Lib.hid (show NPlay w w6 g r (.slice a6 l'.length c6) (.int .i64 code) (.int .i64 code) from ⟨code, v5, ps5, a6, c6, by rw [HE5.out]; exact hj6, by rw [← HE5.out, List.length_map], rfl, rfl⟩)
            clear hj6 hd
            go_wp2_with fail
            go_meet
            exact HN.out
          · obtain ⟨num, l', hS, hR⟩ := lose_pair (g := g) (v := v) I HJ4.out.good
            have HRC := Lib.hid (hR w4 w.heap.size a2 c2 HJ4.out.doc HJ4.out.up.size)
            rw [List.length_map] at HRC
            have HS := Lib.hid hS
            clear hS hR
            go_wp2_with fail
            refine HRC.out.mono ?_
            rintro e w5 ⟨val, rfl, hd⟩
            have hx5 := HX4.out.kept (hd.below.block _ HX4.out.lt)
            clear d0 d1 d2 d3 d4 d5
            obtain ⟨d0, d1, d2, d3, d4, d5⟩ := six_of hx5
            obtain ⟨a6, c6, rfl, hj6⟩ := HJ4.out.doc_step hd
            have HSC := Lib.hid (HS.out w5 w.heap.size hj6.net hj6.up.size)
            have HJ6 := Lib.hid hj6
            clear hj6 hd hx5
            go_wp2_with fail
            refine HSC.out.mono ?_
            rintro e w6 ⟨rfl, hp⟩
            obtain ⟨v5, ps5, hj7, he7⟩ := HJ6.out.net_step hp
            have HN := Lib.hid (show NPlay w w6 g r (.slice a6 l'.length c6) (.int .i64 0) (.int .i64 0) from ⟨0, v5, ps5, a6, c6, by rw [he7]; exact hj7, by rw [← he7, List.length_map], rfl, rfl⟩)
            clear hj7 he7 hp
            go_wp2_with fail
            go_meet
            exact HN.out
        · have hK0 : K ≠ 0 := fun h => hK (.inl h)
          have hK1 : K ≠ 1 := fun h => hK (.inr (.inl h))
          have hK2 : K ≠ 2 := fun h => hK (.inr (.inr (.inl h)))
          have hK3 : K ≠ 3 := fun h => hK (.inr (.inr (.inr (.inl h))))
          have hK4 : K ≠ 4 := fun h => hK (.inr (.inr (.inr (.inr h))))
          clear hK
          have HN := Lib.hid (show NPlay w w4 g r (.slice a2 ps.length c2) (.int .i64 0) (.int .i64 0) from ⟨0, v, ps, a2, c2, HJ4.out, rfl, rfl, rfl⟩)
          go_wp2_with fail
          go_meet
          exact HN.out
      case rest =>
        clear HJ4 HX4 HNX HOP d0 d1 d2 d3 d4 d5 hps
        obtain ⟨code, v5, ps5, a5, c5, hj5, rfl, rfl, rfl⟩ := hcut
        have HLN := Lib.hid (len_any wc hj5.net)
        have HPK := Lib.hid (packets_any wc hj5.net hj5.good.len)
        have HJ5 := Lib.hid hj5
        have hps5 := hj5.good.len
        clear hj5
        go_wp2_with fail
        refine HLN.out.mono ?_
        rintro e w6 ⟨rfl, rfl⟩
        go_wp2_with fail
        refine HPK.out.mono ?_
        rintro e w7 ⟨⟨v2, qs, rfl, hown, hk⟩, hb7⟩
        have hlq : qs.length = ps5.length := by have := congrArg List.length hk; simpa using this
        obtain ⟨qa, qc, rfl, hqL⟩ := hown.row.lies
        have HSM := Lib.hid (same_true w7 hqL (fun p hp => (hown.pks p hp).lies) (HJ5.out.below hb7).doc (pkey_dk hk) (by omega))
        rw [List.length_map] at HSM
        have HJ7 := Lib.hid (HJ5.out.below hb7)
        clear hown hqL hk hb7 hlq
        go_wp2_with fail
        refine HSM.out.mono ?_
        rintro e w8 ⟨rfl, hb8⟩
        have HJ8 := Lib.hid (HJ7.out.below hb8)
        clear hb8
        go_wp2
        go_roundw
        case rel => exact ⟨i + 1, by omega, by go_num, _, _, _, _, HJ8.out, rfl⟩
        case measure => simp [intOf]; omega
    · go_wp2
      go_ret
      exact ⟨rfl, hj.up⟩
end Go.Proofs.Ytmmjgpdclodlfaa
