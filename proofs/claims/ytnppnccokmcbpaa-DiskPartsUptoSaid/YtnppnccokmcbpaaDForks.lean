/- DiskForks: two forks go on by themselves. -/
import Derived.Test.YtnppnccokmcbpaaDLasts
namespace Go.Proofs.Ytnppnccokmcbpaa
open Go.RowKit

/-- Two disks share no row. -/
def Rows2 (u v : Value) : Prop := ∀ k, u.ownBlock = some k → v.ownBlock ≠ some k
theorem DAt.keep {w w' : World} {B B2 g g2 d r d2 r2 : Nat} {u v : Value} {o : Option Nat} {xs ys : List Int} (hf : DAt w B g2 u xs d r) (hd : DAt w B2 g v ys d2 r2) (ht : Turned w w' g o) (ho : o = v.ownBlock ∨ o = none) (hne : g2 ≠ g) (hr : Rows2 u v) : DAt w' B g2 u xs d r := by
  refine hf.other ht hne ?_ (fun k hk => ⟨?_, ?_⟩)
  · rcases ho with rfl | rfl
    · exact fun e => hf.apart B2 (e := 5) (by decide) hd.own e.symm
    · simp
  · rintro rfl
    exact hd.apart B (e := 5) (by decide) hf.own hk
  · rcases ho with rfl | rfl
    · exact fun e => hr k hk e.symm
    · simp
theorem Rows2.step {w : World} {B g d r : Nat} {u v v' : Value} {xs : List Int} (h : Rows2 u v) (hf : DAt w B g u xs d r) (ho : v'.ownBlock = v.ownBlock ∨ ∃ q, v'.ownBlock = some q ∧ w.heap.size ≤ q) : Rows2 u v' := by
  intro k hk
  rcases ho with ho | ⟨q, ho, hq⟩
  · rw [ho]
    exact h k hk
  · rw [ho]
    have := (hf.own.lt k hk).2
    intro e
    injection e with e
    omega
theorem Rows2.same {u v v' : Value} (h : Rows2 u v) (ho : v'.ownBlock = v.ownBlock) : Rows2 u v' := by
  intro k hk
  rw [ho]
  exact h k hk

set_option maxHeartbeats 2000000 in
theorem forks_long (a b : Option Addr) (n c m k : Nat) (keep : Int) (w : World) (hl : 1048576 < n + m) (hn : n ≤ 140737488351232) (hm : m ≤ 140737488351232) :
    Calls Try.prog 7 #[.slice a n c, .slice b m k, .int .i64 keep] w fun e w' => e = .returned (.bool true) ∧ Below w.heap.size w w' := by
  have hs := sum_wrap n m hn hm
  have hd : decide ((1048576 : Int) < (n : Int) + (m : Int)) = true := by simp; omega
  go_enter Try.func7, Try.ntmps7
  go_wp2_with (first
    | (go_at_call 8; refine (awake_any _).mono ?_; rintro e w1 ⟨rfl, hb1⟩; have HB1 := Lib.hid hb1; clear hb1)
    | (go_at_call 9; refine (new_good w.heap.size 1048576 _ (by decide) HB1.out.size).mono ?_; rintro e w2 ⟨rfl, hd2, hb2⟩; have HD2 := Lib.hid hd2; have HB2 := Lib.hid (HB1.out.trans (hb2.mono HB1.out.size)); clear hd2 hb2))
  go_ret
  exact ⟨rfl, HB2.out⟩

/-- What holds while the first fork is looked at. -/
structure FS (w W : World) (B g g2 n c p r : Nat) (a : Option Addr) (u v : Value) (fx xs ys : List Int) : Prop where
  f : DAt W B g2 u fx 0 r
  d : DAt W B g v ys p r
  a : IsB W a n xs
  b : Below w.heap.size w W
theorem FS.below {w W W' : World} {B g g2 n c p r : Nat} {a : Option Addr} {u v : Value} {fx xs ys : List Int} (h : FS w W B g g2 n c p r a u v fx xs ys) (hb : Below W.heap.size W W') : FS w W' B g g2 n c p r a u v fx xs ys :=
  ⟨h.f.below hb, h.d.below hb, h.a.below hb, h.b.trans (hb.mono h.b.size)⟩
theorem below_drewN (W : World) (q : Nat) : Below W.heap.size W (W.drewN q) := ⟨rfl, rfl, rfl, Nat.le_refl _, fun _ _ => rfl⟩

set_option maxHeartbeats 8000000 in
theorem forks_short (a b : Option Addr) (n c m k : Nat) (keep : Int) (xs zs : List Int) (w : World) (hl : n + m ≤ 1048576) (hx : IsB w a n xs) (hz : IsB w b m zs) (hxn : a = none → n = 0 ∧ c = 0) (hzn : b = none → m = 0 ∧ k = 0) (hk : keep < 9223372036854775808) :
    Calls Try.prog 7 #[.slice a n c, .slice b m k, .int .i64 keep] w fun e w' => e = .returned (.bool true) ∧ Below w.heap.size w w' := by
  have hs := sum_wrap n m (by omega) (by omega)
  have hd : decide ((1048576 : Int) < (n : Int) + (m : Int)) = false := by simp; omega
  have hln := hx.1
  have hlm := hz.1
  have HLN := Lib.hid hln
  have HLM := Lib.hid hlm
  have HX := Lib.hid hx
  have HZ := Lib.hid hz
  have HXN := Lib.hid hxn
  have HZN := Lib.hid hzn
  clear hx hz hxn hzn hln hlm
  go_enter Try.func7, Try.ntmps7
  go_wp2_with (first
    | (go_at_call 8; refine (awake_any _).mono ?_; rintro e w1 ⟨rfl, hb1⟩; have HB1 := Lib.hid hb1; clear hb1)
    | (go_at_call 9; refine (new_good w.heap.size 1048576 _ (by decide) HB1.out.size).mono ?_; rintro e w2 ⟨rfl, hd2, hb2⟩; have HD2 := Lib.hid hd2; have HB2 := Lib.hid (HB1.out.trans (hb2.mono HB1.out.size)); clear hd2 hb2))
  have HG := Lib.hid (show w.heap.size ≤ w1.heap.size from HB1.out.size)
  generalize w1.heap.size = g at *
  refine (append_arg a n c xs w w2 HD2.out HX.out HXN.out HB2.out (Nat.le_refl _) (by unfold maxLen; omega) (by simp; omega)).mono ?_
  rintro e w3 ⟨rfl, v3, hd3, ht3, _⟩
  have HB3 := Lib.hid (HB2.out.trans (HD2.out.turned ht3 HB2.out.size))
  have HD3 := Lib.hid (show DAt w3 w.heap.size g v3 xs 0 1048576 from hd3)
  clear hd3 ht3
  go_wp2_with fail
  refine (fork_any _ HD3.out).mono ?_
  rintro e w4 ⟨g2, u, rfl, hf4, hb4⟩
  have hne : g2 ≠ g := by have := hf4.ge; have := HD3.out.blk.lt; omega
  have hrows : Rows2 u v3 := by
    intro q hq he
    have h1 := (hf4.own.lt q hq).1
    have h2 := (HD3.out.own.lt q he).2
    omega
  have HB4 := Lib.hid (HB3.out.trans (hb4.mono HB3.out.size))
  have HD4 := Lib.hid (HD3.out.below hb4)
  have HF4 := Lib.hid (hf4.base HB3.out.size)
  have HNE := Lib.hid hne
  have HR4 := Lib.hid hrows
  clear hf4 hb4 hne hrows
  go_wp2_with fail
  refine (sync_any _ HD4.out).mono ?_
  rintro e w5 ⟨rfl, hd5, ht5⟩
  have HB5 := Lib.hid (HB4.out.trans (HD4.out.turned0 ht5 HB4.out.size))
  have HF5 := Lib.hid (HF4.out.keep HD4.out ht5 (.inr rfl) HNE.out HR4.out)
  have HD5 := Lib.hid hd5
  clear hd5 ht5
  go_wp2_with fail
  refine (append_arg b m k zs w w5 HD5.out HZ.out HZN.out HB5.out (Nat.le_refl _) (by unfold maxLen; omega) (by rw [HLN.out]; omega)).mono ?_
  rintro e w6 ⟨rfl, v6, hd6, ht6, ho6⟩
  have HB6 := Lib.hid (HB5.out.trans (HD5.out.turned ht6 HB5.out.size))
  have HF6 := Lib.hid (HF5.out.keep HD5.out ht6 (.inl rfl) HNE.out HR4.out)
  have HR6 := Lib.hid (HR4.out.step HF5.out ho6)
  have HD6 := Lib.hid hd6
  clear hd6 ht6 ho6
  go_wp2_with fail
  refine (crash_any keep _ HD6.out hk).mono ?_
  rintro e w7 ⟨rfl, v7, hd7, ht7, ho7⟩
  have HB7 := Lib.hid (HB6.out.trans (HD6.out.turned0 ht7 HB6.out.size))
  have HF7 := Lib.hid (HF6.out.keep HD6.out ht7 (.inr rfl) HNE.out HR6.out)
  have HR7 := Lib.hid (HR6.out.same ho7)
  obtain ⟨p, hp⟩ : ∃ p, p = left (xs ++ zs).length xs.length keep := ⟨_, rfl⟩
  rw [← hp] at hd7
  have hpn : n ≤ p ∧ p ≤ n + m := by
    rw [hp]
    unfold left
    simp only [List.length_append]
    have := HLN.out
    have := HLM.out
    omega
  have HD7 := Lib.hid hd7
  clear hd7 ht7 ho7 hp
  obtain ⟨A, hA⟩ : ∃ A, A = strOfNums xs := ⟨_, rfl⟩
  have hx7 := HX.out.below HB7.out
  have hca := hx7.str c
  rw [← hA] at hca
  have HA := Lib.hid hA
  have HX7 := Lib.hid hx7
  clear hA hx7
  go_wp2_with fail
  have hca' : (convert 31 9 (.slice a n c)).run Try.prog w7.drew = .ok (.string A) w7.drew := by rw [HA.out]; exact IsB.str (w := w7.drew) (show IsB w7 a n xs from HX7.out) c
  have HDF := Lib.hid (show DAt w7.drew w.heap.size g2 u xs 0 1048576 from HF7.out.drewN 1)
  have HX7D := Lib.hid (show IsB w7.drew a n xs from HX7.out)
  have hTT : (A.toList == A.toList) = true := by simp
  have hTN : (A.toList != A.toList) = false := by simp
  have hl2 : ((1048576 - xs.length : Nat) : Int) = 1048576 - (n : Int) := by have := HLN.out; omega
  have HL2 := Lib.hid hl2
  have hwr : IntKind.i64.wrap (1048576 - (n : Int)) = 1048576 - (n : Int) := IntWalk.i64_in _ (by omega)
  clear hl2 hca
  have hfs : FS w w7 w.heap.size g g2 n c p 1048576 a u v7 xs xs ((xs ++ zs).take p) := ⟨HF7.out, HD7.out, HX7.out, HB7.out⟩
  have HFS := Lib.hid hfs
  clear hfs
  refine wp_region_held_drew (S := fun W => FS w W w.heap.size g g2 n c p 1048576 a u v7 xs xs ((xs ++ zs).take p) ∧ (convert 31 9 (.slice a n c)).run Try.prog W = .ok (.string A) W) (by kernel_rfl) ⟨HFS.out.below (below_drewN _ 1), hca'⟩ (fun hHeld => ?_)
  refine wpAnyH_take (i := 0) (oi := { dst := Option.some 45, op := Go.Op.move (Go.Operand.tmp 9), type := 24, pos := "law.go:180", after := #[], guard := Option.none }) (v := ?_) rfl (by kernel_rfl) (by kernel_rfl) (by kernel_rfl) (fun _ _ _ h => h) (Or.inl ⟨by rfl, ?_⟩) (by assumption) ?_
  rotate_left
  · intro w hSw; (try dsimp only at hSw); go_simp; all_goals (with_reducible rfl)
  try simp only [Act.put, List.setIfInBounds_toArray, List.set_cons_zero, List.set_cons_succ]
  refine wpAnyH_take (i := 1) (oi := { dst := Option.some 46, op := Go.Op.nilCheck (Go.Operand.tmp 45), type := 0, pos := "law.go:180", after := #[{ on := 0, ground := Go.Ground.data }], guard := Option.none }) (v := ?_) rfl (by kernel_rfl) (by kernel_rfl) (by kernel_rfl) (fun _ _ _ h => h) (Or.inl ⟨by rfl, ?_⟩) (by assumption) ?_
  rotate_left
  · intro w hSw; (try dsimp only at hSw); go_simp; all_goals (with_reducible rfl)
  try simp only [Act.put, List.setIfInBounds_toArray, List.set_cons_zero, List.set_cons_succ]
  refine wpAnyH_take (i := 2) (oi := { dst := Option.some 47, op := Go.Op.fieldAddr 47 (Go.Operand.tmp 46) 0, type := 0, pos := "law.go:180", after := #[{ on := 1, ground := Go.Ground.data }], guard := Option.none }) (v := ?_) rfl (by kernel_rfl) (by kernel_rfl) (by kernel_rfl) (fun _ _ _ h => h) (Or.inl ⟨by rfl, ?_⟩) (by assumption) ?_
  rotate_left
  · intro w hSw; (try dsimp only at hSw); go_simp; all_goals (with_reducible rfl)
  try simp only [Act.put, List.setIfInBounds_toArray, List.set_cons_zero, List.set_cons_succ]
  refine wpAnyH_take (i := 5) (oi := { dst := Option.some 50, op := Go.Op.move (Go.Operand.tmp 0), type := 31, pos := "law.go:180", after := #[], guard := Option.none }) (v := ?_) rfl (by kernel_rfl) (by kernel_rfl) (by kernel_rfl) (fun _ _ _ h => h) (Or.inl ⟨by rfl, ?_⟩) (by assumption) ?_
  rotate_left
  · intro w hSw; (try dsimp only at hSw); go_simp; all_goals (with_reducible rfl)
  try simp only [Act.put, List.setIfInBounds_toArray, List.set_cons_zero, List.set_cons_succ]
  refine wpAnyH_take (i := 6) (oi := { dst := Option.some 51, op := Go.Op.convert 31 9 (Go.Operand.tmp 50), type := 9, pos := "law.go:180", after := #[{ on := 5, ground := Go.Ground.data }], guard := Option.none }) (v := ?_) rfl (by kernel_rfl) (by kernel_rfl) (by kernel_rfl) (fun _ _ _ h => h) (Or.inl ⟨by rfl, ?_⟩) (by assumption) ?_
  rotate_left
  · intro w hSw; (try dsimp only at hSw); go_simp; all_goals (with_reducible rfl)
  try simp only [Act.put, List.setIfInBounds_toArray, List.set_cons_zero, List.set_cons_succ]
  refine wpAnyH_ready (rs := [3]) (by kernel_rfl) (by simp) ?_
  refine AllReadyH.cons (o := { dst := Option.some 48, op := Go.Op.call { callee := Go.Callee.value (Go.Operand.func 20), args := #[Go.Operand.tmp 47], argTypes := #[45] }, type := 31, pos := "law.go:180", after := #[{ on := 2, ground := Go.Ground.data }], guard := Option.none }) rfl (fun K hK => ?_) AllReadyH.nil
  go_simp
  refine (bytes_any (B := w.heap.size) (g := g2) (d := 0) (r := 1048576) (v := u) (xs := xs) _ hHeld.1.f).mono ?_
  rintro e w8 ⟨u2, rfl, hown8, hb8⟩
  obtain ⟨ua, uc, rfl, hui, _⟩ := owned_slice hown8 HF7.out.byte
  have hcu := hui.str uc
  rw [← HA.out] at hcu
  have hF8 := Lib.hid (hHeld.1.below hb8)
  clear hown8 hb8 hui hHeld
  go_wp2_with fail
  refine hK.out _ _ (⟨hF8.out, by rw [HA.out]; exact IsB.str hF8.out.a c⟩) (fun hHeld => ?_)
  clear hK K
  try simp only [Act.put, List.setIfInBounds_toArray, List.set_cons_zero, List.set_cons_succ]
  refine wpAnyH_ready (rs := [4]) (by kernel_rfl) (by simp) ?_
  refine AllReadyH.cons (o := { dst := Option.some 49, op := Go.Op.convert 31 9 (Go.Operand.tmp 48), type := 9, pos := "law.go:180", after := #[{ on := 3, ground := Go.Ground.data }], guard := Option.none }) rfl (fun K hK => ?_) AllReadyH.nil
  go_simp
  refine hK.out _ _ (hHeld) (fun hHeld => ?_)
  clear hK K
  try simp only [Act.put, List.setIfInBounds_toArray, List.set_cons_zero, List.set_cons_succ]
  refine wpAnyH_take (i := 7) (oi := { dst := Option.some 52, op := Go.Op.binOp Go.BinOp.neq 9 (Go.Operand.tmp 49) (Go.Operand.tmp 51) 9, type := 4, pos := "law.go:180", after := #[{ on := 4, ground := Go.Ground.data }, { on := 6, ground := Go.Ground.data }], guard := Option.none }) (v := ?_) rfl (by kernel_rfl) (by kernel_rfl) (by kernel_rfl) (fun _ _ _ h => h) (Or.inl ⟨by rfl, ?_⟩) (by assumption) ?_
  rotate_left
  · intro w hSw; (try dsimp only at hSw); go_simp; all_goals (with_reducible rfl)
  try simp only [Act.put, List.setIfInBounds_toArray, List.set_cons_zero, List.set_cons_succ]
  refine wpAnyH_take (i := 8) (oi := { dst := Option.some 53, op := Go.Op.move (Go.Operand.tmp 52), type := 4, pos := "law.go:180", after := #[{ on := 7, ground := Go.Ground.data }, { on := 3, ground := Go.Ground.chain }], guard := Option.none }) (v := ?_) rfl (by kernel_rfl) (by kernel_rfl) (by kernel_rfl) (fun _ _ _ h => h) (Or.inl ⟨by rfl, ?_⟩) (by assumption) ?_
  rotate_left
  · intro w hSw; (try dsimp only at hSw); go_simp; all_goals (with_reducible rfl)
  try simp only [Act.put, List.setIfInBounds_toArray, List.set_cons_zero, List.set_cons_succ]
  refine wpAnyH_take (i := 9) (oi := { dst := Option.some 54, op := Go.Op.move (Go.Operand.tmp 9), type := 24, pos := "law.go:180", after := #[{ on := 8, ground := Go.Ground.guard }], guard := Option.some (8, Bool.false) }) (v := ?_) rfl (by kernel_rfl) (by kernel_rfl) (by kernel_rfl) (fun _ _ _ h => h) (Or.inl ⟨by rfl, ?_⟩) (by assumption) ?_
  rotate_left
  · intro w hSw; (try dsimp only at hSw); go_simp; all_goals (with_reducible rfl)
  try simp only [Act.put, List.setIfInBounds_toArray, List.set_cons_zero, List.set_cons_succ]
  refine wpAnyH_take (i := 10) (oi := { dst := Option.some 55, op := Go.Op.nilCheck (Go.Operand.tmp 54), type := 0, pos := "law.go:180", after := #[{ on := 9, ground := Go.Ground.data }, { on := 8, ground := Go.Ground.guard }], guard := Option.some (8, Bool.false) }) (v := ?_) rfl (by kernel_rfl) (by kernel_rfl) (by kernel_rfl) (fun _ _ _ h => h) (Or.inl ⟨by rfl, ?_⟩) (by assumption) ?_
  rotate_left
  · intro w hSw; (try dsimp only at hSw); go_simp; all_goals (with_reducible rfl)
  try simp only [Act.put, List.setIfInBounds_toArray, List.set_cons_zero, List.set_cons_succ]
  refine wpAnyH_take (i := 11) (oi := { dst := Option.some 56, op := Go.Op.fieldAddr 47 (Go.Operand.tmp 55) 0, type := 0, pos := "law.go:180", after := #[{ on := 10, ground := Go.Ground.data }, { on := 8, ground := Go.Ground.guard }], guard := Option.some (8, Bool.false) }) (v := ?_) rfl (by kernel_rfl) (by kernel_rfl) (by kernel_rfl) (fun _ _ _ h => h) (Or.inl ⟨by rfl, ?_⟩) (by assumption) ?_
  rotate_left
  · intro w hSw; (try dsimp only at hSw); go_simp; all_goals (with_reducible rfl)
  try simp only [Act.put, List.setIfInBounds_toArray, List.set_cons_zero, List.set_cons_succ]
  refine wpAnyH_ready (rs := [12]) (by kernel_rfl) (by simp) ?_
  refine AllReadyH.cons (o := { dst := Option.some 57, op := Go.Op.call { callee := Go.Callee.value (Go.Operand.func 22), args := #[Go.Operand.tmp 56], argTypes := #[45] }, type := 3, pos := "law.go:180", after := #[{ on := 11, ground := Go.Ground.data }, { on := 8, ground := Go.Ground.chain }, { on := 8, ground := Go.Ground.guard }], guard := Option.some (8, Bool.false) }) rfl (fun K hK => ?_) AllReadyH.nil
  go_simp
  refine (durable_any (B := w.heap.size) (g := g2) (d := 0) (r := 1048576) (v := u) (xs := xs) _ hHeld.1.f).mono ?_
  rintro e w' ⟨rfl, rfl⟩
  go_wp2_with fail
  refine hK.out _ _ (hHeld) (fun hHeld => ?_)
  clear hK K
  try simp only [Act.put, List.setIfInBounds_toArray, List.set_cons_zero, List.set_cons_succ]
  refine wpAnyH_take (i := 13) (oi := { dst := Option.some 58, op := Go.Op.binOp Go.BinOp.neq 3 (Go.Operand.tmp 57) (Go.Operand.const (Go.Value.int Go.IntKind.i64 0)) 3, type := 4, pos := "law.go:180", after := #[{ on := 12, ground := Go.Ground.data }, { on := 8, ground := Go.Ground.guard }], guard := Option.some (8, Bool.false) }) (v := ?_) rfl (by kernel_rfl) (by kernel_rfl) (by kernel_rfl) (fun _ _ _ h => h) (Or.inl ⟨by rfl, ?_⟩) (by assumption) ?_
  rotate_left
  · intro w hSw; (try dsimp only at hSw); go_simp; all_goals (with_reducible rfl)
  try simp only [Act.put, List.setIfInBounds_toArray, List.set_cons_zero, List.set_cons_succ]
  refine wpAnyH_take (i := 14) (oi := { dst := Option.some 59, op := Go.Op.pick (Go.Operand.tmp 53) (Go.Operand.const (Go.Value.bool Bool.true)) (Go.Operand.tmp 58), type := 4, pos := "law.go:180", after := #[{ on := 8, ground := Go.Ground.data }, { on := 13, ground := Go.Ground.data }], guard := Option.none }) (v := ?_) rfl (by kernel_rfl) (by kernel_rfl) (by kernel_rfl) (fun _ _ _ h => h) (Or.inl ⟨by rfl, ?_⟩) (by assumption) ?_
  rotate_left
  · intro w hSw; (try dsimp only at hSw); go_simp; all_goals (with_reducible rfl)
  try simp only [Act.put, List.setIfInBounds_toArray, List.set_cons_zero, List.set_cons_succ]
  refine wpAnyH_take (i := 15) (oi := { dst := Option.some 60, op := Go.Op.move (Go.Operand.tmp 59), type := 4, pos := "law.go:180", after := #[{ on := 14, ground := Go.Ground.data }, { on := 12, ground := Go.Ground.chain }], guard := Option.none }) (v := ?_) rfl (by kernel_rfl) (by kernel_rfl) (by kernel_rfl) (fun _ _ _ h => h) (Or.inl ⟨by rfl, ?_⟩) (by assumption) ?_
  rotate_left
  · intro w hSw; (try dsimp only at hSw); go_simp; all_goals (with_reducible rfl)
  try simp only [Act.put, List.setIfInBounds_toArray, List.set_cons_zero, List.set_cons_succ]
  refine wpAnyH_take (i := 16) (oi := { dst := Option.some 61, op := Go.Op.move (Go.Operand.tmp 9), type := 24, pos := "law.go:180", after := #[{ on := 15, ground := Go.Ground.guard }], guard := Option.some (15, Bool.false) }) (v := ?_) rfl (by kernel_rfl) (by kernel_rfl) (by kernel_rfl) (fun _ _ _ h => h) (Or.inl ⟨by rfl, ?_⟩) (by assumption) ?_
  rotate_left
  · intro w hSw; (try dsimp only at hSw); go_simp; all_goals (with_reducible rfl)
  try simp only [Act.put, List.setIfInBounds_toArray, List.set_cons_zero, List.set_cons_succ]
  refine wpAnyH_take (i := 18) (oi := { dst := Option.some 63, op := Go.Op.move (Go.Operand.tmp 0), type := 31, pos := "law.go:180", after := #[{ on := 15, ground := Go.Ground.guard }], guard := Option.some (15, Bool.false) }) (v := ?_) rfl (by kernel_rfl) (by kernel_rfl) (by kernel_rfl) (fun _ _ _ h => h) (Or.inl ⟨by rfl, ?_⟩) (by assumption) ?_
  rotate_left
  · intro w hSw; (try dsimp only at hSw); go_simp; all_goals (with_reducible rfl)
  try simp only [Act.put, List.setIfInBounds_toArray, List.set_cons_zero, List.set_cons_succ]
  refine wpAnyH_take (i := 19) (oi := { dst := Option.some 64, op := Go.Op.call { callee := Go.Callee.builtin Go.Builtin.len, args := #[Go.Operand.tmp 63], argTypes := #[31] }, type := 3, pos := "law.go:180", after := #[{ on := 18, ground := Go.Ground.data }, { on := 15, ground := Go.Ground.guard }], guard := Option.some (15, Bool.false) }) (v := ?_) rfl (by kernel_rfl) (by kernel_rfl) (by kernel_rfl) (fun _ _ _ h => h) (Or.inl ⟨by rfl, ?_⟩) (by assumption) ?_
  rotate_left
  · intro w hSw; (try dsimp only at hSw); go_simp; all_goals (with_reducible rfl)
  try simp only [Act.put, List.setIfInBounds_toArray, List.set_cons_zero, List.set_cons_succ]
  refine wpAnyH_take (i := 20) (oi := { dst := Option.some 65, op := Go.Op.binOp Go.BinOp.sub 3 (Go.Operand.const (Go.Value.int Go.IntKind.i64 1048576)) (Go.Operand.tmp 64) 3, type := 3, pos := "law.go:180", after := #[{ on := 19, ground := Go.Ground.data }, { on := 15, ground := Go.Ground.guard }], guard := Option.some (15, Bool.false) }) (v := ?_) rfl (by kernel_rfl) (by kernel_rfl) (by kernel_rfl) (fun _ _ _ h => h) (Or.inl ⟨by rfl, ?_⟩) (by assumption) ?_
  rotate_left
  · intro w hSw; (try dsimp only at hSw); go_simp; all_goals (with_reducible rfl)
  try simp only [Act.put, List.setIfInBounds_toArray, List.set_cons_zero, List.set_cons_succ]
  refine wpAnyH_ready (rs := [17]) (by kernel_rfl) (by simp) ?_
  refine AllReadyH.cons (o := { dst := Option.some 62, op := Go.Op.call { callee := Go.Callee.value (Go.Operand.func 23), args := #[Go.Operand.tmp 61], argTypes := #[24] }, type := 3, pos := "law.go:180", after := #[{ on := 16, ground := Go.Ground.data }, { on := 15, ground := Go.Ground.chain }, { on := 15, ground := Go.Ground.guard }], guard := Option.some (15, Bool.false) }) rfl (fun K hK => ?_) AllReadyH.nil
  go_simp
  refine (left_any (B := w.heap.size) (g := g2) (d := 0) (r := 1048576) (v := u) (xs := xs) _ hHeld.1.f).mono ?_
  rintro e w' ⟨rfl, q, rfl⟩
  rw [HL2.out]
  have hF9 := Lib.hid (hHeld.1.below (below_drewN _ q))
  clear hHeld
  go_wp2_with fail
  refine hK.out _ _ (⟨hF9.out, by rw [HA.out]; exact IsB.str hF9.out.a c⟩) (fun hHeld => ?_)
  clear hK K
  try simp only [Act.put, List.setIfInBounds_toArray, List.set_cons_zero, List.set_cons_succ]
  refine wpAnyH_take (i := 21) (oi := { dst := Option.some 66, op := Go.Op.binOp Go.BinOp.neq 3 (Go.Operand.tmp 62) (Go.Operand.tmp 65) 3, type := 4, pos := "law.go:180", after := #[{ on := 17, ground := Go.Ground.data }, { on := 20, ground := Go.Ground.data }, { on := 15, ground := Go.Ground.guard }], guard := Option.some (15, Bool.false) }) (v := ?_) rfl (by kernel_rfl) (by kernel_rfl) (by kernel_rfl) (fun _ _ _ h => h) (Or.inl ⟨by rfl, ?_⟩) (by assumption) ?_
  rotate_left
  · intro w hSw; (try dsimp only at hSw); go_simp; all_goals (with_reducible rfl)
  try simp only [Act.put, List.setIfInBounds_toArray, List.set_cons_zero, List.set_cons_succ]
  refine wpAnyH_take (i := 22) (oi := { dst := Option.some 67, op := Go.Op.pick (Go.Operand.tmp 60) (Go.Operand.const (Go.Value.bool Bool.true)) (Go.Operand.tmp 66), type := 4, pos := "law.go:180", after := #[{ on := 15, ground := Go.Ground.data }, { on := 21, ground := Go.Ground.data }], guard := Option.none }) (v := ?_) rfl (by kernel_rfl) (by kernel_rfl) (by kernel_rfl) (fun _ _ _ h => h) (Or.inl ⟨by rfl, ?_⟩) (by assumption) ?_
  rotate_left
  · intro w hSw; (try dsimp only at hSw); go_simp; all_goals (with_reducible rfl)
  try simp only [Act.put, List.setIfInBounds_toArray, List.set_cons_zero, List.set_cons_succ]
  refine wpAnyH_done (by kernel_rfl) ?_ _
  have HE := Lib.hid hHeld.1
  clear hHeld
  generalize w8.drewN q = w9 at *
  go_wp2_with fail
  refine (crash_any 0 _ HE.out.f (by omega)).mono ?_
  rintro e w10 ⟨rfl, u10, hf10, ht10, ho10⟩
  have hb10 : Below w.heap.size w w10 := HE.out.b.trans (HE.out.f.turned0 ht10 HE.out.b.size)
  have hd10 := HE.out.d.keep HE.out.f ht10 (.inr rfl) HNE.out.symm (fun k hk he => HR7.out k he hk)
  have hl0 : left xs.length 0 0 = 0 := by simp [left]
  rw [hl0] at hf10
  have hf10' : DAt w10 w.heap.size g2 u10 [] 0 1048576 := hf10
  have hgs : FS w w10 w.heap.size g g2 n c p 1048576 a u10 v7 [] xs ((xs ++ zs).take p) := ⟨hf10', hd10, HX.out.below hb10, hb10⟩
  have HGS := Lib.hid hgs
  have hca' : (convert 31 9 (.slice a n c)).run Try.prog w10.drew = .ok (.string A) w10.drew := by rw [HA.out]; exact IsB.str (w := w10.drew) (show IsB w10 a n xs from hgs.a) c
  have hlp : ((xs ++ zs).take p).length = p := by
    simp only [List.length_take, List.length_append]
    have := HLN.out
    have := HLM.out
    omega
  have HLP := Lib.hid hlp
  have htk : ((xs ++ zs).take p).take n = xs := by
    rw [List.take_take, Nat.min_eq_left hpn.1, List.take_append_of_le_length (by rw [HLN.out]; omega), List.take_of_length_le (by rw [HLN.out]; omega)]
  have HTK := Lib.hid htk
  have hpd : decide ((p : Int) < (n : Int)) = false := by simp; omega
  have hpd2 : decide ((n : Int) ≤ (p : Int)) = true := by simp; omega
  clear hf10 hf10' ht10 ho10 hb10 hd10 hgs hl0 hlp htk
  go_wp2_with fail
  refine wp_region_held_drew (S := fun W => FS w W w.heap.size g g2 n c p 1048576 a u10 v7 [] xs ((xs ++ zs).take p) ∧ (convert 31 9 (.slice a n c)).run Try.prog W = .ok (.string A) W) (by kernel_rfl) ⟨HGS.out.below (below_drewN _ 1), hca'⟩ (fun hHeld => ?_)
  refine wpAnyH_take (i := 0) (oi := { dst := Option.some 70, op := Go.Op.move (Go.Operand.tmp 9), type := 24, pos := "law.go:184", after := #[], guard := Option.none }) (v := ?_) rfl (by kernel_rfl) (by kernel_rfl) (by kernel_rfl) (fun _ _ _ h => h) (Or.inl ⟨by rfl, ?_⟩) (by assumption) ?_
  rotate_left
  · intro w hSw; (try dsimp only at hSw); go_simp; all_goals (with_reducible rfl)
  try simp only [Act.put, List.setIfInBounds_toArray, List.set_cons_zero, List.set_cons_succ]
  refine wpAnyH_take (i := 1) (oi := { dst := Option.some 71, op := Go.Op.nilCheck (Go.Operand.tmp 70), type := 0, pos := "law.go:184", after := #[{ on := 0, ground := Go.Ground.data }], guard := Option.none }) (v := ?_) rfl (by kernel_rfl) (by kernel_rfl) (by kernel_rfl) (fun _ _ _ h => h) (Or.inl ⟨by rfl, ?_⟩) (by assumption) ?_
  rotate_left
  · intro w hSw; (try dsimp only at hSw); go_simp; all_goals (with_reducible rfl)
  try simp only [Act.put, List.setIfInBounds_toArray, List.set_cons_zero, List.set_cons_succ]
  refine wpAnyH_take (i := 2) (oi := { dst := Option.some 72, op := Go.Op.fieldAddr 47 (Go.Operand.tmp 71) 0, type := 0, pos := "law.go:184", after := #[{ on := 1, ground := Go.Ground.data }], guard := Option.none }) (v := ?_) rfl (by kernel_rfl) (by kernel_rfl) (by kernel_rfl) (fun _ _ _ h => h) (Or.inl ⟨by rfl, ?_⟩) (by assumption) ?_
  rotate_left
  · intro w hSw; (try dsimp only at hSw); go_simp; all_goals (with_reducible rfl)
  try simp only [Act.put, List.setIfInBounds_toArray, List.set_cons_zero, List.set_cons_succ]
  refine wpAnyH_ready (rs := [3]) (by kernel_rfl) (by simp) ?_
  refine AllReadyH.cons (o := { dst := Option.some 73, op := Go.Op.call { callee := Go.Callee.value (Go.Operand.func 21), args := #[Go.Operand.tmp 72], argTypes := #[45] }, type := 3, pos := "law.go:184", after := #[{ on := 2, ground := Go.Ground.data }], guard := Option.none }) rfl (fun K hK => ?_) AllReadyH.nil
  go_simp
  refine (size_any (B := w.heap.size) (g := g2) (d := 0) (r := 1048576) (v := u10) (xs := []) _ hHeld.1.f).mono ?_
  rintro e w' ⟨rfl, rfl⟩
  go_wp2_with fail
  refine hK.out _ _ (hHeld) (fun hHeld => ?_)
  clear hK K
  try simp only [Act.put, List.setIfInBounds_toArray, List.set_cons_zero, List.set_cons_succ]
  refine wpAnyH_take (i := 4) (oi := { dst := Option.some 74, op := Go.Op.binOp Go.BinOp.eql 3 (Go.Operand.tmp 73) (Go.Operand.const (Go.Value.int Go.IntKind.i64 0)) 3, type := 4, pos := "law.go:184", after := #[{ on := 3, ground := Go.Ground.data }], guard := Option.none }) (v := ?_) rfl (by kernel_rfl) (by kernel_rfl) (by kernel_rfl) (fun _ _ _ h => h) (Or.inl ⟨by rfl, ?_⟩) (by assumption) ?_
  rotate_left
  · intro w hSw; (try dsimp only at hSw); go_simp; all_goals (with_reducible rfl)
  try simp only [Act.put, List.setIfInBounds_toArray, List.set_cons_zero, List.set_cons_succ]
  refine wpAnyH_take (i := 5) (oi := { dst := Option.some 75, op := Go.Op.move (Go.Operand.tmp 74), type := 4, pos := "law.go:184", after := #[{ on := 4, ground := Go.Ground.data }, { on := 3, ground := Go.Ground.chain }], guard := Option.none }) (v := ?_) rfl (by kernel_rfl) (by kernel_rfl) (by kernel_rfl) (fun _ _ _ h => h) (Or.inl ⟨by rfl, ?_⟩) (by assumption) ?_
  rotate_left
  · intro w hSw; (try dsimp only at hSw); go_simp; all_goals (with_reducible rfl)
  try simp only [Act.put, List.setIfInBounds_toArray, List.set_cons_zero, List.set_cons_succ]
  refine wpAnyH_take (i := 6) (oi := { dst := Option.some 76, op := Go.Op.move (Go.Operand.tmp 7), type := 24, pos := "law.go:184", after := #[{ on := 5, ground := Go.Ground.guard }], guard := Option.some (5, Bool.true) }) (v := ?_) rfl (by kernel_rfl) (by kernel_rfl) (by kernel_rfl) (fun _ _ _ h => h) (Or.inl ⟨by rfl, ?_⟩) (by assumption) ?_
  rotate_left
  · intro w hSw; (try dsimp only at hSw); go_simp; all_goals (with_reducible rfl)
  try simp only [Act.put, List.setIfInBounds_toArray, List.set_cons_zero, List.set_cons_succ]
  refine wpAnyH_take (i := 7) (oi := { dst := Option.some 77, op := Go.Op.nilCheck (Go.Operand.tmp 76), type := 0, pos := "law.go:184", after := #[{ on := 6, ground := Go.Ground.data }, { on := 5, ground := Go.Ground.guard }], guard := Option.some (5, Bool.true) }) (v := ?_) rfl (by kernel_rfl) (by kernel_rfl) (by kernel_rfl) (fun _ _ _ h => h) (Or.inl ⟨by rfl, ?_⟩) (by assumption) ?_
  rotate_left
  · intro w hSw; (try dsimp only at hSw); go_simp; all_goals (with_reducible rfl)
  try simp only [Act.put, List.setIfInBounds_toArray, List.set_cons_zero, List.set_cons_succ]
  refine wpAnyH_take (i := 8) (oi := { dst := Option.some 78, op := Go.Op.fieldAddr 47 (Go.Operand.tmp 77) 0, type := 0, pos := "law.go:184", after := #[{ on := 7, ground := Go.Ground.data }, { on := 5, ground := Go.Ground.guard }], guard := Option.some (5, Bool.true) }) (v := ?_) rfl (by kernel_rfl) (by kernel_rfl) (by kernel_rfl) (fun _ _ _ h => h) (Or.inl ⟨by rfl, ?_⟩) (by assumption) ?_
  rotate_left
  · intro w hSw; (try dsimp only at hSw); go_simp; all_goals (with_reducible rfl)
  try simp only [Act.put, List.setIfInBounds_toArray, List.set_cons_zero, List.set_cons_succ]
  refine wpAnyH_take (i := 10) (oi := { dst := Option.some 80, op := Go.Op.move (Go.Operand.tmp 0), type := 31, pos := "law.go:184", after := #[{ on := 5, ground := Go.Ground.guard }], guard := Option.some (5, Bool.true) }) (v := ?_) rfl (by kernel_rfl) (by kernel_rfl) (by kernel_rfl) (fun _ _ _ h => h) (Or.inl ⟨by rfl, ?_⟩) (by assumption) ?_
  rotate_left
  · intro w hSw; (try dsimp only at hSw); go_simp; all_goals (with_reducible rfl)
  try simp only [Act.put, List.setIfInBounds_toArray, List.set_cons_zero, List.set_cons_succ]
  refine wpAnyH_take (i := 11) (oi := { dst := Option.some 81, op := Go.Op.call { callee := Go.Callee.builtin Go.Builtin.len, args := #[Go.Operand.tmp 80], argTypes := #[31] }, type := 3, pos := "law.go:184", after := #[{ on := 10, ground := Go.Ground.data }, { on := 5, ground := Go.Ground.guard }], guard := Option.some (5, Bool.true) }) (v := ?_) rfl (by kernel_rfl) (by kernel_rfl) (by kernel_rfl) (fun _ _ _ h => h) (Or.inl ⟨by rfl, ?_⟩) (by assumption) ?_
  rotate_left
  · intro w hSw; (try dsimp only at hSw); go_simp; all_goals (with_reducible rfl)
  try simp only [Act.put, List.setIfInBounds_toArray, List.set_cons_zero, List.set_cons_succ]
  refine wpAnyH_ready (rs := [9]) (by kernel_rfl) (by simp) ?_
  refine AllReadyH.cons (o := { dst := Option.some 79, op := Go.Op.call { callee := Go.Callee.value (Go.Operand.func 21), args := #[Go.Operand.tmp 78], argTypes := #[45] }, type := 3, pos := "law.go:184", after := #[{ on := 8, ground := Go.Ground.data }, { on := 5, ground := Go.Ground.chain }, { on := 5, ground := Go.Ground.guard }], guard := Option.some (5, Bool.true) }) rfl (fun K hK => ?_) AllReadyH.nil
  go_simp
  refine (size_any (B := w.heap.size) (g := g) (d := p) (r := 1048576) (v := v7) (xs := (xs ++ zs).take p) _ hHeld.1.d).mono ?_
  rintro e w' ⟨rfl, rfl⟩
  rw [HLP.out]
  go_wp2_with fail
  refine hK.out _ _ (hHeld) (fun hHeld => ?_)
  clear hK K
  try simp only [Act.put, List.setIfInBounds_toArray, List.set_cons_zero, List.set_cons_succ]
  refine wpAnyH_take (i := 12) (oi := { dst := Option.some 82, op := Go.Op.binOp Go.BinOp.geq 3 (Go.Operand.tmp 79) (Go.Operand.tmp 81) 3, type := 4, pos := "law.go:184", after := #[{ on := 9, ground := Go.Ground.data }, { on := 11, ground := Go.Ground.data }, { on := 5, ground := Go.Ground.guard }], guard := Option.some (5, Bool.true) }) (v := ?_) rfl (by kernel_rfl) (by kernel_rfl) (by kernel_rfl) (fun _ _ _ h => h) (Or.inl ⟨by rfl, ?_⟩) (by assumption) ?_
  rotate_left
  · intro w hSw; (try dsimp only at hSw); go_simp; all_goals (with_reducible rfl)
  try simp only [Act.put, List.setIfInBounds_toArray, List.set_cons_zero, List.set_cons_succ]
  refine wpAnyH_take (i := 13) (oi := { dst := Option.some 83, op := Go.Op.pick (Go.Operand.tmp 75) (Go.Operand.tmp 82) (Go.Operand.const (Go.Value.bool Bool.false)), type := 4, pos := "law.go:184", after := #[{ on := 5, ground := Go.Ground.data }, { on := 12, ground := Go.Ground.data }], guard := Option.none }) (v := ?_) rfl (by kernel_rfl) (by kernel_rfl) (by kernel_rfl) (fun _ _ _ h => h) (Or.inl ⟨by rfl, ?_⟩) (by assumption) ?_
  rotate_left
  · intro w hSw; (try dsimp only at hSw); go_simp; all_goals (with_reducible rfl)
  try simp only [Act.put, List.setIfInBounds_toArray, List.set_cons_zero, List.set_cons_succ]
  refine wpAnyH_take (i := 14) (oi := { dst := Option.some 84, op := Go.Op.move (Go.Operand.tmp 83), type := 4, pos := "law.go:184", after := #[{ on := 13, ground := Go.Ground.data }, { on := 9, ground := Go.Ground.chain }], guard := Option.none }) (v := ?_) rfl (by kernel_rfl) (by kernel_rfl) (by kernel_rfl) (fun _ _ _ h => h) (Or.inl ⟨by rfl, ?_⟩) (by assumption) ?_
  rotate_left
  · intro w hSw; (try dsimp only at hSw); go_simp; all_goals (with_reducible rfl)
  try simp only [Act.put, List.setIfInBounds_toArray, List.set_cons_zero, List.set_cons_succ]
  refine wpAnyH_take (i := 15) (oi := { dst := Option.some 85, op := Go.Op.move (Go.Operand.tmp 7), type := 24, pos := "law.go:184", after := #[{ on := 14, ground := Go.Ground.guard }], guard := Option.some (14, Bool.true) }) (v := ?_) rfl (by kernel_rfl) (by kernel_rfl) (by kernel_rfl) (fun _ _ _ h => h) (Or.inl ⟨by rfl, ?_⟩) (by assumption) ?_
  rotate_left
  · intro w hSw; (try dsimp only at hSw); go_simp; all_goals (with_reducible rfl)
  try simp only [Act.put, List.setIfInBounds_toArray, List.set_cons_zero, List.set_cons_succ]
  refine wpAnyH_take (i := 16) (oi := { dst := Option.some 86, op := Go.Op.nilCheck (Go.Operand.tmp 85), type := 0, pos := "law.go:184", after := #[{ on := 15, ground := Go.Ground.data }, { on := 14, ground := Go.Ground.guard }], guard := Option.some (14, Bool.true) }) (v := ?_) rfl (by kernel_rfl) (by kernel_rfl) (by kernel_rfl) (fun _ _ _ h => h) (Or.inl ⟨by rfl, ?_⟩) (by assumption) ?_
  rotate_left
  · intro w hSw; (try dsimp only at hSw); go_simp; all_goals (with_reducible rfl)
  try simp only [Act.put, List.setIfInBounds_toArray, List.set_cons_zero, List.set_cons_succ]
  refine wpAnyH_take (i := 17) (oi := { dst := Option.some 87, op := Go.Op.fieldAddr 47 (Go.Operand.tmp 86) 0, type := 0, pos := "law.go:184", after := #[{ on := 16, ground := Go.Ground.data }, { on := 14, ground := Go.Ground.guard }], guard := Option.some (14, Bool.true) }) (v := ?_) rfl (by kernel_rfl) (by kernel_rfl) (by kernel_rfl) (fun _ _ _ h => h) (Or.inl ⟨by rfl, ?_⟩) (by assumption) ?_
  rotate_left
  · intro w hSw; (try dsimp only at hSw); go_simp; all_goals (with_reducible rfl)
  try simp only [Act.put, List.setIfInBounds_toArray, List.set_cons_zero, List.set_cons_succ]
  refine wpAnyH_take (i := 19) (oi := { dst := Option.some 89, op := Go.Op.move (Go.Operand.tmp 0), type := 31, pos := "law.go:184", after := #[{ on := 14, ground := Go.Ground.guard }], guard := Option.some (14, Bool.true) }) (v := ?_) rfl (by kernel_rfl) (by kernel_rfl) (by kernel_rfl) (fun _ _ _ h => h) (Or.inl ⟨by rfl, ?_⟩) (by assumption) ?_
  rotate_left
  · intro w hSw; (try dsimp only at hSw); go_simp; all_goals (with_reducible rfl)
  try simp only [Act.put, List.setIfInBounds_toArray, List.set_cons_zero, List.set_cons_succ]
  refine wpAnyH_take (i := 20) (oi := { dst := Option.some 90, op := Go.Op.call { callee := Go.Callee.builtin Go.Builtin.len, args := #[Go.Operand.tmp 89], argTypes := #[31] }, type := 3, pos := "law.go:184", after := #[{ on := 19, ground := Go.Ground.data }, { on := 14, ground := Go.Ground.guard }], guard := Option.some (14, Bool.true) }) (v := ?_) rfl (by kernel_rfl) (by kernel_rfl) (by kernel_rfl) (fun _ _ _ h => h) (Or.inl ⟨by rfl, ?_⟩) (by assumption) ?_
  rotate_left
  · intro w hSw; (try dsimp only at hSw); go_simp; all_goals (with_reducible rfl)
  try simp only [Act.put, List.setIfInBounds_toArray, List.set_cons_zero, List.set_cons_succ]
  refine wpAnyH_take (i := 23) (oi := { dst := Option.some 93, op := Go.Op.move (Go.Operand.tmp 0), type := 31, pos := "law.go:184", after := #[{ on := 14, ground := Go.Ground.guard }], guard := Option.some (14, Bool.true) }) (v := ?_) rfl (by kernel_rfl) (by kernel_rfl) (by kernel_rfl) (fun _ _ _ h => h) (Or.inl ⟨by rfl, ?_⟩) (by assumption) ?_
  rotate_left
  · intro w hSw; (try dsimp only at hSw); go_simp; all_goals (with_reducible rfl)
  try simp only [Act.put, List.setIfInBounds_toArray, List.set_cons_zero, List.set_cons_succ]
  refine wpAnyH_take (i := 24) (oi := { dst := Option.some 94, op := Go.Op.convert 31 9 (Go.Operand.tmp 93), type := 9, pos := "law.go:184", after := #[{ on := 23, ground := Go.Ground.data }, { on := 14, ground := Go.Ground.guard }], guard := Option.some (14, Bool.true) }) (v := ?_) rfl (by kernel_rfl) (by kernel_rfl) (by kernel_rfl) (fun _ _ _ h => h) (Or.inl ⟨by rfl, ?_⟩) (by assumption) ?_
  rotate_left
  · intro w hSw; (try dsimp only at hSw); go_simp; all_goals (with_reducible rfl)
  try simp only [Act.put, List.setIfInBounds_toArray, List.set_cons_zero, List.set_cons_succ]
  refine wpAnyH_ready (rs := [18]) (by kernel_rfl) (by simp) ?_
  refine AllReadyH.cons (o := { dst := Option.some 88, op := Go.Op.call { callee := Go.Callee.value (Go.Operand.func 20), args := #[Go.Operand.tmp 87], argTypes := #[45] }, type := 31, pos := "law.go:184", after := #[{ on := 17, ground := Go.Ground.data }, { on := 14, ground := Go.Ground.chain }, { on := 14, ground := Go.Ground.guard }], guard := Option.some (14, Bool.true) }) rfl (fun K hK => ?_) AllReadyH.nil
  go_simp
  refine (bytes_any (B := w.heap.size) (g := g) (d := p) (r := 1048576) (v := v7) (xs := (xs ++ zs).take p) _ hHeld.1.d).mono ?_
  rintro e w11 ⟨u2, rfl, hown8, hb8⟩
  obtain ⟨ua, uc, rfl, hui, hun, huc, hucm⟩ := owned_slice hown8 hHeld.1.d.byte
  rw [HLP.out] at huc
  have hsl := fun w => slice_head ua p uc n (by omega) w
  have hui2 := hui.head n (by rw [HLP.out]; exact hpn.1)
  rw [HTK.out] at hui2
  have hcu := hui2.str uc
  rw [← HA.out] at hcu
  have hF8 := Lib.hid (hHeld.1.below hb8)
  rw [HLP.out]
  clear hown8 hb8 hui hHeld hui2 hun
  go_wp2_with fail
  refine hK.out _ _ (⟨hF8.out, by rw [HA.out]; exact IsB.str hF8.out.a c⟩) (fun hHeld => ?_)
  clear hK K
  try simp only [Act.put, List.setIfInBounds_toArray, List.set_cons_zero, List.set_cons_succ]
  refine wpAnyH_take (i := 21) (oi := { dst := Option.some 91, op := Go.Op.slice 31 (Go.Operand.tmp 88) Option.none (Option.some (Go.Operand.tmp 90)) Option.none, type := 31, pos := "law.go:184", after := #[{ on := 18, ground := Go.Ground.data }, { on := 20, ground := Go.Ground.data }, { on := 14, ground := Go.Ground.guard }], guard := Option.some (14, Bool.true) }) (v := ?_) rfl (by kernel_rfl) (by kernel_rfl) (by kernel_rfl) (fun _ _ _ h => h) (Or.inl ⟨by rfl, ?_⟩) (by assumption) ?_
  rotate_left
  · intro w hSw; (try dsimp only at hSw); go_simp; all_goals (with_reducible rfl)
  try simp only [Act.put, List.setIfInBounds_toArray, List.set_cons_zero, List.set_cons_succ]
  refine wpAnyH_ready (rs := [22]) (by kernel_rfl) (by simp) ?_
  refine AllReadyH.cons (o := { dst := Option.some 92, op := Go.Op.convert 31 9 (Go.Operand.tmp 91), type := 9, pos := "law.go:184", after := #[{ on := 21, ground := Go.Ground.data }, { on := 14, ground := Go.Ground.guard }], guard := Option.some (14, Bool.true) }) rfl (fun K hK => ?_) AllReadyH.nil
  go_simp
  refine hK.out _ _ (hHeld) (fun hHeld => ?_)
  clear hK K
  try simp only [Act.put, List.setIfInBounds_toArray, List.set_cons_zero, List.set_cons_succ]
  refine wpAnyH_take (i := 25) (oi := { dst := Option.some 95, op := Go.Op.binOp Go.BinOp.eql 9 (Go.Operand.tmp 92) (Go.Operand.tmp 94) 9, type := 4, pos := "law.go:184", after := #[{ on := 22, ground := Go.Ground.data }, { on := 24, ground := Go.Ground.data }, { on := 14, ground := Go.Ground.guard }], guard := Option.some (14, Bool.true) }) (v := ?_) rfl (by kernel_rfl) (by kernel_rfl) (by kernel_rfl) (fun _ _ _ h => h) (Or.inl ⟨by rfl, ?_⟩) (by assumption) ?_
  rotate_left
  · intro w hSw; (try dsimp only at hSw); go_simp; all_goals (with_reducible rfl)
  try simp only [Act.put, List.setIfInBounds_toArray, List.set_cons_zero, List.set_cons_succ]
  refine wpAnyH_take (i := 26) (oi := { dst := Option.some 96, op := Go.Op.pick (Go.Operand.tmp 84) (Go.Operand.tmp 95) (Go.Operand.const (Go.Value.bool Bool.false)), type := 4, pos := "law.go:184", after := #[{ on := 14, ground := Go.Ground.data }, { on := 25, ground := Go.Ground.data }], guard := Option.none }) (v := ?_) rfl (by kernel_rfl) (by kernel_rfl) (by kernel_rfl) (fun _ _ _ h => h) (Or.inl ⟨by rfl, ?_⟩) (by assumption) ?_
  rotate_left
  · intro w hSw; (try dsimp only at hSw); go_simp; all_goals (with_reducible rfl)
  try simp only [Act.put, List.setIfInBounds_toArray, List.set_cons_zero, List.set_cons_succ]
  refine wpAnyH_take (i := 27) (oi := { dst := Option.some 6, op := Go.Op.assign (Go.Operand.tmp 96), type := 4, pos := "law.go:184", after := #[{ on := 26, ground := Go.Ground.data }, { on := 18, ground := Go.Ground.chain }, { on := 0, ground := Go.Ground.phase }, { on := 1, ground := Go.Ground.phase }, { on := 2, ground := Go.Ground.phase }, { on := 3, ground := Go.Ground.phase }, { on := 4, ground := Go.Ground.phase }, { on := 5, ground := Go.Ground.phase }, { on := 6, ground := Go.Ground.phase }, { on := 7, ground := Go.Ground.phase }, { on := 8, ground := Go.Ground.phase }, { on := 9, ground := Go.Ground.phase }, { on := 10, ground := Go.Ground.phase }, { on := 11, ground := Go.Ground.phase }, { on := 12, ground := Go.Ground.phase }, { on := 13, ground := Go.Ground.phase }, { on := 14, ground := Go.Ground.phase }, { on := 15, ground := Go.Ground.phase }, { on := 16, ground := Go.Ground.phase }, { on := 17, ground := Go.Ground.phase }, { on := 18, ground := Go.Ground.phase }, { on := 19, ground := Go.Ground.phase }, { on := 20, ground := Go.Ground.phase }, { on := 21, ground := Go.Ground.phase }, { on := 22, ground := Go.Ground.phase }, { on := 23, ground := Go.Ground.phase }, { on := 24, ground := Go.Ground.phase }, { on := 25, ground := Go.Ground.phase }, { on := 26, ground := Go.Ground.phase }], guard := Option.none }) (v := ?_) rfl (by kernel_rfl) (by kernel_rfl) (by kernel_rfl) (fun _ _ _ h => h) (Or.inl ⟨by rfl, ?_⟩) (by assumption) ?_
  rotate_left
  · intro w hSw; (try dsimp only at hSw); go_simp; all_goals (with_reducible rfl)
  try simp only [Act.put, List.setIfInBounds_toArray, List.set_cons_zero, List.set_cons_succ]
  refine wpAnyH_done (by kernel_rfl) ?_ _
  have HZ2 := Lib.hid hHeld.1.b
  clear hHeld
  go_wp2
  go_ret
  exact ⟨rfl, HZ2.out⟩

theorem forks_walk {a b : Option Addr} {n c m k : Nat} {xs zs : List Int} {keep : Int} (w : World) (h : IsRow .u8 w a n c xs) (h2 : IsRow .u8 w b m k zs) (hk : (Lit.int .i64 keep).wf = true) (r : c ≤ 140737488351232) (r2 : k ≤ 140737488351232) :
    Calls Try.prog 7 #[.slice a n c, .slice b m k, .int .i64 keep] w fun e w' => e = .returned (.bool true) ∧ Below w.heap.size w w' := by
  obtain ⟨hx, hxn, hnc, _⟩ := h.isB
  obtain ⟨hz, hzn, _, _⟩ := h2.isB
  by_cases hl : 1048576 < n + m
  · exact forks_long a b n c m k keep w hl (by omega) (by omega)
  · exact forks_short a b n c m k keep _ _ w (by omega) hx hz hxn hzn (by have := (wf_i64 hk).2; omega)
end Go.Proofs.Ytnppnccokmcbpaa
