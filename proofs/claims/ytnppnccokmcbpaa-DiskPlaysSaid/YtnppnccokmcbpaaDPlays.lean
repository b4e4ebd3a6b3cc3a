/- DiskPlays: a disk that is written, made durable, crashed and truncated in any order holds just the document's bytes. -/
import Derived.Test.YtnppnccokmcbpaaDOpen
namespace Go.Proofs.Ytnppnccokmcbpaa
open Go.RowKit

theorem Whole.ne {w : World} {g g2 : Nat} {t t2 : TypeId} {cs cs2 : Array Value} (h : Whole w g t cs) (h2 : Whole w g2 t2 cs2) (ht : t ≠ t2) : g ≠ g2 := by
  rintro rfl
  unfold Whole at h h2
  rw [h] at h2
  injection h2 with h2
  injection h2 with _ h2
  exact ht h2
/-- A block that is neither the disk's nor its row's is as it was. -/
theorem Whole.stays {w w' : World} {B g d r gw : Nat} {v : Value} {o : Option Nat} {xs : List Int} {t : TypeId} {cs : Array Value} (h : Whole w gw t cs) (hd : DAt w B g v xs d r) (ht : Turned w w' g o) (ho : o = v.ownBlock ∨ o = none) (h1 : t ≠ 47) (h2 : t ≠ 5) : Whole w' gw t cs := by
  refine h.kept (ht.block _ h.lt (h.ne hd.blk h1) ?_)
  rcases ho with rfl | rfl
  · exact fun e => whole_apart h (Ne.symm h2) hd.own e.symm
  · simp

set_option maxHeartbeats 2000000 in
theorem plays_bad (r : Int) (a : Option Addr) (n c : Nat) (w : World) (h : r < 0 ∨ 1048576 < r) :
    Calls Try.prog 3 #[.int .i64 r, .slice a n c] w fun e w' => e = .returned (.bool true) ∧ Below w.heap.size w w' := by
  have HH := Lib.hid h
  have hif : (if r < 0 ∨ 1048576 < r then (1 : Int) else 0) = 1 := if_pos h
  have HI := Lib.hid hif
  clear h hif
  go_enter Try.func3, Try.ntmps3
  go_wp2_with (first
    | (go_at_call 8; refine (awake_any _).mono ?_; rintro e w1 ⟨rfl, hb1⟩; have HB1 := Lib.hid hb1; clear hb1)
    | (go_at_call 9; refine (new_bad _ _ HH.out).mono ?_; rintro e w' ⟨rfl, rfl⟩)
    | (go_at_call 10; refine (wrong_any r _).mono ?_; rintro e w' ⟨rfl, rfl⟩; rw [HI.out]))
  go_ret
  exact ⟨rfl, HB1.out⟩

/-- What holds at each call's beginning and end. -/
structure PS (w W : World) (gw g : Nat) (v : Value) (T : ByteArray) (xs : List Int) (q r : Nat) : Prop where
  d : DAt W w.heap.size g v xs q r
  m : Whole W gw 30 #[.string T, .int .i64 q, .int .i64 r]
  b : Below w.heap.size w W
  ge : w.heap.size ≤ gw
theorem PS.below {w W W' : World} {gw g : Nat} {v : Value} {T : ByteArray} {xs : List Int} {d r : Nat} (h : PS w W gw g v T xs d r) (hb : Below W.heap.size W W') : PS w W' gw g v T xs d r :=
  ⟨h.d.below hb, h.m.kept (hb.block _ h.m.lt), h.b.trans (hb.mono h.b.size), h.ge⟩

theorem PS.cells {w W : World} {gw g : Nat} {v : Value} {T : ByteArray} {xs : List Int} {d r : Nat} (h : PS w W gw g v T xs d r) : W.cell? ⟨gw, 0, none⟩ = some (.string T) ∧ W.cell? ⟨gw, 1, none⟩ = some (.int .i64 d) ∧ W.cell? ⟨gw, 2, none⟩ = some (.int .i64 r) :=
  ⟨by rw [h.m.cell]; rfl, by rw [h.m.cell]; rfl, by rw [h.m.cell]; rfl⟩
theorem DAt.far {w : World} {B g d r gw : Nat} {v : Value} {xs : List Int} {t : TypeId} {cs : Array Value} (h : DAt w B g v xs d r) (hm : Whole w gw t cs) (h1 : t ≠ 47) (h2 : t ≠ 5) (i : Nat) (u : Value) : DAt (w.setCell ⟨gw, i, none⟩ u) B g v xs d r :=
  ⟨h.blk.kept (Below.heap_setCell w ⟨gw, i, none⟩ u g (hm.ne h.blk h1).symm), h.ge, owns_far h.own gw i (whole_apart hm (Ne.symm h2) h.own) u, h.byte, h.hd, h.hr, h.hm⟩
/-- The document's disk is written. -/
theorem PS.write {w W : World} {gw g : Nat} {v a b c : Value} {T : ByteArray} {xs : List Int} {d r : Nat} (hd : DAt W w.heap.size g v xs d r) (hm : Whole W gw 30 #[a, b, c]) (hb : Below w.heap.size w W) (hg : w.heap.size ≤ gw) :
    PS w (((W.setCell ⟨gw, 0, none⟩ (.string T)).setCell ⟨gw, 1, none⟩ (.int .i64 d)).setCell ⟨gw, 2, none⟩ (.int .i64 r)) gw g v T xs d r := by
  have m1 := hm.store 0 (.string T)
  have m2 := m1.store 1 (.int .i64 d)
  have m3 := m2.store 2 (.int .i64 r)
  refine ⟨((hd.far hm (by decide) (by decide) 0 _).far m1 (by decide) (by decide) 1 _).far m2 (by decide) (by decide) 2 _, by simpa using m3, ?_, hg⟩
  exact ((hb.setCell (p := ⟨gw, 0, none⟩) hg _).setCell (p := ⟨gw, 1, none⟩) hg _).setCell (p := ⟨gw, 2, none⟩) hg _
theorem three_cells {W : World} {gw : Nat} {t : TypeId} {a b c : Value} (h : Whole W gw t #[a, b, c]) : W.cell? ⟨gw, 0, none⟩ = some a ∧ W.cell? ⟨gw, 1, none⟩ = some b ∧ W.cell? ⟨gw, 2, none⟩ = some c ∧ W.frozen? ⟨gw, 0, none⟩ = false ∧ W.frozen? ⟨gw, 1, none⟩ = false ∧ W.frozen? ⟨gw, 2, none⟩ = false :=
  ⟨by rw [h.cell]; rfl, by rw [h.cell]; rfl, by rw [h.cell]; rfl, h.free 0, h.free 1, h.free 2⟩

theorem full_arg {B g d r : Nat} {v : Value} {ys : List Int} (a : Option Addr) (n c : Nat) (xs : List Int) (w0 w : World) (h : DAt w B g v ys d r) (hx : IsB w0 a n xs) (hxn : a = none → n = 0 ∧ c = 0) (hb : Below w0.heap.size w0 w) (hB : w0.heap.size ≤ B) (hn : n ≤ maxLen) (hf : r < ys.length + n) :
    Calls Try.prog 11 #[.pointer (some ⟨g, 0, none⟩), .slice (some ⟨w.heap.size, 0, none⟩) 1 1] (w.alloc (.cells #[.slice a n c] 31)) fun e w' => e = .returned (.int .i64 3) ∧ Below w.heap.size w w' := by
  have haw : n = 0 ∨ ∀ ad, a = some ad → ¬ (ad.block = g ∨ some ad.block = v.ownBlock) := by
    rcases hx.2.2 with h0 | ⟨b, off, rfl, hc⟩
    · exact .inl h0
    · rcases Nat.eq_zero_or_pos n with h0 | h0
      · exact .inl h0
      · have hlt := World.block_lt_of_cell? w0 _ (hc 0 h0)
        refine .inr (fun ad he => ?_)
        injection he with he
        subst he
        rintro (h1 | h1)
        · have := h.ge
          simp at hlt h1
          omega
        · have := (h.own.lt _ h1.symm).1
          simp at hlt this
          omega
  have hp := PartsIn.new h hn hxn (hx.below hb) haw
  have hfl : ([xs] : List (List Int)).flatten = xs := by simp
  refine (append_full _ _ 1 _ _ (h.alloc _) hp (by rw [hfl, hx.1]; exact hf)).mono ?_
  rintro e w' ⟨rfl, q, rfl⟩
  exact ⟨rfl, (below_alloc w _).trans ⟨rfl, rfl, rfl, Nat.le_refl _, fun _ _ => rfl⟩⟩
/-- Append of new bytes: which of both comes of it does not matter. -/
theorem append_new {B g d r : Nat} {v : Value} {ys : List Int} (xs : List Int) (fr : Nat × Nat) (w : World) (h : DAt w B g v ys d r) (hb : ∀ x ∈ xs, 0 ≤ x ∧ x < 256) (hn : xs.length ≤ maxLen) :
    Calls Try.prog 11 #[.pointer (some ⟨g, 0, none⟩), .slice (some ⟨w.heap.size + 1, 0, none⟩) 1 1] ((w.alloc (.cells (xs.map (Value.int .u8)).toArray 5 fr)).alloc (.cells #[.slice (some ⟨w.heap.size, 0, none⟩) xs.length xs.length] 31)) fun e w' =>
      (∃ z : Int, e = .returned (.int .i64 z)) ∧ Turned w w' g v.ownBlock := by
  have hsz : (w.alloc (.cells (xs.map (Value.int .u8)).toArray 5 fr)).heap.size = w.heap.size + 1 := by simp
  have h1 := h.alloc (.cells (xs.map (Value.int .u8)).toArray 5 fr)
  have hp := PartsIn.new h1 hn (c := xs.length) (by simp) (IsB.lit w xs fr hb) (.inr (by rintro ad he; injection he with he; subst he; exact h.off (Nat.le_refl _)))
  rw [hsz] at hp
  have h2 := h1.alloc (.cells #[.slice (some ⟨w.heap.size, 0, none⟩) xs.length xs.length] 31)
  have hfl : ([xs] : List (List Int)).flatten = xs := by simp
  have ht0 : Turned w ((w.alloc (.cells (xs.map (Value.int .u8)).toArray 5 fr)).alloc (.cells #[.slice (some ⟨w.heap.size, 0, none⟩) xs.length xs.length] 31)) g v.ownBlock :=
    Turned.ofBelow _ _ (((Below.refl _ _).alloc (Nat.le_refl _) _).alloc (by simp) _)
  by_cases hf : ys.length + xs.length ≤ r
  · refine (append_fits _ _ 1 _ _ h2 hp (by rw [hfl]; exact hf)).mono ?_
    rintro e w' ⟨rfl, v', hd, ht, ho⟩
    exact ⟨⟨0, rfl⟩, ht0.then_ ht (.inl rfl)⟩
  · refine (append_full _ _ 1 _ _ h2 hp (by rw [hfl]; omega)).mono ?_
    rintro e w' ⟨rfl, q, rfl⟩
    exact ⟨⟨3, rfl⟩, ht0.then_ ⟨rfl, rfl, rfl, Nat.le_refl _, fun _ _ _ _ => rfl⟩ (.inl rfl)⟩

set_option maxRecDepth 100000 in
set_option maxHeartbeats 16000000 in
theorem plays_good (r : Nat) (a : Option Addr) (n c : Nat) (w : World) (h : r ≤ 1048576) (hz : OpsIn w a n) (hn : n ≤ maxLen) :
    Calls Try.prog 3 #[.int .i64 r, .slice a n c] w fun e w' => e = .returned (.bool true) ∧ Below w.heap.size w w' := by
  have HZ := Lib.hid hz
  unfold maxLen at hn
  have hif : (if (r : Int) < 0 ∨ (1048576 : Int) < r then (1 : Int) else 0) = 0 := if_neg (by omega)
  have HI := Lib.hid hif
  clear hz hif
  go_enter Try.func3, Try.ntmps3
  go_wp2_with (first
    | (go_at_call 8; refine (awake_any _).mono ?_; rintro e w1 ⟨rfl, hb1⟩; have HB1 := Lib.hid hb1; clear hb1)
    | (go_at_call 9; refine (new_good w.heap.size r _ h HB1.out.size).mono ?_; rintro e w2 ⟨rfl, hd2, hb2⟩; have HD2 := Lib.hid hd2; have HB2 := Lib.hid (HB1.out.trans (hb2.mono HB1.out.size)); clear hd2 hb2)
    | (go_at_call 10; refine (wrong_any r _).mono ?_; rintro e w' ⟨rfl, rfl⟩; rw [HI.out]))
  have HG := Lib.hid (show w.heap.size ≤ w1.heap.size from HB1.out.size)
  have hps : PS w (w2.alloc (.cells #[.string ⟨#[]⟩, .int .i64 0, .int .i64 r] 30)) w2.heap.size w1.heap.size (.slice none 0 0) ⟨#[]⟩ [] 0 r := ⟨HD2.out.alloc _, heap_alloc_new w2 _, HB2.out.alloc HB2.out.size _, HB2.out.size⟩
  have HPS := Lib.hid hps
  clear hps
  generalize w1.heap.size = g0 at *
  generalize w2.alloc (.cells #[.string ⟨#[]⟩, .int .i64 0, .int .i64 r] 30) = w3 at *
  generalize w2.heap.size = gw at *
  go_loopw [5, 44] (fun p i wr => ∃ (k g d : Nat) (v : Value) (xs : List Int), k ≤ n ∧ i = .int .i64 k ∧ p = .pointer (some ⟨g, 0, none⟩) ∧ PS w wr gw g v (strOfNums xs) xs d r) (fun _ i _ => n - (intOf i).toNat)
  case atStart => exact ⟨0, g0, 0, _, [], by omega, rfl, rfl, HPS.out⟩
  case round =>
    obtain ⟨k, g, d, v, xs, hk, rfl, rfl, hp⟩ := hrel
    by_cases hkn : k < n
    · obtain ⟨b, off, rfl, hcc⟩ := HZ.out.resolve_left (by omega)
      obtain ⟨q, kk, ua, m, uc, ys, z0, z1, z2, hq, hkk, hib, hnil, hm⟩ := hcc k hkn
      have hbl := World.block_lt_of_cell? w _ z0
      have c0 := (hp.b.cell (p := ⟨b, off + k * 3, none⟩) hbl).trans z0
      have c1 := (hp.b.cell (p := ⟨b, off + k * 3 + 1, none⟩) hbl).trans z1
      have c2 := (hp.b.cell (p := ⟨b, off + k * 3 + 2, none⟩) hbl).trans z2
      have HP := Lib.hid hp
      have HIB := Lib.hid hib
      have HNIL := Lib.hid hnil
      have hgl := hp.d.blk.lt
      have hgm := hp.m.lt
      clear hcc z0 z1 z2 hp hib hnil hbl
      rcases (show q = 0 ∨ q = 1 ∨ q = 2 ∨ q = 3 ∨ q = 4 ∨ (q < 0 ∨ 4 < q) by omega) with rfl | rfl | rfl | rfl | rfl | hqo
      · have hp0 : PS w (wr.alloc (.cells #[.int .i64 0, .slice ua m uc, .int .i64 kk] 33)) gw g v (strOfNums xs) xs d r := HP.out.below (below_alloc _ _)
        have ho0 : Whole (wr.alloc (.cells #[.int .i64 0, .slice ua m uc, .int .i64 kk] 33)) wr.heap.size 33 #[.int .i64 0, .slice ua m uc, .int .i64 kk] := heap_alloc_new wr _
        have hsz0 : (wr.alloc (.cells #[.int .i64 0, .slice ua m uc, .int .i64 kk] 33)).heap.size = wr.heap.size + 1 := by simp
        have HP0 := Lib.hid hp0
        have HO0 := Lib.hid ho0
        clear hp0 ho0
        by_cases hf : xs.length + m ≤ r
        · have haa := append_arg ua m uc ys w _ HP0.out.d HIB.out HNIL.out HP0.out.b (Nat.le_refl _) (by unfold maxLen; omega) hf
          rw [hsz0] at haa
          have HAA := Lib.hid haa
          clear haa
          go_wp2_with fail
          refine HAA.out.mono ?_
          rintro e w5 ⟨rfl, v5, hd5, ht5, _⟩
          have hm5 := HP0.out.m.stays HP0.out.d ht5 (.inl rfl) (by decide) (by decide)
          have ho5 := HO0.out.stays HP0.out.d ht5 (.inl rfl) (by decide) (by decide)
          have hb5 := HP0.out.b.trans (HP0.out.d.turned ht5 HP0.out.b.size)
          have hx5 := (HIB.out.below hb5).str uc
          obtain ⟨a0, a1, a2, e0, e1, e2⟩ := three_cells hm5
          have o1 : w5.cell? ⟨wr.heap.size, 1, none⟩ = some (.slice ua m uc) := by rw [ho5.cell]; rfl
          obtain ⟨S, hS⟩ : ∃ S, S = strOfNums xs := ⟨_, rfl⟩
          obtain ⟨X, hX⟩ : ∃ X, X = strOfNums ys := ⟨_, rfl⟩
          obtain ⟨T, hT⟩ : ∃ T, T = S ++ X := ⟨_, rfl⟩
          have HT : Hid (T = strOfNums (xs ++ ys)) := Lib.hid (by rw [hT, hS, hX, str_append])
          rw [← hS] at hm5 a0
          rw [← hX] at hx5
          have hsl : S.size = xs.length := by rw [hS, strOfNums_size]
          have hxl : X.size = m := by rw [hX, strOfNums_size]; exact HIB.out.1
          have hra := rappend_fits S X d r w5 (by omega) (by omega) (by omega)
          rw [← hT] at hra
          have HRA := Lib.hid hra
          have HM5 := Lib.hid hm5
          have HD5 := Lib.hid hd5
          have HB5 := Lib.hid hb5
          clear hm5 ho5 hb5 hd5 ht5 hS hX hT hsl hxl hra
          go_wp2_with fail
          refine HRA.out.mono ?_
          rintro e w6 ⟨rfl, hb6⟩
          have hm6 := HM5.out.kept (hb6.block _ HM5.out.lt)
          have hb6' := HB5.out.trans (hb6.mono HB5.out.size)
          obtain ⟨b0, b1, b2, g0, g1, g2⟩ := three_cells hm6
          have HQ := Lib.hid (PS.write (T := T) (HD5.out.below hb6) hm6 hb6' HP.out.ge)
          clear hm6 hb6 hb6'
          unfold RD
          go_wp2_with fail
          generalize ((w6.setCell ⟨gw, 0, none⟩ (.string T)).setCell ⟨gw, 1, none⟩ (.int .i64 d)).setCell ⟨gw, 2, none⟩ (.int .i64 r) = w9 at *
          clear a0 a1 a2 e0 e1 e2 o1 hx5 b0 b1 b2 g0 g1 g2 c0 c1 c2 hsz0
          obtain ⟨ws, hws⟩ : ∃ ws, ws = xs ++ ys := ⟨_, rfl⟩
          rw [← hws] at HQ HT
          clear hws
          have hTT : (T.toList == T.toList) = true := by simp
          have hTN : (T.toList != T.toList) = false := by simp
          have hl2 : ((r - (ws).length : Nat) : Int) = (r : Int) - (T.size : Int) := by have h1 := HQ.out.d.hr; have h2 := congrArg ByteArray.size HT.out; rw [strOfNums_size] at h2; omega
          have hwr : IntKind.i64.wrap ((r : Int) - (T.size : Int)) = (r : Int) - (T.size : Int) := by have h1 := HQ.out.d.hr; have h2 := congrArg ByteArray.size HT.out; rw [strOfNums_size] at h2; exact IntWalk.i64_in _ (by omega)
          have HL2 := Lib.hid hl2
          clear hl2
          refine wp_region_held_drew (S := fun W => PS w W gw g v5 T ws d r ∧ W.cell? ⟨gw, 0, none⟩ = some (.string T) ∧ W.cell? ⟨gw, 1, none⟩ = some (.int .i64 d) ∧ W.cell? ⟨gw, 2, none⟩ = some (.int .i64 r)) (by kernel_rfl) ⟨HQ.out.below (below_drewN _ 1), (HQ.out.below (below_drewN _ 1)).cells⟩ (fun hHeld => ?_)
          refine wpAnyH_take (i := 0) (oi := { dst := Option.some 108, op := Go.Op.move (Go.Operand.tmp 11), type := 25, pos := "law.go:70", after := #[], guard := Option.none }) (v := ?_) rfl (by kernel_rfl) (by kernel_rfl) (by kernel_rfl) (fun _ _ _ h => h) (Or.inl ⟨by rfl, ?_⟩) (by assumption) ?_
          rotate_left
          · intro w hSw; (try dsimp only at hSw); go_simp; all_goals (with_reducible rfl)
          try simp only [Act.put, List.setIfInBounds_toArray, List.set_cons_zero, List.set_cons_succ]
          refine wpAnyH_take (i := 1) (oi := { dst := Option.some 109, op := Go.Op.move (Go.Operand.tmp 12), type := 3, pos := "law.go:70", after := #[], guard := Option.none }) (v := ?_) rfl (by kernel_rfl) (by kernel_rfl) (by kernel_rfl) (fun _ _ _ h => h) (Or.inl ⟨by rfl, ?_⟩) (by assumption) ?_
          rotate_left
          · intro w hSw; (try dsimp only at hSw); go_simp; all_goals (with_reducible rfl)
          try simp only [Act.put, List.setIfInBounds_toArray, List.set_cons_zero, List.set_cons_succ]
          refine wpAnyH_take (i := 2) (oi := { dst := Option.some 110, op := Go.Op.binOp Go.BinOp.neq 3 (Go.Operand.tmp 108) (Go.Operand.tmp 109) 3, type := 4, pos := "law.go:70", after := #[{ on := 0, ground := Go.Ground.data }, { on := 1, ground := Go.Ground.data }], guard := Option.none }) (v := ?_) rfl (by kernel_rfl) (by kernel_rfl) (by kernel_rfl) (fun _ _ _ h => h) (Or.inl ⟨by rfl, ?_⟩) (by assumption) ?_
          rotate_left
          · intro w hSw; (try dsimp only at hSw); go_simp; all_goals (with_reducible rfl)
          try simp only [Act.put, List.setIfInBounds_toArray, List.set_cons_zero, List.set_cons_succ]
          refine wpAnyH_take (i := 3) (oi := { dst := Option.some 111, op := Go.Op.move (Go.Operand.tmp 110), type := 4, pos := "law.go:70", after := #[{ on := 2, ground := Go.Ground.data }], guard := Option.none }) (v := ?_) rfl (by kernel_rfl) (by kernel_rfl) (by kernel_rfl) (fun _ _ _ h => h) (Or.inl ⟨by rfl, ?_⟩) (by assumption) ?_
          rotate_left
          · intro w hSw; (try dsimp only at hSw); go_simp; all_goals (with_reducible rfl)
          try simp only [Act.put, List.setIfInBounds_toArray, List.set_cons_zero, List.set_cons_succ]
          refine wpAnyH_take (i := 4) (oi := { dst := Option.some 112, op := Go.Op.move (Go.Operand.tmp 5), type := 24, pos := "law.go:70", after := #[{ on := 3, ground := Go.Ground.guard }], guard := Option.some (3, Bool.false) }) (v := ?_) rfl (by kernel_rfl) (by kernel_rfl) (by kernel_rfl) (fun _ _ _ h => h) (Or.inl ⟨by rfl, ?_⟩) (by assumption) ?_
          rotate_left
          · intro w hSw; (try dsimp only at hSw); go_simp; all_goals (with_reducible rfl)
          try simp only [Act.put, List.setIfInBounds_toArray, List.set_cons_zero, List.set_cons_succ]
          refine wpAnyH_take (i := 5) (oi := { dst := Option.some 113, op := Go.Op.nilCheck (Go.Operand.tmp 112), type := 0, pos := "law.go:70", after := #[{ on := 4, ground := Go.Ground.data }, { on := 3, ground := Go.Ground.guard }], guard := Option.some (3, Bool.false) }) (v := ?_) rfl (by kernel_rfl) (by kernel_rfl) (by kernel_rfl) (fun _ _ _ h => h) (Or.inl ⟨by rfl, ?_⟩) (by assumption) ?_
          rotate_left
          · intro w hSw; (try dsimp only at hSw); go_simp; all_goals (with_reducible rfl)
          try simp only [Act.put, List.setIfInBounds_toArray, List.set_cons_zero, List.set_cons_succ]
          refine wpAnyH_take (i := 6) (oi := { dst := Option.some 114, op := Go.Op.fieldAddr 47 (Go.Operand.tmp 113) 0, type := 0, pos := "law.go:70", after := #[{ on := 5, ground := Go.Ground.data }, { on := 3, ground := Go.Ground.guard }], guard := Option.some (3, Bool.false) }) (v := ?_) rfl (by kernel_rfl) (by kernel_rfl) (by kernel_rfl) (fun _ _ _ h => h) (Or.inl ⟨by rfl, ?_⟩) (by assumption) ?_
          rotate_left
          · intro w hSw; (try dsimp only at hSw); go_simp; all_goals (with_reducible rfl)
          try simp only [Act.put, List.setIfInBounds_toArray, List.set_cons_zero, List.set_cons_succ]
          refine wpAnyH_take (i := 9) (oi := { dst := Option.some 117, op := Go.Op.fieldAddr 30 (Go.Operand.tmp 8) 0, type := 0, pos := "law.go:70", after := #[{ on := 3, ground := Go.Ground.guard }], guard := Option.some (3, Bool.false) }) (v := ?_) rfl (by kernel_rfl) (by kernel_rfl) (by kernel_rfl) (fun _ _ _ h => h) (Or.inl ⟨by rfl, ?_⟩) (by assumption) ?_
          rotate_left
          · intro w hSw; (try dsimp only at hSw); go_simp; all_goals (with_reducible rfl)
          try simp only [Act.put, List.setIfInBounds_toArray, List.set_cons_zero, List.set_cons_succ]
          refine wpAnyH_take (i := 10) (oi := { dst := Option.some 118, op := Go.Op.load 9 (Go.Operand.tmp 117), type := 9, pos := "law.go:70", after := #[{ on := 9, ground := Go.Ground.data }, { on := 3, ground := Go.Ground.guard }], guard := Option.some (3, Bool.false) }) (v := ?_) rfl (by kernel_rfl) (by kernel_rfl) (by kernel_rfl) (fun _ _ _ h => h) (Or.inl ⟨by rfl, ?_⟩) (by assumption) ?_
          rotate_left
          · intro w hSw; (try dsimp only at hSw); go_simp; all_goals (with_reducible rfl)
          try simp only [Act.put, List.setIfInBounds_toArray, List.set_cons_zero, List.set_cons_succ]
          refine wpAnyH_ready (rs := [7]) (by kernel_rfl) (by simp) ?_
          refine AllReadyH.cons (o := { dst := Option.some 115, op := Go.Op.call { callee := Go.Callee.value (Go.Operand.func 20), args := #[Go.Operand.tmp 114], argTypes := #[45] }, type := 31, pos := "law.go:70", after := #[{ on := 6, ground := Go.Ground.data }, { on := 3, ground := Go.Ground.chain }, { on := 3, ground := Go.Ground.guard }], guard := Option.some (3, Bool.false) }) rfl (fun K hK => ?_) AllReadyH.nil
          go_simp
          refine (bytes_any (B := w.heap.size) (g := g) (d := d) (r := r) (v := v5) (xs := ws) _ hHeld.1.d).mono ?_
          rintro e w8 ⟨u2, rfl, hown8, hb8⟩
          obtain ⟨ua2, uc2, rfl, hui, _⟩ := owned_slice hown8 hHeld.1.d.byte
          have hcu := hui.str uc2
          rw [← HT.out] at hcu
          have hF8 := Lib.hid (hHeld.1.below hb8)
          clear hown8 hb8 hui hHeld
          go_wp2_with fail
          refine hK.out _ _ (⟨hF8.out, hF8.out.cells⟩) (fun hHeld => ?_)
          clear hK K
          try simp only [Act.put, List.setIfInBounds_toArray, List.set_cons_zero, List.set_cons_succ]
          refine wpAnyH_ready (rs := [8]) (by kernel_rfl) (by simp) ?_
          refine AllReadyH.cons (o := { dst := Option.some 116, op := Go.Op.convert 31 9 (Go.Operand.tmp 115), type := 9, pos := "law.go:70", after := #[{ on := 7, ground := Go.Ground.data }, { on := 3, ground := Go.Ground.guard }], guard := Option.some (3, Bool.false) }) rfl (fun K hK => ?_) AllReadyH.nil
          go_simp
          refine hK.out _ _ (hHeld) (fun hHeld => ?_)
          clear hK K
          try simp only [Act.put, List.setIfInBounds_toArray, List.set_cons_zero, List.set_cons_succ]
          refine wpAnyH_take (i := 11) (oi := { dst := Option.some 119, op := Go.Op.binOp Go.BinOp.neq 9 (Go.Operand.tmp 116) (Go.Operand.tmp 118) 9, type := 4, pos := "law.go:70", after := #[{ on := 8, ground := Go.Ground.data }, { on := 10, ground := Go.Ground.data }, { on := 3, ground := Go.Ground.guard }], guard := Option.some (3, Bool.false) }) (v := ?_) rfl (by kernel_rfl) (by kernel_rfl) (by kernel_rfl) (fun _ _ _ h => h) (Or.inl ⟨by rfl, ?_⟩) (by assumption) ?_
          rotate_left
          · intro w hSw; (try dsimp only at hSw); go_simp; all_goals (with_reducible rfl)
          try simp only [Act.put, List.setIfInBounds_toArray, List.set_cons_zero, List.set_cons_succ]
          refine wpAnyH_take (i := 12) (oi := { dst := Option.some 120, op := Go.Op.pick (Go.Operand.tmp 111) (Go.Operand.const (Go.Value.bool Bool.true)) (Go.Operand.tmp 119), type := 4, pos := "law.go:70", after := #[{ on := 3, ground := Go.Ground.data }, { on := 11, ground := Go.Ground.data }], guard := Option.none }) (v := ?_) rfl (by kernel_rfl) (by kernel_rfl) (by kernel_rfl) (fun _ _ _ h => h) (Or.inl ⟨by rfl, ?_⟩) (by assumption) ?_
          rotate_left
          · intro w hSw; (try dsimp only at hSw); go_simp; all_goals (with_reducible rfl)
          try simp only [Act.put, List.setIfInBounds_toArray, List.set_cons_zero, List.set_cons_succ]
          refine wpAnyH_take (i := 13) (oi := { dst := Option.some 121, op := Go.Op.move (Go.Operand.tmp 120), type := 4, pos := "law.go:70", after := #[{ on := 12, ground := Go.Ground.data }, { on := 7, ground := Go.Ground.chain }], guard := Option.none }) (v := ?_) rfl (by kernel_rfl) (by kernel_rfl) (by kernel_rfl) (fun _ _ _ h => h) (Or.inl ⟨by rfl, ?_⟩) (by assumption) ?_
          rotate_left
          · intro w hSw; (try dsimp only at hSw); go_simp; all_goals (with_reducible rfl)
          try simp only [Act.put, List.setIfInBounds_toArray, List.set_cons_zero, List.set_cons_succ]
          refine wpAnyH_take (i := 14) (oi := { dst := Option.some 122, op := Go.Op.move (Go.Operand.tmp 5), type := 24, pos := "law.go:70", after := #[{ on := 13, ground := Go.Ground.guard }], guard := Option.some (13, Bool.false) }) (v := ?_) rfl (by kernel_rfl) (by kernel_rfl) (by kernel_rfl) (fun _ _ _ h => h) (Or.inl ⟨by rfl, ?_⟩) (by assumption) ?_
          rotate_left
          · intro w hSw; (try dsimp only at hSw); go_simp; all_goals (with_reducible rfl)
          try simp only [Act.put, List.setIfInBounds_toArray, List.set_cons_zero, List.set_cons_succ]
          refine wpAnyH_take (i := 15) (oi := { dst := Option.some 123, op := Go.Op.nilCheck (Go.Operand.tmp 122), type := 0, pos := "law.go:70", after := #[{ on := 14, ground := Go.Ground.data }, { on := 13, ground := Go.Ground.guard }], guard := Option.some (13, Bool.false) }) (v := ?_) rfl (by kernel_rfl) (by kernel_rfl) (by kernel_rfl) (fun _ _ _ h => h) (Or.inl ⟨by rfl, ?_⟩) (by assumption) ?_
          rotate_left
          · intro w hSw; (try dsimp only at hSw); go_simp; all_goals (with_reducible rfl)
          try simp only [Act.put, List.setIfInBounds_toArray, List.set_cons_zero, List.set_cons_succ]
          refine wpAnyH_take (i := 16) (oi := { dst := Option.some 124, op := Go.Op.fieldAddr 47 (Go.Operand.tmp 123) 0, type := 0, pos := "law.go:70", after := #[{ on := 15, ground := Go.Ground.data }, { on := 13, ground := Go.Ground.guard }], guard := Option.some (13, Bool.false) }) (v := ?_) rfl (by kernel_rfl) (by kernel_rfl) (by kernel_rfl) (fun _ _ _ h => h) (Or.inl ⟨by rfl, ?_⟩) (by assumption) ?_
          rotate_left
          · intro w hSw; (try dsimp only at hSw); go_simp; all_goals (with_reducible rfl)
          try simp only [Act.put, List.setIfInBounds_toArray, List.set_cons_zero, List.set_cons_succ]
          refine wpAnyH_take (i := 18) (oi := { dst := Option.some 126, op := Go.Op.fieldAddr 30 (Go.Operand.tmp 8) 0, type := 0, pos := "law.go:70", after := #[{ on := 13, ground := Go.Ground.guard }], guard := Option.some (13, Bool.false) }) (v := ?_) rfl (by kernel_rfl) (by kernel_rfl) (by kernel_rfl) (fun _ _ _ h => h) (Or.inl ⟨by rfl, ?_⟩) (by assumption) ?_
          rotate_left
          · intro w hSw; (try dsimp only at hSw); go_simp; all_goals (with_reducible rfl)
          try simp only [Act.put, List.setIfInBounds_toArray, List.set_cons_zero, List.set_cons_succ]
          refine wpAnyH_take (i := 19) (oi := { dst := Option.some 127, op := Go.Op.load 9 (Go.Operand.tmp 126), type := 9, pos := "law.go:70", after := #[{ on := 18, ground := Go.Ground.data }, { on := 13, ground := Go.Ground.guard }], guard := Option.some (13, Bool.false) }) (v := ?_) rfl (by kernel_rfl) (by kernel_rfl) (by kernel_rfl) (fun _ _ _ h => h) (Or.inl ⟨by rfl, ?_⟩) (by assumption) ?_
          rotate_left
          · intro w hSw; (try dsimp only at hSw); go_simp; all_goals (with_reducible rfl)
          try simp only [Act.put, List.setIfInBounds_toArray, List.set_cons_zero, List.set_cons_succ]
          refine wpAnyH_take (i := 20) (oi := { dst := Option.some 128, op := Go.Op.call { callee := Go.Callee.builtin Go.Builtin.len, args := #[Go.Operand.tmp 127], argTypes := #[9] }, type := 3, pos := "law.go:70", after := #[{ on := 19, ground := Go.Ground.data }, { on := 13, ground := Go.Ground.guard }], guard := Option.some (13, Bool.false) }) (v := ?_) rfl (by kernel_rfl) (by kernel_rfl) (by kernel_rfl) (fun _ _ _ h => h) (Or.inl ⟨by rfl, ?_⟩) (by assumption) ?_
          rotate_left
          · intro w hSw; (try dsimp only at hSw); go_simp; all_goals (with_reducible rfl)
          try simp only [Act.put, List.setIfInBounds_toArray, List.set_cons_zero, List.set_cons_succ]
          refine wpAnyH_ready (rs := [17]) (by kernel_rfl) (by simp) ?_
          refine AllReadyH.cons (o := { dst := Option.some 125, op := Go.Op.call { callee := Go.Callee.value (Go.Operand.func 21), args := #[Go.Operand.tmp 124], argTypes := #[45] }, type := 3, pos := "law.go:70", after := #[{ on := 16, ground := Go.Ground.data }, { on := 13, ground := Go.Ground.chain }, { on := 13, ground := Go.Ground.guard }], guard := Option.some (13, Bool.false) }) rfl (fun K hK => ?_) AllReadyH.nil
          go_simp
          refine (size_as (B := w.heap.size) (g := g) (d := d) (r := r) (v := v5) (xs := ws) _ hHeld.1.d (T.size : Int) (by rw [HT.out, strOfNums_size])).mono ?_
          rintro e w' ⟨rfl, rfl⟩
          go_wp2_with fail
          refine hK.out _ _ (hHeld) (fun hHeld => ?_)
          clear hK K
          try simp only [Act.put, List.setIfInBounds_toArray, List.set_cons_zero, List.set_cons_succ]
          refine wpAnyH_take (i := 21) (oi := { dst := Option.some 129, op := Go.Op.binOp Go.BinOp.neq 3 (Go.Operand.tmp 125) (Go.Operand.tmp 128) 3, type := 4, pos := "law.go:70", after := #[{ on := 17, ground := Go.Ground.data }, { on := 20, ground := Go.Ground.data }, { on := 13, ground := Go.Ground.guard }], guard := Option.some (13, Bool.false) }) (v := ?_) rfl (by kernel_rfl) (by kernel_rfl) (by kernel_rfl) (fun _ _ _ h => h) (Or.inl ⟨by rfl, ?_⟩) (by assumption) ?_
          rotate_left
          · intro w hSw; (try dsimp only at hSw); go_simp; all_goals (with_reducible rfl)
          try simp only [Act.put, List.setIfInBounds_toArray, List.set_cons_zero, List.set_cons_succ]
          refine wpAnyH_take (i := 22) (oi := { dst := Option.some 130, op := Go.Op.pick (Go.Operand.tmp 121) (Go.Operand.const (Go.Value.bool Bool.true)) (Go.Operand.tmp 129), type := 4, pos := "law.go:70", after := #[{ on := 13, ground := Go.Ground.data }, { on := 21, ground := Go.Ground.data }], guard := Option.none }) (v := ?_) rfl (by kernel_rfl) (by kernel_rfl) (by kernel_rfl) (fun _ _ _ h => h) (Or.inl ⟨by rfl, ?_⟩) (by assumption) ?_
          rotate_left
          · intro w hSw; (try dsimp only at hSw); go_simp; all_goals (with_reducible rfl)
          try simp only [Act.put, List.setIfInBounds_toArray, List.set_cons_zero, List.set_cons_succ]
          refine wpAnyH_take (i := 23) (oi := { dst := Option.some 131, op := Go.Op.move (Go.Operand.tmp 130), type := 4, pos := "law.go:70", after := #[{ on := 22, ground := Go.Ground.data }, { on := 17, ground := Go.Ground.chain }], guard := Option.none }) (v := ?_) rfl (by kernel_rfl) (by kernel_rfl) (by kernel_rfl) (fun _ _ _ h => h) (Or.inl ⟨by rfl, ?_⟩) (by assumption) ?_
          rotate_left
          · intro w hSw; (try dsimp only at hSw); go_simp; all_goals (with_reducible rfl)
          try simp only [Act.put, List.setIfInBounds_toArray, List.set_cons_zero, List.set_cons_succ]
          refine wpAnyH_take (i := 24) (oi := { dst := Option.some 132, op := Go.Op.move (Go.Operand.tmp 5), type := 24, pos := "law.go:70", after := #[{ on := 23, ground := Go.Ground.guard }], guard := Option.some (23, Bool.false) }) (v := ?_) rfl (by kernel_rfl) (by kernel_rfl) (by kernel_rfl) (fun _ _ _ h => h) (Or.inl ⟨by rfl, ?_⟩) (by assumption) ?_
          rotate_left
          · intro w hSw; (try dsimp only at hSw); go_simp; all_goals (with_reducible rfl)
          try simp only [Act.put, List.setIfInBounds_toArray, List.set_cons_zero, List.set_cons_succ]
          refine wpAnyH_take (i := 25) (oi := { dst := Option.some 133, op := Go.Op.nilCheck (Go.Operand.tmp 132), type := 0, pos := "law.go:70", after := #[{ on := 24, ground := Go.Ground.data }, { on := 23, ground := Go.Ground.guard }], guard := Option.some (23, Bool.false) }) (v := ?_) rfl (by kernel_rfl) (by kernel_rfl) (by kernel_rfl) (fun _ _ _ h => h) (Or.inl ⟨by rfl, ?_⟩) (by assumption) ?_
          rotate_left
          · intro w hSw; (try dsimp only at hSw); go_simp; all_goals (with_reducible rfl)
          try simp only [Act.put, List.setIfInBounds_toArray, List.set_cons_zero, List.set_cons_succ]
          refine wpAnyH_take (i := 26) (oi := { dst := Option.some 134, op := Go.Op.fieldAddr 47 (Go.Operand.tmp 133) 0, type := 0, pos := "law.go:70", after := #[{ on := 25, ground := Go.Ground.data }, { on := 23, ground := Go.Ground.guard }], guard := Option.some (23, Bool.false) }) (v := ?_) rfl (by kernel_rfl) (by kernel_rfl) (by kernel_rfl) (fun _ _ _ h => h) (Or.inl ⟨by rfl, ?_⟩) (by assumption) ?_
          rotate_left
          · intro w hSw; (try dsimp only at hSw); go_simp; all_goals (with_reducible rfl)
          try simp only [Act.put, List.setIfInBounds_toArray, List.set_cons_zero, List.set_cons_succ]
          refine wpAnyH_take (i := 28) (oi := { dst := Option.some 136, op := Go.Op.fieldAddr 30 (Go.Operand.tmp 8) 1, type := 0, pos := "law.go:70", after := #[{ on := 23, ground := Go.Ground.guard }], guard := Option.some (23, Bool.false) }) (v := ?_) rfl (by kernel_rfl) (by kernel_rfl) (by kernel_rfl) (fun _ _ _ h => h) (Or.inl ⟨by rfl, ?_⟩) (by assumption) ?_
          rotate_left
          · intro w hSw; (try dsimp only at hSw); go_simp; all_goals (with_reducible rfl)
          try simp only [Act.put, List.setIfInBounds_toArray, List.set_cons_zero, List.set_cons_succ]
          refine wpAnyH_take (i := 29) (oi := { dst := Option.some 137, op := Go.Op.load 3 (Go.Operand.tmp 136), type := 3, pos := "law.go:70", after := #[{ on := 28, ground := Go.Ground.data }, { on := 23, ground := Go.Ground.guard }], guard := Option.some (23, Bool.false) }) (v := ?_) rfl (by kernel_rfl) (by kernel_rfl) (by kernel_rfl) (fun _ _ _ h => h) (Or.inl ⟨by rfl, ?_⟩) (by assumption) ?_
          rotate_left
          · intro w hSw; (try dsimp only at hSw); go_simp; all_goals (with_reducible rfl)
          try simp only [Act.put, List.setIfInBounds_toArray, List.set_cons_zero, List.set_cons_succ]
          refine wpAnyH_ready (rs := [27]) (by kernel_rfl) (by simp) ?_
          refine AllReadyH.cons (o := { dst := Option.some 135, op := Go.Op.call { callee := Go.Callee.value (Go.Operand.func 22), args := #[Go.Operand.tmp 134], argTypes := #[45] }, type := 3, pos := "law.go:70", after := #[{ on := 26, ground := Go.Ground.data }, { on := 23, ground := Go.Ground.chain }, { on := 23, ground := Go.Ground.guard }], guard := Option.some (23, Bool.false) }) rfl (fun K hK => ?_) AllReadyH.nil
          go_simp
          refine (durable_any (B := w.heap.size) (g := g) (d := d) (r := r) (v := v5) (xs := ws) _ hHeld.1.d).mono ?_
          rintro e w' ⟨rfl, rfl⟩
          go_wp2_with fail
          refine hK.out _ _ (hHeld) (fun hHeld => ?_)
          clear hK K
          try simp only [Act.put, List.setIfInBounds_toArray, List.set_cons_zero, List.set_cons_succ]
          refine wpAnyH_take (i := 30) (oi := { dst := Option.some 138, op := Go.Op.binOp Go.BinOp.neq 3 (Go.Operand.tmp 135) (Go.Operand.tmp 137) 3, type := 4, pos := "law.go:70", after := #[{ on := 27, ground := Go.Ground.data }, { on := 29, ground := Go.Ground.data }, { on := 23, ground := Go.Ground.guard }], guard := Option.some (23, Bool.false) }) (v := ?_) rfl (by kernel_rfl) (by kernel_rfl) (by kernel_rfl) (fun _ _ _ h => h) (Or.inl ⟨by rfl, ?_⟩) (by assumption) ?_
          rotate_left
          · intro w hSw; (try dsimp only at hSw); go_simp; all_goals (with_reducible rfl)
          try simp only [Act.put, List.setIfInBounds_toArray, List.set_cons_zero, List.set_cons_succ]
          refine wpAnyH_take (i := 31) (oi := { dst := Option.some 139, op := Go.Op.pick (Go.Operand.tmp 131) (Go.Operand.const (Go.Value.bool Bool.true)) (Go.Operand.tmp 138), type := 4, pos := "law.go:70", after := #[{ on := 23, ground := Go.Ground.data }, { on := 30, ground := Go.Ground.data }], guard := Option.none }) (v := ?_) rfl (by kernel_rfl) (by kernel_rfl) (by kernel_rfl) (fun _ _ _ h => h) (Or.inl ⟨by rfl, ?_⟩) (by assumption) ?_
          rotate_left
          · intro w hSw; (try dsimp only at hSw); go_simp; all_goals (with_reducible rfl)
          try simp only [Act.put, List.setIfInBounds_toArray, List.set_cons_zero, List.set_cons_succ]
          refine wpAnyH_take (i := 32) (oi := { dst := Option.some 140, op := Go.Op.move (Go.Operand.tmp 139), type := 4, pos := "law.go:70", after := #[{ on := 31, ground := Go.Ground.data }, { on := 27, ground := Go.Ground.chain }], guard := Option.none }) (v := ?_) rfl (by kernel_rfl) (by kernel_rfl) (by kernel_rfl) (fun _ _ _ h => h) (Or.inl ⟨by rfl, ?_⟩) (by assumption) ?_
          rotate_left
          · intro w hSw; (try dsimp only at hSw); go_simp; all_goals (with_reducible rfl)
          try simp only [Act.put, List.setIfInBounds_toArray, List.set_cons_zero, List.set_cons_succ]
          refine wpAnyH_take (i := 33) (oi := { dst := Option.some 141, op := Go.Op.move (Go.Operand.tmp 5), type := 24, pos := "law.go:70", after := #[{ on := 32, ground := Go.Ground.guard }], guard := Option.some (32, Bool.false) }) (v := ?_) rfl (by kernel_rfl) (by kernel_rfl) (by kernel_rfl) (fun _ _ _ h => h) (Or.inl ⟨by rfl, ?_⟩) (by assumption) ?_
          rotate_left
          · intro w hSw; (try dsimp only at hSw); go_simp; all_goals (with_reducible rfl)
          try simp only [Act.put, List.setIfInBounds_toArray, List.set_cons_zero, List.set_cons_succ]
          refine wpAnyH_take (i := 35) (oi := { dst := Option.some 143, op := Go.Op.fieldAddr 30 (Go.Operand.tmp 8) 2, type := 0, pos := "law.go:70", after := #[{ on := 32, ground := Go.Ground.guard }], guard := Option.some (32, Bool.false) }) (v := ?_) rfl (by kernel_rfl) (by kernel_rfl) (by kernel_rfl) (fun _ _ _ h => h) (Or.inl ⟨by rfl, ?_⟩) (by assumption) ?_
          rotate_left
          · intro w hSw; (try dsimp only at hSw); go_simp; all_goals (with_reducible rfl)
          try simp only [Act.put, List.setIfInBounds_toArray, List.set_cons_zero, List.set_cons_succ]
          refine wpAnyH_take (i := 36) (oi := { dst := Option.some 144, op := Go.Op.load 3 (Go.Operand.tmp 143), type := 3, pos := "law.go:70", after := #[{ on := 35, ground := Go.Ground.data }, { on := 32, ground := Go.Ground.guard }], guard := Option.some (32, Bool.false) }) (v := ?_) rfl (by kernel_rfl) (by kernel_rfl) (by kernel_rfl) (fun _ _ _ h => h) (Or.inl ⟨by rfl, ?_⟩) (by assumption) ?_
          rotate_left
          · intro w hSw; (try dsimp only at hSw); go_simp; all_goals (with_reducible rfl)
          try simp only [Act.put, List.setIfInBounds_toArray, List.set_cons_zero, List.set_cons_succ]
          refine wpAnyH_take (i := 37) (oi := { dst := Option.some 145, op := Go.Op.fieldAddr 30 (Go.Operand.tmp 8) 0, type := 0, pos := "law.go:70", after := #[{ on := 32, ground := Go.Ground.guard }], guard := Option.some (32, Bool.false) }) (v := ?_) rfl (by kernel_rfl) (by kernel_rfl) (by kernel_rfl) (fun _ _ _ h => h) (Or.inl ⟨by rfl, ?_⟩) (by assumption) ?_
          rotate_left
          · intro w hSw; (try dsimp only at hSw); go_simp; all_goals (with_reducible rfl)
          try simp only [Act.put, List.setIfInBounds_toArray, List.set_cons_zero, List.set_cons_succ]
          refine wpAnyH_take (i := 38) (oi := { dst := Option.some 146, op := Go.Op.load 9 (Go.Operand.tmp 145), type := 9, pos := "law.go:70", after := #[{ on := 37, ground := Go.Ground.data }, { on := 32, ground := Go.Ground.guard }], guard := Option.some (32, Bool.false) }) (v := ?_) rfl (by kernel_rfl) (by kernel_rfl) (by kernel_rfl) (fun _ _ _ h => h) (Or.inl ⟨by rfl, ?_⟩) (by assumption) ?_
          rotate_left
          · intro w hSw; (try dsimp only at hSw); go_simp; all_goals (with_reducible rfl)
          try simp only [Act.put, List.setIfInBounds_toArray, List.set_cons_zero, List.set_cons_succ]
          refine wpAnyH_take (i := 39) (oi := { dst := Option.some 147, op := Go.Op.call { callee := Go.Callee.builtin Go.Builtin.len, args := #[Go.Operand.tmp 146], argTypes := #[9] }, type := 3, pos := "law.go:70", after := #[{ on := 38, ground := Go.Ground.data }, { on := 32, ground := Go.Ground.guard }], guard := Option.some (32, Bool.false) }) (v := ?_) rfl (by kernel_rfl) (by kernel_rfl) (by kernel_rfl) (fun _ _ _ h => h) (Or.inl ⟨by rfl, ?_⟩) (by assumption) ?_
          rotate_left
          · intro w hSw; (try dsimp only at hSw); go_simp; all_goals (with_reducible rfl)
          try simp only [Act.put, List.setIfInBounds_toArray, List.set_cons_zero, List.set_cons_succ]
          refine wpAnyH_take (i := 40) (oi := { dst := Option.some 148, op := Go.Op.binOp Go.BinOp.sub 3 (Go.Operand.tmp 144) (Go.Operand.tmp 147) 3, type := 3, pos := "law.go:70", after := #[{ on := 36, ground := Go.Ground.data }, { on := 39, ground := Go.Ground.data }, { on := 32, ground := Go.Ground.guard }], guard := Option.some (32, Bool.false) }) (v := ?_) rfl (by kernel_rfl) (by kernel_rfl) (by kernel_rfl) (fun _ _ _ h => h) (Or.inl ⟨by rfl, ?_⟩) (by assumption) ?_
          rotate_left
          · intro w hSw; (try dsimp only at hSw); go_simp; all_goals (with_reducible rfl)
          try simp only [Act.put, List.setIfInBounds_toArray, List.set_cons_zero, List.set_cons_succ]
          refine wpAnyH_ready (rs := [34]) (by kernel_rfl) (by simp) ?_
          refine AllReadyH.cons (o := { dst := Option.some 142, op := Go.Op.call { callee := Go.Callee.value (Go.Operand.func 23), args := #[Go.Operand.tmp 141], argTypes := #[24] }, type := 3, pos := "law.go:70", after := #[{ on := 33, ground := Go.Ground.data }, { on := 32, ground := Go.Ground.chain }, { on := 32, ground := Go.Ground.guard }], guard := Option.some (32, Bool.false) }) rfl (fun K hK => ?_) AllReadyH.nil
          go_simp
          refine (left_any (B := w.heap.size) (g := g) (d := d) (r := r) (v := v5) (xs := ws) _ hHeld.1.d).mono ?_
          rintro e w' ⟨rfl, qd, rfl⟩
          rw [HL2.out]
          have hF9 := Lib.hid (hHeld.1.below (below_drewN _ qd))
          clear hHeld
          go_wp2_with fail
          refine hK.out _ _ (⟨hF9.out, hF9.out.cells⟩) (fun hHeld => ?_)
          clear hK K
          try simp only [Act.put, List.setIfInBounds_toArray, List.set_cons_zero, List.set_cons_succ]
          refine wpAnyH_take (i := 41) (oi := { dst := Option.some 149, op := Go.Op.binOp Go.BinOp.neq 3 (Go.Operand.tmp 142) (Go.Operand.tmp 148) 3, type := 4, pos := "law.go:70", after := #[{ on := 34, ground := Go.Ground.data }, { on := 40, ground := Go.Ground.data }, { on := 32, ground := Go.Ground.guard }], guard := Option.some (32, Bool.false) }) (v := ?_) rfl (by kernel_rfl) (by kernel_rfl) (by kernel_rfl) (fun _ _ _ h => h) (Or.inl ⟨by rfl, ?_⟩) (by assumption) ?_
          rotate_left
          · intro w hSw; (try dsimp only at hSw); go_simp; all_goals (with_reducible rfl)
          try simp only [Act.put, List.setIfInBounds_toArray, List.set_cons_zero, List.set_cons_succ]
          refine wpAnyH_take (i := 42) (oi := { dst := Option.some 150, op := Go.Op.pick (Go.Operand.tmp 140) (Go.Operand.const (Go.Value.bool Bool.true)) (Go.Operand.tmp 149), type := 4, pos := "law.go:70", after := #[{ on := 32, ground := Go.Ground.data }, { on := 41, ground := Go.Ground.data }], guard := Option.none }) (v := ?_) rfl (by kernel_rfl) (by kernel_rfl) (by kernel_rfl) (fun _ _ _ h => h) (Or.inl ⟨by rfl, ?_⟩) (by assumption) ?_
          rotate_left
          · intro w hSw; (try dsimp only at hSw); go_simp; all_goals (with_reducible rfl)
          try simp only [Act.put, List.setIfInBounds_toArray, List.set_cons_zero, List.set_cons_succ]
          refine wpAnyH_done (by kernel_rfl) ?_ _
          have HF := Lib.hid hHeld.1
          clear hHeld
          go_wp2
          go_roundw
          case rel => exact ⟨k + 1, g, d, v5, ws, by omega, by go_num, rfl, by rw [← HT.out]; exact HF.out⟩
          case measure => simp [intOf]; omega
        · have haa := full_arg ua m uc ys w _ HP0.out.d HIB.out HNIL.out HP0.out.b (Nat.le_refl _) (by unfold maxLen; omega) (show r < xs.length + m by omega)
          rw [hsz0] at haa
          have HAA := Lib.hid haa
          clear haa
          go_wp2_with fail
          refine HAA.out.mono ?_
          rintro e w5 ⟨rfl, hbw⟩
          rw [← hsz0] at hbw
          have hp5 := HP0.out.below hbw
          have hm5 := hp5.m
          have ho5 := HO0.out.kept (hbw.block _ HO0.out.lt)
          have hb5 := hp5.b
          have hd5 := hp5.d
          have ht5 : True := trivial
          obtain ⟨a0, a1, a2, e0, e1, e2⟩ := three_cells hm5
          have o1 : w5.cell? ⟨wr.heap.size, 1, none⟩ = some (.slice ua m uc) := by rw [ho5.cell]; rfl
          have o2 : w5.cell? ⟨wr.heap.size, 2, none⟩ = some (.int .i64 kk) := by rw [ho5.cell]; rfl
          obtain ⟨S, hS⟩ : ∃ S, S = strOfNums xs := ⟨_, rfl⟩
          rw [← hS] at hm5 a0
          have hsl : S.size = xs.length := by rw [hS, strOfNums_size]
          have hdr := hd5.hr
          have hdm := hd5.hm
          have hx5 := (HIB.out.below hb5).str uc
          obtain ⟨X, hX⟩ : ∃ X, X = strOfNums ys := ⟨_, rfl⟩
          rw [← hX] at hx5
          have HT := Lib.hid hS
          have hxl : X.size = m := by rw [hX, strOfNums_size]; exact HIB.out.1
          have hra := rappend_full S X d r w5 (by omega) (by omega) (by omega)
          clear hX hxl hp5 hbw
          have HRA := Lib.hid hra
          have HM5 := Lib.hid hm5
          have HD5 := Lib.hid hd5
          have HB5 := Lib.hid hb5
          clear hm5 ho5 hb5 hd5 ht5 hS hsl hra hdr hdm
          go_wp2_with fail
          refine HRA.out.mono ?_
          rintro e w6 ⟨rfl, hb6⟩
          have hm6 := HM5.out.kept (hb6.block _ HM5.out.lt)
          have hb6' := HB5.out.trans (hb6.mono HB5.out.size)
          obtain ⟨b0, b1, b2, g0, g1, g2⟩ := three_cells hm6
          have HQ := Lib.hid (PS.write (T := S) (HD5.out.below hb6) hm6 hb6' HP.out.ge)
          clear hm6 hb6 hb6'
          unfold RD
          go_wp2_with fail
          generalize ((w6.setCell ⟨gw, 0, none⟩ (.string S)).setCell ⟨gw, 1, none⟩ (.int .i64 d)).setCell ⟨gw, 2, none⟩ (.int .i64 r) = w9 at *
          clear a0 a1 a2 e0 e1 e2 o1 o2 hx5 b0 b1 b2 g0 g1 g2 c0 c1 c2 hsz0
          obtain ⟨ws, hws⟩ : ∃ ws, ws = xs := ⟨_, rfl⟩
          rw [← hws] at HQ HT
          clear hws
          have hTT : (S.toList == S.toList) = true := by simp
          have hTN : (S.toList != S.toList) = false := by simp
          have hl2 : ((r - (ws).length : Nat) : Int) = (r : Int) - (S.size : Int) := by have h1 := HQ.out.d.hr; have h2 := congrArg ByteArray.size HT.out; rw [strOfNums_size] at h2; omega
          have hwr : IntKind.i64.wrap ((r : Int) - (S.size : Int)) = (r : Int) - (S.size : Int) := by have h1 := HQ.out.d.hr; have h2 := congrArg ByteArray.size HT.out; rw [strOfNums_size] at h2; exact IntWalk.i64_in _ (by omega)
          have HL2 := Lib.hid hl2
          clear hl2
          refine wp_region_held_drew (S := fun W => PS w W gw g v S ws d r ∧ W.cell? ⟨gw, 0, none⟩ = some (.string S) ∧ W.cell? ⟨gw, 1, none⟩ = some (.int .i64 d) ∧ W.cell? ⟨gw, 2, none⟩ = some (.int .i64 r)) (by kernel_rfl) ⟨HQ.out.below (below_drewN _ 1), (HQ.out.below (below_drewN _ 1)).cells⟩ (fun hHeld => ?_)
          refine wpAnyH_take (i := 0) (oi := { dst := Option.some 108, op := Go.Op.move (Go.Operand.tmp 11), type := 25, pos := "law.go:70", after := #[], guard := Option.none }) (v := ?_) rfl (by kernel_rfl) (by kernel_rfl) (by kernel_rfl) (fun _ _ _ h => h) (Or.inl ⟨by rfl, ?_⟩) (by assumption) ?_
          rotate_left
          · intro w hSw; (try dsimp only at hSw); go_simp; all_goals (with_reducible rfl)
          try simp only [Act.put, List.setIfInBounds_toArray, List.set_cons_zero, List.set_cons_succ]
          refine wpAnyH_take (i := 1) (oi := { dst := Option.some 109, op := Go.Op.move (Go.Operand.tmp 12), type := 3, pos := "law.go:70", after := #[], guard := Option.none }) (v := ?_) rfl (by kernel_rfl) (by kernel_rfl) (by kernel_rfl) (fun _ _ _ h => h) (Or.inl ⟨by rfl, ?_⟩) (by assumption) ?_
          rotate_left
          · intro w hSw; (try dsimp only at hSw); go_simp; all_goals (with_reducible rfl)
          try simp only [Act.put, List.setIfInBounds_toArray, List.set_cons_zero, List.set_cons_succ]
          refine wpAnyH_take (i := 2) (oi := { dst := Option.some 110, op := Go.Op.binOp Go.BinOp.neq 3 (Go.Operand.tmp 108) (Go.Operand.tmp 109) 3, type := 4, pos := "law.go:70", after := #[{ on := 0, ground := Go.Ground.data }, { on := 1, ground := Go.Ground.data }], guard := Option.none }) (v := ?_) rfl (by kernel_rfl) (by kernel_rfl) (by kernel_rfl) (fun _ _ _ h => h) (Or.inl ⟨by rfl, ?_⟩) (by assumption) ?_
          rotate_left
          · intro w hSw; (try dsimp only at hSw); go_simp; all_goals (with_reducible rfl)
          try simp only [Act.put, List.setIfInBounds_toArray, List.set_cons_zero, List.set_cons_succ]
          refine wpAnyH_take (i := 3) (oi := { dst := Option.some 111, op := Go.Op.move (Go.Operand.tmp 110), type := 4, pos := "law.go:70", after := #[{ on := 2, ground := Go.Ground.data }], guard := Option.none }) (v := ?_) rfl (by kernel_rfl) (by kernel_rfl) (by kernel_rfl) (fun _ _ _ h => h) (Or.inl ⟨by rfl, ?_⟩) (by assumption) ?_
          rotate_left
          · intro w hSw; (try dsimp only at hSw); go_simp; all_goals (with_reducible rfl)
          try simp only [Act.put, List.setIfInBounds_toArray, List.set_cons_zero, List.set_cons_succ]
          refine wpAnyH_take (i := 4) (oi := { dst := Option.some 112, op := Go.Op.move (Go.Operand.tmp 5), type := 24, pos := "law.go:70", after := #[{ on := 3, ground := Go.Ground.guard }], guard := Option.some (3, Bool.false) }) (v := ?_) rfl (by kernel_rfl) (by kernel_rfl) (by kernel_rfl) (fun _ _ _ h => h) (Or.inl ⟨by rfl, ?_⟩) (by assumption) ?_
          rotate_left
          · intro w hSw; (try dsimp only at hSw); go_simp; all_goals (with_reducible rfl)
          try simp only [Act.put, List.setIfInBounds_toArray, List.set_cons_zero, List.set_cons_succ]
          refine wpAnyH_take (i := 5) (oi := { dst := Option.some 113, op := Go.Op.nilCheck (Go.Operand.tmp 112), type := 0, pos := "law.go:70", after := #[{ on := 4, ground := Go.Ground.data }, { on := 3, ground := Go.Ground.guard }], guard := Option.some (3, Bool.false) }) (v := ?_) rfl (by kernel_rfl) (by kernel_rfl) (by kernel_rfl) (fun _ _ _ h => h) (Or.inl ⟨by rfl, ?_⟩) (by assumption) ?_
          rotate_left
          · intro w hSw; (try dsimp only at hSw); go_simp; all_goals (with_reducible rfl)
          try simp only [Act.put, List.setIfInBounds_toArray, List.set_cons_zero, List.set_cons_succ]
          refine wpAnyH_take (i := 6) (oi := { dst := Option.some 114, op := Go.Op.fieldAddr 47 (Go.Operand.tmp 113) 0, type := 0, pos := "law.go:70", after := #[{ on := 5, ground := Go.Ground.data }, { on := 3, ground := Go.Ground.guard }], guard := Option.some (3, Bool.false) }) (v := ?_) rfl (by kernel_rfl) (by kernel_rfl) (by kernel_rfl) (fun _ _ _ h => h) (Or.inl ⟨by rfl, ?_⟩) (by assumption) ?_
          rotate_left
          · intro w hSw; (try dsimp only at hSw); go_simp; all_goals (with_reducible rfl)
          try simp only [Act.put, List.setIfInBounds_toArray, List.set_cons_zero, List.set_cons_succ]
          refine wpAnyH_take (i := 9) (oi := { dst := Option.some 117, op := Go.Op.fieldAddr 30 (Go.Operand.tmp 8) 0, type := 0, pos := "law.go:70", after := #[{ on := 3, ground := Go.Ground.guard }], guard := Option.some (3, Bool.false) }) (v := ?_) rfl (by kernel_rfl) (by kernel_rfl) (by kernel_rfl) (fun _ _ _ h => h) (Or.inl ⟨by rfl, ?_⟩) (by assumption) ?_
          rotate_left
          · intro w hSw; (try dsimp only at hSw); go_simp; all_goals (with_reducible rfl)
          try simp only [Act.put, List.setIfInBounds_toArray, List.set_cons_zero, List.set_cons_succ]
          refine wpAnyH_take (i := 10) (oi := { dst := Option.some 118, op := Go.Op.load 9 (Go.Operand.tmp 117), type := 9, pos := "law.go:70", after := #[{ on := 9, ground := Go.Ground.data }, { on := 3, ground := Go.Ground.guard }], guard := Option.some (3, Bool.false) }) (v := ?_) rfl (by kernel_rfl) (by kernel_rfl) (by kernel_rfl) (fun _ _ _ h => h) (Or.inl ⟨by rfl, ?_⟩) (by assumption) ?_
          rotate_left
          · intro w hSw; (try dsimp only at hSw); go_simp; all_goals (with_reducible rfl)
          try simp only [Act.put, List.setIfInBounds_toArray, List.set_cons_zero, List.set_cons_succ]
          refine wpAnyH_ready (rs := [7]) (by kernel_rfl) (by simp) ?_
          refine AllReadyH.cons (o := { dst := Option.some 115, op := Go.Op.call { callee := Go.Callee.value (Go.Operand.func 20), args := #[Go.Operand.tmp 114], argTypes := #[45] }, type := 31, pos := "law.go:70", after := #[{ on := 6, ground := Go.Ground.data }, { on := 3, ground := Go.Ground.chain }, { on := 3, ground := Go.Ground.guard }], guard := Option.some (3, Bool.false) }) rfl (fun K hK => ?_) AllReadyH.nil
          go_simp
          refine (bytes_any (B := w.heap.size) (g := g) (d := d) (r := r) (v := v) (xs := ws) _ hHeld.1.d).mono ?_
          rintro e w8 ⟨u2, rfl, hown8, hb8⟩
          obtain ⟨ua2, uc2, rfl, hui, _⟩ := owned_slice hown8 hHeld.1.d.byte
          have hcu := hui.str uc2
          rw [← HT.out] at hcu
          have hF8 := Lib.hid (hHeld.1.below hb8)
          clear hown8 hb8 hui hHeld
          go_wp2_with fail
          refine hK.out _ _ (⟨hF8.out, hF8.out.cells⟩) (fun hHeld => ?_)
          clear hK K
          try simp only [Act.put, List.setIfInBounds_toArray, List.set_cons_zero, List.set_cons_succ]
          refine wpAnyH_ready (rs := [8]) (by kernel_rfl) (by simp) ?_
          refine AllReadyH.cons (o := { dst := Option.some 116, op := Go.Op.convert 31 9 (Go.Operand.tmp 115), type := 9, pos := "law.go:70", after := #[{ on := 7, ground := Go.Ground.data }, { on := 3, ground := Go.Ground.guard }], guard := Option.some (3, Bool.false) }) rfl (fun K hK => ?_) AllReadyH.nil
          go_simp
          refine hK.out _ _ (hHeld) (fun hHeld => ?_)
          clear hK K
          try simp only [Act.put, List.setIfInBounds_toArray, List.set_cons_zero, List.set_cons_succ]
          refine wpAnyH_take (i := 11) (oi := { dst := Option.some 119, op := Go.Op.binOp Go.BinOp.neq 9 (Go.Operand.tmp 116) (Go.Operand.tmp 118) 9, type := 4, pos := "law.go:70", after := #[{ on := 8, ground := Go.Ground.data }, { on := 10, ground := Go.Ground.data }, { on := 3, ground := Go.Ground.guard }], guard := Option.some (3, Bool.false) }) (v := ?_) rfl (by kernel_rfl) (by kernel_rfl) (by kernel_rfl) (fun _ _ _ h => h) (Or.inl ⟨by rfl, ?_⟩) (by assumption) ?_
          rotate_left
          · intro w hSw; (try dsimp only at hSw); go_simp; all_goals (with_reducible rfl)
          try simp only [Act.put, List.setIfInBounds_toArray, List.set_cons_zero, List.set_cons_succ]
          refine wpAnyH_take (i := 12) (oi := { dst := Option.some 120, op := Go.Op.pick (Go.Operand.tmp 111) (Go.Operand.const (Go.Value.bool Bool.true)) (Go.Operand.tmp 119), type := 4, pos := "law.go:70", after := #[{ on := 3, ground := Go.Ground.data }, { on := 11, ground := Go.Ground.data }], guard := Option.none }) (v := ?_) rfl (by kernel_rfl) (by kernel_rfl) (by kernel_rfl) (fun _ _ _ h => h) (Or.inl ⟨by rfl, ?_⟩) (by assumption) ?_
          rotate_left
          · intro w hSw; (try dsimp only at hSw); go_simp; all_goals (with_reducible rfl)
          try simp only [Act.put, List.setIfInBounds_toArray, List.set_cons_zero, List.set_cons_succ]
          refine wpAnyH_take (i := 13) (oi := { dst := Option.some 121, op := Go.Op.move (Go.Operand.tmp 120), type := 4, pos := "law.go:70", after := #[{ on := 12, ground := Go.Ground.data }, { on := 7, ground := Go.Ground.chain }], guard := Option.none }) (v := ?_) rfl (by kernel_rfl) (by kernel_rfl) (by kernel_rfl) (fun _ _ _ h => h) (Or.inl ⟨by rfl, ?_⟩) (by assumption) ?_
          rotate_left
          · intro w hSw; (try dsimp only at hSw); go_simp; all_goals (with_reducible rfl)
          try simp only [Act.put, List.setIfInBounds_toArray, List.set_cons_zero, List.set_cons_succ]
          refine wpAnyH_take (i := 14) (oi := { dst := Option.some 122, op := Go.Op.move (Go.Operand.tmp 5), type := 24, pos := "law.go:70", after := #[{ on := 13, ground := Go.Ground.guard }], guard := Option.some (13, Bool.false) }) (v := ?_) rfl (by kernel_rfl) (by kernel_rfl) (by kernel_rfl) (fun _ _ _ h => h) (Or.inl ⟨by rfl, ?_⟩) (by assumption) ?_
          rotate_left
          · intro w hSw; (try dsimp only at hSw); go_simp; all_goals (with_reducible rfl)
          try simp only [Act.put, List.setIfInBounds_toArray, List.set_cons_zero, List.set_cons_succ]
          refine wpAnyH_take (i := 15) (oi := { dst := Option.some 123, op := Go.Op.nilCheck (Go.Operand.tmp 122), type := 0, pos := "law.go:70", after := #[{ on := 14, ground := Go.Ground.data }, { on := 13, ground := Go.Ground.guard }], guard := Option.some (13, Bool.false) }) (v := ?_) rfl (by kernel_rfl) (by kernel_rfl) (by kernel_rfl) (fun _ _ _ h => h) (Or.inl ⟨by rfl, ?_⟩) (by assumption) ?_
          rotate_left
          · intro w hSw; (try dsimp only at hSw); go_simp; all_goals (with_reducible rfl)
          try simp only [Act.put, List.setIfInBounds_toArray, List.set_cons_zero, List.set_cons_succ]
          refine wpAnyH_take (i := 16) (oi := { dst := Option.some 124, op := Go.Op.fieldAddr 47 (Go.Operand.tmp 123) 0, type := 0, pos := "law.go:70", after := #[{ on := 15, ground := Go.Ground.data }, { on := 13, ground := Go.Ground.guard }], guard := Option.some (13, Bool.false) }) (v := ?_) rfl (by kernel_rfl) (by kernel_rfl) (by kernel_rfl) (fun _ _ _ h => h) (Or.inl ⟨by rfl, ?_⟩) (by assumption) ?_
          rotate_left
          · intro w hSw; (try dsimp only at hSw); go_simp; all_goals (with_reducible rfl)
          try simp only [Act.put, List.setIfInBounds_toArray, List.set_cons_zero, List.set_cons_succ]
          refine wpAnyH_take (i := 18) (oi := { dst := Option.some 126, op := Go.Op.fieldAddr 30 (Go.Operand.tmp 8) 0, type := 0, pos := "law.go:70", after := #[{ on := 13, ground := Go.Ground.guard }], guard := Option.some (13, Bool.false) }) (v := ?_) rfl (by kernel_rfl) (by kernel_rfl) (by kernel_rfl) (fun _ _ _ h => h) (Or.inl ⟨by rfl, ?_⟩) (by assumption) ?_
          rotate_left
          · intro w hSw; (try dsimp only at hSw); go_simp; all_goals (with_reducible rfl)
          try simp only [Act.put, List.setIfInBounds_toArray, List.set_cons_zero, List.set_cons_succ]
          refine wpAnyH_take (i := 19) (oi := { dst := Option.some 127, op := Go.Op.load 9 (Go.Operand.tmp 126), type := 9, pos := "law.go:70", after := #[{ on := 18, ground := Go.Ground.data }, { on := 13, ground := Go.Ground.guard }], guard := Option.some (13, Bool.false) }) (v := ?_) rfl (by kernel_rfl) (by kernel_rfl) (by kernel_rfl) (fun _ _ _ h => h) (Or.inl ⟨by rfl, ?_⟩) (by assumption) ?_
          rotate_left
          · intro w hSw; (try dsimp only at hSw); go_simp; all_goals (with_reducible rfl)
          try simp only [Act.put, List.setIfInBounds_toArray, List.set_cons_zero, List.set_cons_succ]
          refine wpAnyH_take (i := 20) (oi := { dst := Option.some 128, op := Go.Op.call { callee := Go.Callee.builtin Go.Builtin.len, args := #[Go.Operand.tmp 127], argTypes := #[9] }, type := 3, pos := "law.go:70", after := #[{ on := 19, ground := Go.Ground.data }, { on := 13, ground := Go.Ground.guard }], guard := Option.some (13, Bool.false) }) (v := ?_) rfl (by kernel_rfl) (by kernel_rfl) (by kernel_rfl) (fun _ _ _ h => h) (Or.inl ⟨by rfl, ?_⟩) (by assumption) ?_
          rotate_left
          · intro w hSw; (try dsimp only at hSw); go_simp; all_goals (with_reducible rfl)
          try simp only [Act.put, List.setIfInBounds_toArray, List.set_cons_zero, List.set_cons_succ]
          refine wpAnyH_ready (rs := [17]) (by kernel_rfl) (by simp) ?_
          refine AllReadyH.cons (o := { dst := Option.some 125, op := Go.Op.call { callee := Go.Callee.value (Go.Operand.func 21), args := #[Go.Operand.tmp 124], argTypes := #[45] }, type := 3, pos := "law.go:70", after := #[{ on := 16, ground := Go.Ground.data }, { on := 13, ground := Go.Ground.chain }, { on := 13, ground := Go.Ground.guard }], guard := Option.some (13, Bool.false) }) rfl (fun K hK => ?_) AllReadyH.nil
          go_simp
          refine (size_as (B := w.heap.size) (g := g) (d := d) (r := r) (v := v) (xs := ws) _ hHeld.1.d (S.size : Int) (by rw [HT.out, strOfNums_size])).mono ?_
          rintro e w' ⟨rfl, rfl⟩
          go_wp2_with fail
          refine hK.out _ _ (hHeld) (fun hHeld => ?_)
          clear hK K
          try simp only [Act.put, List.setIfInBounds_toArray, List.set_cons_zero, List.set_cons_succ]
          refine wpAnyH_take (i := 21) (oi := { dst := Option.some 129, op := Go.Op.binOp Go.BinOp.neq 3 (Go.Operand.tmp 125) (Go.Operand.tmp 128) 3, type := 4, pos := "law.go:70", after := #[{ on := 17, ground := Go.Ground.data }, { on := 20, ground := Go.Ground.data }, { on := 13, ground := Go.Ground.guard }], guard := Option.some (13, Bool.false) }) (v := ?_) rfl (by kernel_rfl) (by kernel_rfl) (by kernel_rfl) (fun _ _ _ h => h) (Or.inl ⟨by rfl, ?_⟩) (by assumption) ?_
          rotate_left
          · intro w hSw; (try dsimp only at hSw); go_simp; all_goals (with_reducible rfl)
          try simp only [Act.put, List.setIfInBounds_toArray, List.set_cons_zero, List.set_cons_succ]
          refine wpAnyH_take (i := 22) (oi := { dst := Option.some 130, op := Go.Op.pick (Go.Operand.tmp 121) (Go.Operand.const (Go.Value.bool Bool.true)) (Go.Operand.tmp 129), type := 4, pos := "law.go:70", after := #[{ on := 13, ground := Go.Ground.data }, { on := 21, ground := Go.Ground.data }], guard := Option.none }) (v := ?_) rfl (by kernel_rfl) (by kernel_rfl) (by kernel_rfl) (fun _ _ _ h => h) (Or.inl ⟨by rfl, ?_⟩) (by assumption) ?_
          rotate_left
          · intro w hSw; (try dsimp only at hSw); go_simp; all_goals (with_reducible rfl)
          try simp only [Act.put, List.setIfInBounds_toArray, List.set_cons_zero, List.set_cons_succ]
          refine wpAnyH_take (i := 23) (oi := { dst := Option.some 131, op := Go.Op.move (Go.Operand.tmp 130), type := 4, pos := "law.go:70", after := #[{ on := 22, ground := Go.Ground.data }, { on := 17, ground := Go.Ground.chain }], guard := Option.none }) (v := ?_) rfl (by kernel_rfl) (by kernel_rfl) (by kernel_rfl) (fun _ _ _ h => h) (Or.inl ⟨by rfl, ?_⟩) (by assumption) ?_
          rotate_left
          · intro w hSw; (try dsimp only at hSw); go_simp; all_goals (with_reducible rfl)
          try simp only [Act.put, List.setIfInBounds_toArray, List.set_cons_zero, List.set_cons_succ]
          refine wpAnyH_take (i := 24) (oi := { dst := Option.some 132, op := Go.Op.move (Go.Operand.tmp 5), type := 24, pos := "law.go:70", after := #[{ on := 23, ground := Go.Ground.guard }], guard := Option.some (23, Bool.false) }) (v := ?_) rfl (by kernel_rfl) (by kernel_rfl) (by kernel_rfl) (fun _ _ _ h => h) (Or.inl ⟨by rfl, ?_⟩) (by assumption) ?_
          rotate_left
          · intro w hSw; (try dsimp only at hSw); go_simp; all_goals (with_reducible rfl)
          try simp only [Act.put, List.setIfInBounds_toArray, List.set_cons_zero, List.set_cons_succ]
          refine wpAnyH_take (i := 25) (oi := { dst := Option.some 133, op := Go.Op.nilCheck (Go.Operand.tmp 132), type := 0, pos := "law.go:70", after := #[{ on := 24, ground := Go.Ground.data }, { on := 23, ground := Go.Ground.guard }], guard := Option.some (23, Bool.false) }) (v := ?_) rfl (by kernel_rfl) (by kernel_rfl) (by kernel_rfl) (fun _ _ _ h => h) (Or.inl ⟨by rfl, ?_⟩) (by assumption) ?_
          rotate_left
          · intro w hSw; (try dsimp only at hSw); go_simp; all_goals (with_reducible rfl)
          try simp only [Act.put, List.setIfInBounds_toArray, List.set_cons_zero, List.set_cons_succ]
          refine wpAnyH_take (i := 26) (oi := { dst := Option.some 134, op := Go.Op.fieldAddr 47 (Go.Operand.tmp 133) 0, type := 0, pos := "law.go:70", after := #[{ on := 25, ground := Go.Ground.data }, { on := 23, ground := Go.Ground.guard }], guard := Option.some (23, Bool.false) }) (v := ?_) rfl (by kernel_rfl) (by kernel_rfl) (by kernel_rfl) (fun _ _ _ h => h) (Or.inl ⟨by rfl, ?_⟩) (by assumption) ?_
          rotate_left
          · intro w hSw; (try dsimp only at hSw); go_simp; all_goals (with_reducible rfl)
          try simp only [Act.put, List.setIfInBounds_toArray, List.set_cons_zero, List.set_cons_succ]
          refine wpAnyH_take (i := 28) (oi := { dst := Option.some 136, op := Go.Op.fieldAddr 30 (Go.Operand.tmp 8) 1, type := 0, pos := "law.go:70", after := #[{ on := 23, ground := Go.Ground.guard }], guard := Option.some (23, Bool.false) }) (v := ?_) rfl (by kernel_rfl) (by kernel_rfl) (by kernel_rfl) (fun _ _ _ h => h) (Or.inl ⟨by rfl, ?_⟩) (by assumption) ?_
          rotate_left
          · intro w hSw; (try dsimp only at hSw); go_simp; all_goals (with_reducible rfl)
          try simp only [Act.put, List.setIfInBounds_toArray, List.set_cons_zero, List.set_cons_succ]
          refine wpAnyH_take (i := 29) (oi := { dst := Option.some 137, op := Go.Op.load 3 (Go.Operand.tmp 136), type := 3, pos := "law.go:70", after := #[{ on := 28, ground := Go.Ground.data }, { on := 23, ground := Go.Ground.guard }], guard := Option.some (23, Bool.false) }) (v := ?_) rfl (by kernel_rfl) (by kernel_rfl) (by kernel_rfl) (fun _ _ _ h => h) (Or.inl ⟨by rfl, ?_⟩) (by assumption) ?_
          rotate_left
          · intro w hSw; (try dsimp only at hSw); go_simp; all_goals (with_reducible rfl)
          try simp only [Act.put, List.setIfInBounds_toArray, List.set_cons_zero, List.set_cons_succ]
          refine wpAnyH_ready (rs := [27]) (by kernel_rfl) (by simp) ?_
          refine AllReadyH.cons (o := { dst := Option.some 135, op := Go.Op.call { callee := Go.Callee.value (Go.Operand.func 22), args := #[Go.Operand.tmp 134], argTypes := #[45] }, type := 3, pos := "law.go:70", after := #[{ on := 26, ground := Go.Ground.data }, { on := 23, ground := Go.Ground.chain }, { on := 23, ground := Go.Ground.guard }], guard := Option.some (23, Bool.false) }) rfl (fun K hK => ?_) AllReadyH.nil
          go_simp
          refine (durable_any (B := w.heap.size) (g := g) (d := d) (r := r) (v := v) (xs := ws) _ hHeld.1.d).mono ?_
          rintro e w' ⟨rfl, rfl⟩
          go_wp2_with fail
          refine hK.out _ _ (hHeld) (fun hHeld => ?_)
          clear hK K
          try simp only [Act.put, List.setIfInBounds_toArray, List.set_cons_zero, List.set_cons_succ]
          refine wpAnyH_take (i := 30) (oi := { dst := Option.some 138, op := Go.Op.binOp Go.BinOp.neq 3 (Go.Operand.tmp 135) (Go.Operand.tmp 137) 3, type := 4, pos := "law.go:70", after := #[{ on := 27, ground := Go.Ground.data }, { on := 29, ground := Go.Ground.data }, { on := 23, ground := Go.Ground.guard }], guard := Option.some (23, Bool.false) }) (v := ?_) rfl (by kernel_rfl) (by kernel_rfl) (by kernel_rfl) (fun _ _ _ h => h) (Or.inl ⟨by rfl, ?_⟩) (by assumption) ?_
          rotate_left
          · intro w hSw; (try dsimp only at hSw); go_simp; all_goals (with_reducible rfl)
          try simp only [Act.put, List.setIfInBounds_toArray, List.set_cons_zero, List.set_cons_succ]
          refine wpAnyH_take (i := 31) (oi := { dst := Option.some 139, op := Go.Op.pick (Go.Operand.tmp 131) (Go.Operand.const (Go.Value.bool Bool.true)) (Go.Operand.tmp 138), type := 4, pos := "law.go:70", after := #[{ on := 23, ground := Go.Ground.data }, { on := 30, ground := Go.Ground.data }], guard := Option.none }) (v := ?_) rfl (by kernel_rfl) (by kernel_rfl) (by kernel_rfl) (fun _ _ _ h => h) (Or.inl ⟨by rfl, ?_⟩) (by assumption) ?_
          rotate_left
          · intro w hSw; (try dsimp only at hSw); go_simp; all_goals (with_reducible rfl)
          try simp only [Act.put, List.setIfInBounds_toArray, List.set_cons_zero, List.set_cons_succ]
          refine wpAnyH_take (i := 32) (oi := { dst := Option.some 140, op := Go.Op.move (Go.Operand.tmp 139), type := 4, pos := "law.go:70", after := #[{ on := 31, ground := Go.Ground.data }, { on := 27, ground := Go.Ground.chain }], guard := Option.none }) (v := ?_) rfl (by kernel_rfl) (by kernel_rfl) (by kernel_rfl) (fun _ _ _ h => h) (Or.inl ⟨by rfl, ?_⟩) (by assumption) ?_
          rotate_left
          · intro w hSw; (try dsimp only at hSw); go_simp; all_goals (with_reducible rfl)
          try simp only [Act.put, List.setIfInBounds_toArray, List.set_cons_zero, List.set_cons_succ]
          refine wpAnyH_take (i := 33) (oi := { dst := Option.some 141, op := Go.Op.move (Go.Operand.tmp 5), type := 24, pos := "law.go:70", after := #[{ on := 32, ground := Go.Ground.guard }], guard := Option.some (32, Bool.false) }) (v := ?_) rfl (by kernel_rfl) (by kernel_rfl) (by kernel_rfl) (fun _ _ _ h => h) (Or.inl ⟨by rfl, ?_⟩) (by assumption) ?_
          rotate_left
          · intro w hSw; (try dsimp only at hSw); go_simp; all_goals (with_reducible rfl)
          try simp only [Act.put, List.setIfInBounds_toArray, List.set_cons_zero, List.set_cons_succ]
          refine wpAnyH_take (i := 35) (oi := { dst := Option.some 143, op := Go.Op.fieldAddr 30 (Go.Operand.tmp 8) 2, type := 0, pos := "law.go:70", after := #[{ on := 32, ground := Go.Ground.guard }], guard := Option.some (32, Bool.false) }) (v := ?_) rfl (by kernel_rfl) (by kernel_rfl) (by kernel_rfl) (fun _ _ _ h => h) (Or.inl ⟨by rfl, ?_⟩) (by assumption) ?_
          rotate_left
          · intro w hSw; (try dsimp only at hSw); go_simp; all_goals (with_reducible rfl)
          try simp only [Act.put, List.setIfInBounds_toArray, List.set_cons_zero, List.set_cons_succ]
          refine wpAnyH_take (i := 36) (oi := { dst := Option.some 144, op := Go.Op.load 3 (Go.Operand.tmp 143), type := 3, pos := "law.go:70", after := #[{ on := 35, ground := Go.Ground.data }, { on := 32, ground := Go.Ground.guard }], guard := Option.some (32, Bool.false) }) (v := ?_) rfl (by kernel_rfl) (by kernel_rfl) (by kernel_rfl) (fun _ _ _ h => h) (Or.inl ⟨by rfl, ?_⟩) (by assumption) ?_
          rotate_left
          · intro w hSw; (try dsimp only at hSw); go_simp; all_goals (with_reducible rfl)
          try simp only [Act.put, List.setIfInBounds_toArray, List.set_cons_zero, List.set_cons_succ]
          refine wpAnyH_take (i := 37) (oi := { dst := Option.some 145, op := Go.Op.fieldAddr 30 (Go.Operand.tmp 8) 0, type := 0, pos := "law.go:70", after := #[{ on := 32, ground := Go.Ground.guard }], guard := Option.some (32, Bool.false) }) (v := ?_) rfl (by kernel_rfl) (by kernel_rfl) (by kernel_rfl) (fun _ _ _ h => h) (Or.inl ⟨by rfl, ?_⟩) (by assumption) ?_
          rotate_left
          · intro w hSw; (try dsimp only at hSw); go_simp; all_goals (with_reducible rfl)
          try simp only [Act.put, List.setIfInBounds_toArray, List.set_cons_zero, List.set_cons_succ]
          refine wpAnyH_take (i := 38) (oi := { dst := Option.some 146, op := Go.Op.load 9 (Go.Operand.tmp 145), type := 9, pos := "law.go:70", after := #[{ on := 37, ground := Go.Ground.data }, { on := 32, ground := Go.Ground.guard }], guard := Option.some (32, Bool.false) }) (v := ?_) rfl (by kernel_rfl) (by kernel_rfl) (by kernel_rfl) (fun _ _ _ h => h) (Or.inl ⟨by rfl, ?_⟩) (by assumption) ?_
          rotate_left
          · intro w hSw; (try dsimp only at hSw); go_simp; all_goals (with_reducible rfl)
          try simp only [Act.put, List.setIfInBounds_toArray, List.set_cons_zero, List.set_cons_succ]
          refine wpAnyH_take (i := 39) (oi := { dst := Option.some 147, op := Go.Op.call { callee := Go.Callee.builtin Go.Builtin.len, args := #[Go.Operand.tmp 146], argTypes := #[9] }, type := 3, pos := "law.go:70", after := #[{ on := 38, ground := Go.Ground.data }, { on := 32, ground := Go.Ground.guard }], guard := Option.some (32, Bool.false) }) (v := ?_) rfl (by kernel_rfl) (by kernel_rfl) (by kernel_rfl) (fun _ _ _ h => h) (Or.inl ⟨by rfl, ?_⟩) (by assumption) ?_
          rotate_left
          · intro w hSw; (try dsimp only at hSw); go_simp; all_goals (with_reducible rfl)
          try simp only [Act.put, List.setIfInBounds_toArray, List.set_cons_zero, List.set_cons_succ]
          refine wpAnyH_take (i := 40) (oi := { dst := Option.some 148, op := Go.Op.binOp Go.BinOp.sub 3 (Go.Operand.tmp 144) (Go.Operand.tmp 147) 3, type := 3, pos := "law.go:70", after := #[{ on := 36, ground := Go.Ground.data }, { on := 39, ground := Go.Ground.data }, { on := 32, ground := Go.Ground.guard }], guard := Option.some (32, Bool.false) }) (v := ?_) rfl (by kernel_rfl) (by kernel_rfl) (by kernel_rfl) (fun _ _ _ h => h) (Or.inl ⟨by rfl, ?_⟩) (by assumption) ?_
          rotate_left
          · intro w hSw; (try dsimp only at hSw); go_simp; all_goals (with_reducible rfl)
          try simp only [Act.put, List.setIfInBounds_toArray, List.set_cons_zero, List.set_cons_succ]
          refine wpAnyH_ready (rs := [34]) (by kernel_rfl) (by simp) ?_
          refine AllReadyH.cons (o := { dst := Option.some 142, op := Go.Op.call { callee := Go.Callee.value (Go.Operand.func 23), args := #[Go.Operand.tmp 141], argTypes := #[24] }, type := 3, pos := "law.go:70", after := #[{ on := 33, ground := Go.Ground.data }, { on := 32, ground := Go.Ground.chain }, { on := 32, ground := Go.Ground.guard }], guard := Option.some (32, Bool.false) }) rfl (fun K hK => ?_) AllReadyH.nil
          go_simp
          refine (left_any (B := w.heap.size) (g := g) (d := d) (r := r) (v := v) (xs := ws) _ hHeld.1.d).mono ?_
          rintro e w' ⟨rfl, qd, rfl⟩
          rw [HL2.out]
          have hF9 := Lib.hid (hHeld.1.below (below_drewN _ qd))
          clear hHeld
          go_wp2_with fail
          refine hK.out _ _ (⟨hF9.out, hF9.out.cells⟩) (fun hHeld => ?_)
          clear hK K
          try simp only [Act.put, List.setIfInBounds_toArray, List.set_cons_zero, List.set_cons_succ]
          refine wpAnyH_take (i := 41) (oi := { dst := Option.some 149, op := Go.Op.binOp Go.BinOp.neq 3 (Go.Operand.tmp 142) (Go.Operand.tmp 148) 3, type := 4, pos := "law.go:70", after := #[{ on := 34, ground := Go.Ground.data }, { on := 40, ground := Go.Ground.data }, { on := 32, ground := Go.Ground.guard }], guard := Option.some (32, Bool.false) }) (v := ?_) rfl (by kernel_rfl) (by kernel_rfl) (by kernel_rfl) (fun _ _ _ h => h) (Or.inl ⟨by rfl, ?_⟩) (by assumption) ?_
          rotate_left
          · intro w hSw; (try dsimp only at hSw); go_simp; all_goals (with_reducible rfl)
          try simp only [Act.put, List.setIfInBounds_toArray, List.set_cons_zero, List.set_cons_succ]
          refine wpAnyH_take (i := 42) (oi := { dst := Option.some 150, op := Go.Op.pick (Go.Operand.tmp 140) (Go.Operand.const (Go.Value.bool Bool.true)) (Go.Operand.tmp 149), type := 4, pos := "law.go:70", after := #[{ on := 32, ground := Go.Ground.data }, { on := 41, ground := Go.Ground.data }], guard := Option.none }) (v := ?_) rfl (by kernel_rfl) (by kernel_rfl) (by kernel_rfl) (fun _ _ _ h => h) (Or.inl ⟨by rfl, ?_⟩) (by assumption) ?_
          rotate_left
          · intro w hSw; (try dsimp only at hSw); go_simp; all_goals (with_reducible rfl)
          try simp only [Act.put, List.setIfInBounds_toArray, List.set_cons_zero, List.set_cons_succ]
          refine wpAnyH_done (by kernel_rfl) ?_ _
          have HF := Lib.hid hHeld.1
          clear hHeld
          go_wp2
          go_roundw
          case rel => exact ⟨k + 1, g, d, v, ws, by omega, by go_num, rfl, by rw [← HT.out]; exact HF.out⟩
          case measure => simp [intOf]; omega
      · have hp0 : PS w (wr.alloc (.cells #[.int .i64 1, .slice ua m uc, .int .i64 kk] 33)) gw g v (strOfNums xs) xs d r := HP.out.below (below_alloc _ _)
        have ho0 : Whole (wr.alloc (.cells #[.int .i64 1, .slice ua m uc, .int .i64 kk] 33)) wr.heap.size 33 #[.int .i64 1, .slice ua m uc, .int .i64 kk] := heap_alloc_new wr _
        have hsz0 : (wr.alloc (.cells #[.int .i64 1, .slice ua m uc, .int .i64 kk] 33)).heap.size = wr.heap.size + 1 := by simp
        have HP0 := Lib.hid hp0
        have HO0 := Lib.hid ho0
        clear hp0 ho0
        go_wp2_with fail
        refine (sync_any _ HP0.out.d).mono ?_
        rintro e w5 ⟨rfl, hd5, ht5⟩
        have hm5 := HP0.out.m.stays HP0.out.d ht5 (.inr rfl) (by decide) (by decide)
        have ho5 := HO0.out.stays HP0.out.d ht5 (.inr rfl) (by decide) (by decide)
        have hb5 := HP0.out.b.trans (HP0.out.d.turned0 ht5 HP0.out.b.size)
        obtain ⟨a0, a1, a2, e0, e1, e2⟩ := three_cells hm5
        have o1 : w5.cell? ⟨wr.heap.size, 1, none⟩ = some (.slice ua m uc) := by rw [ho5.cell]; rfl
        have o2 : w5.cell? ⟨wr.heap.size, 2, none⟩ = some (.int .i64 kk) := by rw [ho5.cell]; rfl
        obtain ⟨S, hS⟩ : ∃ S, S = strOfNums xs := ⟨_, rfl⟩
        rw [← hS] at hm5 a0
        have hsl : S.size = xs.length := by rw [hS, strOfNums_size]
        have hdr := hd5.hr
        have hdm := hd5.hm
        have HT := Lib.hid hS
        have hra := rsync_any S d r w5
        rw [hsl] at hra
        have HRA := Lib.hid hra
        have HM5 := Lib.hid hm5
        have HD5 := Lib.hid hd5
        have HB5 := Lib.hid hb5
        clear hm5 ho5 hb5 hd5 ht5 hS hsl hra hdr hdm
        go_wp2_with fail
        refine HRA.out.mono ?_
        rintro e w6 ⟨rfl, hb6⟩
        have hm6 := HM5.out.kept (hb6.block _ HM5.out.lt)
        have hb6' := HB5.out.trans (hb6.mono HB5.out.size)
        obtain ⟨b0, b1, b2, g0, g1, g2⟩ := three_cells hm6
        have HQ := Lib.hid (PS.write (T := S) (HD5.out.below hb6) hm6 hb6' HP.out.ge)
        clear hm6 hb6 hb6'
        unfold RD
        go_wp2_with fail
        generalize ((w6.setCell ⟨gw, 0, none⟩ (.string S)).setCell ⟨gw, 1, none⟩ (.int .i64 xs.length)).setCell ⟨gw, 2, none⟩ (.int .i64 r) = w9 at *
        clear a0 a1 a2 e0 e1 e2 o1 o2 b0 b1 b2 g0 g1 g2 c0 c1 c2 hsz0
        obtain ⟨dd, hdd⟩ : ∃ dd, dd = xs.length := ⟨_, rfl⟩
        rw [← hdd] at HQ
        clear hdd
        obtain ⟨ws, hws⟩ : ∃ ws, ws = xs := ⟨_, rfl⟩
        rw [← hws] at HQ HT
        clear hws
        have hTT : (S.toList == S.toList) = true := by simp
        have hTN : (S.toList != S.toList) = false := by simp
        have hl2 : ((r - (ws).length : Nat) : Int) = (r : Int) - (S.size : Int) := by have h1 := HQ.out.d.hr; have h2 := congrArg ByteArray.size HT.out; rw [strOfNums_size] at h2; omega
        have hwr : IntKind.i64.wrap ((r : Int) - (S.size : Int)) = (r : Int) - (S.size : Int) := by have h1 := HQ.out.d.hr; have h2 := congrArg ByteArray.size HT.out; rw [strOfNums_size] at h2; exact IntWalk.i64_in _ (by omega)
        have HL2 := Lib.hid hl2
        clear hl2
        refine wp_region_held_drew (S := fun W => PS w W gw g v S ws dd r ∧ W.cell? ⟨gw, 0, none⟩ = some (.string S) ∧ W.cell? ⟨gw, 1, none⟩ = some (.int .i64 dd) ∧ W.cell? ⟨gw, 2, none⟩ = some (.int .i64 r)) (by kernel_rfl) ⟨HQ.out.below (below_drewN _ 1), (HQ.out.below (below_drewN _ 1)).cells⟩ (fun hHeld => ?_)
        refine wpAnyH_take (i := 0) (oi := { dst := Option.some 108, op := Go.Op.move (Go.Operand.tmp 11), type := 25, pos := "law.go:70", after := #[], guard := Option.none }) (v := ?_) rfl (by kernel_rfl) (by kernel_rfl) (by kernel_rfl) (fun _ _ _ h => h) (Or.inl ⟨by rfl, ?_⟩) (by assumption) ?_
        rotate_left
        · intro w hSw; (try dsimp only at hSw); go_simp; all_goals (with_reducible rfl)
        try simp only [Act.put, List.setIfInBounds_toArray, List.set_cons_zero, List.set_cons_succ]
        refine wpAnyH_take (i := 1) (oi := { dst := Option.some 109, op := Go.Op.move (Go.Operand.tmp 12), type := 3, pos := "law.go:70", after := #[], guard := Option.none }) (v := ?_) rfl (by kernel_rfl) (by kernel_rfl) (by kernel_rfl) (fun _ _ _ h => h) (Or.inl ⟨by rfl, ?_⟩) (by assumption) ?_
        rotate_left
        · intro w hSw; (try dsimp only at hSw); go_simp; all_goals (with_reducible rfl)
        try simp only [Act.put, List.setIfInBounds_toArray, List.set_cons_zero, List.set_cons_succ]
        refine wpAnyH_take (i := 2) (oi := { dst := Option.some 110, op := Go.Op.binOp Go.BinOp.neq 3 (Go.Operand.tmp 108) (Go.Operand.tmp 109) 3, type := 4, pos := "law.go:70", after := #[{ on := 0, ground := Go.Ground.data }, { on := 1, ground := Go.Ground.data }], guard := Option.none }) (v := ?_) rfl (by kernel_rfl) (by kernel_rfl) (by kernel_rfl) (fun _ _ _ h => h) (Or.inl ⟨by rfl, ?_⟩) (by assumption) ?_
        rotate_left
        · intro w hSw; (try dsimp only at hSw); go_simp; all_goals (with_reducible rfl)
        try simp only [Act.put, List.setIfInBounds_toArray, List.set_cons_zero, List.set_cons_succ]
        refine wpAnyH_take (i := 3) (oi := { dst := Option.some 111, op := Go.Op.move (Go.Operand.tmp 110), type := 4, pos := "law.go:70", after := #[{ on := 2, ground := Go.Ground.data }], guard := Option.none }) (v := ?_) rfl (by kernel_rfl) (by kernel_rfl) (by kernel_rfl) (fun _ _ _ h => h) (Or.inl ⟨by rfl, ?_⟩) (by assumption) ?_
        rotate_left
        · intro w hSw; (try dsimp only at hSw); go_simp; all_goals (with_reducible rfl)
        try simp only [Act.put, List.setIfInBounds_toArray, List.set_cons_zero, List.set_cons_succ]
        refine wpAnyH_take (i := 4) (oi := { dst := Option.some 112, op := Go.Op.move (Go.Operand.tmp 5), type := 24, pos := "law.go:70", after := #[{ on := 3, ground := Go.Ground.guard }], guard := Option.some (3, Bool.false) }) (v := ?_) rfl (by kernel_rfl) (by kernel_rfl) (by kernel_rfl) (fun _ _ _ h => h) (Or.inl ⟨by rfl, ?_⟩) (by assumption) ?_
        rotate_left
        · intro w hSw; (try dsimp only at hSw); go_simp; all_goals (with_reducible rfl)
        try simp only [Act.put, List.setIfInBounds_toArray, List.set_cons_zero, List.set_cons_succ]
        refine wpAnyH_take (i := 5) (oi := { dst := Option.some 113, op := Go.Op.nilCheck (Go.Operand.tmp 112), type := 0, pos := "law.go:70", after := #[{ on := 4, ground := Go.Ground.data }, { on := 3, ground := Go.Ground.guard }], guard := Option.some (3, Bool.false) }) (v := ?_) rfl (by kernel_rfl) (by kernel_rfl) (by kernel_rfl) (fun _ _ _ h => h) (Or.inl ⟨by rfl, ?_⟩) (by assumption) ?_
        rotate_left
        · intro w hSw; (try dsimp only at hSw); go_simp; all_goals (with_reducible rfl)
        try simp only [Act.put, List.setIfInBounds_toArray, List.set_cons_zero, List.set_cons_succ]
        refine wpAnyH_take (i := 6) (oi := { dst := Option.some 114, op := Go.Op.fieldAddr 47 (Go.Operand.tmp 113) 0, type := 0, pos := "law.go:70", after := #[{ on := 5, ground := Go.Ground.data }, { on := 3, ground := Go.Ground.guard }], guard := Option.some (3, Bool.false) }) (v := ?_) rfl (by kernel_rfl) (by kernel_rfl) (by kernel_rfl) (fun _ _ _ h => h) (Or.inl ⟨by rfl, ?_⟩) (by assumption) ?_
        rotate_left
        · intro w hSw; (try dsimp only at hSw); go_simp; all_goals (with_reducible rfl)
        try simp only [Act.put, List.setIfInBounds_toArray, List.set_cons_zero, List.set_cons_succ]
        refine wpAnyH_take (i := 9) (oi := { dst := Option.some 117, op := Go.Op.fieldAddr 30 (Go.Operand.tmp 8) 0, type := 0, pos := "law.go:70", after := #[{ on := 3, ground := Go.Ground.guard }], guard := Option.some (3, Bool.false) }) (v := ?_) rfl (by kernel_rfl) (by kernel_rfl) (by kernel_rfl) (fun _ _ _ h => h) (Or.inl ⟨by rfl, ?_⟩) (by assumption) ?_
        rotate_left
        · intro w hSw; (try dsimp only at hSw); go_simp; all_goals (with_reducible rfl)
        try simp only [Act.put, List.setIfInBounds_toArray, List.set_cons_zero, List.set_cons_succ]
        refine wpAnyH_take (i := 10) (oi := { dst := Option.some 118, op := Go.Op.load 9 (Go.Operand.tmp 117), type := 9, pos := "law.go:70", after := #[{ on := 9, ground := Go.Ground.data }, { on := 3, ground := Go.Ground.guard }], guard := Option.some (3, Bool.false) }) (v := ?_) rfl (by kernel_rfl) (by kernel_rfl) (by kernel_rfl) (fun _ _ _ h => h) (Or.inl ⟨by rfl, ?_⟩) (by assumption) ?_
        rotate_left
        · intro w hSw; (try dsimp only at hSw); go_simp; all_goals (with_reducible rfl)
        try simp only [Act.put, List.setIfInBounds_toArray, List.set_cons_zero, List.set_cons_succ]
        refine wpAnyH_ready (rs := [7]) (by kernel_rfl) (by simp) ?_
        refine AllReadyH.cons (o := { dst := Option.some 115, op := Go.Op.call { callee := Go.Callee.value (Go.Operand.func 20), args := #[Go.Operand.tmp 114], argTypes := #[45] }, type := 31, pos := "law.go:70", after := #[{ on := 6, ground := Go.Ground.data }, { on := 3, ground := Go.Ground.chain }, { on := 3, ground := Go.Ground.guard }], guard := Option.some (3, Bool.false) }) rfl (fun K hK => ?_) AllReadyH.nil
        go_simp
        refine (bytes_any (B := w.heap.size) (g := g) (d := dd) (r := r) (v := v) (xs := ws) _ hHeld.1.d).mono ?_
        rintro e w8 ⟨u2, rfl, hown8, hb8⟩
        obtain ⟨ua2, uc2, rfl, hui, _⟩ := owned_slice hown8 hHeld.1.d.byte
        have hcu := hui.str uc2
        rw [← HT.out] at hcu
        have hF8 := Lib.hid (hHeld.1.below hb8)
        clear hown8 hb8 hui hHeld
        go_wp2_with fail
        refine hK.out _ _ (⟨hF8.out, hF8.out.cells⟩) (fun hHeld => ?_)
        clear hK K
        try simp only [Act.put, List.setIfInBounds_toArray, List.set_cons_zero, List.set_cons_succ]
        refine wpAnyH_ready (rs := [8]) (by kernel_rfl) (by simp) ?_
        refine AllReadyH.cons (o := { dst := Option.some 116, op := Go.Op.convert 31 9 (Go.Operand.tmp 115), type := 9, pos := "law.go:70", after := #[{ on := 7, ground := Go.Ground.data }, { on := 3, ground := Go.Ground.guard }], guard := Option.some (3, Bool.false) }) rfl (fun K hK => ?_) AllReadyH.nil
        go_simp
        refine hK.out _ _ (hHeld) (fun hHeld => ?_)
        clear hK K
        try simp only [Act.put, List.setIfInBounds_toArray, List.set_cons_zero, List.set_cons_succ]
        refine wpAnyH_take (i := 11) (oi := { dst := Option.some 119, op := Go.Op.binOp Go.BinOp.neq 9 (Go.Operand.tmp 116) (Go.Operand.tmp 118) 9, type := 4, pos := "law.go:70", after := #[{ on := 8, ground := Go.Ground.data }, { on := 10, ground := Go.Ground.data }, { on := 3, ground := Go.Ground.guard }], guard := Option.some (3, Bool.false) }) (v := ?_) rfl (by kernel_rfl) (by kernel_rfl) (by kernel_rfl) (fun _ _ _ h => h) (Or.inl ⟨by rfl, ?_⟩) (by assumption) ?_
        rotate_left
        · intro w hSw; (try dsimp only at hSw); go_simp; all_goals (with_reducible rfl)
        try simp only [Act.put, List.setIfInBounds_toArray, List.set_cons_zero, List.set_cons_succ]
        refine wpAnyH_take (i := 12) (oi := { dst := Option.some 120, op := Go.Op.pick (Go.Operand.tmp 111) (Go.Operand.const (Go.Value.bool Bool.true)) (Go.Operand.tmp 119), type := 4, pos := "law.go:70", after := #[{ on := 3, ground := Go.Ground.data }, { on := 11, ground := Go.Ground.data }], guard := Option.none }) (v := ?_) rfl (by kernel_rfl) (by kernel_rfl) (by kernel_rfl) (fun _ _ _ h => h) (Or.inl ⟨by rfl, ?_⟩) (by assumption) ?_
        rotate_left
        · intro w hSw; (try dsimp only at hSw); go_simp; all_goals (with_reducible rfl)
        try simp only [Act.put, List.setIfInBounds_toArray, List.set_cons_zero, List.set_cons_succ]
        refine wpAnyH_take (i := 13) (oi := { dst := Option.some 121, op := Go.Op.move (Go.Operand.tmp 120), type := 4, pos := "law.go:70", after := #[{ on := 12, ground := Go.Ground.data }, { on := 7, ground := Go.Ground.chain }], guard := Option.none }) (v := ?_) rfl (by kernel_rfl) (by kernel_rfl) (by kernel_rfl) (fun _ _ _ h => h) (Or.inl ⟨by rfl, ?_⟩) (by assumption) ?_
        rotate_left
        · intro w hSw; (try dsimp only at hSw); go_simp; all_goals (with_reducible rfl)
        try simp only [Act.put, List.setIfInBounds_toArray, List.set_cons_zero, List.set_cons_succ]
        refine wpAnyH_take (i := 14) (oi := { dst := Option.some 122, op := Go.Op.move (Go.Operand.tmp 5), type := 24, pos := "law.go:70", after := #[{ on := 13, ground := Go.Ground.guard }], guard := Option.some (13, Bool.false) }) (v := ?_) rfl (by kernel_rfl) (by kernel_rfl) (by kernel_rfl) (fun _ _ _ h => h) (Or.inl ⟨by rfl, ?_⟩) (by assumption) ?_
        rotate_left
        · intro w hSw; (try dsimp only at hSw); go_simp; all_goals (with_reducible rfl)
        try simp only [Act.put, List.setIfInBounds_toArray, List.set_cons_zero, List.set_cons_succ]
        refine wpAnyH_take (i := 15) (oi := { dst := Option.some 123, op := Go.Op.nilCheck (Go.Operand.tmp 122), type := 0, pos := "law.go:70", after := #[{ on := 14, ground := Go.Ground.data }, { on := 13, ground := Go.Ground.guard }], guard := Option.some (13, Bool.false) }) (v := ?_) rfl (by kernel_rfl) (by kernel_rfl) (by kernel_rfl) (fun _ _ _ h => h) (Or.inl ⟨by rfl, ?_⟩) (by assumption) ?_
        rotate_left
        · intro w hSw; (try dsimp only at hSw); go_simp; all_goals (with_reducible rfl)
        try simp only [Act.put, List.setIfInBounds_toArray, List.set_cons_zero, List.set_cons_succ]
        refine wpAnyH_take (i := 16) (oi := { dst := Option.some 124, op := Go.Op.fieldAddr 47 (Go.Operand.tmp 123) 0, type := 0, pos := "law.go:70", after := #[{ on := 15, ground := Go.Ground.data }, { on := 13, ground := Go.Ground.guard }], guard := Option.some (13, Bool.false) }) (v := ?_) rfl (by kernel_rfl) (by kernel_rfl) (by kernel_rfl) (fun _ _ _ h => h) (Or.inl ⟨by rfl, ?_⟩) (by assumption) ?_
        rotate_left
        · intro w hSw; (try dsimp only at hSw); go_simp; all_goals (with_reducible rfl)
        try simp only [Act.put, List.setIfInBounds_toArray, List.set_cons_zero, List.set_cons_succ]
        refine wpAnyH_take (i := 18) (oi := { dst := Option.some 126, op := Go.Op.fieldAddr 30 (Go.Operand.tmp 8) 0, type := 0, pos := "law.go:70", after := #[{ on := 13, ground := Go.Ground.guard }], guard := Option.some (13, Bool.false) }) (v := ?_) rfl (by kernel_rfl) (by kernel_rfl) (by kernel_rfl) (fun _ _ _ h => h) (Or.inl ⟨by rfl, ?_⟩) (by assumption) ?_
        rotate_left
        · intro w hSw; (try dsimp only at hSw); go_simp; all_goals (with_reducible rfl)
        try simp only [Act.put, List.setIfInBounds_toArray, List.set_cons_zero, List.set_cons_succ]
        refine wpAnyH_take (i := 19) (oi := { dst := Option.some 127, op := Go.Op.load 9 (Go.Operand.tmp 126), type := 9, pos := "law.go:70", after := #[{ on := 18, ground := Go.Ground.data }, { on := 13, ground := Go.Ground.guard }], guard := Option.some (13, Bool.false) }) (v := ?_) rfl (by kernel_rfl) (by kernel_rfl) (by kernel_rfl) (fun _ _ _ h => h) (Or.inl ⟨by rfl, ?_⟩) (by assumption) ?_
        rotate_left
        · intro w hSw; (try dsimp only at hSw); go_simp; all_goals (with_reducible rfl)
        try simp only [Act.put, List.setIfInBounds_toArray, List.set_cons_zero, List.set_cons_succ]
        refine wpAnyH_take (i := 20) (oi := { dst := Option.some 128, op := Go.Op.call { callee := Go.Callee.builtin Go.Builtin.len, args := #[Go.Operand.tmp 127], argTypes := #[9] }, type := 3, pos := "law.go:70", after := #[{ on := 19, ground := Go.Ground.data }, { on := 13, ground := Go.Ground.guard }], guard := Option.some (13, Bool.false) }) (v := ?_) rfl (by kernel_rfl) (by kernel_rfl) (by kernel_rfl) (fun _ _ _ h => h) (Or.inl ⟨by rfl, ?_⟩) (by assumption) ?_
        rotate_left
        · intro w hSw; (try dsimp only at hSw); go_simp; all_goals (with_reducible rfl)
        try simp only [Act.put, List.setIfInBounds_toArray, List.set_cons_zero, List.set_cons_succ]
        refine wpAnyH_ready (rs := [17]) (by kernel_rfl) (by simp) ?_
        refine AllReadyH.cons (o := { dst := Option.some 125, op := Go.Op.call { callee := Go.Callee.value (Go.Operand.func 21), args := #[Go.Operand.tmp 124], argTypes := #[45] }, type := 3, pos := "law.go:70", after := #[{ on := 16, ground := Go.Ground.data }, { on := 13, ground := Go.Ground.chain }, { on := 13, ground := Go.Ground.guard }], guard := Option.some (13, Bool.false) }) rfl (fun K hK => ?_) AllReadyH.nil
        go_simp
        refine (size_as (B := w.heap.size) (g := g) (d := dd) (r := r) (v := v) (xs := ws) _ hHeld.1.d (S.size : Int) (by rw [HT.out, strOfNums_size])).mono ?_
        rintro e w' ⟨rfl, rfl⟩
        go_wp2_with fail
        refine hK.out _ _ (hHeld) (fun hHeld => ?_)
        clear hK K
        try simp only [Act.put, List.setIfInBounds_toArray, List.set_cons_zero, List.set_cons_succ]
        refine wpAnyH_take (i := 21) (oi := { dst := Option.some 129, op := Go.Op.binOp Go.BinOp.neq 3 (Go.Operand.tmp 125) (Go.Operand.tmp 128) 3, type := 4, pos := "law.go:70", after := #[{ on := 17, ground := Go.Ground.data }, { on := 20, ground := Go.Ground.data }, { on := 13, ground := Go.Ground.guard }], guard := Option.some (13, Bool.false) }) (v := ?_) rfl (by kernel_rfl) (by kernel_rfl) (by kernel_rfl) (fun _ _ _ h => h) (Or.inl ⟨by rfl, ?_⟩) (by assumption) ?_
        rotate_left
        · intro w hSw; (try dsimp only at hSw); go_simp; all_goals (with_reducible rfl)
        try simp only [Act.put, List.setIfInBounds_toArray, List.set_cons_zero, List.set_cons_succ]
        refine wpAnyH_take (i := 22) (oi := { dst := Option.some 130, op := Go.Op.pick (Go.Operand.tmp 121) (Go.Operand.const (Go.Value.bool Bool.true)) (Go.Operand.tmp 129), type := 4, pos := "law.go:70", after := #[{ on := 13, ground := Go.Ground.data }, { on := 21, ground := Go.Ground.data }], guard := Option.none }) (v := ?_) rfl (by kernel_rfl) (by kernel_rfl) (by kernel_rfl) (fun _ _ _ h => h) (Or.inl ⟨by rfl, ?_⟩) (by assumption) ?_
        rotate_left
        · intro w hSw; (try dsimp only at hSw); go_simp; all_goals (with_reducible rfl)
        try simp only [Act.put, List.setIfInBounds_toArray, List.set_cons_zero, List.set_cons_succ]
        refine wpAnyH_take (i := 23) (oi := { dst := Option.some 131, op := Go.Op.move (Go.Operand.tmp 130), type := 4, pos := "law.go:70", after := #[{ on := 22, ground := Go.Ground.data }, { on := 17, ground := Go.Ground.chain }], guard := Option.none }) (v := ?_) rfl (by kernel_rfl) (by kernel_rfl) (by kernel_rfl) (fun _ _ _ h => h) (Or.inl ⟨by rfl, ?_⟩) (by assumption) ?_
        rotate_left
        · intro w hSw; (try dsimp only at hSw); go_simp; all_goals (with_reducible rfl)
        try simp only [Act.put, List.setIfInBounds_toArray, List.set_cons_zero, List.set_cons_succ]
        refine wpAnyH_take (i := 24) (oi := { dst := Option.some 132, op := Go.Op.move (Go.Operand.tmp 5), type := 24, pos := "law.go:70", after := #[{ on := 23, ground := Go.Ground.guard }], guard := Option.some (23, Bool.false) }) (v := ?_) rfl (by kernel_rfl) (by kernel_rfl) (by kernel_rfl) (fun _ _ _ h => h) (Or.inl ⟨by rfl, ?_⟩) (by assumption) ?_
        rotate_left
        · intro w hSw; (try dsimp only at hSw); go_simp; all_goals (with_reducible rfl)
        try simp only [Act.put, List.setIfInBounds_toArray, List.set_cons_zero, List.set_cons_succ]
        refine wpAnyH_take (i := 25) (oi := { dst := Option.some 133, op := Go.Op.nilCheck (Go.Operand.tmp 132), type := 0, pos := "law.go:70", after := #[{ on := 24, ground := Go.Ground.data }, { on := 23, ground := Go.Ground.guard }], guard := Option.some (23, Bool.false) }) (v := ?_) rfl (by kernel_rfl) (by kernel_rfl) (by kernel_rfl) (fun _ _ _ h => h) (Or.inl ⟨by rfl, ?_⟩) (by assumption) ?_
        rotate_left
        · intro w hSw; (try dsimp only at hSw); go_simp; all_goals (with_reducible rfl)
        try simp only [Act.put, List.setIfInBounds_toArray, List.set_cons_zero, List.set_cons_succ]
        refine wpAnyH_take (i := 26) (oi := { dst := Option.some 134, op := Go.Op.fieldAddr 47 (Go.Operand.tmp 133) 0, type := 0, pos := "law.go:70", after := #[{ on := 25, ground := Go.Ground.data }, { on := 23, ground := Go.Ground.guard }], guard := Option.some (23, Bool.false) }) (v := ?_) rfl (by kernel_rfl) (by kernel_rfl) (by kernel_rfl) (fun _ _ _ h => h) (Or.inl ⟨by rfl, ?_⟩) (by assumption) ?_
        rotate_left
        · intro w hSw; (try dsimp only at hSw); go_simp; all_goals (with_reducible rfl)
        try simp only [Act.put, List.setIfInBounds_toArray, List.set_cons_zero, List.set_cons_succ]
        refine wpAnyH_take (i := 28) (oi := { dst := Option.some 136, op := Go.Op.fieldAddr 30 (Go.Operand.tmp 8) 1, type := 0, pos := "law.go:70", after := #[{ on := 23, ground := Go.Ground.guard }], guard := Option.some (23, Bool.false) }) (v := ?_) rfl (by kernel_rfl) (by kernel_rfl) (by kernel_rfl) (fun _ _ _ h => h) (Or.inl ⟨by rfl, ?_⟩) (by assumption) ?_
        rotate_left
        · intro w hSw; (try dsimp only at hSw); go_simp; all_goals (with_reducible rfl)
        try simp only [Act.put, List.setIfInBounds_toArray, List.set_cons_zero, List.set_cons_succ]
        refine wpAnyH_take (i := 29) (oi := { dst := Option.some 137, op := Go.Op.load 3 (Go.Operand.tmp 136), type := 3, pos := "law.go:70", after := #[{ on := 28, ground := Go.Ground.data }, { on := 23, ground := Go.Ground.guard }], guard := Option.some (23, Bool.false) }) (v := ?_) rfl (by kernel_rfl) (by kernel_rfl) (by kernel_rfl) (fun _ _ _ h => h) (Or.inl ⟨by rfl, ?_⟩) (by assumption) ?_
        rotate_left
        · intro w hSw; (try dsimp only at hSw); go_simp; all_goals (with_reducible rfl)
        try simp only [Act.put, List.setIfInBounds_toArray, List.set_cons_zero, List.set_cons_succ]
        refine wpAnyH_ready (rs := [27]) (by kernel_rfl) (by simp) ?_
        refine AllReadyH.cons (o := { dst := Option.some 135, op := Go.Op.call { callee := Go.Callee.value (Go.Operand.func 22), args := #[Go.Operand.tmp 134], argTypes := #[45] }, type := 3, pos := "law.go:70", after := #[{ on := 26, ground := Go.Ground.data }, { on := 23, ground := Go.Ground.chain }, { on := 23, ground := Go.Ground.guard }], guard := Option.some (23, Bool.false) }) rfl (fun K hK => ?_) AllReadyH.nil
        go_simp
        refine (durable_any (B := w.heap.size) (g := g) (d := dd) (r := r) (v := v) (xs := ws) _ hHeld.1.d).mono ?_
        rintro e w' ⟨rfl, rfl⟩
        go_wp2_with fail
        refine hK.out _ _ (hHeld) (fun hHeld => ?_)
        clear hK K
        try simp only [Act.put, List.setIfInBounds_toArray, List.set_cons_zero, List.set_cons_succ]
        refine wpAnyH_take (i := 30) (oi := { dst := Option.some 138, op := Go.Op.binOp Go.BinOp.neq 3 (Go.Operand.tmp 135) (Go.Operand.tmp 137) 3, type := 4, pos := "law.go:70", after := #[{ on := 27, ground := Go.Ground.data }, { on := 29, ground := Go.Ground.data }, { on := 23, ground := Go.Ground.guard }], guard := Option.some (23, Bool.false) }) (v := ?_) rfl (by kernel_rfl) (by kernel_rfl) (by kernel_rfl) (fun _ _ _ h => h) (Or.inl ⟨by rfl, ?_⟩) (by assumption) ?_
        rotate_left
        · intro w hSw; (try dsimp only at hSw); go_simp; all_goals (with_reducible rfl)
        try simp only [Act.put, List.setIfInBounds_toArray, List.set_cons_zero, List.set_cons_succ]
        refine wpAnyH_take (i := 31) (oi := { dst := Option.some 139, op := Go.Op.pick (Go.Operand.tmp 131) (Go.Operand.const (Go.Value.bool Bool.true)) (Go.Operand.tmp 138), type := 4, pos := "law.go:70", after := #[{ on := 23, ground := Go.Ground.data }, { on := 30, ground := Go.Ground.data }], guard := Option.none }) (v := ?_) rfl (by kernel_rfl) (by kernel_rfl) (by kernel_rfl) (fun _ _ _ h => h) (Or.inl ⟨by rfl, ?_⟩) (by assumption) ?_
        rotate_left
        · intro w hSw; (try dsimp only at hSw); go_simp; all_goals (with_reducible rfl)
        try simp only [Act.put, List.setIfInBounds_toArray, List.set_cons_zero, List.set_cons_succ]
        refine wpAnyH_take (i := 32) (oi := { dst := Option.some 140, op := Go.Op.move (Go.Operand.tmp 139), type := 4, pos := "law.go:70", after := #[{ on := 31, ground := Go.Ground.data }, { on := 27, ground := Go.Ground.chain }], guard := Option.none }) (v := ?_) rfl (by kernel_rfl) (by kernel_rfl) (by kernel_rfl) (fun _ _ _ h => h) (Or.inl ⟨by rfl, ?_⟩) (by assumption) ?_
        rotate_left
        · intro w hSw; (try dsimp only at hSw); go_simp; all_goals (with_reducible rfl)
        try simp only [Act.put, List.setIfInBounds_toArray, List.set_cons_zero, List.set_cons_succ]
        refine wpAnyH_take (i := 33) (oi := { dst := Option.some 141, op := Go.Op.move (Go.Operand.tmp 5), type := 24, pos := "law.go:70", after := #[{ on := 32, ground := Go.Ground.guard }], guard := Option.some (32, Bool.false) }) (v := ?_) rfl (by kernel_rfl) (by kernel_rfl) (by kernel_rfl) (fun _ _ _ h => h) (Or.inl ⟨by rfl, ?_⟩) (by assumption) ?_
        rotate_left
        · intro w hSw; (try dsimp only at hSw); go_simp; all_goals (with_reducible rfl)
        try simp only [Act.put, List.setIfInBounds_toArray, List.set_cons_zero, List.set_cons_succ]
        refine wpAnyH_take (i := 35) (oi := { dst := Option.some 143, op := Go.Op.fieldAddr 30 (Go.Operand.tmp 8) 2, type := 0, pos := "law.go:70", after := #[{ on := 32, ground := Go.Ground.guard }], guard := Option.some (32, Bool.false) }) (v := ?_) rfl (by kernel_rfl) (by kernel_rfl) (by kernel_rfl) (fun _ _ _ h => h) (Or.inl ⟨by rfl, ?_⟩) (by assumption) ?_
        rotate_left
        · intro w hSw; (try dsimp only at hSw); go_simp; all_goals (with_reducible rfl)
        try simp only [Act.put, List.setIfInBounds_toArray, List.set_cons_zero, List.set_cons_succ]
        refine wpAnyH_take (i := 36) (oi := { dst := Option.some 144, op := Go.Op.load 3 (Go.Operand.tmp 143), type := 3, pos := "law.go:70", after := #[{ on := 35, ground := Go.Ground.data }, { on := 32, ground := Go.Ground.guard }], guard := Option.some (32, Bool.false) }) (v := ?_) rfl (by kernel_rfl) (by kernel_rfl) (by kernel_rfl) (fun _ _ _ h => h) (Or.inl ⟨by rfl, ?_⟩) (by assumption) ?_
        rotate_left
        · intro w hSw; (try dsimp only at hSw); go_simp; all_goals (with_reducible rfl)
        try simp only [Act.put, List.setIfInBounds_toArray, List.set_cons_zero, List.set_cons_succ]
        refine wpAnyH_take (i := 37) (oi := { dst := Option.some 145, op := Go.Op.fieldAddr 30 (Go.Operand.tmp 8) 0, type := 0, pos := "law.go:70", after := #[{ on := 32, ground := Go.Ground.guard }], guard := Option.some (32, Bool.false) }) (v := ?_) rfl (by kernel_rfl) (by kernel_rfl) (by kernel_rfl) (fun _ _ _ h => h) (Or.inl ⟨by rfl, ?_⟩) (by assumption) ?_
        rotate_left
        · intro w hSw; (try dsimp only at hSw); go_simp; all_goals (with_reducible rfl)
        try simp only [Act.put, List.setIfInBounds_toArray, List.set_cons_zero, List.set_cons_succ]
        refine wpAnyH_take (i := 38) (oi := { dst := Option.some 146, op := Go.Op.load 9 (Go.Operand.tmp 145), type := 9, pos := "law.go:70", after := #[{ on := 37, ground := Go.Ground.data }, { on := 32, ground := Go.Ground.guard }], guard := Option.some (32, Bool.false) }) (v := ?_) rfl (by kernel_rfl) (by kernel_rfl) (by kernel_rfl) (fun _ _ _ h => h) (Or.inl ⟨by rfl, ?_⟩) (by assumption) ?_
        rotate_left
        · intro w hSw; (try dsimp only at hSw); go_simp; all_goals (with_reducible rfl)
        try simp only [Act.put, List.setIfInBounds_toArray, List.set_cons_zero, List.set_cons_succ]
        refine wpAnyH_take (i := 39) (oi := { dst := Option.some 147, op := Go.Op.call { callee := Go.Callee.builtin Go.Builtin.len, args := #[Go.Operand.tmp 146], argTypes := #[9] }, type := 3, pos := "law.go:70", after := #[{ on := 38, ground := Go.Ground.data }, { on := 32, ground := Go.Ground.guard }], guard := Option.some (32, Bool.false) }) (v := ?_) rfl (by kernel_rfl) (by kernel_rfl) (by kernel_rfl) (fun _ _ _ h => h) (Or.inl ⟨by rfl, ?_⟩) (by assumption) ?_
        rotate_left
        · intro w hSw; (try dsimp only at hSw); go_simp; all_goals (with_reducible rfl)
        try simp only [Act.put, List.setIfInBounds_toArray, List.set_cons_zero, List.set_cons_succ]
        refine wpAnyH_take (i := 40) (oi := { dst := Option.some 148, op := Go.Op.binOp Go.BinOp.sub 3 (Go.Operand.tmp 144) (Go.Operand.tmp 147) 3, type := 3, pos := "law.go:70", after := #[{ on := 36, ground := Go.Ground.data }, { on := 39, ground := Go.Ground.data }, { on := 32, ground := Go.Ground.guard }], guard := Option.some (32, Bool.false) }) (v := ?_) rfl (by kernel_rfl) (by kernel_rfl) (by kernel_rfl) (fun _ _ _ h => h) (Or.inl ⟨by rfl, ?_⟩) (by assumption) ?_
        rotate_left
        · intro w hSw; (try dsimp only at hSw); go_simp; all_goals (with_reducible rfl)
        try simp only [Act.put, List.setIfInBounds_toArray, List.set_cons_zero, List.set_cons_succ]
        refine wpAnyH_ready (rs := [34]) (by kernel_rfl) (by simp) ?_
        refine AllReadyH.cons (o := { dst := Option.some 142, op := Go.Op.call { callee := Go.Callee.value (Go.Operand.func 23), args := #[Go.Operand.tmp 141], argTypes := #[24] }, type := 3, pos := "law.go:70", after := #[{ on := 33, ground := Go.Ground.data }, { on := 32, ground := Go.Ground.chain }, { on := 32, ground := Go.Ground.guard }], guard := Option.some (32, Bool.false) }) rfl (fun K hK => ?_) AllReadyH.nil
        go_simp
        refine (left_any (B := w.heap.size) (g := g) (d := dd) (r := r) (v := v) (xs := ws) _ hHeld.1.d).mono ?_
        rintro e w' ⟨rfl, qd, rfl⟩
        rw [HL2.out]
        have hF9 := Lib.hid (hHeld.1.below (below_drewN _ qd))
        clear hHeld
        go_wp2_with fail
        refine hK.out _ _ (⟨hF9.out, hF9.out.cells⟩) (fun hHeld => ?_)
        clear hK K
        try simp only [Act.put, List.setIfInBounds_toArray, List.set_cons_zero, List.set_cons_succ]
        refine wpAnyH_take (i := 41) (oi := { dst := Option.some 149, op := Go.Op.binOp Go.BinOp.neq 3 (Go.Operand.tmp 142) (Go.Operand.tmp 148) 3, type := 4, pos := "law.go:70", after := #[{ on := 34, ground := Go.Ground.data }, { on := 40, ground := Go.Ground.data }, { on := 32, ground := Go.Ground.guard }], guard := Option.some (32, Bool.false) }) (v := ?_) rfl (by kernel_rfl) (by kernel_rfl) (by kernel_rfl) (fun _ _ _ h => h) (Or.inl ⟨by rfl, ?_⟩) (by assumption) ?_
        rotate_left
        · intro w hSw; (try dsimp only at hSw); go_simp; all_goals (with_reducible rfl)
        try simp only [Act.put, List.setIfInBounds_toArray, List.set_cons_zero, List.set_cons_succ]
        refine wpAnyH_take (i := 42) (oi := { dst := Option.some 150, op := Go.Op.pick (Go.Operand.tmp 140) (Go.Operand.const (Go.Value.bool Bool.true)) (Go.Operand.tmp 149), type := 4, pos := "law.go:70", after := #[{ on := 32, ground := Go.Ground.data }, { on := 41, ground := Go.Ground.data }], guard := Option.none }) (v := ?_) rfl (by kernel_rfl) (by kernel_rfl) (by kernel_rfl) (fun _ _ _ h => h) (Or.inl ⟨by rfl, ?_⟩) (by assumption) ?_
        rotate_left
        · intro w hSw; (try dsimp only at hSw); go_simp; all_goals (with_reducible rfl)
        try simp only [Act.put, List.setIfInBounds_toArray, List.set_cons_zero, List.set_cons_succ]
        refine wpAnyH_done (by kernel_rfl) ?_ _
        have HF := Lib.hid hHeld.1
        clear hHeld
        go_wp2
        go_roundw
        case rel => exact ⟨k + 1, g, dd, v, ws, by omega, by go_num, rfl, by rw [← HT.out]; exact HF.out⟩
        case measure => simp [intOf]; omega
      · have hp0 : PS w (wr.alloc (.cells #[.int .i64 2, .slice ua m uc, .int .i64 kk] 33)) gw g v (strOfNums xs) xs d r := HP.out.below (below_alloc _ _)
        have ho0 : Whole (wr.alloc (.cells #[.int .i64 2, .slice ua m uc, .int .i64 kk] 33)) wr.heap.size 33 #[.int .i64 2, .slice ua m uc, .int .i64 kk] := heap_alloc_new wr _
        have hsz0 : (wr.alloc (.cells #[.int .i64 2, .slice ua m uc, .int .i64 kk] 33)).heap.size = wr.heap.size + 1 := by simp
        have HP0 := Lib.hid hp0
        have HO0 := Lib.hid ho0
        clear hp0 ho0
        go_wp2_with fail
        refine (crash_any kk _ HP0.out.d (by omega)).mono ?_
        rintro e w5 ⟨rfl, v5, hd5, ht5, _⟩
        have hm5 := HP0.out.m.stays HP0.out.d ht5 (.inr rfl) (by decide) (by decide)
        have ho5 := HO0.out.stays HP0.out.d ht5 (.inr rfl) (by decide) (by decide)
        have hb5 := HP0.out.b.trans (HP0.out.d.turned0 ht5 HP0.out.b.size)
        obtain ⟨p, hpp⟩ : ∃ p, p = left xs.length d kk := ⟨_, rfl⟩
        have hd0 := HP0.out.d.hd
        have hr0 := HP0.out.d.hr
        rw [← hpp] at hd5
        obtain ⟨a0, a1, a2, e0, e1, e2⟩ := three_cells hm5
        have o1 : w5.cell? ⟨wr.heap.size, 1, none⟩ = some (.slice ua m uc) := by rw [ho5.cell]; rfl
        have o2 : w5.cell? ⟨wr.heap.size, 2, none⟩ = some (.int .i64 kk) := by rw [ho5.cell]; rfl
        obtain ⟨S, hS⟩ : ∃ S, S = strOfNums xs := ⟨_, rfl⟩
        rw [← hS] at hm5 a0
        have hsl : S.size = xs.length := by rw [hS, strOfNums_size]
        have hdr := hd5.hr
        have hdm := hd5.hm
        obtain ⟨T, hT⟩ : ∃ T, T = S.extract 0 p := ⟨_, rfl⟩
        have HT : Hid (T = strOfNums (xs.take p)) := Lib.hid (by rw [hT, hS, str_sub]; simp)
        have hra := rcrash_any S d r kk w5 (by omega) (by omega) (by omega)
        rw [hsl, ← hpp, ← hT] at hra
        clear hT hpp hd0 hr0
        have HRA := Lib.hid hra
        have HM5 := Lib.hid hm5
        have HD5 := Lib.hid hd5
        have HB5 := Lib.hid hb5
        clear hm5 ho5 hb5 hd5 ht5 hS hsl hra hdr hdm
        go_wp2_with fail
        refine HRA.out.mono ?_
        rintro e w6 ⟨rfl, hb6⟩
        have hm6 := HM5.out.kept (hb6.block _ HM5.out.lt)
        have hb6' := HB5.out.trans (hb6.mono HB5.out.size)
        obtain ⟨b0, b1, b2, g0, g1, g2⟩ := three_cells hm6
        have HQ := Lib.hid (PS.write (T := T) (HD5.out.below hb6) hm6 hb6' HP.out.ge)
        clear hm6 hb6 hb6'
        unfold RD
        go_wp2_with fail
        generalize ((w6.setCell ⟨gw, 0, none⟩ (.string T)).setCell ⟨gw, 1, none⟩ (.int .i64 p)).setCell ⟨gw, 2, none⟩ (.int .i64 r) = w9 at *
        clear a0 a1 a2 e0 e1 e2 o1 o2 b0 b1 b2 g0 g1 g2 c0 c1 c2 hsz0
        obtain ⟨ws, hws⟩ : ∃ ws, ws = xs.take p := ⟨_, rfl⟩
        rw [← hws] at HQ HT
        clear hws
        have hTT : (T.toList == T.toList) = true := by simp
        have hTN : (T.toList != T.toList) = false := by simp
        have hl2 : ((r - (ws).length : Nat) : Int) = (r : Int) - (T.size : Int) := by have h1 := HQ.out.d.hr; have h2 := congrArg ByteArray.size HT.out; rw [strOfNums_size] at h2; omega
        have hwr : IntKind.i64.wrap ((r : Int) - (T.size : Int)) = (r : Int) - (T.size : Int) := by have h1 := HQ.out.d.hr; have h2 := congrArg ByteArray.size HT.out; rw [strOfNums_size] at h2; exact IntWalk.i64_in _ (by omega)
        have HL2 := Lib.hid hl2
        clear hl2
        refine wp_region_held_drew (S := fun W => PS w W gw g v5 T ws p r ∧ W.cell? ⟨gw, 0, none⟩ = some (.string T) ∧ W.cell? ⟨gw, 1, none⟩ = some (.int .i64 p) ∧ W.cell? ⟨gw, 2, none⟩ = some (.int .i64 r)) (by kernel_rfl) ⟨HQ.out.below (below_drewN _ 1), (HQ.out.below (below_drewN _ 1)).cells⟩ (fun hHeld => ?_)
        refine wpAnyH_take (i := 0) (oi := { dst := Option.some 108, op := Go.Op.move (Go.Operand.tmp 11), type := 25, pos := "law.go:70", after := #[], guard := Option.none }) (v := ?_) rfl (by kernel_rfl) (by kernel_rfl) (by kernel_rfl) (fun _ _ _ h => h) (Or.inl ⟨by rfl, ?_⟩) (by assumption) ?_
        rotate_left
        · intro w hSw; (try dsimp only at hSw); go_simp; all_goals (with_reducible rfl)
        try simp only [Act.put, List.setIfInBounds_toArray, List.set_cons_zero, List.set_cons_succ]
        refine wpAnyH_take (i := 1) (oi := { dst := Option.some 109, op := Go.Op.move (Go.Operand.tmp 12), type := 3, pos := "law.go:70", after := #[], guard := Option.none }) (v := ?_) rfl (by kernel_rfl) (by kernel_rfl) (by kernel_rfl) (fun _ _ _ h => h) (Or.inl ⟨by rfl, ?_⟩) (by assumption) ?_
        rotate_left
        · intro w hSw; (try dsimp only at hSw); go_simp; all_goals (with_reducible rfl)
        try simp only [Act.put, List.setIfInBounds_toArray, List.set_cons_zero, List.set_cons_succ]
        refine wpAnyH_take (i := 2) (oi := { dst := Option.some 110, op := Go.Op.binOp Go.BinOp.neq 3 (Go.Operand.tmp 108) (Go.Operand.tmp 109) 3, type := 4, pos := "law.go:70", after := #[{ on := 0, ground := Go.Ground.data }, { on := 1, ground := Go.Ground.data }], guard := Option.none }) (v := ?_) rfl (by kernel_rfl) (by kernel_rfl) (by kernel_rfl) (fun _ _ _ h => h) (Or.inl ⟨by rfl, ?_⟩) (by assumption) ?_
        rotate_left
        · intro w hSw; (try dsimp only at hSw); go_simp; all_goals (with_reducible rfl)
        try simp only [Act.put, List.setIfInBounds_toArray, List.set_cons_zero, List.set_cons_succ]
        refine wpAnyH_take (i := 3) (oi := { dst := Option.some 111, op := Go.Op.move (Go.Operand.tmp 110), type := 4, pos := "law.go:70", after := #[{ on := 2, ground := Go.Ground.data }], guard := Option.none }) (v := ?_) rfl (by kernel_rfl) (by kernel_rfl) (by kernel_rfl) (fun _ _ _ h => h) (Or.inl ⟨by rfl, ?_⟩) (by assumption) ?_
        rotate_left
        · intro w hSw; (try dsimp only at hSw); go_simp; all_goals (with_reducible rfl)
        try simp only [Act.put, List.setIfInBounds_toArray, List.set_cons_zero, List.set_cons_succ]
        refine wpAnyH_take (i := 4) (oi := { dst := Option.some 112, op := Go.Op.move (Go.Operand.tmp 5), type := 24, pos := "law.go:70", after := #[{ on := 3, ground := Go.Ground.guard }], guard := Option.some (3, Bool.false) }) (v := ?_) rfl (by kernel_rfl) (by kernel_rfl) (by kernel_rfl) (fun _ _ _ h => h) (Or.inl ⟨by rfl, ?_⟩) (by assumption) ?_
        rotate_left
        · intro w hSw; (try dsimp only at hSw); go_simp; all_goals (with_reducible rfl)
        try simp only [Act.put, List.setIfInBounds_toArray, List.set_cons_zero, List.set_cons_succ]
        refine wpAnyH_take (i := 5) (oi := { dst := Option.some 113, op := Go.Op.nilCheck (Go.Operand.tmp 112), type := 0, pos := "law.go:70", after := #[{ on := 4, ground := Go.Ground.data }, { on := 3, ground := Go.Ground.guard }], guard := Option.some (3, Bool.false) }) (v := ?_) rfl (by kernel_rfl) (by kernel_rfl) (by kernel_rfl) (fun _ _ _ h => h) (Or.inl ⟨by rfl, ?_⟩) (by assumption) ?_
        rotate_left
        · intro w hSw; (try dsimp only at hSw); go_simp; all_goals (with_reducible rfl)
        try simp only [Act.put, List.setIfInBounds_toArray, List.set_cons_zero, List.set_cons_succ]
        refine wpAnyH_take (i := 6) (oi := { dst := Option.some 114, op := Go.Op.fieldAddr 47 (Go.Operand.tmp 113) 0, type := 0, pos := "law.go:70", after := #[{ on := 5, ground := Go.Ground.data }, { on := 3, ground := Go.Ground.guard }], guard := Option.some (3, Bool.false) }) (v := ?_) rfl (by kernel_rfl) (by kernel_rfl) (by kernel_rfl) (fun _ _ _ h => h) (Or.inl ⟨by rfl, ?_⟩) (by assumption) ?_
        rotate_left
        · intro w hSw; (try dsimp only at hSw); go_simp; all_goals (with_reducible rfl)
        try simp only [Act.put, List.setIfInBounds_toArray, List.set_cons_zero, List.set_cons_succ]
        refine wpAnyH_take (i := 9) (oi := { dst := Option.some 117, op := Go.Op.fieldAddr 30 (Go.Operand.tmp 8) 0, type := 0, pos := "law.go:70", after := #[{ on := 3, ground := Go.Ground.guard }], guard := Option.some (3, Bool.false) }) (v := ?_) rfl (by kernel_rfl) (by kernel_rfl) (by kernel_rfl) (fun _ _ _ h => h) (Or.inl ⟨by rfl, ?_⟩) (by assumption) ?_
        rotate_left
        · intro w hSw; (try dsimp only at hSw); go_simp; all_goals (with_reducible rfl)
        try simp only [Act.put, List.setIfInBounds_toArray, List.set_cons_zero, List.set_cons_succ]
        refine wpAnyH_take (i := 10) (oi := { dst := Option.some 118, op := Go.Op.load 9 (Go.Operand.tmp 117), type := 9, pos := "law.go:70", after := #[{ on := 9, ground := Go.Ground.data }, { on := 3, ground := Go.Ground.guard }], guard := Option.some (3, Bool.false) }) (v := ?_) rfl (by kernel_rfl) (by kernel_rfl) (by kernel_rfl) (fun _ _ _ h => h) (Or.inl ⟨by rfl, ?_⟩) (by assumption) ?_
        rotate_left
        · intro w hSw; (try dsimp only at hSw); go_simp; all_goals (with_reducible rfl)
        try simp only [Act.put, List.setIfInBounds_toArray, List.set_cons_zero, List.set_cons_succ]
        refine wpAnyH_ready (rs := [7]) (by kernel_rfl) (by simp) ?_
        refine AllReadyH.cons (o := { dst := Option.some 115, op := Go.Op.call { callee := Go.Callee.value (Go.Operand.func 20), args := #[Go.Operand.tmp 114], argTypes := #[45] }, type := 31, pos := "law.go:70", after := #[{ on := 6, ground := Go.Ground.data }, { on := 3, ground := Go.Ground.chain }, { on := 3, ground := Go.Ground.guard }], guard := Option.some (3, Bool.false) }) rfl (fun K hK => ?_) AllReadyH.nil
        go_simp
        refine (bytes_any (B := w.heap.size) (g := g) (d := p) (r := r) (v := v5) (xs := ws) _ hHeld.1.d).mono ?_
        rintro e w8 ⟨u2, rfl, hown8, hb8⟩
        obtain ⟨ua2, uc2, rfl, hui, _⟩ := owned_slice hown8 hHeld.1.d.byte
        have hcu := hui.str uc2
        rw [← HT.out] at hcu
        have hF8 := Lib.hid (hHeld.1.below hb8)
        clear hown8 hb8 hui hHeld
        go_wp2_with fail
        refine hK.out _ _ (⟨hF8.out, hF8.out.cells⟩) (fun hHeld => ?_)
        clear hK K
        try simp only [Act.put, List.setIfInBounds_toArray, List.set_cons_zero, List.set_cons_succ]
        refine wpAnyH_ready (rs := [8]) (by kernel_rfl) (by simp) ?_
        refine AllReadyH.cons (o := { dst := Option.some 116, op := Go.Op.convert 31 9 (Go.Operand.tmp 115), type := 9, pos := "law.go:70", after := #[{ on := 7, ground := Go.Ground.data }, { on := 3, ground := Go.Ground.guard }], guard := Option.some (3, Bool.false) }) rfl (fun K hK => ?_) AllReadyH.nil
        go_simp
        refine hK.out _ _ (hHeld) (fun hHeld => ?_)
        clear hK K
        try simp only [Act.put, List.setIfInBounds_toArray, List.set_cons_zero, List.set_cons_succ]
        refine wpAnyH_take (i := 11) (oi := { dst := Option.some 119, op := Go.Op.binOp Go.BinOp.neq 9 (Go.Operand.tmp 116) (Go.Operand.tmp 118) 9, type := 4, pos := "law.go:70", after := #[{ on := 8, ground := Go.Ground.data }, { on := 10, ground := Go.Ground.data }, { on := 3, ground := Go.Ground.guard }], guard := Option.some (3, Bool.false) }) (v := ?_) rfl (by kernel_rfl) (by kernel_rfl) (by kernel_rfl) (fun _ _ _ h => h) (Or.inl ⟨by rfl, ?_⟩) (by assumption) ?_
        rotate_left
        · intro w hSw; (try dsimp only at hSw); go_simp; all_goals (with_reducible rfl)
        try simp only [Act.put, List.setIfInBounds_toArray, List.set_cons_zero, List.set_cons_succ]
        refine wpAnyH_take (i := 12) (oi := { dst := Option.some 120, op := Go.Op.pick (Go.Operand.tmp 111) (Go.Operand.const (Go.Value.bool Bool.true)) (Go.Operand.tmp 119), type := 4, pos := "law.go:70", after := #[{ on := 3, ground := Go.Ground.data }, { on := 11, ground := Go.Ground.data }], guard := Option.none }) (v := ?_) rfl (by kernel_rfl) (by kernel_rfl) (by kernel_rfl) (fun _ _ _ h => h) (Or.inl ⟨by rfl, ?_⟩) (by assumption) ?_
        rotate_left
        · intro w hSw; (try dsimp only at hSw); go_simp; all_goals (with_reducible rfl)
        try simp only [Act.put, List.setIfInBounds_toArray, List.set_cons_zero, List.set_cons_succ]
        refine wpAnyH_take (i := 13) (oi := { dst := Option.some 121, op := Go.Op.move (Go.Operand.tmp 120), type := 4, pos := "law.go:70", after := #[{ on := 12, ground := Go.Ground.data }, { on := 7, ground := Go.Ground.chain }], guard := Option.none }) (v := ?_) rfl (by kernel_rfl) (by kernel_rfl) (by kernel_rfl) (fun _ _ _ h => h) (Or.inl ⟨by rfl, ?_⟩) (by assumption) ?_
        rotate_left
        · intro w hSw; (try dsimp only at hSw); go_simp; all_goals (with_reducible rfl)
        try simp only [Act.put, List.setIfInBounds_toArray, List.set_cons_zero, List.set_cons_succ]
        refine wpAnyH_take (i := 14) (oi := { dst := Option.some 122, op := Go.Op.move (Go.Operand.tmp 5), type := 24, pos := "law.go:70", after := #[{ on := 13, ground := Go.Ground.guard }], guard := Option.some (13, Bool.false) }) (v := ?_) rfl (by kernel_rfl) (by kernel_rfl) (by kernel_rfl) (fun _ _ _ h => h) (Or.inl ⟨by rfl, ?_⟩) (by assumption) ?_
        rotate_left
        · intro w hSw; (try dsimp only at hSw); go_simp; all_goals (with_reducible rfl)
        try simp only [Act.put, List.setIfInBounds_toArray, List.set_cons_zero, List.set_cons_succ]
        refine wpAnyH_take (i := 15) (oi := { dst := Option.some 123, op := Go.Op.nilCheck (Go.Operand.tmp 122), type := 0, pos := "law.go:70", after := #[{ on := 14, ground := Go.Ground.data }, { on := 13, ground := Go.Ground.guard }], guard := Option.some (13, Bool.false) }) (v := ?_) rfl (by kernel_rfl) (by kernel_rfl) (by kernel_rfl) (fun _ _ _ h => h) (Or.inl ⟨by rfl, ?_⟩) (by assumption) ?_
        rotate_left
        · intro w hSw; (try dsimp only at hSw); go_simp; all_goals (with_reducible rfl)
        try simp only [Act.put, List.setIfInBounds_toArray, List.set_cons_zero, List.set_cons_succ]
        refine wpAnyH_take (i := 16) (oi := { dst := Option.some 124, op := Go.Op.fieldAddr 47 (Go.Operand.tmp 123) 0, type := 0, pos := "law.go:70", after := #[{ on := 15, ground := Go.Ground.data }, { on := 13, ground := Go.Ground.guard }], guard := Option.some (13, Bool.false) }) (v := ?_) rfl (by kernel_rfl) (by kernel_rfl) (by kernel_rfl) (fun _ _ _ h => h) (Or.inl ⟨by rfl, ?_⟩) (by assumption) ?_
        rotate_left
        · intro w hSw; (try dsimp only at hSw); go_simp; all_goals (with_reducible rfl)
        try simp only [Act.put, List.setIfInBounds_toArray, List.set_cons_zero, List.set_cons_succ]
        refine wpAnyH_take (i := 18) (oi := { dst := Option.some 126, op := Go.Op.fieldAddr 30 (Go.Operand.tmp 8) 0, type := 0, pos := "law.go:70", after := #[{ on := 13, ground := Go.Ground.guard }], guard := Option.some (13, Bool.false) }) (v := ?_) rfl (by kernel_rfl) (by kernel_rfl) (by kernel_rfl) (fun _ _ _ h => h) (Or.inl ⟨by rfl, ?_⟩) (by assumption) ?_
        rotate_left
        · intro w hSw; (try dsimp only at hSw); go_simp; all_goals (with_reducible rfl)
        try simp only [Act.put, List.setIfInBounds_toArray, List.set_cons_zero, List.set_cons_succ]
        refine wpAnyH_take (i := 19) (oi := { dst := Option.some 127, op := Go.Op.load 9 (Go.Operand.tmp 126), type := 9, pos := "law.go:70", after := #[{ on := 18, ground := Go.Ground.data }, { on := 13, ground := Go.Ground.guard }], guard := Option.some (13, Bool.false) }) (v := ?_) rfl (by kernel_rfl) (by kernel_rfl) (by kernel_rfl) (fun _ _ _ h => h) (Or.inl ⟨by rfl, ?_⟩) (by assumption) ?_
        rotate_left
        · intro w hSw; (try dsimp only at hSw); go_simp; all_goals (with_reducible rfl)
        try simp only [Act.put, List.setIfInBounds_toArray, List.set_cons_zero, List.set_cons_succ]
        refine wpAnyH_take (i := 20) (oi := { dst := Option.some 128, op := Go.Op.call { callee := Go.Callee.builtin Go.Builtin.len, args := #[Go.Operand.tmp 127], argTypes := #[9] }, type := 3, pos := "law.go:70", after := #[{ on := 19, ground := Go.Ground.data }, { on := 13, ground := Go.Ground.guard }], guard := Option.some (13, Bool.false) }) (v := ?_) rfl (by kernel_rfl) (by kernel_rfl) (by kernel_rfl) (fun _ _ _ h => h) (Or.inl ⟨by rfl, ?_⟩) (by assumption) ?_
        rotate_left
        · intro w hSw; (try dsimp only at hSw); go_simp; all_goals (with_reducible rfl)
        try simp only [Act.put, List.setIfInBounds_toArray, List.set_cons_zero, List.set_cons_succ]
        refine wpAnyH_ready (rs := [17]) (by kernel_rfl) (by simp) ?_
        refine AllReadyH.cons (o := { dst := Option.some 125, op := Go.Op.call { callee := Go.Callee.value (Go.Operand.func 21), args := #[Go.Operand.tmp 124], argTypes := #[45] }, type := 3, pos := "law.go:70", after := #[{ on := 16, ground := Go.Ground.data }, { on := 13, ground := Go.Ground.chain }, { on := 13, ground := Go.Ground.guard }], guard := Option.some (13, Bool.false) }) rfl (fun K hK => ?_) AllReadyH.nil
        go_simp
        refine (size_as (B := w.heap.size) (g := g) (d := p) (r := r) (v := v5) (xs := ws) _ hHeld.1.d (T.size : Int) (by rw [HT.out, strOfNums_size])).mono ?_
        rintro e w' ⟨rfl, rfl⟩
        go_wp2_with fail
        refine hK.out _ _ (hHeld) (fun hHeld => ?_)
        clear hK K
        try simp only [Act.put, List.setIfInBounds_toArray, List.set_cons_zero, List.set_cons_succ]
        refine wpAnyH_take (i := 21) (oi := { dst := Option.some 129, op := Go.Op.binOp Go.BinOp.neq 3 (Go.Operand.tmp 125) (Go.Operand.tmp 128) 3, type := 4, pos := "law.go:70", after := #[{ on := 17, ground := Go.Ground.data }, { on := 20, ground := Go.Ground.data }, { on := 13, ground := Go.Ground.guard }], guard := Option.some (13, Bool.false) }) (v := ?_) rfl (by kernel_rfl) (by kernel_rfl) (by kernel_rfl) (fun _ _ _ h => h) (Or.inl ⟨by rfl, ?_⟩) (by assumption) ?_
        rotate_left
        · intro w hSw; (try dsimp only at hSw); go_simp; all_goals (with_reducible rfl)
        try simp only [Act.put, List.setIfInBounds_toArray, List.set_cons_zero, List.set_cons_succ]
        refine wpAnyH_take (i := 22) (oi := { dst := Option.some 130, op := Go.Op.pick (Go.Operand.tmp 121) (Go.Operand.const (Go.Value.bool Bool.true)) (Go.Operand.tmp 129), type := 4, pos := "law.go:70", after := #[{ on := 13, ground := Go.Ground.data }, { on := 21, ground := Go.Ground.data }], guard := Option.none }) (v := ?_) rfl (by kernel_rfl) (by kernel_rfl) (by kernel_rfl) (fun _ _ _ h => h) (Or.inl ⟨by rfl, ?_⟩) (by assumption) ?_
        rotate_left
        · intro w hSw; (try dsimp only at hSw); go_simp; all_goals (with_reducible rfl)
        try simp only [Act.put, List.setIfInBounds_toArray, List.set_cons_zero, List.set_cons_succ]
        refine wpAnyH_take (i := 23) (oi := { dst := Option.some 131, op := Go.Op.move (Go.Operand.tmp 130), type := 4, pos := "law.go:70", after := #[{ on := 22, ground := Go.Ground.data }, { on := 17, ground := Go.Ground.chain }], guard := Option.none }) (v := ?_) rfl (by kernel_rfl) (by kernel_rfl) (by kernel_rfl) (fun _ _ _ h => h) (Or.inl ⟨by rfl, ?_⟩) (by assumption) ?_
        rotate_left
        · intro w hSw; (try dsimp only at hSw); go_simp; all_goals (with_reducible rfl)
        try simp only [Act.put, List.setIfInBounds_toArray, List.set_cons_zero, List.set_cons_succ]
        refine wpAnyH_take (i := 24) (oi := { dst := Option.some 132, op := Go.Op.move (Go.Operand.tmp 5), type := 24, pos := "law.go:70", after := #[{ on := 23, ground := Go.Ground.guard }], guard := Option.some (23, Bool.false) }) (v := ?_) rfl (by kernel_rfl) (by kernel_rfl) (by kernel_rfl) (fun _ _ _ h => h) (Or.inl ⟨by rfl, ?_⟩) (by assumption) ?_
        rotate_left
        · intro w hSw; (try dsimp only at hSw); go_simp; all_goals (with_reducible rfl)
        try simp only [Act.put, List.setIfInBounds_toArray, List.set_cons_zero, List.set_cons_succ]
        refine wpAnyH_take (i := 25) (oi := { dst := Option.some 133, op := Go.Op.nilCheck (Go.Operand.tmp 132), type := 0, pos := "law.go:70", after := #[{ on := 24, ground := Go.Ground.data }, { on := 23, ground := Go.Ground.guard }], guard := Option.some (23, Bool.false) }) (v := ?_) rfl (by kernel_rfl) (by kernel_rfl) (by kernel_rfl) (fun _ _ _ h => h) (Or.inl ⟨by rfl, ?_⟩) (by assumption) ?_
        rotate_left
        · intro w hSw; (try dsimp only at hSw); go_simp; all_goals (with_reducible rfl)
        try simp only [Act.put, List.setIfInBounds_toArray, List.set_cons_zero, List.set_cons_succ]
        refine wpAnyH_take (i := 26) (oi := { dst := Option.some 134, op := Go.Op.fieldAddr 47 (Go.Operand.tmp 133) 0, type := 0, pos := "law.go:70", after := #[{ on := 25, ground := Go.Ground.data }, { on := 23, ground := Go.Ground.guard }], guard := Option.some (23, Bool.false) }) (v := ?_) rfl (by kernel_rfl) (by kernel_rfl) (by kernel_rfl) (fun _ _ _ h => h) (Or.inl ⟨by rfl, ?_⟩) (by assumption) ?_
        rotate_left
        · intro w hSw; (try dsimp only at hSw); go_simp; all_goals (with_reducible rfl)
        try simp only [Act.put, List.setIfInBounds_toArray, List.set_cons_zero, List.set_cons_succ]
        refine wpAnyH_take (i := 28) (oi := { dst := Option.some 136, op := Go.Op.fieldAddr 30 (Go.Operand.tmp 8) 1, type := 0, pos := "law.go:70", after := #[{ on := 23, ground := Go.Ground.guard }], guard := Option.some (23, Bool.false) }) (v := ?_) rfl (by kernel_rfl) (by kernel_rfl) (by kernel_rfl) (fun _ _ _ h => h) (Or.inl ⟨by rfl, ?_⟩) (by assumption) ?_
        rotate_left
        · intro w hSw; (try dsimp only at hSw); go_simp; all_goals (with_reducible rfl)
        try simp only [Act.put, List.setIfInBounds_toArray, List.set_cons_zero, List.set_cons_succ]
        refine wpAnyH_take (i := 29) (oi := { dst := Option.some 137, op := Go.Op.load 3 (Go.Operand.tmp 136), type := 3, pos := "law.go:70", after := #[{ on := 28, ground := Go.Ground.data }, { on := 23, ground := Go.Ground.guard }], guard := Option.some (23, Bool.false) }) (v := ?_) rfl (by kernel_rfl) (by kernel_rfl) (by kernel_rfl) (fun _ _ _ h => h) (Or.inl ⟨by rfl, ?_⟩) (by assumption) ?_
        rotate_left
        · intro w hSw; (try dsimp only at hSw); go_simp; all_goals (with_reducible rfl)
        try simp only [Act.put, List.setIfInBounds_toArray, List.set_cons_zero, List.set_cons_succ]
        refine wpAnyH_ready (rs := [27]) (by kernel_rfl) (by simp) ?_
        refine AllReadyH.cons (o := { dst := Option.some 135, op := Go.Op.call { callee := Go.Callee.value (Go.Operand.func 22), args := #[Go.Operand.tmp 134], argTypes := #[45] }, type := 3, pos := "law.go:70", after := #[{ on := 26, ground := Go.Ground.data }, { on := 23, ground := Go.Ground.chain }, { on := 23, ground := Go.Ground.guard }], guard := Option.some (23, Bool.false) }) rfl (fun K hK => ?_) AllReadyH.nil
        go_simp
        refine (durable_any (B := w.heap.size) (g := g) (d := p) (r := r) (v := v5) (xs := ws) _ hHeld.1.d).mono ?_
        rintro e w' ⟨rfl, rfl⟩
        go_wp2_with fail
        refine hK.out _ _ (hHeld) (fun hHeld => ?_)
        clear hK K
        try simp only [Act.put, List.setIfInBounds_toArray, List.set_cons_zero, List.set_cons_succ]
        refine wpAnyH_take (i := 30) (oi := { dst := Option.some 138, op := Go.Op.binOp Go.BinOp.neq 3 (Go.Operand.tmp 135) (Go.Operand.tmp 137) 3, type := 4, pos := "law.go:70", after := #[{ on := 27, ground := Go.Ground.data }, { on := 29, ground := Go.Ground.data }, { on := 23, ground := Go.Ground.guard }], guard := Option.some (23, Bool.false) }) (v := ?_) rfl (by kernel_rfl) (by kernel_rfl) (by kernel_rfl) (fun _ _ _ h => h) (Or.inl ⟨by rfl, ?_⟩) (by assumption) ?_
        rotate_left
        · intro w hSw; (try dsimp only at hSw); go_simp; all_goals (with_reducible rfl)
        try simp only [Act.put, List.setIfInBounds_toArray, List.set_cons_zero, List.set_cons_succ]
        refine wpAnyH_take (i := 31) (oi := { dst := Option.some 139, op := Go.Op.pick (Go.Operand.tmp 131) (Go.Operand.const (Go.Value.bool Bool.true)) (Go.Operand.tmp 138), type := 4, pos := "law.go:70", after := #[{ on := 23, ground := Go.Ground.data }, { on := 30, ground := Go.Ground.data }], guard := Option.none }) (v := ?_) rfl (by kernel_rfl) (by kernel_rfl) (by kernel_rfl) (fun _ _ _ h => h) (Or.inl ⟨by rfl, ?_⟩) (by assumption) ?_
        rotate_left
        · intro w hSw; (try dsimp only at hSw); go_simp; all_goals (with_reducible rfl)
        try simp only [Act.put, List.setIfInBounds_toArray, List.set_cons_zero, List.set_cons_succ]
        refine wpAnyH_take (i := 32) (oi := { dst := Option.some 140, op := Go.Op.move (Go.Operand.tmp 139), type := 4, pos := "law.go:70", after := #[{ on := 31, ground := Go.Ground.data }, { on := 27, ground := Go.Ground.chain }], guard := Option.none }) (v := ?_) rfl (by kernel_rfl) (by kernel_rfl) (by kernel_rfl) (fun _ _ _ h => h) (Or.inl ⟨by rfl, ?_⟩) (by assumption) ?_
        rotate_left
        · intro w hSw; (try dsimp only at hSw); go_simp; all_goals (with_reducible rfl)
        try simp only [Act.put, List.setIfInBounds_toArray, List.set_cons_zero, List.set_cons_succ]
        refine wpAnyH_take (i := 33) (oi := { dst := Option.some 141, op := Go.Op.move (Go.Operand.tmp 5), type := 24, pos := "law.go:70", after := #[{ on := 32, ground := Go.Ground.guard }], guard := Option.some (32, Bool.false) }) (v := ?_) rfl (by kernel_rfl) (by kernel_rfl) (by kernel_rfl) (fun _ _ _ h => h) (Or.inl ⟨by rfl, ?_⟩) (by assumption) ?_
        rotate_left
        · intro w hSw; (try dsimp only at hSw); go_simp; all_goals (with_reducible rfl)
        try simp only [Act.put, List.setIfInBounds_toArray, List.set_cons_zero, List.set_cons_succ]
        refine wpAnyH_take (i := 35) (oi := { dst := Option.some 143, op := Go.Op.fieldAddr 30 (Go.Operand.tmp 8) 2, type := 0, pos := "law.go:70", after := #[{ on := 32, ground := Go.Ground.guard }], guard := Option.some (32, Bool.false) }) (v := ?_) rfl (by kernel_rfl) (by kernel_rfl) (by kernel_rfl) (fun _ _ _ h => h) (Or.inl ⟨by rfl, ?_⟩) (by assumption) ?_
        rotate_left
        · intro w hSw; (try dsimp only at hSw); go_simp; all_goals (with_reducible rfl)
        try simp only [Act.put, List.setIfInBounds_toArray, List.set_cons_zero, List.set_cons_succ]
        refine wpAnyH_take (i := 36) (oi := { dst := Option.some 144, op := Go.Op.load 3 (Go.Operand.tmp 143), type := 3, pos := "law.go:70", after := #[{ on := 35, ground := Go.Ground.data }, { on := 32, ground := Go.Ground.guard }], guard := Option.some (32, Bool.false) }) (v := ?_) rfl (by kernel_rfl) (by kernel_rfl) (by kernel_rfl) (fun _ _ _ h => h) (Or.inl ⟨by rfl, ?_⟩) (by assumption) ?_
        rotate_left
        · intro w hSw; (try dsimp only at hSw); go_simp; all_goals (with_reducible rfl)
        try simp only [Act.put, List.setIfInBounds_toArray, List.set_cons_zero, List.set_cons_succ]
        refine wpAnyH_take (i := 37) (oi := { dst := Option.some 145, op := Go.Op.fieldAddr 30 (Go.Operand.tmp 8) 0, type := 0, pos := "law.go:70", after := #[{ on := 32, ground := Go.Ground.guard }], guard := Option.some (32, Bool.false) }) (v := ?_) rfl (by kernel_rfl) (by kernel_rfl) (by kernel_rfl) (fun _ _ _ h => h) (Or.inl ⟨by rfl, ?_⟩) (by assumption) ?_
        rotate_left
        · intro w hSw; (try dsimp only at hSw); go_simp; all_goals (with_reducible rfl)
        try simp only [Act.put, List.setIfInBounds_toArray, List.set_cons_zero, List.set_cons_succ]
        refine wpAnyH_take (i := 38) (oi := { dst := Option.some 146, op := Go.Op.load 9 (Go.Operand.tmp 145), type := 9, pos := "law.go:70", after := #[{ on := 37, ground := Go.Ground.data }, { on := 32, ground := Go.Ground.guard }], guard := Option.some (32, Bool.false) }) (v := ?_) rfl (by kernel_rfl) (by kernel_rfl) (by kernel_rfl) (fun _ _ _ h => h) (Or.inl ⟨by rfl, ?_⟩) (by assumption) ?_
        rotate_left
        · intro w hSw; (try dsimp only at hSw); go_simp; all_goals (with_reducible rfl)
        try simp only [Act.put, List.setIfInBounds_toArray, List.set_cons_zero, List.set_cons_succ]
        refine wpAnyH_take (i := 39) (oi := { dst := Option.some 147, op := Go.Op.call { callee := Go.Callee.builtin Go.Builtin.len, args := #[Go.Operand.tmp 146], argTypes := #[9] }, type := 3, pos := "law.go:70", after := #[{ on := 38, ground := Go.Ground.data }, { on := 32, ground := Go.Ground.guard }], guard := Option.some (32, Bool.false) }) (v := ?_) rfl (by kernel_rfl) (by kernel_rfl) (by kernel_rfl) (fun _ _ _ h => h) (Or.inl ⟨by rfl, ?_⟩) (by assumption) ?_
        rotate_left
        · intro w hSw; (try dsimp only at hSw); go_simp; all_goals (with_reducible rfl)
        try simp only [Act.put, List.setIfInBounds_toArray, List.set_cons_zero, List.set_cons_succ]
        refine wpAnyH_take (i := 40) (oi := { dst := Option.some 148, op := Go.Op.binOp Go.BinOp.sub 3 (Go.Operand.tmp 144) (Go.Operand.tmp 147) 3, type := 3, pos := "law.go:70", after := #[{ on := 36, ground := Go.Ground.data }, { on := 39, ground := Go.Ground.data }, { on := 32, ground := Go.Ground.guard }], guard := Option.some (32, Bool.false) }) (v := ?_) rfl (by kernel_rfl) (by kernel_rfl) (by kernel_rfl) (fun _ _ _ h => h) (Or.inl ⟨by rfl, ?_⟩) (by assumption) ?_
        rotate_left
        · intro w hSw; (try dsimp only at hSw); go_simp; all_goals (with_reducible rfl)
        try simp only [Act.put, List.setIfInBounds_toArray, List.set_cons_zero, List.set_cons_succ]
        refine wpAnyH_ready (rs := [34]) (by kernel_rfl) (by simp) ?_
        refine AllReadyH.cons (o := { dst := Option.some 142, op := Go.Op.call { callee := Go.Callee.value (Go.Operand.func 23), args := #[Go.Operand.tmp 141], argTypes := #[24] }, type := 3, pos := "law.go:70", after := #[{ on := 33, ground := Go.Ground.data }, { on := 32, ground := Go.Ground.chain }, { on := 32, ground := Go.Ground.guard }], guard := Option.some (32, Bool.false) }) rfl (fun K hK => ?_) AllReadyH.nil
        go_simp
        refine (left_any (B := w.heap.size) (g := g) (d := p) (r := r) (v := v5) (xs := ws) _ hHeld.1.d).mono ?_
        rintro e w' ⟨rfl, qd, rfl⟩
        rw [HL2.out]
        have hF9 := Lib.hid (hHeld.1.below (below_drewN _ qd))
        clear hHeld
        go_wp2_with fail
        refine hK.out _ _ (⟨hF9.out, hF9.out.cells⟩) (fun hHeld => ?_)
        clear hK K
        try simp only [Act.put, List.setIfInBounds_toArray, List.set_cons_zero, List.set_cons_succ]
        refine wpAnyH_take (i := 41) (oi := { dst := Option.some 149, op := Go.Op.binOp Go.BinOp.neq 3 (Go.Operand.tmp 142) (Go.Operand.tmp 148) 3, type := 4, pos := "law.go:70", after := #[{ on := 34, ground := Go.Ground.data }, { on := 40, ground := Go.Ground.data }, { on := 32, ground := Go.Ground.guard }], guard := Option.some (32, Bool.false) }) (v := ?_) rfl (by kernel_rfl) (by kernel_rfl) (by kernel_rfl) (fun _ _ _ h => h) (Or.inl ⟨by rfl, ?_⟩) (by assumption) ?_
        rotate_left
        · intro w hSw; (try dsimp only at hSw); go_simp; all_goals (with_reducible rfl)
        try simp only [Act.put, List.setIfInBounds_toArray, List.set_cons_zero, List.set_cons_succ]
        refine wpAnyH_take (i := 42) (oi := { dst := Option.some 150, op := Go.Op.pick (Go.Operand.tmp 140) (Go.Operand.const (Go.Value.bool Bool.true)) (Go.Operand.tmp 149), type := 4, pos := "law.go:70", after := #[{ on := 32, ground := Go.Ground.data }, { on := 41, ground := Go.Ground.data }], guard := Option.none }) (v := ?_) rfl (by kernel_rfl) (by kernel_rfl) (by kernel_rfl) (fun _ _ _ h => h) (Or.inl ⟨by rfl, ?_⟩) (by assumption) ?_
        rotate_left
        · intro w hSw; (try dsimp only at hSw); go_simp; all_goals (with_reducible rfl)
        try simp only [Act.put, List.setIfInBounds_toArray, List.set_cons_zero, List.set_cons_succ]
        refine wpAnyH_done (by kernel_rfl) ?_ _
        have HF := Lib.hid hHeld.1
        clear hHeld
        go_wp2
        go_roundw
        case rel => exact ⟨k + 1, g, p, v5, ws, by omega, by go_num, rfl, by rw [← HT.out]; exact HF.out⟩
        case measure => simp [intOf]; omega
      · have hp0 : PS w (wr.alloc (.cells #[.int .i64 3, .slice ua m uc, .int .i64 kk] 33)) gw g v (strOfNums xs) xs d r := HP.out.below (below_alloc _ _)
        have ho0 : Whole (wr.alloc (.cells #[.int .i64 3, .slice ua m uc, .int .i64 kk] 33)) wr.heap.size 33 #[.int .i64 3, .slice ua m uc, .int .i64 kk] := heap_alloc_new wr _
        have hsz0 : (wr.alloc (.cells #[.int .i64 3, .slice ua m uc, .int .i64 kk] 33)).heap.size = wr.heap.size + 1 := by simp
        have HP0 := Lib.hid hp0
        have HO0 := Lib.hid ho0
        clear hp0 ho0
        by_cases hkl : 0 ≤ kk ∧ kk ≤ (xs.length : Int)
        · obtain ⟨p, rfl⟩ : ∃ p : Nat, kk = (p : Int) := ⟨kk.toNat, by omega⟩
          have hpl : p ≤ xs.length := by omega
          clear hkl
          go_wp2_with fail
          refine (trunc_good p _ HP0.out.d hpl).mono ?_
          rintro e w5 ⟨rfl, v5, hd5, ht5, _⟩
          have hm5 := HP0.out.m.stays HP0.out.d ht5 (.inr rfl) (by decide) (by decide)
          have ho5 := HO0.out.stays HP0.out.d ht5 (.inr rfl) (by decide) (by decide)
          have hb5 := HP0.out.b.trans (HP0.out.d.turned0 ht5 HP0.out.b.size)
          obtain ⟨a0, a1, a2, e0, e1, e2⟩ := three_cells hm5
          have o1 : w5.cell? ⟨wr.heap.size, 1, none⟩ = some (.slice ua m uc) := by rw [ho5.cell]; rfl
          have o2 : w5.cell? ⟨wr.heap.size, 2, none⟩ = some (.int .i64 p) := by rw [ho5.cell]; rfl
          obtain ⟨S, hS⟩ : ∃ S, S = strOfNums xs := ⟨_, rfl⟩
          rw [← hS] at hm5 a0
          have hsl : S.size = xs.length := by rw [hS, strOfNums_size]
          have hdr := hd5.hr
          have hdm := hd5.hm
          obtain ⟨T, hT⟩ : ∃ T, T = S.extract 0 p := ⟨_, rfl⟩
          have HT : Hid (T = strOfNums (xs.take p)) := Lib.hid (by rw [hT, hS, str_sub]; simp)
          have hra := rtrunc_good S d r p w5 (by omega)
          rw [← hT] at hra
          clear hT
          have HRA := Lib.hid hra
          have HM5 := Lib.hid hm5
          have HD5 := Lib.hid hd5
          have HB5 := Lib.hid hb5
          clear hm5 ho5 hb5 hd5 ht5 hS hsl hra hdr hdm
          go_wp2_with fail
          refine HRA.out.mono ?_
          rintro e w6 ⟨rfl, hb6⟩
          have hm6 := HM5.out.kept (hb6.block _ HM5.out.lt)
          have hb6' := HB5.out.trans (hb6.mono HB5.out.size)
          obtain ⟨b0, b1, b2, g0, g1, g2⟩ := three_cells hm6
          have HQ := Lib.hid (PS.write (T := T) (HD5.out.below hb6) hm6 hb6' HP.out.ge)
          clear hm6 hb6 hb6'
          unfold RD
          go_wp2_with fail
          generalize ((w6.setCell ⟨gw, 0, none⟩ (.string T)).setCell ⟨gw, 1, none⟩ (.int .i64 p)).setCell ⟨gw, 2, none⟩ (.int .i64 r) = w9 at *
          clear a0 a1 a2 e0 e1 e2 o1 o2 b0 b1 b2 g0 g1 g2 c0 c1 c2 hsz0
          obtain ⟨ws, hws⟩ : ∃ ws, ws = xs.take p := ⟨_, rfl⟩
          rw [← hws] at HQ HT
          clear hws
          have hTT : (T.toList == T.toList) = true := by simp
          have hTN : (T.toList != T.toList) = false := by simp
          have hl2 : ((r - (ws).length : Nat) : Int) = (r : Int) - (T.size : Int) := by have h1 := HQ.out.d.hr; have h2 := congrArg ByteArray.size HT.out; rw [strOfNums_size] at h2; omega
          have hwr : IntKind.i64.wrap ((r : Int) - (T.size : Int)) = (r : Int) - (T.size : Int) := by have h1 := HQ.out.d.hr; have h2 := congrArg ByteArray.size HT.out; rw [strOfNums_size] at h2; exact IntWalk.i64_in _ (by omega)
          have HL2 := Lib.hid hl2
          clear hl2
          refine wp_region_held_drew (S := fun W => PS w W gw g v5 T ws p r ∧ W.cell? ⟨gw, 0, none⟩ = some (.string T) ∧ W.cell? ⟨gw, 1, none⟩ = some (.int .i64 p) ∧ W.cell? ⟨gw, 2, none⟩ = some (.int .i64 r)) (by kernel_rfl) ⟨HQ.out.below (below_drewN _ 1), (HQ.out.below (below_drewN _ 1)).cells⟩ (fun hHeld => ?_)
          refine wpAnyH_take (i := 0) (oi := { dst := Option.some 108, op := Go.Op.move (Go.Operand.tmp 11), type := 25, pos := "law.go:70", after := #[], guard := Option.none }) (v := ?_) rfl (by kernel_rfl) (by kernel_rfl) (by kernel_rfl) (fun _ _ _ h => h) (Or.inl ⟨by rfl, ?_⟩) (by assumption) ?_
          rotate_left
          · intro w hSw; (try dsimp only at hSw); go_simp; all_goals (with_reducible rfl)
          try simp only [Act.put, List.setIfInBounds_toArray, List.set_cons_zero, List.set_cons_succ]
          refine wpAnyH_take (i := 1) (oi := { dst := Option.some 109, op := Go.Op.move (Go.Operand.tmp 12), type := 3, pos := "law.go:70", after := #[], guard := Option.none }) (v := ?_) rfl (by kernel_rfl) (by kernel_rfl) (by kernel_rfl) (fun _ _ _ h => h) (Or.inl ⟨by rfl, ?_⟩) (by assumption) ?_
          rotate_left
          · intro w hSw; (try dsimp only at hSw); go_simp; all_goals (with_reducible rfl)
          try simp only [Act.put, List.setIfInBounds_toArray, List.set_cons_zero, List.set_cons_succ]
          refine wpAnyH_take (i := 2) (oi := { dst := Option.some 110, op := Go.Op.binOp Go.BinOp.neq 3 (Go.Operand.tmp 108) (Go.Operand.tmp 109) 3, type := 4, pos := "law.go:70", after := #[{ on := 0, ground := Go.Ground.data }, { on := 1, ground := Go.Ground.data }], guard := Option.none }) (v := ?_) rfl (by kernel_rfl) (by kernel_rfl) (by kernel_rfl) (fun _ _ _ h => h) (Or.inl ⟨by rfl, ?_⟩) (by assumption) ?_
          rotate_left
          · intro w hSw; (try dsimp only at hSw); go_simp; all_goals (with_reducible rfl)
          try simp only [Act.put, List.setIfInBounds_toArray, List.set_cons_zero, List.set_cons_succ]
          refine wpAnyH_take (i := 3) (oi := { dst := Option.some 111, op := Go.Op.move (Go.Operand.tmp 110), type := 4, pos := "law.go:70", after := #[{ on := 2, ground := Go.Ground.data }], guard := Option.none }) (v := ?_) rfl (by kernel_rfl) (by kernel_rfl) (by kernel_rfl) (fun _ _ _ h => h) (Or.inl ⟨by rfl, ?_⟩) (by assumption) ?_
          rotate_left
          · intro w hSw; (try dsimp only at hSw); go_simp; all_goals (with_reducible rfl)
          try simp only [Act.put, List.setIfInBounds_toArray, List.set_cons_zero, List.set_cons_succ]
          refine wpAnyH_take (i := 4) (oi := { dst := Option.some 112, op := Go.Op.move (Go.Operand.tmp 5), type := 24, pos := "law.go:70", after := #[{ on := 3, ground := Go.Ground.guard }], guard := Option.some (3, Bool.false) }) (v := ?_) rfl (by kernel_rfl) (by kernel_rfl) (by kernel_rfl) (fun _ _ _ h => h) (Or.inl ⟨by rfl, ?_⟩) (by assumption) ?_
          rotate_left
          · intro w hSw; (try dsimp only at hSw); go_simp; all_goals (with_reducible rfl)
          try simp only [Act.put, List.setIfInBounds_toArray, List.set_cons_zero, List.set_cons_succ]
          refine wpAnyH_take (i := 5) (oi := { dst := Option.some 113, op := Go.Op.nilCheck (Go.Operand.tmp 112), type := 0, pos := "law.go:70", after := #[{ on := 4, ground := Go.Ground.data }, { on := 3, ground := Go.Ground.guard }], guard := Option.some (3, Bool.false) }) (v := ?_) rfl (by kernel_rfl) (by kernel_rfl) (by kernel_rfl) (fun _ _ _ h => h) (Or.inl ⟨by rfl, ?_⟩) (by assumption) ?_
          rotate_left
          · intro w hSw; (try dsimp only at hSw); go_simp; all_goals (with_reducible rfl)
          try simp only [Act.put, List.setIfInBounds_toArray, List.set_cons_zero, List.set_cons_succ]
          refine wpAnyH_take (i := 6) (oi := { dst := Option.some 114, op := Go.Op.fieldAddr 47 (Go.Operand.tmp 113) 0, type := 0, pos := "law.go:70", after := #[{ on := 5, ground := Go.Ground.data }, { on := 3, ground := Go.Ground.guard }], guard := Option.some (3, Bool.false) }) (v := ?_) rfl (by kernel_rfl) (by kernel_rfl) (by kernel_rfl) (fun _ _ _ h => h) (Or.inl ⟨by rfl, ?_⟩) (by assumption) ?_
          rotate_left
          · intro w hSw; (try dsimp only at hSw); go_simp; all_goals (with_reducible rfl)
          try simp only [Act.put, List.setIfInBounds_toArray, List.set_cons_zero, List.set_cons_succ]
          refine wpAnyH_take (i := 9) (oi := { dst := Option.some 117, op := Go.Op.fieldAddr 30 (Go.Operand.tmp 8) 0, type := 0, pos := "law.go:70", after := #[{ on := 3, ground := Go.Ground.guard }], guard := Option.some (3, Bool.false) }) (v := ?_) rfl (by kernel_rfl) (by kernel_rfl) (by kernel_rfl) (fun _ _ _ h => h) (Or.inl ⟨by rfl, ?_⟩) (by assumption) ?_
          rotate_left
          · intro w hSw; (try dsimp only at hSw); go_simp; all_goals (with_reducible rfl)
          try simp only [Act.put, List.setIfInBounds_toArray, List.set_cons_zero, List.set_cons_succ]
          refine wpAnyH_take (i := 10) (oi := { dst := Option.some 118, op := Go.Op.load 9 (Go.Operand.tmp 117), type := 9, pos := "law.go:70", after := #[{ on := 9, ground := Go.Ground.data }, { on := 3, ground := Go.Ground.guard }], guard := Option.some (3, Bool.false) }) (v := ?_) rfl (by kernel_rfl) (by kernel_rfl) (by kernel_rfl) (fun _ _ _ h => h) (Or.inl ⟨by rfl, ?_⟩) (by assumption) ?_
          rotate_left
          · intro w hSw; (try dsimp only at hSw); go_simp; all_goals (with_reducible rfl)
          try simp only [Act.put, List.setIfInBounds_toArray, List.set_cons_zero, List.set_cons_succ]
          refine wpAnyH_ready (rs := [7]) (by kernel_rfl) (by simp) ?_
          refine AllReadyH.cons (o := { dst := Option.some 115, op := Go.Op.call { callee := Go.Callee.value (Go.Operand.func 20), args := #[Go.Operand.tmp 114], argTypes := #[45] }, type := 31, pos := "law.go:70", after := #[{ on := 6, ground := Go.Ground.data }, { on := 3, ground := Go.Ground.chain }, { on := 3, ground := Go.Ground.guard }], guard := Option.some (3, Bool.false) }) rfl (fun K hK => ?_) AllReadyH.nil
          go_simp
          refine (bytes_any (B := w.heap.size) (g := g) (d := p) (r := r) (v := v5) (xs := ws) _ hHeld.1.d).mono ?_
          rintro e w8 ⟨u2, rfl, hown8, hb8⟩
          obtain ⟨ua2, uc2, rfl, hui, _⟩ := owned_slice hown8 hHeld.1.d.byte
          have hcu := hui.str uc2
          rw [← HT.out] at hcu
          have hF8 := Lib.hid (hHeld.1.below hb8)
          clear hown8 hb8 hui hHeld
          go_wp2_with fail
          refine hK.out _ _ (⟨hF8.out, hF8.out.cells⟩) (fun hHeld => ?_)
          clear hK K
          try simp only [Act.put, List.setIfInBounds_toArray, List.set_cons_zero, List.set_cons_succ]
          refine wpAnyH_ready (rs := [8]) (by kernel_rfl) (by simp) ?_
          refine AllReadyH.cons (o := { dst := Option.some 116, op := Go.Op.convert 31 9 (Go.Operand.tmp 115), type := 9, pos := "law.go:70", after := #[{ on := 7, ground := Go.Ground.data }, { on := 3, ground := Go.Ground.guard }], guard := Option.some (3, Bool.false) }) rfl (fun K hK => ?_) AllReadyH.nil
          go_simp
          refine hK.out _ _ (hHeld) (fun hHeld => ?_)
          clear hK K
          try simp only [Act.put, List.setIfInBounds_toArray, List.set_cons_zero, List.set_cons_succ]
          refine wpAnyH_take (i := 11) (oi := { dst := Option.some 119, op := Go.Op.binOp Go.BinOp.neq 9 (Go.Operand.tmp 116) (Go.Operand.tmp 118) 9, type := 4, pos := "law.go:70", after := #[{ on := 8, ground := Go.Ground.data }, { on := 10, ground := Go.Ground.data }, { on := 3, ground := Go.Ground.guard }], guard := Option.some (3, Bool.false) }) (v := ?_) rfl (by kernel_rfl) (by kernel_rfl) (by kernel_rfl) (fun _ _ _ h => h) (Or.inl ⟨by rfl, ?_⟩) (by assumption) ?_
          rotate_left
          · intro w hSw; (try dsimp only at hSw); go_simp; all_goals (with_reducible rfl)
          try simp only [Act.put, List.setIfInBounds_toArray, List.set_cons_zero, List.set_cons_succ]
          refine wpAnyH_take (i := 12) (oi := { dst := Option.some 120, op := Go.Op.pick (Go.Operand.tmp 111) (Go.Operand.const (Go.Value.bool Bool.true)) (Go.Operand.tmp 119), type := 4, pos := "law.go:70", after := #[{ on := 3, ground := Go.Ground.data }, { on := 11, ground := Go.Ground.data }], guard := Option.none }) (v := ?_) rfl (by kernel_rfl) (by kernel_rfl) (by kernel_rfl) (fun _ _ _ h => h) (Or.inl ⟨by rfl, ?_⟩) (by assumption) ?_
          rotate_left
          · intro w hSw; (try dsimp only at hSw); go_simp; all_goals (with_reducible rfl)
          try simp only [Act.put, List.setIfInBounds_toArray, List.set_cons_zero, List.set_cons_succ]
          refine wpAnyH_take (i := 13) (oi := { dst := Option.some 121, op := Go.Op.move (Go.Operand.tmp 120), type := 4, pos := "law.go:70", after := #[{ on := 12, ground := Go.Ground.data }, { on := 7, ground := Go.Ground.chain }], guard := Option.none }) (v := ?_) rfl (by kernel_rfl) (by kernel_rfl) (by kernel_rfl) (fun _ _ _ h => h) (Or.inl ⟨by rfl, ?_⟩) (by assumption) ?_
          rotate_left
          · intro w hSw; (try dsimp only at hSw); go_simp; all_goals (with_reducible rfl)
          try simp only [Act.put, List.setIfInBounds_toArray, List.set_cons_zero, List.set_cons_succ]
          refine wpAnyH_take (i := 14) (oi := { dst := Option.some 122, op := Go.Op.move (Go.Operand.tmp 5), type := 24, pos := "law.go:70", after := #[{ on := 13, ground := Go.Ground.guard }], guard := Option.some (13, Bool.false) }) (v := ?_) rfl (by kernel_rfl) (by kernel_rfl) (by kernel_rfl) (fun _ _ _ h => h) (Or.inl ⟨by rfl, ?_⟩) (by assumption) ?_
          rotate_left
          · intro w hSw; (try dsimp only at hSw); go_simp; all_goals (with_reducible rfl)
          try simp only [Act.put, List.setIfInBounds_toArray, List.set_cons_zero, List.set_cons_succ]
          refine wpAnyH_take (i := 15) (oi := { dst := Option.some 123, op := Go.Op.nilCheck (Go.Operand.tmp 122), type := 0, pos := "law.go:70", after := #[{ on := 14, ground := Go.Ground.data }, { on := 13, ground := Go.Ground.guard }], guard := Option.some (13, Bool.false) }) (v := ?_) rfl (by kernel_rfl) (by kernel_rfl) (by kernel_rfl) (fun _ _ _ h => h) (Or.inl ⟨by rfl, ?_⟩) (by assumption) ?_
          rotate_left
          · intro w hSw; (try dsimp only at hSw); go_simp; all_goals (with_reducible rfl)
          try simp only [Act.put, List.setIfInBounds_toArray, List.set_cons_zero, List.set_cons_succ]
          refine wpAnyH_take (i := 16) (oi := { dst := Option.some 124, op := Go.Op.fieldAddr 47 (Go.Operand.tmp 123) 0, type := 0, pos := "law.go:70", after := #[{ on := 15, ground := Go.Ground.data }, { on := 13, ground := Go.Ground.guard }], guard := Option.some (13, Bool.false) }) (v := ?_) rfl (by kernel_rfl) (by kernel_rfl) (by kernel_rfl) (fun _ _ _ h => h) (Or.inl ⟨by rfl, ?_⟩) (by assumption) ?_
          rotate_left
          · intro w hSw; (try dsimp only at hSw); go_simp; all_goals (with_reducible rfl)
          try simp only [Act.put, List.setIfInBounds_toArray, List.set_cons_zero, List.set_cons_succ]
          refine wpAnyH_take (i := 18) (oi := { dst := Option.some 126, op := Go.Op.fieldAddr 30 (Go.Operand.tmp 8) 0, type := 0, pos := "law.go:70", after := #[{ on := 13, ground := Go.Ground.guard }], guard := Option.some (13, Bool.false) }) (v := ?_) rfl (by kernel_rfl) (by kernel_rfl) (by kernel_rfl) (fun _ _ _ h => h) (Or.inl ⟨by rfl, ?_⟩) (by assumption) ?_
          rotate_left
          · intro w hSw; (try dsimp only at hSw); go_simp; all_goals (with_reducible rfl)
          try simp only [Act.put, List.setIfInBounds_toArray, List.set_cons_zero, List.set_cons_succ]
          refine wpAnyH_take (i := 19) (oi := { dst := Option.some 127, op := Go.Op.load 9 (Go.Operand.tmp 126), type := 9, pos := "law.go:70", after := #[{ on := 18, ground := Go.Ground.data }, { on := 13, ground := Go.Ground.guard }], guard := Option.some (13, Bool.false) }) (v := ?_) rfl (by kernel_rfl) (by kernel_rfl) (by kernel_rfl) (fun _ _ _ h => h) (Or.inl ⟨by rfl, ?_⟩) (by assumption) ?_
          rotate_left
          · intro w hSw; (try dsimp only at hSw); go_simp; all_goals (with_reducible rfl)
          try simp only [Act.put, List.setIfInBounds_toArray, List.set_cons_zero, List.set_cons_succ]
          refine wpAnyH_take (i := 20) (oi := { dst := Option.some 128, op := Go.Op.call { callee := Go.Callee.builtin Go.Builtin.len, args := #[Go.Operand.tmp 127], argTypes := #[9] }, type := 3, pos := "law.go:70", after := #[{ on := 19, ground := Go.Ground.data }, { on := 13, ground := Go.Ground.guard }], guard := Option.some (13, Bool.false) }) (v := ?_) rfl (by kernel_rfl) (by kernel_rfl) (by kernel_rfl) (fun _ _ _ h => h) (Or.inl ⟨by rfl, ?_⟩) (by assumption) ?_
          rotate_left
          · intro w hSw; (try dsimp only at hSw); go_simp; all_goals (with_reducible rfl)
          try simp only [Act.put, List.setIfInBounds_toArray, List.set_cons_zero, List.set_cons_succ]
          refine wpAnyH_ready (rs := [17]) (by kernel_rfl) (by simp) ?_
          refine AllReadyH.cons (o := { dst := Option.some 125, op := Go.Op.call { callee := Go.Callee.value (Go.Operand.func 21), args := #[Go.Operand.tmp 124], argTypes := #[45] }, type := 3, pos := "law.go:70", after := #[{ on := 16, ground := Go.Ground.data }, { on := 13, ground := Go.Ground.chain }, { on := 13, ground := Go.Ground.guard }], guard := Option.some (13, Bool.false) }) rfl (fun K hK => ?_) AllReadyH.nil
          go_simp
          refine (size_as (B := w.heap.size) (g := g) (d := p) (r := r) (v := v5) (xs := ws) _ hHeld.1.d (T.size : Int) (by rw [HT.out, strOfNums_size])).mono ?_
          rintro e w' ⟨rfl, rfl⟩
          go_wp2_with fail
          refine hK.out _ _ (hHeld) (fun hHeld => ?_)
          clear hK K
          try simp only [Act.put, List.setIfInBounds_toArray, List.set_cons_zero, List.set_cons_succ]
          refine wpAnyH_take (i := 21) (oi := { dst := Option.some 129, op := Go.Op.binOp Go.BinOp.neq 3 (Go.Operand.tmp 125) (Go.Operand.tmp 128) 3, type := 4, pos := "law.go:70", after := #[{ on := 17, ground := Go.Ground.data }, { on := 20, ground := Go.Ground.data }, { on := 13, ground := Go.Ground.guard }], guard := Option.some (13, Bool.false) }) (v := ?_) rfl (by kernel_rfl) (by kernel_rfl) (by kernel_rfl) (fun _ _ _ h => h) (Or.inl ⟨by rfl, ?_⟩) (by assumption) ?_
          rotate_left
          · intro w hSw; (try dsimp only at hSw); go_simp; all_goals (with_reducible rfl)
          try simp only [Act.put, List.setIfInBounds_toArray, List.set_cons_zero, List.set_cons_succ]
          refine wpAnyH_take (i := 22) (oi := { dst := Option.some 130, op := Go.Op.pick (Go.Operand.tmp 121) (Go.Operand.const (Go.Value.bool Bool.true)) (Go.Operand.tmp 129), type := 4, pos := "law.go:70", after := #[{ on := 13, ground := Go.Ground.data }, { on := 21, ground := Go.Ground.data }], guard := Option.none }) (v := ?_) rfl (by kernel_rfl) (by kernel_rfl) (by kernel_rfl) (fun _ _ _ h => h) (Or.inl ⟨by rfl, ?_⟩) (by assumption) ?_
          rotate_left
          · intro w hSw; (try dsimp only at hSw); go_simp; all_goals (with_reducible rfl)
          try simp only [Act.put, List.setIfInBounds_toArray, List.set_cons_zero, List.set_cons_succ]
          refine wpAnyH_take (i := 23) (oi := { dst := Option.some 131, op := Go.Op.move (Go.Operand.tmp 130), type := 4, pos := "law.go:70", after := #[{ on := 22, ground := Go.Ground.data }, { on := 17, ground := Go.Ground.chain }], guard := Option.none }) (v := ?_) rfl (by kernel_rfl) (by kernel_rfl) (by kernel_rfl) (fun _ _ _ h => h) (Or.inl ⟨by rfl, ?_⟩) (by assumption) ?_
          rotate_left
          · intro w hSw; (try dsimp only at hSw); go_simp; all_goals (with_reducible rfl)
          try simp only [Act.put, List.setIfInBounds_toArray, List.set_cons_zero, List.set_cons_succ]
          refine wpAnyH_take (i := 24) (oi := { dst := Option.some 132, op := Go.Op.move (Go.Operand.tmp 5), type := 24, pos := "law.go:70", after := #[{ on := 23, ground := Go.Ground.guard }], guard := Option.some (23, Bool.false) }) (v := ?_) rfl (by kernel_rfl) (by kernel_rfl) (by kernel_rfl) (fun _ _ _ h => h) (Or.inl ⟨by rfl, ?_⟩) (by assumption) ?_
          rotate_left
          · intro w hSw; (try dsimp only at hSw); go_simp; all_goals (with_reducible rfl)
          try simp only [Act.put, List.setIfInBounds_toArray, List.set_cons_zero, List.set_cons_succ]
          refine wpAnyH_take (i := 25) (oi := { dst := Option.some 133, op := Go.Op.nilCheck (Go.Operand.tmp 132), type := 0, pos := "law.go:70", after := #[{ on := 24, ground := Go.Ground.data }, { on := 23, ground := Go.Ground.guard }], guard := Option.some (23, Bool.false) }) (v := ?_) rfl (by kernel_rfl) (by kernel_rfl) (by kernel_rfl) (fun _ _ _ h => h) (Or.inl ⟨by rfl, ?_⟩) (by assumption) ?_
          rotate_left
          · intro w hSw; (try dsimp only at hSw); go_simp; all_goals (with_reducible rfl)
          try simp only [Act.put, List.setIfInBounds_toArray, List.set_cons_zero, List.set_cons_succ]
          refine wpAnyH_take (i := 26) (oi := { dst := Option.some 134, op := Go.Op.fieldAddr 47 (Go.Operand.tmp 133) 0, type := 0, pos := "law.go:70", after := #[{ on := 25, ground := Go.Ground.data }, { on := 23, ground := Go.Ground.guard }], guard := Option.some (23, Bool.false) }) (v := ?_) rfl (by kernel_rfl) (by kernel_rfl) (by kernel_rfl) (fun _ _ _ h => h) (Or.inl ⟨by rfl, ?_⟩) (by assumption) ?_
          rotate_left
          · intro w hSw; (try dsimp only at hSw); go_simp; all_goals (with_reducible rfl)
          try simp only [Act.put, List.setIfInBounds_toArray, List.set_cons_zero, List.set_cons_succ]
          refine wpAnyH_take (i := 28) (oi := { dst := Option.some 136, op := Go.Op.fieldAddr 30 (Go.Operand.tmp 8) 1, type := 0, pos := "law.go:70", after := #[{ on := 23, ground := Go.Ground.guard }], guard := Option.some (23, Bool.false) }) (v := ?_) rfl (by kernel_rfl) (by kernel_rfl) (by kernel_rfl) (fun _ _ _ h => h) (Or.inl ⟨by rfl, ?_⟩) (by assumption) ?_
          rotate_left
          · intro w hSw; (try dsimp only at hSw); go_simp; all_goals (with_reducible rfl)
          try simp only [Act.put, List.setIfInBounds_toArray, List.set_cons_zero, List.set_cons_succ]
          refine wpAnyH_take (i := 29) (oi := { dst := Option.some 137, op := Go.Op.load 3 (Go.Operand.tmp 136), type := 3, pos := "law.go:70", after := #[{ on := 28, ground := Go.Ground.data }, { on := 23, ground := Go.Ground.guard }], guard := Option.some (23, Bool.false) }) (v := ?_) rfl (by kernel_rfl) (by kernel_rfl) (by kernel_rfl) (fun _ _ _ h => h) (Or.inl ⟨by rfl, ?_⟩) (by assumption) ?_
          rotate_left
          · intro w hSw; (try dsimp only at hSw); go_simp; all_goals (with_reducible rfl)
          try simp only [Act.put, List.setIfInBounds_toArray, List.set_cons_zero, List.set_cons_succ]
          refine wpAnyH_ready (rs := [27]) (by kernel_rfl) (by simp) ?_
          refine AllReadyH.cons (o := { dst := Option.some 135, op := Go.Op.call { callee := Go.Callee.value (Go.Operand.func 22), args := #[Go.Operand.tmp 134], argTypes := #[45] }, type := 3, pos := "law.go:70", after := #[{ on := 26, ground := Go.Ground.data }, { on := 23, ground := Go.Ground.chain }, { on := 23, ground := Go.Ground.guard }], guard := Option.some (23, Bool.false) }) rfl (fun K hK => ?_) AllReadyH.nil
          go_simp
          refine (durable_any (B := w.heap.size) (g := g) (d := p) (r := r) (v := v5) (xs := ws) _ hHeld.1.d).mono ?_
          rintro e w' ⟨rfl, rfl⟩
          go_wp2_with fail
          refine hK.out _ _ (hHeld) (fun hHeld => ?_)
          clear hK K
          try simp only [Act.put, List.setIfInBounds_toArray, List.set_cons_zero, List.set_cons_succ]
          refine wpAnyH_take (i := 30) (oi := { dst := Option.some 138, op := Go.Op.binOp Go.BinOp.neq 3 (Go.Operand.tmp 135) (Go.Operand.tmp 137) 3, type := 4, pos := "law.go:70", after := #[{ on := 27, ground := Go.Ground.data }, { on := 29, ground := Go.Ground.data }, { on := 23, ground := Go.Ground.guard }], guard := Option.some (23, Bool.false) }) (v := ?_) rfl (by kernel_rfl) (by kernel_rfl) (by kernel_rfl) (fun _ _ _ h => h) (Or.inl ⟨by rfl, ?_⟩) (by assumption) ?_
          rotate_left
          · intro w hSw; (try dsimp only at hSw); go_simp; all_goals (with_reducible rfl)
          try simp only [Act.put, List.setIfInBounds_toArray, List.set_cons_zero, List.set_cons_succ]
          refine wpAnyH_take (i := 31) (oi := { dst := Option.some 139, op := Go.Op.pick (Go.Operand.tmp 131) (Go.Operand.const (Go.Value.bool Bool.true)) (Go.Operand.tmp 138), type := 4, pos := "law.go:70", after := #[{ on := 23, ground := Go.Ground.data }, { on := 30, ground := Go.Ground.data }], guard := Option.none }) (v := ?_) rfl (by kernel_rfl) (by kernel_rfl) (by kernel_rfl) (fun _ _ _ h => h) (Or.inl ⟨by rfl, ?_⟩) (by assumption) ?_
          rotate_left
          · intro w hSw; (try dsimp only at hSw); go_simp; all_goals (with_reducible rfl)
          try simp only [Act.put, List.setIfInBounds_toArray, List.set_cons_zero, List.set_cons_succ]
          refine wpAnyH_take (i := 32) (oi := { dst := Option.some 140, op := Go.Op.move (Go.Operand.tmp 139), type := 4, pos := "law.go:70", after := #[{ on := 31, ground := Go.Ground.data }, { on := 27, ground := Go.Ground.chain }], guard := Option.none }) (v := ?_) rfl (by kernel_rfl) (by kernel_rfl) (by kernel_rfl) (fun _ _ _ h => h) (Or.inl ⟨by rfl, ?_⟩) (by assumption) ?_
          rotate_left
          · intro w hSw; (try dsimp only at hSw); go_simp; all_goals (with_reducible rfl)
          try simp only [Act.put, List.setIfInBounds_toArray, List.set_cons_zero, List.set_cons_succ]
          refine wpAnyH_take (i := 33) (oi := { dst := Option.some 141, op := Go.Op.move (Go.Operand.tmp 5), type := 24, pos := "law.go:70", after := #[{ on := 32, ground := Go.Ground.guard }], guard := Option.some (32, Bool.false) }) (v := ?_) rfl (by kernel_rfl) (by kernel_rfl) (by kernel_rfl) (fun _ _ _ h => h) (Or.inl ⟨by rfl, ?_⟩) (by assumption) ?_
          rotate_left
          · intro w hSw; (try dsimp only at hSw); go_simp; all_goals (with_reducible rfl)
          try simp only [Act.put, List.setIfInBounds_toArray, List.set_cons_zero, List.set_cons_succ]
          refine wpAnyH_take (i := 35) (oi := { dst := Option.some 143, op := Go.Op.fieldAddr 30 (Go.Operand.tmp 8) 2, type := 0, pos := "law.go:70", after := #[{ on := 32, ground := Go.Ground.guard }], guard := Option.some (32, Bool.false) }) (v := ?_) rfl (by kernel_rfl) (by kernel_rfl) (by kernel_rfl) (fun _ _ _ h => h) (Or.inl ⟨by rfl, ?_⟩) (by assumption) ?_
          rotate_left
          · intro w hSw; (try dsimp only at hSw); go_simp; all_goals (with_reducible rfl)
          try simp only [Act.put, List.setIfInBounds_toArray, List.set_cons_zero, List.set_cons_succ]
          refine wpAnyH_take (i := 36) (oi := { dst := Option.some 144, op := Go.Op.load 3 (Go.Operand.tmp 143), type := 3, pos := "law.go:70", after := #[{ on := 35, ground := Go.Ground.data }, { on := 32, ground := Go.Ground.guard }], guard := Option.some (32, Bool.false) }) (v := ?_) rfl (by kernel_rfl) (by kernel_rfl) (by kernel_rfl) (fun _ _ _ h => h) (Or.inl ⟨by rfl, ?_⟩) (by assumption) ?_
          rotate_left
          · intro w hSw; (try dsimp only at hSw); go_simp; all_goals (with_reducible rfl)
          try simp only [Act.put, List.setIfInBounds_toArray, List.set_cons_zero, List.set_cons_succ]
          refine wpAnyH_take (i := 37) (oi := { dst := Option.some 145, op := Go.Op.fieldAddr 30 (Go.Operand.tmp 8) 0, type := 0, pos := "law.go:70", after := #[{ on := 32, ground := Go.Ground.guard }], guard := Option.some (32, Bool.false) }) (v := ?_) rfl (by kernel_rfl) (by kernel_rfl) (by kernel_rfl) (fun _ _ _ h => h) (Or.inl ⟨by rfl, ?_⟩) (by assumption) ?_
          rotate_left
          · intro w hSw; (try dsimp only at hSw); go_simp; all_goals (with_reducible rfl)
          try simp only [Act.put, List.setIfInBounds_toArray, List.set_cons_zero, List.set_cons_succ]
          refine wpAnyH_take (i := 38) (oi := { dst := Option.some 146, op := Go.Op.load 9 (Go.Operand.tmp 145), type := 9, pos := "law.go:70", after := #[{ on := 37, ground := Go.Ground.data }, { on := 32, ground := Go.Ground.guard }], guard := Option.some (32, Bool.false) }) (v := ?_) rfl (by kernel_rfl) (by kernel_rfl) (by kernel_rfl) (fun _ _ _ h => h) (Or.inl ⟨by rfl, ?_⟩) (by assumption) ?_
          rotate_left
          · intro w hSw; (try dsimp only at hSw); go_simp; all_goals (with_reducible rfl)
          try simp only [Act.put, List.setIfInBounds_toArray, List.set_cons_zero, List.set_cons_succ]
          refine wpAnyH_take (i := 39) (oi := { dst := Option.some 147, op := Go.Op.call { callee := Go.Callee.builtin Go.Builtin.len, args := #[Go.Operand.tmp 146], argTypes := #[9] }, type := 3, pos := "law.go:70", after := #[{ on := 38, ground := Go.Ground.data }, { on := 32, ground := Go.Ground.guard }], guard := Option.some (32, Bool.false) }) (v := ?_) rfl (by kernel_rfl) (by kernel_rfl) (by kernel_rfl) (fun _ _ _ h => h) (Or.inl ⟨by rfl, ?_⟩) (by assumption) ?_
          rotate_left
          · intro w hSw; (try dsimp only at hSw); go_simp; all_goals (with_reducible rfl)
          try simp only [Act.put, List.setIfInBounds_toArray, List.set_cons_zero, List.set_cons_succ]
          refine wpAnyH_take (i := 40) (oi := { dst := Option.some 148, op := Go.Op.binOp Go.BinOp.sub 3 (Go.Operand.tmp 144) (Go.Operand.tmp 147) 3, type := 3, pos := "law.go:70", after := #[{ on := 36, ground := Go.Ground.data }, { on := 39, ground := Go.Ground.data }, { on := 32, ground := Go.Ground.guard }], guard := Option.some (32, Bool.false) }) (v := ?_) rfl (by kernel_rfl) (by kernel_rfl) (by kernel_rfl) (fun _ _ _ h => h) (Or.inl ⟨by rfl, ?_⟩) (by assumption) ?_
          rotate_left
          · intro w hSw; (try dsimp only at hSw); go_simp; all_goals (with_reducible rfl)
          try simp only [Act.put, List.setIfInBounds_toArray, List.set_cons_zero, List.set_cons_succ]
          refine wpAnyH_ready (rs := [34]) (by kernel_rfl) (by simp) ?_
          refine AllReadyH.cons (o := { dst := Option.some 142, op := Go.Op.call { callee := Go.Callee.value (Go.Operand.func 23), args := #[Go.Operand.tmp 141], argTypes := #[24] }, type := 3, pos := "law.go:70", after := #[{ on := 33, ground := Go.Ground.data }, { on := 32, ground := Go.Ground.chain }, { on := 32, ground := Go.Ground.guard }], guard := Option.some (32, Bool.false) }) rfl (fun K hK => ?_) AllReadyH.nil
          go_simp
          refine (left_any (B := w.heap.size) (g := g) (d := p) (r := r) (v := v5) (xs := ws) _ hHeld.1.d).mono ?_
          rintro e w' ⟨rfl, qd, rfl⟩
          rw [HL2.out]
          have hF9 := Lib.hid (hHeld.1.below (below_drewN _ qd))
          clear hHeld
          go_wp2_with fail
          refine hK.out _ _ (⟨hF9.out, hF9.out.cells⟩) (fun hHeld => ?_)
          clear hK K
          try simp only [Act.put, List.setIfInBounds_toArray, List.set_cons_zero, List.set_cons_succ]
          refine wpAnyH_take (i := 41) (oi := { dst := Option.some 149, op := Go.Op.binOp Go.BinOp.neq 3 (Go.Operand.tmp 142) (Go.Operand.tmp 148) 3, type := 4, pos := "law.go:70", after := #[{ on := 34, ground := Go.Ground.data }, { on := 40, ground := Go.Ground.data }, { on := 32, ground := Go.Ground.guard }], guard := Option.some (32, Bool.false) }) (v := ?_) rfl (by kernel_rfl) (by kernel_rfl) (by kernel_rfl) (fun _ _ _ h => h) (Or.inl ⟨by rfl, ?_⟩) (by assumption) ?_
          rotate_left
          · intro w hSw; (try dsimp only at hSw); go_simp; all_goals (with_reducible rfl)
          try simp only [Act.put, List.setIfInBounds_toArray, List.set_cons_zero, List.set_cons_succ]
          refine wpAnyH_take (i := 42) (oi := { dst := Option.some 150, op := Go.Op.pick (Go.Operand.tmp 140) (Go.Operand.const (Go.Value.bool Bool.true)) (Go.Operand.tmp 149), type := 4, pos := "law.go:70", after := #[{ on := 32, ground := Go.Ground.data }, { on := 41, ground := Go.Ground.data }], guard := Option.none }) (v := ?_) rfl (by kernel_rfl) (by kernel_rfl) (by kernel_rfl) (fun _ _ _ h => h) (Or.inl ⟨by rfl, ?_⟩) (by assumption) ?_
          rotate_left
          · intro w hSw; (try dsimp only at hSw); go_simp; all_goals (with_reducible rfl)
          try simp only [Act.put, List.setIfInBounds_toArray, List.set_cons_zero, List.set_cons_succ]
          refine wpAnyH_done (by kernel_rfl) ?_ _
          have HF := Lib.hid hHeld.1
          clear hHeld
          go_wp2
          go_roundw
          case rel => exact ⟨k + 1, g, p, v5, ws, by omega, by go_num, rfl, by rw [← HT.out]; exact HF.out⟩
          case measure => simp [intOf]; omega
        · have hkb : kk < 0 ∨ (xs.length : Int) < kk := by omega
          have HKB := Lib.hid hkb
          clear hkl hkb
          go_wp2_with fail
          refine (trunc_bad kk _ HP0.out.d HKB.out).mono ?_
          rintro e w5 ⟨rfl, hw5⟩
          have hd5 := HP0.out.d
          have hm5 := HP0.out.m
          have ho5 := HO0.out
          have hb5 := HP0.out.b
          rw [hw5] at hd5 hm5 ho5 hb5
          have ht5 : True := trivial
          obtain ⟨a0, a1, a2, e0, e1, e2⟩ := three_cells hm5
          have o1 : w5.cell? ⟨wr.heap.size, 1, none⟩ = some (.slice ua m uc) := by rw [ho5.cell]; rfl
          have o2 : w5.cell? ⟨wr.heap.size, 2, none⟩ = some (.int .i64 kk) := by rw [ho5.cell]; rfl
          obtain ⟨S, hS⟩ : ∃ S, S = strOfNums xs := ⟨_, rfl⟩
          rw [← hS] at hm5 a0
          have hsl : S.size = xs.length := by rw [hS, strOfNums_size]
          have hdr := hd5.hr
          have hdm := hd5.hm
          have HT := Lib.hid hS
          have hra := rtrunc_bad S d r kk w5 (by rw [hsl]; exact HKB.out)
          clear hw5
          have HRA := Lib.hid hra
          have HM5 := Lib.hid hm5
          have HD5 := Lib.hid hd5
          have HB5 := Lib.hid hb5
          clear hm5 ho5 hb5 hd5 ht5 hS hsl hra hdr hdm
          go_wp2_with fail
          refine HRA.out.mono ?_
          rintro e w6 ⟨rfl, hb6⟩
          have hm6 := HM5.out.kept (hb6.block _ HM5.out.lt)
          have hb6' := HB5.out.trans (hb6.mono HB5.out.size)
          obtain ⟨b0, b1, b2, g0, g1, g2⟩ := three_cells hm6
          have HQ := Lib.hid (PS.write (T := S) (HD5.out.below hb6) hm6 hb6' HP.out.ge)
          clear hm6 hb6 hb6'
          unfold RD
          go_wp2_with fail
          generalize ((w6.setCell ⟨gw, 0, none⟩ (.string S)).setCell ⟨gw, 1, none⟩ (.int .i64 d)).setCell ⟨gw, 2, none⟩ (.int .i64 r) = w9 at *
          clear a0 a1 a2 e0 e1 e2 o1 o2 b0 b1 b2 g0 g1 g2 c0 c1 c2 hsz0
          obtain ⟨ws, hws⟩ : ∃ ws, ws = xs := ⟨_, rfl⟩
          rw [← hws] at HQ HT
          clear hws
          have hTT : (S.toList == S.toList) = true := by simp
          have hTN : (S.toList != S.toList) = false := by simp
          have hl2 : ((r - (ws).length : Nat) : Int) = (r : Int) - (S.size : Int) := by have h1 := HQ.out.d.hr; have h2 := congrArg ByteArray.size HT.out; rw [strOfNums_size] at h2; omega
          have hwr : IntKind.i64.wrap ((r : Int) - (S.size : Int)) = (r : Int) - (S.size : Int) := by have h1 := HQ.out.d.hr; have h2 := congrArg ByteArray.size HT.out; rw [strOfNums_size] at h2; exact IntWalk.i64_in _ (by omega)
          have HL2 := Lib.hid hl2
          clear hl2
          refine wp_region_held_drew (S := fun W => PS w W gw g v S ws d r ∧ W.cell? ⟨gw, 0, none⟩ = some (.string S) ∧ W.cell? ⟨gw, 1, none⟩ = some (.int .i64 d) ∧ W.cell? ⟨gw, 2, none⟩ = some (.int .i64 r)) (by kernel_rfl) ⟨HQ.out.below (below_drewN _ 1), (HQ.out.below (below_drewN _ 1)).cells⟩ (fun hHeld => ?_)
          refine wpAnyH_take (i := 0) (oi := { dst := Option.some 108, op := Go.Op.move (Go.Operand.tmp 11), type := 25, pos := "law.go:70", after := #[], guard := Option.none }) (v := ?_) rfl (by kernel_rfl) (by kernel_rfl) (by kernel_rfl) (fun _ _ _ h => h) (Or.inl ⟨by rfl, ?_⟩) (by assumption) ?_
          rotate_left
          · intro w hSw; (try dsimp only at hSw); go_simp; all_goals (with_reducible rfl)
          try simp only [Act.put, List.setIfInBounds_toArray, List.set_cons_zero, List.set_cons_succ]
          refine wpAnyH_take (i := 1) (oi := { dst := Option.some 109, op := Go.Op.move (Go.Operand.tmp 12), type := 3, pos := "law.go:70", after := #[], guard := Option.none }) (v := ?_) rfl (by kernel_rfl) (by kernel_rfl) (by kernel_rfl) (fun _ _ _ h => h) (Or.inl ⟨by rfl, ?_⟩) (by assumption) ?_
          rotate_left
          · intro w hSw; (try dsimp only at hSw); go_simp; all_goals (with_reducible rfl)
          try simp only [Act.put, List.setIfInBounds_toArray, List.set_cons_zero, List.set_cons_succ]
          refine wpAnyH_take (i := 2) (oi := { dst := Option.some 110, op := Go.Op.binOp Go.BinOp.neq 3 (Go.Operand.tmp 108) (Go.Operand.tmp 109) 3, type := 4, pos := "law.go:70", after := #[{ on := 0, ground := Go.Ground.data }, { on := 1, ground := Go.Ground.data }], guard := Option.none }) (v := ?_) rfl (by kernel_rfl) (by kernel_rfl) (by kernel_rfl) (fun _ _ _ h => h) (Or.inl ⟨by rfl, ?_⟩) (by assumption) ?_
          rotate_left
          · intro w hSw; (try dsimp only at hSw); go_simp; all_goals (with_reducible rfl)
          try simp only [Act.put, List.setIfInBounds_toArray, List.set_cons_zero, List.set_cons_succ]
          refine wpAnyH_take (i := 3) (oi := { dst := Option.some 111, op := Go.Op.move (Go.Operand.tmp 110), type := 4, pos := "law.go:70", after := #[{ on := 2, ground := Go.Ground.data }], guard := Option.none }) (v := ?_) rfl (by kernel_rfl) (by kernel_rfl) (by kernel_rfl) (fun _ _ _ h => h) (Or.inl ⟨by rfl, ?_⟩) (by assumption) ?_
          rotate_left
          · intro w hSw; (try dsimp only at hSw); go_simp; all_goals (with_reducible rfl)
          try simp only [Act.put, List.setIfInBounds_toArray, List.set_cons_zero, List.set_cons_succ]
          refine wpAnyH_take (i := 4) (oi := { dst := Option.some 112, op := Go.Op.move (Go.Operand.tmp 5), type := 24, pos := "law.go:70", after := #[{ on := 3, ground := Go.Ground.guard }], guard := Option.some (3, Bool.false) }) (v := ?_) rfl (by kernel_rfl) (by kernel_rfl) (by kernel_rfl) (fun _ _ _ h => h) (Or.inl ⟨by rfl, ?_⟩) (by assumption) ?_
          rotate_left
          · intro w hSw; (try dsimp only at hSw); go_simp; all_goals (with_reducible rfl)
          try simp only [Act.put, List.setIfInBounds_toArray, List.set_cons_zero, List.set_cons_succ]
          refine wpAnyH_take (i := 5) (oi := { dst := Option.some 113, op := Go.Op.nilCheck (Go.Operand.tmp 112), type := 0, pos := "law.go:70", after := #[{ on := 4, ground := Go.Ground.data }, { on := 3, ground := Go.Ground.guard }], guard := Option.some (3, Bool.false) }) (v := ?_) rfl (by kernel_rfl) (by kernel_rfl) (by kernel_rfl) (fun _ _ _ h => h) (Or.inl ⟨by rfl, ?_⟩) (by assumption) ?_
          rotate_left
          · intro w hSw; (try dsimp only at hSw); go_simp; all_goals (with_reducible rfl)
          try simp only [Act.put, List.setIfInBounds_toArray, List.set_cons_zero, List.set_cons_succ]
          refine wpAnyH_take (i := 6) (oi := { dst := Option.some 114, op := Go.Op.fieldAddr 47 (Go.Operand.tmp 113) 0, type := 0, pos := "law.go:70", after := #[{ on := 5, ground := Go.Ground.data }, { on := 3, ground := Go.Ground.guard }], guard := Option.some (3, Bool.false) }) (v := ?_) rfl (by kernel_rfl) (by kernel_rfl) (by kernel_rfl) (fun _ _ _ h => h) (Or.inl ⟨by rfl, ?_⟩) (by assumption) ?_
          rotate_left
          · intro w hSw; (try dsimp only at hSw); go_simp; all_goals (with_reducible rfl)
          try simp only [Act.put, List.setIfInBounds_toArray, List.set_cons_zero, List.set_cons_succ]
          refine wpAnyH_take (i := 9) (oi := { dst := Option.some 117, op := Go.Op.fieldAddr 30 (Go.Operand.tmp 8) 0, type := 0, pos := "law.go:70", after := #[{ on := 3, ground := Go.Ground.guard }], guard := Option.some (3, Bool.false) }) (v := ?_) rfl (by kernel_rfl) (by kernel_rfl) (by kernel_rfl) (fun _ _ _ h => h) (Or.inl ⟨by rfl, ?_⟩) (by assumption) ?_
          rotate_left
          · intro w hSw; (try dsimp only at hSw); go_simp; all_goals (with_reducible rfl)
          try simp only [Act.put, List.setIfInBounds_toArray, List.set_cons_zero, List.set_cons_succ]
          refine wpAnyH_take (i := 10) (oi := { dst := Option.some 118, op := Go.Op.load 9 (Go.Operand.tmp 117), type := 9, pos := "law.go:70", after := #[{ on := 9, ground := Go.Ground.data }, { on := 3, ground := Go.Ground.guard }], guard := Option.some (3, Bool.false) }) (v := ?_) rfl (by kernel_rfl) (by kernel_rfl) (by kernel_rfl) (fun _ _ _ h => h) (Or.inl ⟨by rfl, ?_⟩) (by assumption) ?_
          rotate_left
          · intro w hSw; (try dsimp only at hSw); go_simp; all_goals (with_reducible rfl)
          try simp only [Act.put, List.setIfInBounds_toArray, List.set_cons_zero, List.set_cons_succ]
          refine wpAnyH_ready (rs := [7]) (by kernel_rfl) (by simp) ?_
          refine AllReadyH.cons (o := { dst := Option.some 115, op := Go.Op.call { callee := Go.Callee.value (Go.Operand.func 20), args := #[Go.Operand.tmp 114], argTypes := #[45] }, type := 31, pos := "law.go:70", after := #[{ on := 6, ground := Go.Ground.data }, { on := 3, ground := Go.Ground.chain }, { on := 3, ground := Go.Ground.guard }], guard := Option.some (3, Bool.false) }) rfl (fun K hK => ?_) AllReadyH.nil
          go_simp
          refine (bytes_any (B := w.heap.size) (g := g) (d := d) (r := r) (v := v) (xs := ws) _ hHeld.1.d).mono ?_
          rintro e w8 ⟨u2, rfl, hown8, hb8⟩
          obtain ⟨ua2, uc2, rfl, hui, _⟩ := owned_slice hown8 hHeld.1.d.byte
          have hcu := hui.str uc2
          rw [← HT.out] at hcu
          have hF8 := Lib.hid (hHeld.1.below hb8)
          clear hown8 hb8 hui hHeld
          go_wp2_with fail
          refine hK.out _ _ (⟨hF8.out, hF8.out.cells⟩) (fun hHeld => ?_)
          clear hK K
          try simp only [Act.put, List.setIfInBounds_toArray, List.set_cons_zero, List.set_cons_succ]
          refine wpAnyH_ready (rs := [8]) (by kernel_rfl) (by simp) ?_
          refine AllReadyH.cons (o := { dst := Option.some 116, op := Go.Op.convert 31 9 (Go.Operand.tmp 115), type := 9, pos := "law.go:70", after := #[{ on := 7, ground := Go.Ground.data }, { on := 3, ground := Go.Ground.guard }], guard := Option.some (3, Bool.false) }) rfl (fun K hK => ?_) AllReadyH.nil
          go_simp
          refine hK.out _ _ (hHeld) (fun hHeld => ?_)
          clear hK K
          try simp only [Act.put, List.setIfInBounds_toArray, List.set_cons_zero, List.set_cons_succ]
          refine wpAnyH_take (i := 11) (oi := { dst := Option.some 119, op := Go.Op.binOp Go.BinOp.neq 9 (Go.Operand.tmp 116) (Go.Operand.tmp 118) 9, type := 4, pos := "law.go:70", after := #[{ on := 8, ground := Go.Ground.data }, { on := 10, ground := Go.Ground.data }, { on := 3, ground := Go.Ground.guard }], guard := Option.some (3, Bool.false) }) (v := ?_) rfl (by kernel_rfl) (by kernel_rfl) (by kernel_rfl) (fun _ _ _ h => h) (Or.inl ⟨by rfl, ?_⟩) (by assumption) ?_
          rotate_left
          · intro w hSw; (try dsimp only at hSw); go_simp; all_goals (with_reducible rfl)
          try simp only [Act.put, List.setIfInBounds_toArray, List.set_cons_zero, List.set_cons_succ]
          refine wpAnyH_take (i := 12) (oi := { dst := Option.some 120, op := Go.Op.pick (Go.Operand.tmp 111) (Go.Operand.const (Go.Value.bool Bool.true)) (Go.Operand.tmp 119), type := 4, pos := "law.go:70", after := #[{ on := 3, ground := Go.Ground.data }, { on := 11, ground := Go.Ground.data }], guard := Option.none }) (v := ?_) rfl (by kernel_rfl) (by kernel_rfl) (by kernel_rfl) (fun _ _ _ h => h) (Or.inl ⟨by rfl, ?_⟩) (by assumption) ?_
          rotate_left
          · intro w hSw; (try dsimp only at hSw); go_simp; all_goals (with_reducible rfl)
          try simp only [Act.put, List.setIfInBounds_toArray, List.set_cons_zero, List.set_cons_succ]
          refine wpAnyH_take (i := 13) (oi := { dst := Option.some 121, op := Go.Op.move (Go.Operand.tmp 120), type := 4, pos := "law.go:70", after := #[{ on := 12, ground := Go.Ground.data }, { on := 7, ground := Go.Ground.chain }], guard := Option.none }) (v := ?_) rfl (by kernel_rfl) (by kernel_rfl) (by kernel_rfl) (fun _ _ _ h => h) (Or.inl ⟨by rfl, ?_⟩) (by assumption) ?_
          rotate_left
          · intro w hSw; (try dsimp only at hSw); go_simp; all_goals (with_reducible rfl)
          try simp only [Act.put, List.setIfInBounds_toArray, List.set_cons_zero, List.set_cons_succ]
          refine wpAnyH_take (i := 14) (oi := { dst := Option.some 122, op := Go.Op.move (Go.Operand.tmp 5), type := 24, pos := "law.go:70", after := #[{ on := 13, ground := Go.Ground.guard }], guard := Option.some (13, Bool.false) }) (v := ?_) rfl (by kernel_rfl) (by kernel_rfl) (by kernel_rfl) (fun _ _ _ h => h) (Or.inl ⟨by rfl, ?_⟩) (by assumption) ?_
          rotate_left
          · intro w hSw; (try dsimp only at hSw); go_simp; all_goals (with_reducible rfl)
          try simp only [Act.put, List.setIfInBounds_toArray, List.set_cons_zero, List.set_cons_succ]
          refine wpAnyH_take (i := 15) (oi := { dst := Option.some 123, op := Go.Op.nilCheck (Go.Operand.tmp 122), type := 0, pos := "law.go:70", after := #[{ on := 14, ground := Go.Ground.data }, { on := 13, ground := Go.Ground.guard }], guard := Option.some (13, Bool.false) }) (v := ?_) rfl (by kernel_rfl) (by kernel_rfl) (by kernel_rfl) (fun _ _ _ h => h) (Or.inl ⟨by rfl, ?_⟩) (by assumption) ?_
          rotate_left
          · intro w hSw; (try dsimp only at hSw); go_simp; all_goals (with_reducible rfl)
          try simp only [Act.put, List.setIfInBounds_toArray, List.set_cons_zero, List.set_cons_succ]
          refine wpAnyH_take (i := 16) (oi := { dst := Option.some 124, op := Go.Op.fieldAddr 47 (Go.Operand.tmp 123) 0, type := 0, pos := "law.go:70", after := #[{ on := 15, ground := Go.Ground.data }, { on := 13, ground := Go.Ground.guard }], guard := Option.some (13, Bool.false) }) (v := ?_) rfl (by kernel_rfl) (by kernel_rfl) (by kernel_rfl) (fun _ _ _ h => h) (Or.inl ⟨by rfl, ?_⟩) (by assumption) ?_
          rotate_left
          · intro w hSw; (try dsimp only at hSw); go_simp; all_goals (with_reducible rfl)
          try simp only [Act.put, List.setIfInBounds_toArray, List.set_cons_zero, List.set_cons_succ]
          refine wpAnyH_take (i := 18) (oi := { dst := Option.some 126, op := Go.Op.fieldAddr 30 (Go.Operand.tmp 8) 0, type := 0, pos := "law.go:70", after := #[{ on := 13, ground := Go.Ground.guard }], guard := Option.some (13, Bool.false) }) (v := ?_) rfl (by kernel_rfl) (by kernel_rfl) (by kernel_rfl) (fun _ _ _ h => h) (Or.inl ⟨by rfl, ?_⟩) (by assumption) ?_
          rotate_left
          · intro w hSw; (try dsimp only at hSw); go_simp; all_goals (with_reducible rfl)
          try simp only [Act.put, List.setIfInBounds_toArray, List.set_cons_zero, List.set_cons_succ]
          refine wpAnyH_take (i := 19) (oi := { dst := Option.some 127, op := Go.Op.load 9 (Go.Operand.tmp 126), type := 9, pos := "law.go:70", after := #[{ on := 18, ground := Go.Ground.data }, { on := 13, ground := Go.Ground.guard }], guard := Option.some (13, Bool.false) }) (v := ?_) rfl (by kernel_rfl) (by kernel_rfl) (by kernel_rfl) (fun _ _ _ h => h) (Or.inl ⟨by rfl, ?_⟩) (by assumption) ?_
          rotate_left
          · intro w hSw; (try dsimp only at hSw); go_simp; all_goals (with_reducible rfl)
          try simp only [Act.put, List.setIfInBounds_toArray, List.set_cons_zero, List.set_cons_succ]
          refine wpAnyH_take (i := 20) (oi := { dst := Option.some 128, op := Go.Op.call { callee := Go.Callee.builtin Go.Builtin.len, args := #[Go.Operand.tmp 127], argTypes := #[9] }, type := 3, pos := "law.go:70", after := #[{ on := 19, ground := Go.Ground.data }, { on := 13, ground := Go.Ground.guard }], guard := Option.some (13, Bool.false) }) (v := ?_) rfl (by kernel_rfl) (by kernel_rfl) (by kernel_rfl) (fun _ _ _ h => h) (Or.inl ⟨by rfl, ?_⟩) (by assumption) ?_
          rotate_left
          · intro w hSw; (try dsimp only at hSw); go_simp; all_goals (with_reducible rfl)
          try simp only [Act.put, List.setIfInBounds_toArray, List.set_cons_zero, List.set_cons_succ]
          refine wpAnyH_ready (rs := [17]) (by kernel_rfl) (by simp) ?_
          refine AllReadyH.cons (o := { dst := Option.some 125, op := Go.Op.call { callee := Go.Callee.value (Go.Operand.func 21), args := #[Go.Operand.tmp 124], argTypes := #[45] }, type := 3, pos := "law.go:70", after := #[{ on := 16, ground := Go.Ground.data }, { on := 13, ground := Go.Ground.chain }, { on := 13, ground := Go.Ground.guard }], guard := Option.some (13, Bool.false) }) rfl (fun K hK => ?_) AllReadyH.nil
          go_simp
          refine (size_as (B := w.heap.size) (g := g) (d := d) (r := r) (v := v) (xs := ws) _ hHeld.1.d (S.size : Int) (by rw [HT.out, strOfNums_size])).mono ?_
          rintro e w' ⟨rfl, rfl⟩
          go_wp2_with fail
          refine hK.out _ _ (hHeld) (fun hHeld => ?_)
          clear hK K
          try simp only [Act.put, List.setIfInBounds_toArray, List.set_cons_zero, List.set_cons_succ]
          refine wpAnyH_take (i := 21) (oi := { dst := Option.some 129, op := Go.Op.binOp Go.BinOp.neq 3 (Go.Operand.tmp 125) (Go.Operand.tmp 128) 3, type := 4, pos := "law.go:70", after := #[{ on := 17, ground := Go.Ground.data }, { on := 20, ground := Go.Ground.data }, { on := 13, ground := Go.Ground.guard }], guard := Option.some (13, Bool.false) }) (v := ?_) rfl (by kernel_rfl) (by kernel_rfl) (by kernel_rfl) (fun _ _ _ h => h) (Or.inl ⟨by rfl, ?_⟩) (by assumption) ?_
          rotate_left
          · intro w hSw; (try dsimp only at hSw); go_simp; all_goals (with_reducible rfl)
          try simp only [Act.put, List.setIfInBounds_toArray, List.set_cons_zero, List.set_cons_succ]
          refine wpAnyH_take (i := 22) (oi := { dst := Option.some 130, op := Go.Op.pick (Go.Operand.tmp 121) (Go.Operand.const (Go.Value.bool Bool.true)) (Go.Operand.tmp 129), type := 4, pos := "law.go:70", after := #[{ on := 13, ground := Go.Ground.data }, { on := 21, ground := Go.Ground.data }], guard := Option.none }) (v := ?_) rfl (by kernel_rfl) (by kernel_rfl) (by kernel_rfl) (fun _ _ _ h => h) (Or.inl ⟨by rfl, ?_⟩) (by assumption) ?_
          rotate_left
          · intro w hSw; (try dsimp only at hSw); go_simp; all_goals (with_reducible rfl)
          try simp only [Act.put, List.setIfInBounds_toArray, List.set_cons_zero, List.set_cons_succ]
          refine wpAnyH_take (i := 23) (oi := { dst := Option.some 131, op := Go.Op.move (Go.Operand.tmp 130), type := 4, pos := "law.go:70", after := #[{ on := 22, ground := Go.Ground.data }, { on := 17, ground := Go.Ground.chain }], guard := Option.none }) (v := ?_) rfl (by kernel_rfl) (by kernel_rfl) (by kernel_rfl) (fun _ _ _ h => h) (Or.inl ⟨by rfl, ?_⟩) (by assumption) ?_
          rotate_left
          · intro w hSw; (try dsimp only at hSw); go_simp; all_goals (with_reducible rfl)
          try simp only [Act.put, List.setIfInBounds_toArray, List.set_cons_zero, List.set_cons_succ]
          refine wpAnyH_take (i := 24) (oi := { dst := Option.some 132, op := Go.Op.move (Go.Operand.tmp 5), type := 24, pos := "law.go:70", after := #[{ on := 23, ground := Go.Ground.guard }], guard := Option.some (23, Bool.false) }) (v := ?_) rfl (by kernel_rfl) (by kernel_rfl) (by kernel_rfl) (fun _ _ _ h => h) (Or.inl ⟨by rfl, ?_⟩) (by assumption) ?_
          rotate_left
          · intro w hSw; (try dsimp only at hSw); go_simp; all_goals (with_reducible rfl)
          try simp only [Act.put, List.setIfInBounds_toArray, List.set_cons_zero, List.set_cons_succ]
          refine wpAnyH_take (i := 25) (oi := { dst := Option.some 133, op := Go.Op.nilCheck (Go.Operand.tmp 132), type := 0, pos := "law.go:70", after := #[{ on := 24, ground := Go.Ground.data }, { on := 23, ground := Go.Ground.guard }], guard := Option.some (23, Bool.false) }) (v := ?_) rfl (by kernel_rfl) (by kernel_rfl) (by kernel_rfl) (fun _ _ _ h => h) (Or.inl ⟨by rfl, ?_⟩) (by assumption) ?_
          rotate_left
          · intro w hSw; (try dsimp only at hSw); go_simp; all_goals (with_reducible rfl)
          try simp only [Act.put, List.setIfInBounds_toArray, List.set_cons_zero, List.set_cons_succ]
          refine wpAnyH_take (i := 26) (oi := { dst := Option.some 134, op := Go.Op.fieldAddr 47 (Go.Operand.tmp 133) 0, type := 0, pos := "law.go:70", after := #[{ on := 25, ground := Go.Ground.data }, { on := 23, ground := Go.Ground.guard }], guard := Option.some (23, Bool.false) }) (v := ?_) rfl (by kernel_rfl) (by kernel_rfl) (by kernel_rfl) (fun _ _ _ h => h) (Or.inl ⟨by rfl, ?_⟩) (by assumption) ?_
          rotate_left
          · intro w hSw; (try dsimp only at hSw); go_simp; all_goals (with_reducible rfl)
          try simp only [Act.put, List.setIfInBounds_toArray, List.set_cons_zero, List.set_cons_succ]
          refine wpAnyH_take (i := 28) (oi := { dst := Option.some 136, op := Go.Op.fieldAddr 30 (Go.Operand.tmp 8) 1, type := 0, pos := "law.go:70", after := #[{ on := 23, ground := Go.Ground.guard }], guard := Option.some (23, Bool.false) }) (v := ?_) rfl (by kernel_rfl) (by kernel_rfl) (by kernel_rfl) (fun _ _ _ h => h) (Or.inl ⟨by rfl, ?_⟩) (by assumption) ?_
          rotate_left
          · intro w hSw; (try dsimp only at hSw); go_simp; all_goals (with_reducible rfl)
          try simp only [Act.put, List.setIfInBounds_toArray, List.set_cons_zero, List.set_cons_succ]
          refine wpAnyH_take (i := 29) (oi := { dst := Option.some 137, op := Go.Op.load 3 (Go.Operand.tmp 136), type := 3, pos := "law.go:70", after := #[{ on := 28, ground := Go.Ground.data }, { on := 23, ground := Go.Ground.guard }], guard := Option.some (23, Bool.false) }) (v := ?_) rfl (by kernel_rfl) (by kernel_rfl) (by kernel_rfl) (fun _ _ _ h => h) (Or.inl ⟨by rfl, ?_⟩) (by assumption) ?_
          rotate_left
          · intro w hSw; (try dsimp only at hSw); go_simp; all_goals (with_reducible rfl)
          try simp only [Act.put, List.setIfInBounds_toArray, List.set_cons_zero, List.set_cons_succ]
          refine wpAnyH_ready (rs := [27]) (by kernel_rfl) (by simp) ?_
          refine AllReadyH.cons (o := { dst := Option.some 135, op := Go.Op.call { callee := Go.Callee.value (Go.Operand.func 22), args := #[Go.Operand.tmp 134], argTypes := #[45] }, type := 3, pos := "law.go:70", after := #[{ on := 26, ground := Go.Ground.data }, { on := 23, ground := Go.Ground.chain }, { on := 23, ground := Go.Ground.guard }], guard := Option.some (23, Bool.false) }) rfl (fun K hK => ?_) AllReadyH.nil
          go_simp
          refine (durable_any (B := w.heap.size) (g := g) (d := d) (r := r) (v := v) (xs := ws) _ hHeld.1.d).mono ?_
          rintro e w' ⟨rfl, rfl⟩
          go_wp2_with fail
          refine hK.out _ _ (hHeld) (fun hHeld => ?_)
          clear hK K
          try simp only [Act.put, List.setIfInBounds_toArray, List.set_cons_zero, List.set_cons_succ]
          refine wpAnyH_take (i := 30) (oi := { dst := Option.some 138, op := Go.Op.binOp Go.BinOp.neq 3 (Go.Operand.tmp 135) (Go.Operand.tmp 137) 3, type := 4, pos := "law.go:70", after := #[{ on := 27, ground := Go.Ground.data }, { on := 29, ground := Go.Ground.data }, { on := 23, ground := Go.Ground.guard }], guard := Option.some (23, Bool.false) }) (v := ?_) rfl (by kernel_rfl) (by kernel_rfl) (by kernel_rfl) (fun _ _ _ h => h) (Or.inl ⟨by rfl, ?_⟩) (by assumption) ?_
          rotate_left
          · intro w hSw; (try dsimp only at hSw); go_simp; all_goals (with_reducible rfl)
          try simp only [Act.put, List.setIfInBounds_toArray, List.set_cons_zero, List.set_cons_succ]
          refine wpAnyH_take (i := 31) (oi := { dst := Option.some 139, op := Go.Op.pick (Go.Operand.tmp 131) (Go.Operand.const (Go.Value.bool Bool.true)) (Go.Operand.tmp 138), type := 4, pos := "law.go:70", after := #[{ on := 23, ground := Go.Ground.data }, { on := 30, ground := Go.Ground.data }], guard := Option.none }) (v := ?_) rfl (by kernel_rfl) (by kernel_rfl) (by kernel_rfl) (fun _ _ _ h => h) (Or.inl ⟨by rfl, ?_⟩) (by assumption) ?_
          rotate_left
          · intro w hSw; (try dsimp only at hSw); go_simp; all_goals (with_reducible rfl)
          try simp only [Act.put, List.setIfInBounds_toArray, List.set_cons_zero, List.set_cons_succ]
          refine wpAnyH_take (i := 32) (oi := { dst := Option.some 140, op := Go.Op.move (Go.Operand.tmp 139), type := 4, pos := "law.go:70", after := #[{ on := 31, ground := Go.Ground.data }, { on := 27, ground := Go.Ground.chain }], guard := Option.none }) (v := ?_) rfl (by kernel_rfl) (by kernel_rfl) (by kernel_rfl) (fun _ _ _ h => h) (Or.inl ⟨by rfl, ?_⟩) (by assumption) ?_
          rotate_left
          · intro w hSw; (try dsimp only at hSw); go_simp; all_goals (with_reducible rfl)
          try simp only [Act.put, List.setIfInBounds_toArray, List.set_cons_zero, List.set_cons_succ]
          refine wpAnyH_take (i := 33) (oi := { dst := Option.some 141, op := Go.Op.move (Go.Operand.tmp 5), type := 24, pos := "law.go:70", after := #[{ on := 32, ground := Go.Ground.guard }], guard := Option.some (32, Bool.false) }) (v := ?_) rfl (by kernel_rfl) (by kernel_rfl) (by kernel_rfl) (fun _ _ _ h => h) (Or.inl ⟨by rfl, ?_⟩) (by assumption) ?_
          rotate_left
          · intro w hSw; (try dsimp only at hSw); go_simp; all_goals (with_reducible rfl)
          try simp only [Act.put, List.setIfInBounds_toArray, List.set_cons_zero, List.set_cons_succ]
          refine wpAnyH_take (i := 35) (oi := { dst := Option.some 143, op := Go.Op.fieldAddr 30 (Go.Operand.tmp 8) 2, type := 0, pos := "law.go:70", after := #[{ on := 32, ground := Go.Ground.guard }], guard := Option.some (32, Bool.false) }) (v := ?_) rfl (by kernel_rfl) (by kernel_rfl) (by kernel_rfl) (fun _ _ _ h => h) (Or.inl ⟨by rfl, ?_⟩) (by assumption) ?_
          rotate_left
          · intro w hSw; (try dsimp only at hSw); go_simp; all_goals (with_reducible rfl)
          try simp only [Act.put, List.setIfInBounds_toArray, List.set_cons_zero, List.set_cons_succ]
          refine wpAnyH_take (i := 36) (oi := { dst := Option.some 144, op := Go.Op.load 3 (Go.Operand.tmp 143), type := 3, pos := "law.go:70", after := #[{ on := 35, ground := Go.Ground.data }, { on := 32, ground := Go.Ground.guard }], guard := Option.some (32, Bool.false) }) (v := ?_) rfl (by kernel_rfl) (by kernel_rfl) (by kernel_rfl) (fun _ _ _ h => h) (Or.inl ⟨by rfl, ?_⟩) (by assumption) ?_
          rotate_left
          · intro w hSw; (try dsimp only at hSw); go_simp; all_goals (with_reducible rfl)
          try simp only [Act.put, List.setIfInBounds_toArray, List.set_cons_zero, List.set_cons_succ]
          refine wpAnyH_take (i := 37) (oi := { dst := Option.some 145, op := Go.Op.fieldAddr 30 (Go.Operand.tmp 8) 0, type := 0, pos := "law.go:70", after := #[{ on := 32, ground := Go.Ground.guard }], guard := Option.some (32, Bool.false) }) (v := ?_) rfl (by kernel_rfl) (by kernel_rfl) (by kernel_rfl) (fun _ _ _ h => h) (Or.inl ⟨by rfl, ?_⟩) (by assumption) ?_
          rotate_left
          · intro w hSw; (try dsimp only at hSw); go_simp; all_goals (with_reducible rfl)
          try simp only [Act.put, List.setIfInBounds_toArray, List.set_cons_zero, List.set_cons_succ]
          refine wpAnyH_take (i := 38) (oi := { dst := Option.some 146, op := Go.Op.load 9 (Go.Operand.tmp 145), type := 9, pos := "law.go:70", after := #[{ on := 37, ground := Go.Ground.data }, { on := 32, ground := Go.Ground.guard }], guard := Option.some (32, Bool.false) }) (v := ?_) rfl (by kernel_rfl) (by kernel_rfl) (by kernel_rfl) (fun _ _ _ h => h) (Or.inl ⟨by rfl, ?_⟩) (by assumption) ?_
          rotate_left
          · intro w hSw; (try dsimp only at hSw); go_simp; all_goals (with_reducible rfl)
          try simp only [Act.put, List.setIfInBounds_toArray, List.set_cons_zero, List.set_cons_succ]
          refine wpAnyH_take (i := 39) (oi := { dst := Option.some 147, op := Go.Op.call { callee := Go.Callee.builtin Go.Builtin.len, args := #[Go.Operand.tmp 146], argTypes := #[9] }, type := 3, pos := "law.go:70", after := #[{ on := 38, ground := Go.Ground.data }, { on := 32, ground := Go.Ground.guard }], guard := Option.some (32, Bool.false) }) (v := ?_) rfl (by kernel_rfl) (by kernel_rfl) (by kernel_rfl) (fun _ _ _ h => h) (Or.inl ⟨by rfl, ?_⟩) (by assumption) ?_
          rotate_left
          · intro w hSw; (try dsimp only at hSw); go_simp; all_goals (with_reducible rfl)
          try simp only [Act.put, List.setIfInBounds_toArray, List.set_cons_zero, List.set_cons_succ]
          refine wpAnyH_take (i := 40) (oi := { dst := Option.some 148, op := Go.Op.binOp Go.BinOp.sub 3 (Go.Operand.tmp 144) (Go.Operand.tmp 147) 3, type := 3, pos := "law.go:70", after := #[{ on := 36, ground := Go.Ground.data }, { on := 39, ground := Go.Ground.data }, { on := 32, ground := Go.Ground.guard }], guard := Option.some (32, Bool.false) }) (v := ?_) rfl (by kernel_rfl) (by kernel_rfl) (by kernel_rfl) (fun _ _ _ h => h) (Or.inl ⟨by rfl, ?_⟩) (by assumption) ?_
          rotate_left
          · intro w hSw; (try dsimp only at hSw); go_simp; all_goals (with_reducible rfl)
          try simp only [Act.put, List.setIfInBounds_toArray, List.set_cons_zero, List.set_cons_succ]
          refine wpAnyH_ready (rs := [34]) (by kernel_rfl) (by simp) ?_
          refine AllReadyH.cons (o := { dst := Option.some 142, op := Go.Op.call { callee := Go.Callee.value (Go.Operand.func 23), args := #[Go.Operand.tmp 141], argTypes := #[24] }, type := 3, pos := "law.go:70", after := #[{ on := 33, ground := Go.Ground.data }, { on := 32, ground := Go.Ground.chain }, { on := 32, ground := Go.Ground.guard }], guard := Option.some (32, Bool.false) }) rfl (fun K hK => ?_) AllReadyH.nil
          go_simp
          refine (left_any (B := w.heap.size) (g := g) (d := d) (r := r) (v := v) (xs := ws) _ hHeld.1.d).mono ?_
          rintro e w' ⟨rfl, qd, rfl⟩
          rw [HL2.out]
          have hF9 := Lib.hid (hHeld.1.below (below_drewN _ qd))
          clear hHeld
          go_wp2_with fail
          refine hK.out _ _ (⟨hF9.out, hF9.out.cells⟩) (fun hHeld => ?_)
          clear hK K
          try simp only [Act.put, List.setIfInBounds_toArray, List.set_cons_zero, List.set_cons_succ]
          refine wpAnyH_take (i := 41) (oi := { dst := Option.some 149, op := Go.Op.binOp Go.BinOp.neq 3 (Go.Operand.tmp 142) (Go.Operand.tmp 148) 3, type := 4, pos := "law.go:70", after := #[{ on := 34, ground := Go.Ground.data }, { on := 40, ground := Go.Ground.data }, { on := 32, ground := Go.Ground.guard }], guard := Option.some (32, Bool.false) }) (v := ?_) rfl (by kernel_rfl) (by kernel_rfl) (by kernel_rfl) (fun _ _ _ h => h) (Or.inl ⟨by rfl, ?_⟩) (by assumption) ?_
          rotate_left
          · intro w hSw; (try dsimp only at hSw); go_simp; all_goals (with_reducible rfl)
          try simp only [Act.put, List.setIfInBounds_toArray, List.set_cons_zero, List.set_cons_succ]
          refine wpAnyH_take (i := 42) (oi := { dst := Option.some 150, op := Go.Op.pick (Go.Operand.tmp 140) (Go.Operand.const (Go.Value.bool Bool.true)) (Go.Operand.tmp 149), type := 4, pos := "law.go:70", after := #[{ on := 32, ground := Go.Ground.data }, { on := 41, ground := Go.Ground.data }], guard := Option.none }) (v := ?_) rfl (by kernel_rfl) (by kernel_rfl) (by kernel_rfl) (fun _ _ _ h => h) (Or.inl ⟨by rfl, ?_⟩) (by assumption) ?_
          rotate_left
          · intro w hSw; (try dsimp only at hSw); go_simp; all_goals (with_reducible rfl)
          try simp only [Act.put, List.setIfInBounds_toArray, List.set_cons_zero, List.set_cons_succ]
          refine wpAnyH_done (by kernel_rfl) ?_ _
          have HF := Lib.hid hHeld.1
          clear hHeld
          go_wp2
          go_roundw
          case rel => exact ⟨k + 1, g, d, v, ws, by omega, by go_num, rfl, by rw [← HT.out]; exact HF.out⟩
          case measure => simp [intOf]; omega
      · have hp0 : PS w (wr.alloc (.cells #[.int .i64 4, .slice ua m uc, .int .i64 kk] 33)) gw g v (strOfNums xs) xs d r := HP.out.below (below_alloc _ _)
        have ho0 : Whole (wr.alloc (.cells #[.int .i64 4, .slice ua m uc, .int .i64 kk] 33)) wr.heap.size 33 #[.int .i64 4, .slice ua m uc, .int .i64 kk] := heap_alloc_new wr _
        have hsz0 : (wr.alloc (.cells #[.int .i64 4, .slice ua m uc, .int .i64 kk] 33)).heap.size = wr.heap.size + 1 := by simp
        have HP0 := Lib.hid hp0
        have HO0 := Lib.hid ho0
        clear hp0 ho0
        have kc := fun (w : World) (C : Array Value) (n c : Nat) => Lib.run_convert_bytes_const (P := Try.prog) w 31 5 C n c Try.underlying31 Try.underlying5
        go_wp2_with fail
        refine (fork_any _ HP0.out.d).mono ?_
        rintro e w5 ⟨g2, u, rfl, hf5, hb5⟩
        have hq5 := HP0.out.below hb5
        have hne : g2 ≠ g := by have := hf5.ge; have := HP0.out.d.blk.lt; omega
        have hrows : Rows2 u v := by
          intro q hq he
          have h1 := (hf5.own.lt q hq).1
          have h2 := (HP0.out.d.own.lt q he).2
          omega
        have HQ5 := Lib.hid hq5
        have HF5 := Lib.hid (hf5.base HP0.out.b.size)
        have HNE := Lib.hid hne
        have HRR := Lib.hid hrows
        clear hq5 hf5 hb5 hne hrows
        go_wp2_with fail
        refine (trunc_good 0 _ HQ5.out.d (by omega)).mono ?_
        rintro e w6 ⟨rfl, v6, hd6, ht6, ho6⟩
        have HF6 := Lib.hid (HF5.out.keep HQ5.out.d ht6 (.inr rfl) HNE.out HRR.out)
        have HM6 := Lib.hid (HQ5.out.m.stays HQ5.out.d ht6 (.inr rfl) (by decide) (by decide))
        have HB6 := Lib.hid (HQ5.out.b.trans (HQ5.out.d.turned0 ht6 HQ5.out.b.size))
        have HR6 := Lib.hid (HRR.out.same ho6)
        have HD6 := Lib.hid hd6
        have HAN := Lib.hid (append_new [120, 121, 122] (3, 4) w6 hd6 (by decide) (by simp [maxLen]))
        clear hd6 ht6 ho6
        go_wp2_with fail
        refine HAN.out.mono ?_
        rintro e w9 ⟨⟨z9, rfl⟩, ht9⟩
        have hq9 : PS w w9 gw g2 u (strOfNums xs) xs d r := ⟨HF6.out.keep HD6.out ht9 (.inl rfl) HNE.out HR6.out, HM6.out.stays HD6.out ht9 (.inl rfl) (by decide) (by decide), HB6.out.trans (HD6.out.turned ht9 HB6.out.size), HP.out.ge⟩
        obtain ⟨S, hS⟩ : ∃ S, S = strOfNums xs := ⟨_, rfl⟩
        rw [← hS] at hq9
        have HQ := Lib.hid hq9
        have HT := Lib.hid hS
        clear hq9 hS ht9 kc
        go_wp2_with fail
        clear c0 c1 c2 hsz0
        obtain ⟨ws, hws⟩ : ∃ ws, ws = xs := ⟨_, rfl⟩
        rw [← hws] at HQ HT
        clear hws
        have hTT : (S.toList == S.toList) = true := by simp
        have hTN : (S.toList != S.toList) = false := by simp
        have hl2 : ((r - (ws).length : Nat) : Int) = (r : Int) - (S.size : Int) := by have h1 := HQ.out.d.hr; have h2 := congrArg ByteArray.size HT.out; rw [strOfNums_size] at h2; omega
        have hwr : IntKind.i64.wrap ((r : Int) - (S.size : Int)) = (r : Int) - (S.size : Int) := by have h1 := HQ.out.d.hr; have h2 := congrArg ByteArray.size HT.out; rw [strOfNums_size] at h2; exact IntWalk.i64_in _ (by omega)
        have HL2 := Lib.hid hl2
        clear hl2
        refine wp_region_held_drew (S := fun W => PS w W gw g2 u S ws d r ∧ W.cell? ⟨gw, 0, none⟩ = some (.string S) ∧ W.cell? ⟨gw, 1, none⟩ = some (.int .i64 d) ∧ W.cell? ⟨gw, 2, none⟩ = some (.int .i64 r)) (by kernel_rfl) ⟨HQ.out.below (below_drewN _ 1), (HQ.out.below (below_drewN _ 1)).cells⟩ (fun hHeld => ?_)
        refine wpAnyH_take (i := 0) (oi := { dst := Option.some 108, op := Go.Op.move (Go.Operand.tmp 11), type := 25, pos := "law.go:70", after := #[], guard := Option.none }) (v := ?_) rfl (by kernel_rfl) (by kernel_rfl) (by kernel_rfl) (fun _ _ _ h => h) (Or.inl ⟨by rfl, ?_⟩) (by assumption) ?_
        rotate_left
        · intro w hSw; (try dsimp only at hSw); go_simp; all_goals (with_reducible rfl)
        try simp only [Act.put, List.setIfInBounds_toArray, List.set_cons_zero, List.set_cons_succ]
        refine wpAnyH_take (i := 1) (oi := { dst := Option.some 109, op := Go.Op.move (Go.Operand.tmp 12), type := 3, pos := "law.go:70", after := #[], guard := Option.none }) (v := ?_) rfl (by kernel_rfl) (by kernel_rfl) (by kernel_rfl) (fun _ _ _ h => h) (Or.inl ⟨by rfl, ?_⟩) (by assumption) ?_
        rotate_left
        · intro w hSw; (try dsimp only at hSw); go_simp; all_goals (with_reducible rfl)
        try simp only [Act.put, List.setIfInBounds_toArray, List.set_cons_zero, List.set_cons_succ]
        refine wpAnyH_take (i := 2) (oi := { dst := Option.some 110, op := Go.Op.binOp Go.BinOp.neq 3 (Go.Operand.tmp 108) (Go.Operand.tmp 109) 3, type := 4, pos := "law.go:70", after := #[{ on := 0, ground := Go.Ground.data }, { on := 1, ground := Go.Ground.data }], guard := Option.none }) (v := ?_) rfl (by kernel_rfl) (by kernel_rfl) (by kernel_rfl) (fun _ _ _ h => h) (Or.inl ⟨by rfl, ?_⟩) (by assumption) ?_
        rotate_left
        · intro w hSw; (try dsimp only at hSw); go_simp; all_goals (with_reducible rfl)
        try simp only [Act.put, List.setIfInBounds_toArray, List.set_cons_zero, List.set_cons_succ]
        refine wpAnyH_take (i := 3) (oi := { dst := Option.some 111, op := Go.Op.move (Go.Operand.tmp 110), type := 4, pos := "law.go:70", after := #[{ on := 2, ground := Go.Ground.data }], guard := Option.none }) (v := ?_) rfl (by kernel_rfl) (by kernel_rfl) (by kernel_rfl) (fun _ _ _ h => h) (Or.inl ⟨by rfl, ?_⟩) (by assumption) ?_
        rotate_left
        · intro w hSw; (try dsimp only at hSw); go_simp; all_goals (with_reducible rfl)
        try simp only [Act.put, List.setIfInBounds_toArray, List.set_cons_zero, List.set_cons_succ]
        refine wpAnyH_take (i := 4) (oi := { dst := Option.some 112, op := Go.Op.move (Go.Operand.tmp 5), type := 24, pos := "law.go:70", after := #[{ on := 3, ground := Go.Ground.guard }], guard := Option.some (3, Bool.false) }) (v := ?_) rfl (by kernel_rfl) (by kernel_rfl) (by kernel_rfl) (fun _ _ _ h => h) (Or.inl ⟨by rfl, ?_⟩) (by assumption) ?_
        rotate_left
        · intro w hSw; (try dsimp only at hSw); go_simp; all_goals (with_reducible rfl)
        try simp only [Act.put, List.setIfInBounds_toArray, List.set_cons_zero, List.set_cons_succ]
        refine wpAnyH_take (i := 5) (oi := { dst := Option.some 113, op := Go.Op.nilCheck (Go.Operand.tmp 112), type := 0, pos := "law.go:70", after := #[{ on := 4, ground := Go.Ground.data }, { on := 3, ground := Go.Ground.guard }], guard := Option.some (3, Bool.false) }) (v := ?_) rfl (by kernel_rfl) (by kernel_rfl) (by kernel_rfl) (fun _ _ _ h => h) (Or.inl ⟨by rfl, ?_⟩) (by assumption) ?_
        rotate_left
        · intro w hSw; (try dsimp only at hSw); go_simp; all_goals (with_reducible rfl)
        try simp only [Act.put, List.setIfInBounds_toArray, List.set_cons_zero, List.set_cons_succ]
        refine wpAnyH_take (i := 6) (oi := { dst := Option.some 114, op := Go.Op.fieldAddr 47 (Go.Operand.tmp 113) 0, type := 0, pos := "law.go:70", after := #[{ on := 5, ground := Go.Ground.data }, { on := 3, ground := Go.Ground.guard }], guard := Option.some (3, Bool.false) }) (v := ?_) rfl (by kernel_rfl) (by kernel_rfl) (by kernel_rfl) (fun _ _ _ h => h) (Or.inl ⟨by rfl, ?_⟩) (by assumption) ?_
        rotate_left
        · intro w hSw; (try dsimp only at hSw); go_simp; all_goals (with_reducible rfl)
        try simp only [Act.put, List.setIfInBounds_toArray, List.set_cons_zero, List.set_cons_succ]
        refine wpAnyH_take (i := 9) (oi := { dst := Option.some 117, op := Go.Op.fieldAddr 30 (Go.Operand.tmp 8) 0, type := 0, pos := "law.go:70", after := #[{ on := 3, ground := Go.Ground.guard }], guard := Option.some (3, Bool.false) }) (v := ?_) rfl (by kernel_rfl) (by kernel_rfl) (by kernel_rfl) (fun _ _ _ h => h) (Or.inl ⟨by rfl, ?_⟩) (by assumption) ?_
        rotate_left
        · intro w hSw; (try dsimp only at hSw); go_simp; all_goals (with_reducible rfl)
        try simp only [Act.put, List.setIfInBounds_toArray, List.set_cons_zero, List.set_cons_succ]
        refine wpAnyH_take (i := 10) (oi := { dst := Option.some 118, op := Go.Op.load 9 (Go.Operand.tmp 117), type := 9, pos := "law.go:70", after := #[{ on := 9, ground := Go.Ground.data }, { on := 3, ground := Go.Ground.guard }], guard := Option.some (3, Bool.false) }) (v := ?_) rfl (by kernel_rfl) (by kernel_rfl) (by kernel_rfl) (fun _ _ _ h => h) (Or.inl ⟨by rfl, ?_⟩) (by assumption) ?_
        rotate_left
        · intro w hSw; (try dsimp only at hSw); go_simp; all_goals (with_reducible rfl)
        try simp only [Act.put, List.setIfInBounds_toArray, List.set_cons_zero, List.set_cons_succ]
        refine wpAnyH_ready (rs := [7]) (by kernel_rfl) (by simp) ?_
        refine AllReadyH.cons (o := { dst := Option.some 115, op := Go.Op.call { callee := Go.Callee.value (Go.Operand.func 20), args := #[Go.Operand.tmp 114], argTypes := #[45] }, type := 31, pos := "law.go:70", after := #[{ on := 6, ground := Go.Ground.data }, { on := 3, ground := Go.Ground.chain }, { on := 3, ground := Go.Ground.guard }], guard := Option.some (3, Bool.false) }) rfl (fun K hK => ?_) AllReadyH.nil
        go_simp
        refine (bytes_any (B := w.heap.size) (g := g2) (d := d) (r := r) (v := u) (xs := ws) _ hHeld.1.d).mono ?_
        rintro e w8 ⟨u2, rfl, hown8, hb8⟩
        obtain ⟨ua2, uc2, rfl, hui, _⟩ := owned_slice hown8 hHeld.1.d.byte
        have hcu := hui.str uc2
        rw [← HT.out] at hcu
        have hF8 := Lib.hid (hHeld.1.below hb8)
        clear hown8 hb8 hui hHeld
        go_wp2_with fail
        refine hK.out _ _ (⟨hF8.out, hF8.out.cells⟩) (fun hHeld => ?_)
        clear hK K
        try simp only [Act.put, List.setIfInBounds_toArray, List.set_cons_zero, List.set_cons_succ]
        refine wpAnyH_ready (rs := [8]) (by kernel_rfl) (by simp) ?_
        refine AllReadyH.cons (o := { dst := Option.some 116, op := Go.Op.convert 31 9 (Go.Operand.tmp 115), type := 9, pos := "law.go:70", after := #[{ on := 7, ground := Go.Ground.data }, { on := 3, ground := Go.Ground.guard }], guard := Option.some (3, Bool.false) }) rfl (fun K hK => ?_) AllReadyH.nil
        go_simp
        refine hK.out _ _ (hHeld) (fun hHeld => ?_)
        clear hK K
        try simp only [Act.put, List.setIfInBounds_toArray, List.set_cons_zero, List.set_cons_succ]
        refine wpAnyH_take (i := 11) (oi := { dst := Option.some 119, op := Go.Op.binOp Go.BinOp.neq 9 (Go.Operand.tmp 116) (Go.Operand.tmp 118) 9, type := 4, pos := "law.go:70", after := #[{ on := 8, ground := Go.Ground.data }, { on := 10, ground := Go.Ground.data }, { on := 3, ground := Go.Ground.guard }], guard := Option.some (3, Bool.false) }) (v := ?_) rfl (by kernel_rfl) (by kernel_rfl) (by kernel_rfl) (fun _ _ _ h => h) (Or.inl ⟨by rfl, ?_⟩) (by assumption) ?_
        rotate_left
        · intro w hSw; (try dsimp only at hSw); go_simp; all_goals (with_reducible rfl)
        try simp only [Act.put, List.setIfInBounds_toArray, List.set_cons_zero, List.set_cons_succ]
        refine wpAnyH_take (i := 12) (oi := { dst := Option.some 120, op := Go.Op.pick (Go.Operand.tmp 111) (Go.Operand.const (Go.Value.bool Bool.true)) (Go.Operand.tmp 119), type := 4, pos := "law.go:70", after := #[{ on := 3, ground := Go.Ground.data }, { on := 11, ground := Go.Ground.data }], guard := Option.none }) (v := ?_) rfl (by kernel_rfl) (by kernel_rfl) (by kernel_rfl) (fun _ _ _ h => h) (Or.inl ⟨by rfl, ?_⟩) (by assumption) ?_
        rotate_left
        · intro w hSw; (try dsimp only at hSw); go_simp; all_goals (with_reducible rfl)
        try simp only [Act.put, List.setIfInBounds_toArray, List.set_cons_zero, List.set_cons_succ]
        refine wpAnyH_take (i := 13) (oi := { dst := Option.some 121, op := Go.Op.move (Go.Operand.tmp 120), type := 4, pos := "law.go:70", after := #[{ on := 12, ground := Go.Ground.data }, { on := 7, ground := Go.Ground.chain }], guard := Option.none }) (v := ?_) rfl (by kernel_rfl) (by kernel_rfl) (by kernel_rfl) (fun _ _ _ h => h) (Or.inl ⟨by rfl, ?_⟩) (by assumption) ?_
        rotate_left
        · intro w hSw; (try dsimp only at hSw); go_simp; all_goals (with_reducible rfl)
        try simp only [Act.put, List.setIfInBounds_toArray, List.set_cons_zero, List.set_cons_succ]
        refine wpAnyH_take (i := 14) (oi := { dst := Option.some 122, op := Go.Op.move (Go.Operand.tmp 5), type := 24, pos := "law.go:70", after := #[{ on := 13, ground := Go.Ground.guard }], guard := Option.some (13, Bool.false) }) (v := ?_) rfl (by kernel_rfl) (by kernel_rfl) (by kernel_rfl) (fun _ _ _ h => h) (Or.inl ⟨by rfl, ?_⟩) (by assumption) ?_
        rotate_left
        · intro w hSw; (try dsimp only at hSw); go_simp; all_goals (with_reducible rfl)
        try simp only [Act.put, List.setIfInBounds_toArray, List.set_cons_zero, List.set_cons_succ]
        refine wpAnyH_take (i := 15) (oi := { dst := Option.some 123, op := Go.Op.nilCheck (Go.Operand.tmp 122), type := 0, pos := "law.go:70", after := #[{ on := 14, ground := Go.Ground.data }, { on := 13, ground := Go.Ground.guard }], guard := Option.some (13, Bool.false) }) (v := ?_) rfl (by kernel_rfl) (by kernel_rfl) (by kernel_rfl) (fun _ _ _ h => h) (Or.inl ⟨by rfl, ?_⟩) (by assumption) ?_
        rotate_left
        · intro w hSw; (try dsimp only at hSw); go_simp; all_goals (with_reducible rfl)
        try simp only [Act.put, List.setIfInBounds_toArray, List.set_cons_zero, List.set_cons_succ]
        refine wpAnyH_take (i := 16) (oi := { dst := Option.some 124, op := Go.Op.fieldAddr 47 (Go.Operand.tmp 123) 0, type := 0, pos := "law.go:70", after := #[{ on := 15, ground := Go.Ground.data }, { on := 13, ground := Go.Ground.guard }], guard := Option.some (13, Bool.false) }) (v := ?_) rfl (by kernel_rfl) (by kernel_rfl) (by kernel_rfl) (fun _ _ _ h => h) (Or.inl ⟨by rfl, ?_⟩) (by assumption) ?_
        rotate_left
        · intro w hSw; (try dsimp only at hSw); go_simp; all_goals (with_reducible rfl)
        try simp only [Act.put, List.setIfInBounds_toArray, List.set_cons_zero, List.set_cons_succ]
        refine wpAnyH_take (i := 18) (oi := { dst := Option.some 126, op := Go.Op.fieldAddr 30 (Go.Operand.tmp 8) 0, type := 0, pos := "law.go:70", after := #[{ on := 13, ground := Go.Ground.guard }], guard := Option.some (13, Bool.false) }) (v := ?_) rfl (by kernel_rfl) (by kernel_rfl) (by kernel_rfl) (fun _ _ _ h => h) (Or.inl ⟨by rfl, ?_⟩) (by assumption) ?_
        rotate_left
        · intro w hSw; (try dsimp only at hSw); go_simp; all_goals (with_reducible rfl)
        try simp only [Act.put, List.setIfInBounds_toArray, List.set_cons_zero, List.set_cons_succ]
        refine wpAnyH_take (i := 19) (oi := { dst := Option.some 127, op := Go.Op.load 9 (Go.Operand.tmp 126), type := 9, pos := "law.go:70", after := #[{ on := 18, ground := Go.Ground.data }, { on := 13, ground := Go.Ground.guard }], guard := Option.some (13, Bool.false) }) (v := ?_) rfl (by kernel_rfl) (by kernel_rfl) (by kernel_rfl) (fun _ _ _ h => h) (Or.inl ⟨by rfl, ?_⟩) (by assumption) ?_
        rotate_left
        · intro w hSw; (try dsimp only at hSw); go_simp; all_goals (with_reducible rfl)
        try simp only [Act.put, List.setIfInBounds_toArray, List.set_cons_zero, List.set_cons_succ]
        refine wpAnyH_take (i := 20) (oi := { dst := Option.some 128, op := Go.Op.call { callee := Go.Callee.builtin Go.Builtin.len, args := #[Go.Operand.tmp 127], argTypes := #[9] }, type := 3, pos := "law.go:70", after := #[{ on := 19, ground := Go.Ground.data }, { on := 13, ground := Go.Ground.guard }], guard := Option.some (13, Bool.false) }) (v := ?_) rfl (by kernel_rfl) (by kernel_rfl) (by kernel_rfl) (fun _ _ _ h => h) (Or.inl ⟨by rfl, ?_⟩) (by assumption) ?_
        rotate_left
        · intro w hSw; (try dsimp only at hSw); go_simp; all_goals (with_reducible rfl)
        try simp only [Act.put, List.setIfInBounds_toArray, List.set_cons_zero, List.set_cons_succ]
        refine wpAnyH_ready (rs := [17]) (by kernel_rfl) (by simp) ?_
        refine AllReadyH.cons (o := { dst := Option.some 125, op := Go.Op.call { callee := Go.Callee.value (Go.Operand.func 21), args := #[Go.Operand.tmp 124], argTypes := #[45] }, type := 3, pos := "law.go:70", after := #[{ on := 16, ground := Go.Ground.data }, { on := 13, ground := Go.Ground.chain }, { on := 13, ground := Go.Ground.guard }], guard := Option.some (13, Bool.false) }) rfl (fun K hK => ?_) AllReadyH.nil
        go_simp
        refine (size_as (B := w.heap.size) (g := g2) (d := d) (r := r) (v := u) (xs := ws) _ hHeld.1.d (S.size : Int) (by rw [HT.out, strOfNums_size])).mono ?_
        rintro e w' ⟨rfl, rfl⟩
        go_wp2_with fail
        refine hK.out _ _ (hHeld) (fun hHeld => ?_)
        clear hK K
        try simp only [Act.put, List.setIfInBounds_toArray, List.set_cons_zero, List.set_cons_succ]
        refine wpAnyH_take (i := 21) (oi := { dst := Option.some 129, op := Go.Op.binOp Go.BinOp.neq 3 (Go.Operand.tmp 125) (Go.Operand.tmp 128) 3, type := 4, pos := "law.go:70", after := #[{ on := 17, ground := Go.Ground.data }, { on := 20, ground := Go.Ground.data }, { on := 13, ground := Go.Ground.guard }], guard := Option.some (13, Bool.false) }) (v := ?_) rfl (by kernel_rfl) (by kernel_rfl) (by kernel_rfl) (fun _ _ _ h => h) (Or.inl ⟨by rfl, ?_⟩) (by assumption) ?_
        rotate_left
        · intro w hSw; (try dsimp only at hSw); go_simp; all_goals (with_reducible rfl)
        try simp only [Act.put, List.setIfInBounds_toArray, List.set_cons_zero, List.set_cons_succ]
        refine wpAnyH_take (i := 22) (oi := { dst := Option.some 130, op := Go.Op.pick (Go.Operand.tmp 121) (Go.Operand.const (Go.Value.bool Bool.true)) (Go.Operand.tmp 129), type := 4, pos := "law.go:70", after := #[{ on := 13, ground := Go.Ground.data }, { on := 21, ground := Go.Ground.data }], guard := Option.none }) (v := ?_) rfl (by kernel_rfl) (by kernel_rfl) (by kernel_rfl) (fun _ _ _ h => h) (Or.inl ⟨by rfl, ?_⟩) (by assumption) ?_
        rotate_left
        · intro w hSw; (try dsimp only at hSw); go_simp; all_goals (with_reducible rfl)
        try simp only [Act.put, List.setIfInBounds_toArray, List.set_cons_zero, List.set_cons_succ]
        refine wpAnyH_take (i := 23) (oi := { dst := Option.some 131, op := Go.Op.move (Go.Operand.tmp 130), type := 4, pos := "law.go:70", after := #[{ on := 22, ground := Go.Ground.data }, { on := 17, ground := Go.Ground.chain }], guard := Option.none }) (v := ?_) rfl (by kernel_rfl) (by kernel_rfl) (by kernel_rfl) (fun _ _ _ h => h) (Or.inl ⟨by rfl, ?_⟩) (by assumption) ?_
        rotate_left
        · intro w hSw; (try dsimp only at hSw); go_simp; all_goals (with_reducible rfl)
        try simp only [Act.put, List.setIfInBounds_toArray, List.set_cons_zero, List.set_cons_succ]
        refine wpAnyH_take (i := 24) (oi := { dst := Option.some 132, op := Go.Op.move (Go.Operand.tmp 5), type := 24, pos := "law.go:70", after := #[{ on := 23, ground := Go.Ground.guard }], guard := Option.some (23, Bool.false) }) (v := ?_) rfl (by kernel_rfl) (by kernel_rfl) (by kernel_rfl) (fun _ _ _ h => h) (Or.inl ⟨by rfl, ?_⟩) (by assumption) ?_
        rotate_left
        · intro w hSw; (try dsimp only at hSw); go_simp; all_goals (with_reducible rfl)
        try simp only [Act.put, List.setIfInBounds_toArray, List.set_cons_zero, List.set_cons_succ]
        refine wpAnyH_take (i := 25) (oi := { dst := Option.some 133, op := Go.Op.nilCheck (Go.Operand.tmp 132), type := 0, pos := "law.go:70", after := #[{ on := 24, ground := Go.Ground.data }, { on := 23, ground := Go.Ground.guard }], guard := Option.some (23, Bool.false) }) (v := ?_) rfl (by kernel_rfl) (by kernel_rfl) (by kernel_rfl) (fun _ _ _ h => h) (Or.inl ⟨by rfl, ?_⟩) (by assumption) ?_
        rotate_left
        · intro w hSw; (try dsimp only at hSw); go_simp; all_goals (with_reducible rfl)
        try simp only [Act.put, List.setIfInBounds_toArray, List.set_cons_zero, List.set_cons_succ]
        refine wpAnyH_take (i := 26) (oi := { dst := Option.some 134, op := Go.Op.fieldAddr 47 (Go.Operand.tmp 133) 0, type := 0, pos := "law.go:70", after := #[{ on := 25, ground := Go.Ground.data }, { on := 23, ground := Go.Ground.guard }], guard := Option.some (23, Bool.false) }) (v := ?_) rfl (by kernel_rfl) (by kernel_rfl) (by kernel_rfl) (fun _ _ _ h => h) (Or.inl ⟨by rfl, ?_⟩) (by assumption) ?_
        rotate_left
        · intro w hSw; (try dsimp only at hSw); go_simp; all_goals (with_reducible rfl)
        try simp only [Act.put, List.setIfInBounds_toArray, List.set_cons_zero, List.set_cons_succ]
        refine wpAnyH_take (i := 28) (oi := { dst := Option.some 136, op := Go.Op.fieldAddr 30 (Go.Operand.tmp 8) 1, type := 0, pos := "law.go:70", after := #[{ on := 23, ground := Go.Ground.guard }], guard := Option.some (23, Bool.false) }) (v := ?_) rfl (by kernel_rfl) (by kernel_rfl) (by kernel_rfl) (fun _ _ _ h => h) (Or.inl ⟨by rfl, ?_⟩) (by assumption) ?_
        rotate_left
        · intro w hSw; (try dsimp only at hSw); go_simp; all_goals (with_reducible rfl)
        try simp only [Act.put, List.setIfInBounds_toArray, List.set_cons_zero, List.set_cons_succ]
        refine wpAnyH_take (i := 29) (oi := { dst := Option.some 137, op := Go.Op.load 3 (Go.Operand.tmp 136), type := 3, pos := "law.go:70", after := #[{ on := 28, ground := Go.Ground.data }, { on := 23, ground := Go.Ground.guard }], guard := Option.some (23, Bool.false) }) (v := ?_) rfl (by kernel_rfl) (by kernel_rfl) (by kernel_rfl) (fun _ _ _ h => h) (Or.inl ⟨by rfl, ?_⟩) (by assumption) ?_
        rotate_left
        · intro w hSw; (try dsimp only at hSw); go_simp; all_goals (with_reducible rfl)
        try simp only [Act.put, List.setIfInBounds_toArray, List.set_cons_zero, List.set_cons_succ]
        refine wpAnyH_ready (rs := [27]) (by kernel_rfl) (by simp) ?_
        refine AllReadyH.cons (o := { dst := Option.some 135, op := Go.Op.call { callee := Go.Callee.value (Go.Operand.func 22), args := #[Go.Operand.tmp 134], argTypes := #[45] }, type := 3, pos := "law.go:70", after := #[{ on := 26, ground := Go.Ground.data }, { on := 23, ground := Go.Ground.chain }, { on := 23, ground := Go.Ground.guard }], guard := Option.some (23, Bool.false) }) rfl (fun K hK => ?_) AllReadyH.nil
        go_simp
        refine (durable_any (B := w.heap.size) (g := g2) (d := d) (r := r) (v := u) (xs := ws) _ hHeld.1.d).mono ?_
        rintro e w' ⟨rfl, rfl⟩
        go_wp2_with fail
        refine hK.out _ _ (hHeld) (fun hHeld => ?_)
        clear hK K
        try simp only [Act.put, List.setIfInBounds_toArray, List.set_cons_zero, List.set_cons_succ]
        refine wpAnyH_take (i := 30) (oi := { dst := Option.some 138, op := Go.Op.binOp Go.BinOp.neq 3 (Go.Operand.tmp 135) (Go.Operand.tmp 137) 3, type := 4, pos := "law.go:70", after := #[{ on := 27, ground := Go.Ground.data }, { on := 29, ground := Go.Ground.data }, { on := 23, ground := Go.Ground.guard }], guard := Option.some (23, Bool.false) }) (v := ?_) rfl (by kernel_rfl) (by kernel_rfl) (by kernel_rfl) (fun _ _ _ h => h) (Or.inl ⟨by rfl, ?_⟩) (by assumption) ?_
        rotate_left
        · intro w hSw; (try dsimp only at hSw); go_simp; all_goals (with_reducible rfl)
        try simp only [Act.put, List.setIfInBounds_toArray, List.set_cons_zero, List.set_cons_succ]
        refine wpAnyH_take (i := 31) (oi := { dst := Option.some 139, op := Go.Op.pick (Go.Operand.tmp 131) (Go.Operand.const (Go.Value.bool Bool.true)) (Go.Operand.tmp 138), type := 4, pos := "law.go:70", after := #[{ on := 23, ground := Go.Ground.data }, { on := 30, ground := Go.Ground.data }], guard := Option.none }) (v := ?_) rfl (by kernel_rfl) (by kernel_rfl) (by kernel_rfl) (fun _ _ _ h => h) (Or.inl ⟨by rfl, ?_⟩) (by assumption) ?_
        rotate_left
        · intro w hSw; (try dsimp only at hSw); go_simp; all_goals (with_reducible rfl)
        try simp only [Act.put, List.setIfInBounds_toArray, List.set_cons_zero, List.set_cons_succ]
        refine wpAnyH_take (i := 32) (oi := { dst := Option.some 140, op := Go.Op.move (Go.Operand.tmp 139), type := 4, pos := "law.go:70", after := #[{ on := 31, ground := Go.Ground.data }, { on := 27, ground := Go.Ground.chain }], guard := Option.none }) (v := ?_) rfl (by kernel_rfl) (by kernel_rfl) (by kernel_rfl) (fun _ _ _ h => h) (Or.inl ⟨by rfl, ?_⟩) (by assumption) ?_
        rotate_left
        · intro w hSw; (try dsimp only at hSw); go_simp; all_goals (with_reducible rfl)
        try simp only [Act.put, List.setIfInBounds_toArray, List.set_cons_zero, List.set_cons_succ]
        refine wpAnyH_take (i := 33) (oi := { dst := Option.some 141, op := Go.Op.move (Go.Operand.tmp 5), type := 24, pos := "law.go:70", after := #[{ on := 32, ground := Go.Ground.guard }], guard := Option.some (32, Bool.false) }) (v := ?_) rfl (by kernel_rfl) (by kernel_rfl) (by kernel_rfl) (fun _ _ _ h => h) (Or.inl ⟨by rfl, ?_⟩) (by assumption) ?_
        rotate_left
        · intro w hSw; (try dsimp only at hSw); go_simp; all_goals (with_reducible rfl)
        try simp only [Act.put, List.setIfInBounds_toArray, List.set_cons_zero, List.set_cons_succ]
        refine wpAnyH_take (i := 35) (oi := { dst := Option.some 143, op := Go.Op.fieldAddr 30 (Go.Operand.tmp 8) 2, type := 0, pos := "law.go:70", after := #[{ on := 32, ground := Go.Ground.guard }], guard := Option.some (32, Bool.false) }) (v := ?_) rfl (by kernel_rfl) (by kernel_rfl) (by kernel_rfl) (fun _ _ _ h => h) (Or.inl ⟨by rfl, ?_⟩) (by assumption) ?_
        rotate_left
        · intro w hSw; (try dsimp only at hSw); go_simp; all_goals (with_reducible rfl)
        try simp only [Act.put, List.setIfInBounds_toArray, List.set_cons_zero, List.set_cons_succ]
        refine wpAnyH_take (i := 36) (oi := { dst := Option.some 144, op := Go.Op.load 3 (Go.Operand.tmp 143), type := 3, pos := "law.go:70", after := #[{ on := 35, ground := Go.Ground.data }, { on := 32, ground := Go.Ground.guard }], guard := Option.some (32, Bool.false) }) (v := ?_) rfl (by kernel_rfl) (by kernel_rfl) (by kernel_rfl) (fun _ _ _ h => h) (Or.inl ⟨by rfl, ?_⟩) (by assumption) ?_
        rotate_left
        · intro w hSw; (try dsimp only at hSw); go_simp; all_goals (with_reducible rfl)
        try simp only [Act.put, List.setIfInBounds_toArray, List.set_cons_zero, List.set_cons_succ]
        refine wpAnyH_take (i := 37) (oi := { dst := Option.some 145, op := Go.Op.fieldAddr 30 (Go.Operand.tmp 8) 0, type := 0, pos := "law.go:70", after := #[{ on := 32, ground := Go.Ground.guard }], guard := Option.some (32, Bool.false) }) (v := ?_) rfl (by kernel_rfl) (by kernel_rfl) (by kernel_rfl) (fun _ _ _ h => h) (Or.inl ⟨by rfl, ?_⟩) (by assumption) ?_
        rotate_left
        · intro w hSw; (try dsimp only at hSw); go_simp; all_goals (with_reducible rfl)
        try simp only [Act.put, List.setIfInBounds_toArray, List.set_cons_zero, List.set_cons_succ]
        refine wpAnyH_take (i := 38) (oi := { dst := Option.some 146, op := Go.Op.load 9 (Go.Operand.tmp 145), type := 9, pos := "law.go:70", after := #[{ on := 37, ground := Go.Ground.data }, { on := 32, ground := Go.Ground.guard }], guard := Option.some (32, Bool.false) }) (v := ?_) rfl (by kernel_rfl) (by kernel_rfl) (by kernel_rfl) (fun _ _ _ h => h) (Or.inl ⟨by rfl, ?_⟩) (by assumption) ?_
        rotate_left
        · intro w hSw; (try dsimp only at hSw); go_simp; all_goals (with_reducible rfl)
        try simp only [Act.put, List.setIfInBounds_toArray, List.set_cons_zero, List.set_cons_succ]
        refine wpAnyH_take (i := 39) (oi := { dst := Option.some 147, op := Go.Op.call { callee := Go.Callee.builtin Go.Builtin.len, args := #[Go.Operand.tmp 146], argTypes := #[9] }, type := 3, pos := "law.go:70", after := #[{ on := 38, ground := Go.Ground.data }, { on := 32, ground := Go.Ground.guard }], guard := Option.some (32, Bool.false) }) (v := ?_) rfl (by kernel_rfl) (by kernel_rfl) (by kernel_rfl) (fun _ _ _ h => h) (Or.inl ⟨by rfl, ?_⟩) (by assumption) ?_
        rotate_left
        · intro w hSw; (try dsimp only at hSw); go_simp; all_goals (with_reducible rfl)
        try simp only [Act.put, List.setIfInBounds_toArray, List.set_cons_zero, List.set_cons_succ]
        refine wpAnyH_take (i := 40) (oi := { dst := Option.some 148, op := Go.Op.binOp Go.BinOp.sub 3 (Go.Operand.tmp 144) (Go.Operand.tmp 147) 3, type := 3, pos := "law.go:70", after := #[{ on := 36, ground := Go.Ground.data }, { on := 39, ground := Go.Ground.data }, { on := 32, ground := Go.Ground.guard }], guard := Option.some (32, Bool.false) }) (v := ?_) rfl (by kernel_rfl) (by kernel_rfl) (by kernel_rfl) (fun _ _ _ h => h) (Or.inl ⟨by rfl, ?_⟩) (by assumption) ?_
        rotate_left
        · intro w hSw; (try dsimp only at hSw); go_simp; all_goals (with_reducible rfl)
        try simp only [Act.put, List.setIfInBounds_toArray, List.set_cons_zero, List.set_cons_succ]
        refine wpAnyH_ready (rs := [34]) (by kernel_rfl) (by simp) ?_
        refine AllReadyH.cons (o := { dst := Option.some 142, op := Go.Op.call { callee := Go.Callee.value (Go.Operand.func 23), args := #[Go.Operand.tmp 141], argTypes := #[24] }, type := 3, pos := "law.go:70", after := #[{ on := 33, ground := Go.Ground.data }, { on := 32, ground := Go.Ground.chain }, { on := 32, ground := Go.Ground.guard }], guard := Option.some (32, Bool.false) }) rfl (fun K hK => ?_) AllReadyH.nil
        go_simp
        refine (left_any (B := w.heap.size) (g := g2) (d := d) (r := r) (v := u) (xs := ws) _ hHeld.1.d).mono ?_
        rintro e w' ⟨rfl, qd, rfl⟩
        rw [HL2.out]
        have hF9 := Lib.hid (hHeld.1.below (below_drewN _ qd))
        clear hHeld
        go_wp2_with fail
        refine hK.out _ _ (⟨hF9.out, hF9.out.cells⟩) (fun hHeld => ?_)
        clear hK K
        try simp only [Act.put, List.setIfInBounds_toArray, List.set_cons_zero, List.set_cons_succ]
        refine wpAnyH_take (i := 41) (oi := { dst := Option.some 149, op := Go.Op.binOp Go.BinOp.neq 3 (Go.Operand.tmp 142) (Go.Operand.tmp 148) 3, type := 4, pos := "law.go:70", after := #[{ on := 34, ground := Go.Ground.data }, { on := 40, ground := Go.Ground.data }, { on := 32, ground := Go.Ground.guard }], guard := Option.some (32, Bool.false) }) (v := ?_) rfl (by kernel_rfl) (by kernel_rfl) (by kernel_rfl) (fun _ _ _ h => h) (Or.inl ⟨by rfl, ?_⟩) (by assumption) ?_
        rotate_left
        · intro w hSw; (try dsimp only at hSw); go_simp; all_goals (with_reducible rfl)
        try simp only [Act.put, List.setIfInBounds_toArray, List.set_cons_zero, List.set_cons_succ]
        refine wpAnyH_take (i := 42) (oi := { dst := Option.some 150, op := Go.Op.pick (Go.Operand.tmp 140) (Go.Operand.const (Go.Value.bool Bool.true)) (Go.Operand.tmp 149), type := 4, pos := "law.go:70", after := #[{ on := 32, ground := Go.Ground.data }, { on := 41, ground := Go.Ground.data }], guard := Option.none }) (v := ?_) rfl (by kernel_rfl) (by kernel_rfl) (by kernel_rfl) (fun _ _ _ h => h) (Or.inl ⟨by rfl, ?_⟩) (by assumption) ?_
        rotate_left
        · intro w hSw; (try dsimp only at hSw); go_simp; all_goals (with_reducible rfl)
        try simp only [Act.put, List.setIfInBounds_toArray, List.set_cons_zero, List.set_cons_succ]
        refine wpAnyH_done (by kernel_rfl) ?_ _
        have HF := Lib.hid hHeld.1
        clear hHeld
        go_wp2
        go_roundw
        case rel => exact ⟨k + 1, g2, d, u, ws, by omega, by go_num, rfl, by rw [← HT.out]; exact HF.out⟩
        case measure => simp [intOf]; omega
      · have hp0 : PS w (wr.alloc (.cells #[.int .i64 q, .slice ua m uc, .int .i64 kk] 33)) gw g v (strOfNums xs) xs d r := HP.out.below (below_alloc _ _)
        have ho0 : Whole (wr.alloc (.cells #[.int .i64 q, .slice ua m uc, .int .i64 kk] 33)) wr.heap.size 33 #[.int .i64 q, .slice ua m uc, .int .i64 kk] := heap_alloc_new wr _
        have hsz0 : (wr.alloc (.cells #[.int .i64 q, .slice ua m uc, .int .i64 kk] 33)).heap.size = wr.heap.size + 1 := by simp
        have HP0 := Lib.hid hp0
        have HO0 := Lib.hid ho0
        clear hp0 ho0
        have q0 : (q == 0) = false := by simp; omega
        have q1 : (q == 1) = false := by simp; omega
        have q2 : (q == 2) = false := by simp; omega
        have q3 : (q == 3) = false := by simp; omega
        have q4 : (q == 4) = false := by simp; omega
        obtain ⟨S, hS⟩ : ∃ S, S = strOfNums xs := ⟨_, rfl⟩
        rw [← hS] at HP0
        have HQ := HP0
        have HT := Lib.hid hS
        clear hS
        go_wp2_with fail
        clear c0 c1 c2 hsz0
        obtain ⟨ws, hws⟩ : ∃ ws, ws = xs := ⟨_, rfl⟩
        rw [← hws] at HQ HT
        clear hws
        generalize wr.alloc (.cells #[.int .i64 q, .slice ua m uc, .int .i64 kk] 33) = w9 at *
        have hTT : (S.toList == S.toList) = true := by simp
        have hTN : (S.toList != S.toList) = false := by simp
        have hl2 : ((r - (ws).length : Nat) : Int) = (r : Int) - (S.size : Int) := by have h1 := HQ.out.d.hr; have h2 := congrArg ByteArray.size HT.out; rw [strOfNums_size] at h2; omega
        have hwr : IntKind.i64.wrap ((r : Int) - (S.size : Int)) = (r : Int) - (S.size : Int) := by have h1 := HQ.out.d.hr; have h2 := congrArg ByteArray.size HT.out; rw [strOfNums_size] at h2; exact IntWalk.i64_in _ (by omega)
        have HL2 := Lib.hid hl2
        clear hl2
        refine wp_region_held_drew (S := fun W => PS w W gw g v S ws d r ∧ W.cell? ⟨gw, 0, none⟩ = some (.string S) ∧ W.cell? ⟨gw, 1, none⟩ = some (.int .i64 d) ∧ W.cell? ⟨gw, 2, none⟩ = some (.int .i64 r)) (by kernel_rfl) ⟨HQ.out.below (below_drewN _ 1), (HQ.out.below (below_drewN _ 1)).cells⟩ (fun hHeld => ?_)
        refine wpAnyH_take (i := 0) (oi := { dst := Option.some 108, op := Go.Op.move (Go.Operand.tmp 11), type := 25, pos := "law.go:70", after := #[], guard := Option.none }) (v := ?_) rfl (by kernel_rfl) (by kernel_rfl) (by kernel_rfl) (fun _ _ _ h => h) (Or.inl ⟨by rfl, ?_⟩) (by assumption) ?_
        rotate_left
        · intro w hSw; (try dsimp only at hSw); go_simp; all_goals (with_reducible rfl)
        try simp only [Act.put, List.setIfInBounds_toArray, List.set_cons_zero, List.set_cons_succ]
        refine wpAnyH_take (i := 1) (oi := { dst := Option.some 109, op := Go.Op.move (Go.Operand.tmp 12), type := 3, pos := "law.go:70", after := #[], guard := Option.none }) (v := ?_) rfl (by kernel_rfl) (by kernel_rfl) (by kernel_rfl) (fun _ _ _ h => h) (Or.inl ⟨by rfl, ?_⟩) (by assumption) ?_
        rotate_left
        · intro w hSw; (try dsimp only at hSw); go_simp; all_goals (with_reducible rfl)
        try simp only [Act.put, List.setIfInBounds_toArray, List.set_cons_zero, List.set_cons_succ]
        refine wpAnyH_take (i := 2) (oi := { dst := Option.some 110, op := Go.Op.binOp Go.BinOp.neq 3 (Go.Operand.tmp 108) (Go.Operand.tmp 109) 3, type := 4, pos := "law.go:70", after := #[{ on := 0, ground := Go.Ground.data }, { on := 1, ground := Go.Ground.data }], guard := Option.none }) (v := ?_) rfl (by kernel_rfl) (by kernel_rfl) (by kernel_rfl) (fun _ _ _ h => h) (Or.inl ⟨by rfl, ?_⟩) (by assumption) ?_
        rotate_left
        · intro w hSw; (try dsimp only at hSw); go_simp; all_goals (with_reducible rfl)
        try simp only [Act.put, List.setIfInBounds_toArray, List.set_cons_zero, List.set_cons_succ]
        refine wpAnyH_take (i := 3) (oi := { dst := Option.some 111, op := Go.Op.move (Go.Operand.tmp 110), type := 4, pos := "law.go:70", after := #[{ on := 2, ground := Go.Ground.data }], guard := Option.none }) (v := ?_) rfl (by kernel_rfl) (by kernel_rfl) (by kernel_rfl) (fun _ _ _ h => h) (Or.inl ⟨by rfl, ?_⟩) (by assumption) ?_
        rotate_left
        · intro w hSw; (try dsimp only at hSw); go_simp; all_goals (with_reducible rfl)
        try simp only [Act.put, List.setIfInBounds_toArray, List.set_cons_zero, List.set_cons_succ]
        refine wpAnyH_take (i := 4) (oi := { dst := Option.some 112, op := Go.Op.move (Go.Operand.tmp 5), type := 24, pos := "law.go:70", after := #[{ on := 3, ground := Go.Ground.guard }], guard := Option.some (3, Bool.false) }) (v := ?_) rfl (by kernel_rfl) (by kernel_rfl) (by kernel_rfl) (fun _ _ _ h => h) (Or.inl ⟨by rfl, ?_⟩) (by assumption) ?_
        rotate_left
        · intro w hSw; (try dsimp only at hSw); go_simp; all_goals (with_reducible rfl)
        try simp only [Act.put, List.setIfInBounds_toArray, List.set_cons_zero, List.set_cons_succ]
        refine wpAnyH_take (i := 5) (oi := { dst := Option.some 113, op := Go.Op.nilCheck (Go.Operand.tmp 112), type := 0, pos := "law.go:70", after := #[{ on := 4, ground := Go.Ground.data }, { on := 3, ground := Go.Ground.guard }], guard := Option.some (3, Bool.false) }) (v := ?_) rfl (by kernel_rfl) (by kernel_rfl) (by kernel_rfl) (fun _ _ _ h => h) (Or.inl ⟨by rfl, ?_⟩) (by assumption) ?_
        rotate_left
        · intro w hSw; (try dsimp only at hSw); go_simp; all_goals (with_reducible rfl)
        try simp only [Act.put, List.setIfInBounds_toArray, List.set_cons_zero, List.set_cons_succ]
        refine wpAnyH_take (i := 6) (oi := { dst := Option.some 114, op := Go.Op.fieldAddr 47 (Go.Operand.tmp 113) 0, type := 0, pos := "law.go:70", after := #[{ on := 5, ground := Go.Ground.data }, { on := 3, ground := Go.Ground.guard }], guard := Option.some (3, Bool.false) }) (v := ?_) rfl (by kernel_rfl) (by kernel_rfl) (by kernel_rfl) (fun _ _ _ h => h) (Or.inl ⟨by rfl, ?_⟩) (by assumption) ?_
        rotate_left
        · intro w hSw; (try dsimp only at hSw); go_simp; all_goals (with_reducible rfl)
        try simp only [Act.put, List.setIfInBounds_toArray, List.set_cons_zero, List.set_cons_succ]
        refine wpAnyH_take (i := 9) (oi := { dst := Option.some 117, op := Go.Op.fieldAddr 30 (Go.Operand.tmp 8) 0, type := 0, pos := "law.go:70", after := #[{ on := 3, ground := Go.Ground.guard }], guard := Option.some (3, Bool.false) }) (v := ?_) rfl (by kernel_rfl) (by kernel_rfl) (by kernel_rfl) (fun _ _ _ h => h) (Or.inl ⟨by rfl, ?_⟩) (by assumption) ?_
        rotate_left
        · intro w hSw; (try dsimp only at hSw); go_simp; all_goals (with_reducible rfl)
        try simp only [Act.put, List.setIfInBounds_toArray, List.set_cons_zero, List.set_cons_succ]
        refine wpAnyH_take (i := 10) (oi := { dst := Option.some 118, op := Go.Op.load 9 (Go.Operand.tmp 117), type := 9, pos := "law.go:70", after := #[{ on := 9, ground := Go.Ground.data }, { on := 3, ground := Go.Ground.guard }], guard := Option.some (3, Bool.false) }) (v := ?_) rfl (by kernel_rfl) (by kernel_rfl) (by kernel_rfl) (fun _ _ _ h => h) (Or.inl ⟨by rfl, ?_⟩) (by assumption) ?_
        rotate_left
        · intro w hSw; (try dsimp only at hSw); go_simp; all_goals (with_reducible rfl)
        try simp only [Act.put, List.setIfInBounds_toArray, List.set_cons_zero, List.set_cons_succ]
        refine wpAnyH_ready (rs := [7]) (by kernel_rfl) (by simp) ?_
        refine AllReadyH.cons (o := { dst := Option.some 115, op := Go.Op.call { callee := Go.Callee.value (Go.Operand.func 20), args := #[Go.Operand.tmp 114], argTypes := #[45] }, type := 31, pos := "law.go:70", after := #[{ on := 6, ground := Go.Ground.data }, { on := 3, ground := Go.Ground.chain }, { on := 3, ground := Go.Ground.guard }], guard := Option.some (3, Bool.false) }) rfl (fun K hK => ?_) AllReadyH.nil
        go_simp
        refine (bytes_any (B := w.heap.size) (g := g) (d := d) (r := r) (v := v) (xs := ws) _ hHeld.1.d).mono ?_
        rintro e w8 ⟨u2, rfl, hown8, hb8⟩
        obtain ⟨ua2, uc2, rfl, hui, _⟩ := owned_slice hown8 hHeld.1.d.byte
        have hcu := hui.str uc2
        rw [← HT.out] at hcu
        have hF8 := Lib.hid (hHeld.1.below hb8)
        clear hown8 hb8 hui hHeld
        go_wp2_with fail
        refine hK.out _ _ (⟨hF8.out, hF8.out.cells⟩) (fun hHeld => ?_)
        clear hK K
        try simp only [Act.put, List.setIfInBounds_toArray, List.set_cons_zero, List.set_cons_succ]
        refine wpAnyH_ready (rs := [8]) (by kernel_rfl) (by simp) ?_
        refine AllReadyH.cons (o := { dst := Option.some 116, op := Go.Op.convert 31 9 (Go.Operand.tmp 115), type := 9, pos := "law.go:70", after := #[{ on := 7, ground := Go.Ground.data }, { on := 3, ground := Go.Ground.guard }], guard := Option.some (3, Bool.false) }) rfl (fun K hK => ?_) AllReadyH.nil
        go_simp
        refine hK.out _ _ (hHeld) (fun hHeld => ?_)
        clear hK K
        try simp only [Act.put, List.setIfInBounds_toArray, List.set_cons_zero, List.set_cons_succ]
        refine wpAnyH_take (i := 11) (oi := { dst := Option.some 119, op := Go.Op.binOp Go.BinOp.neq 9 (Go.Operand.tmp 116) (Go.Operand.tmp 118) 9, type := 4, pos := "law.go:70", after := #[{ on := 8, ground := Go.Ground.data }, { on := 10, ground := Go.Ground.data }, { on := 3, ground := Go.Ground.guard }], guard := Option.some (3, Bool.false) }) (v := ?_) rfl (by kernel_rfl) (by kernel_rfl) (by kernel_rfl) (fun _ _ _ h => h) (Or.inl ⟨by rfl, ?_⟩) (by assumption) ?_
        rotate_left
        · intro w hSw; (try dsimp only at hSw); go_simp; all_goals (with_reducible rfl)
        try simp only [Act.put, List.setIfInBounds_toArray, List.set_cons_zero, List.set_cons_succ]
        refine wpAnyH_take (i := 12) (oi := { dst := Option.some 120, op := Go.Op.pick (Go.Operand.tmp 111) (Go.Operand.const (Go.Value.bool Bool.true)) (Go.Operand.tmp 119), type := 4, pos := "law.go:70", after := #[{ on := 3, ground := Go.Ground.data }, { on := 11, ground := Go.Ground.data }], guard := Option.none }) (v := ?_) rfl (by kernel_rfl) (by kernel_rfl) (by kernel_rfl) (fun _ _ _ h => h) (Or.inl ⟨by rfl, ?_⟩) (by assumption) ?_
        rotate_left
        · intro w hSw; (try dsimp only at hSw); go_simp; all_goals (with_reducible rfl)
        try simp only [Act.put, List.setIfInBounds_toArray, List.set_cons_zero, List.set_cons_succ]
        refine wpAnyH_take (i := 13) (oi := { dst := Option.some 121, op := Go.Op.move (Go.Operand.tmp 120), type := 4, pos := "law.go:70", after := #[{ on := 12, ground := Go.Ground.data }, { on := 7, ground := Go.Ground.chain }], guard := Option.none }) (v := ?_) rfl (by kernel_rfl) (by kernel_rfl) (by kernel_rfl) (fun _ _ _ h => h) (Or.inl ⟨by rfl, ?_⟩) (by assumption) ?_
        rotate_left
        · intro w hSw; (try dsimp only at hSw); go_simp; all_goals (with_reducible rfl)
        try simp only [Act.put, List.setIfInBounds_toArray, List.set_cons_zero, List.set_cons_succ]
        refine wpAnyH_take (i := 14) (oi := { dst := Option.some 122, op := Go.Op.move (Go.Operand.tmp 5), type := 24, pos := "law.go:70", after := #[{ on := 13, ground := Go.Ground.guard }], guard := Option.some (13, Bool.false) }) (v := ?_) rfl (by kernel_rfl) (by kernel_rfl) (by kernel_rfl) (fun _ _ _ h => h) (Or.inl ⟨by rfl, ?_⟩) (by assumption) ?_
        rotate_left
        · intro w hSw; (try dsimp only at hSw); go_simp; all_goals (with_reducible rfl)
        try simp only [Act.put, List.setIfInBounds_toArray, List.set_cons_zero, List.set_cons_succ]
        refine wpAnyH_take (i := 15) (oi := { dst := Option.some 123, op := Go.Op.nilCheck (Go.Operand.tmp 122), type := 0, pos := "law.go:70", after := #[{ on := 14, ground := Go.Ground.data }, { on := 13, ground := Go.Ground.guard }], guard := Option.some (13, Bool.false) }) (v := ?_) rfl (by kernel_rfl) (by kernel_rfl) (by kernel_rfl) (fun _ _ _ h => h) (Or.inl ⟨by rfl, ?_⟩) (by assumption) ?_
        rotate_left
        · intro w hSw; (try dsimp only at hSw); go_simp; all_goals (with_reducible rfl)
        try simp only [Act.put, List.setIfInBounds_toArray, List.set_cons_zero, List.set_cons_succ]
        refine wpAnyH_take (i := 16) (oi := { dst := Option.some 124, op := Go.Op.fieldAddr 47 (Go.Operand.tmp 123) 0, type := 0, pos := "law.go:70", after := #[{ on := 15, ground := Go.Ground.data }, { on := 13, ground := Go.Ground.guard }], guard := Option.some (13, Bool.false) }) (v := ?_) rfl (by kernel_rfl) (by kernel_rfl) (by kernel_rfl) (fun _ _ _ h => h) (Or.inl ⟨by rfl, ?_⟩) (by assumption) ?_
        rotate_left
        · intro w hSw; (try dsimp only at hSw); go_simp; all_goals (with_reducible rfl)
        try simp only [Act.put, List.setIfInBounds_toArray, List.set_cons_zero, List.set_cons_succ]
        refine wpAnyH_take (i := 18) (oi := { dst := Option.some 126, op := Go.Op.fieldAddr 30 (Go.Operand.tmp 8) 0, type := 0, pos := "law.go:70", after := #[{ on := 13, ground := Go.Ground.guard }], guard := Option.some (13, Bool.false) }) (v := ?_) rfl (by kernel_rfl) (by kernel_rfl) (by kernel_rfl) (fun _ _ _ h => h) (Or.inl ⟨by rfl, ?_⟩) (by assumption) ?_
        rotate_left
        · intro w hSw; (try dsimp only at hSw); go_simp; all_goals (with_reducible rfl)
        try simp only [Act.put, List.setIfInBounds_toArray, List.set_cons_zero, List.set_cons_succ]
        refine wpAnyH_take (i := 19) (oi := { dst := Option.some 127, op := Go.Op.load 9 (Go.Operand.tmp 126), type := 9, pos := "law.go:70", after := #[{ on := 18, ground := Go.Ground.data }, { on := 13, ground := Go.Ground.guard }], guard := Option.some (13, Bool.false) }) (v := ?_) rfl (by kernel_rfl) (by kernel_rfl) (by kernel_rfl) (fun _ _ _ h => h) (Or.inl ⟨by rfl, ?_⟩) (by assumption) ?_
        rotate_left
        · intro w hSw; (try dsimp only at hSw); go_simp; all_goals (with_reducible rfl)
        try simp only [Act.put, List.setIfInBounds_toArray, List.set_cons_zero, List.set_cons_succ]
        refine wpAnyH_take (i := 20) (oi := { dst := Option.some 128, op := Go.Op.call { callee := Go.Callee.builtin Go.Builtin.len, args := #[Go.Operand.tmp 127], argTypes := #[9] }, type := 3, pos := "law.go:70", after := #[{ on := 19, ground := Go.Ground.data }, { on := 13, ground := Go.Ground.guard }], guard := Option.some (13, Bool.false) }) (v := ?_) rfl (by kernel_rfl) (by kernel_rfl) (by kernel_rfl) (fun _ _ _ h => h) (Or.inl ⟨by rfl, ?_⟩) (by assumption) ?_
        rotate_left
        · intro w hSw; (try dsimp only at hSw); go_simp; all_goals (with_reducible rfl)
        try simp only [Act.put, List.setIfInBounds_toArray, List.set_cons_zero, List.set_cons_succ]
        refine wpAnyH_ready (rs := [17]) (by kernel_rfl) (by simp) ?_
        refine AllReadyH.cons (o := { dst := Option.some 125, op := Go.Op.call { callee := Go.Callee.value (Go.Operand.func 21), args := #[Go.Operand.tmp 124], argTypes := #[45] }, type := 3, pos := "law.go:70", after := #[{ on := 16, ground := Go.Ground.data }, { on := 13, ground := Go.Ground.chain }, { on := 13, ground := Go.Ground.guard }], guard := Option.some (13, Bool.false) }) rfl (fun K hK => ?_) AllReadyH.nil
        go_simp
        refine (size_as (B := w.heap.size) (g := g) (d := d) (r := r) (v := v) (xs := ws) _ hHeld.1.d (S.size : Int) (by rw [HT.out, strOfNums_size])).mono ?_
        rintro e w' ⟨rfl, rfl⟩
        go_wp2_with fail
        refine hK.out _ _ (hHeld) (fun hHeld => ?_)
        clear hK K
        try simp only [Act.put, List.setIfInBounds_toArray, List.set_cons_zero, List.set_cons_succ]
        refine wpAnyH_take (i := 21) (oi := { dst := Option.some 129, op := Go.Op.binOp Go.BinOp.neq 3 (Go.Operand.tmp 125) (Go.Operand.tmp 128) 3, type := 4, pos := "law.go:70", after := #[{ on := 17, ground := Go.Ground.data }, { on := 20, ground := Go.Ground.data }, { on := 13, ground := Go.Ground.guard }], guard := Option.some (13, Bool.false) }) (v := ?_) rfl (by kernel_rfl) (by kernel_rfl) (by kernel_rfl) (fun _ _ _ h => h) (Or.inl ⟨by rfl, ?_⟩) (by assumption) ?_
        rotate_left
        · intro w hSw; (try dsimp only at hSw); go_simp; all_goals (with_reducible rfl)
        try simp only [Act.put, List.setIfInBounds_toArray, List.set_cons_zero, List.set_cons_succ]
        refine wpAnyH_take (i := 22) (oi := { dst := Option.some 130, op := Go.Op.pick (Go.Operand.tmp 121) (Go.Operand.const (Go.Value.bool Bool.true)) (Go.Operand.tmp 129), type := 4, pos := "law.go:70", after := #[{ on := 13, ground := Go.Ground.data }, { on := 21, ground := Go.Ground.data }], guard := Option.none }) (v := ?_) rfl (by kernel_rfl) (by kernel_rfl) (by kernel_rfl) (fun _ _ _ h => h) (Or.inl ⟨by rfl, ?_⟩) (by assumption) ?_
        rotate_left
        · intro w hSw; (try dsimp only at hSw); go_simp; all_goals (with_reducible rfl)
        try simp only [Act.put, List.setIfInBounds_toArray, List.set_cons_zero, List.set_cons_succ]
        refine wpAnyH_take (i := 23) (oi := { dst := Option.some 131, op := Go.Op.move (Go.Operand.tmp 130), type := 4, pos := "law.go:70", after := #[{ on := 22, ground := Go.Ground.data }, { on := 17, ground := Go.Ground.chain }], guard := Option.none }) (v := ?_) rfl (by kernel_rfl) (by kernel_rfl) (by kernel_rfl) (fun _ _ _ h => h) (Or.inl ⟨by rfl, ?_⟩) (by assumption) ?_
        rotate_left
        · intro w hSw; (try dsimp only at hSw); go_simp; all_goals (with_reducible rfl)
        try simp only [Act.put, List.setIfInBounds_toArray, List.set_cons_zero, List.set_cons_succ]
        refine wpAnyH_take (i := 24) (oi := { dst := Option.some 132, op := Go.Op.move (Go.Operand.tmp 5), type := 24, pos := "law.go:70", after := #[{ on := 23, ground := Go.Ground.guard }], guard := Option.some (23, Bool.false) }) (v := ?_) rfl (by kernel_rfl) (by kernel_rfl) (by kernel_rfl) (fun _ _ _ h => h) (Or.inl ⟨by rfl, ?_⟩) (by assumption) ?_
        rotate_left
        · intro w hSw; (try dsimp only at hSw); go_simp; all_goals (with_reducible rfl)
        try simp only [Act.put, List.setIfInBounds_toArray, List.set_cons_zero, List.set_cons_succ]
        refine wpAnyH_take (i := 25) (oi := { dst := Option.some 133, op := Go.Op.nilCheck (Go.Operand.tmp 132), type := 0, pos := "law.go:70", after := #[{ on := 24, ground := Go.Ground.data }, { on := 23, ground := Go.Ground.guard }], guard := Option.some (23, Bool.false) }) (v := ?_) rfl (by kernel_rfl) (by kernel_rfl) (by kernel_rfl) (fun _ _ _ h => h) (Or.inl ⟨by rfl, ?_⟩) (by assumption) ?_
        rotate_left
        · intro w hSw; (try dsimp only at hSw); go_simp; all_goals (with_reducible rfl)
        try simp only [Act.put, List.setIfInBounds_toArray, List.set_cons_zero, List.set_cons_succ]
        refine wpAnyH_take (i := 26) (oi := { dst := Option.some 134, op := Go.Op.fieldAddr 47 (Go.Operand.tmp 133) 0, type := 0, pos := "law.go:70", after := #[{ on := 25, ground := Go.Ground.data }, { on := 23, ground := Go.Ground.guard }], guard := Option.some (23, Bool.false) }) (v := ?_) rfl (by kernel_rfl) (by kernel_rfl) (by kernel_rfl) (fun _ _ _ h => h) (Or.inl ⟨by rfl, ?_⟩) (by assumption) ?_
        rotate_left
        · intro w hSw; (try dsimp only at hSw); go_simp; all_goals (with_reducible rfl)
        try simp only [Act.put, List.setIfInBounds_toArray, List.set_cons_zero, List.set_cons_succ]
        refine wpAnyH_take (i := 28) (oi := { dst := Option.some 136, op := Go.Op.fieldAddr 30 (Go.Operand.tmp 8) 1, type := 0, pos := "law.go:70", after := #[{ on := 23, ground := Go.Ground.guard }], guard := Option.some (23, Bool.false) }) (v := ?_) rfl (by kernel_rfl) (by kernel_rfl) (by kernel_rfl) (fun _ _ _ h => h) (Or.inl ⟨by rfl, ?_⟩) (by assumption) ?_
        rotate_left
        · intro w hSw; (try dsimp only at hSw); go_simp; all_goals (with_reducible rfl)
        try simp only [Act.put, List.setIfInBounds_toArray, List.set_cons_zero, List.set_cons_succ]
        refine wpAnyH_take (i := 29) (oi := { dst := Option.some 137, op := Go.Op.load 3 (Go.Operand.tmp 136), type := 3, pos := "law.go:70", after := #[{ on := 28, ground := Go.Ground.data }, { on := 23, ground := Go.Ground.guard }], guard := Option.some (23, Bool.false) }) (v := ?_) rfl (by kernel_rfl) (by kernel_rfl) (by kernel_rfl) (fun _ _ _ h => h) (Or.inl ⟨by rfl, ?_⟩) (by assumption) ?_
        rotate_left
        · intro w hSw; (try dsimp only at hSw); go_simp; all_goals (with_reducible rfl)
        try simp only [Act.put, List.setIfInBounds_toArray, List.set_cons_zero, List.set_cons_succ]
        refine wpAnyH_ready (rs := [27]) (by kernel_rfl) (by simp) ?_
        refine AllReadyH.cons (o := { dst := Option.some 135, op := Go.Op.call { callee := Go.Callee.value (Go.Operand.func 22), args := #[Go.Operand.tmp 134], argTypes := #[45] }, type := 3, pos := "law.go:70", after := #[{ on := 26, ground := Go.Ground.data }, { on := 23, ground := Go.Ground.chain }, { on := 23, ground := Go.Ground.guard }], guard := Option.some (23, Bool.false) }) rfl (fun K hK => ?_) AllReadyH.nil
        go_simp
        refine (durable_any (B := w.heap.size) (g := g) (d := d) (r := r) (v := v) (xs := ws) _ hHeld.1.d).mono ?_
        rintro e w' ⟨rfl, rfl⟩
        go_wp2_with fail
        refine hK.out _ _ (hHeld) (fun hHeld => ?_)
        clear hK K
        try simp only [Act.put, List.setIfInBounds_toArray, List.set_cons_zero, List.set_cons_succ]
        refine wpAnyH_take (i := 30) (oi := { dst := Option.some 138, op := Go.Op.binOp Go.BinOp.neq 3 (Go.Operand.tmp 135) (Go.Operand.tmp 137) 3, type := 4, pos := "law.go:70", after := #[{ on := 27, ground := Go.Ground.data }, { on := 29, ground := Go.Ground.data }, { on := 23, ground := Go.Ground.guard }], guard := Option.some (23, Bool.false) }) (v := ?_) rfl (by kernel_rfl) (by kernel_rfl) (by kernel_rfl) (fun _ _ _ h => h) (Or.inl ⟨by rfl, ?_⟩) (by assumption) ?_
        rotate_left
        · intro w hSw; (try dsimp only at hSw); go_simp; all_goals (with_reducible rfl)
        try simp only [Act.put, List.setIfInBounds_toArray, List.set_cons_zero, List.set_cons_succ]
        refine wpAnyH_take (i := 31) (oi := { dst := Option.some 139, op := Go.Op.pick (Go.Operand.tmp 131) (Go.Operand.const (Go.Value.bool Bool.true)) (Go.Operand.tmp 138), type := 4, pos := "law.go:70", after := #[{ on := 23, ground := Go.Ground.data }, { on := 30, ground := Go.Ground.data }], guard := Option.none }) (v := ?_) rfl (by kernel_rfl) (by kernel_rfl) (by kernel_rfl) (fun _ _ _ h => h) (Or.inl ⟨by rfl, ?_⟩) (by assumption) ?_
        rotate_left
        · intro w hSw; (try dsimp only at hSw); go_simp; all_goals (with_reducible rfl)
        try simp only [Act.put, List.setIfInBounds_toArray, List.set_cons_zero, List.set_cons_succ]
        refine wpAnyH_take (i := 32) (oi := { dst := Option.some 140, op := Go.Op.move (Go.Operand.tmp 139), type := 4, pos := "law.go:70", after := #[{ on := 31, ground := Go.Ground.data }, { on := 27, ground := Go.Ground.chain }], guard := Option.none }) (v := ?_) rfl (by kernel_rfl) (by kernel_rfl) (by kernel_rfl) (fun _ _ _ h => h) (Or.inl ⟨by rfl, ?_⟩) (by assumption) ?_
        rotate_left
        · intro w hSw; (try dsimp only at hSw); go_simp; all_goals (with_reducible rfl)
        try simp only [Act.put, List.setIfInBounds_toArray, List.set_cons_zero, List.set_cons_succ]
        refine wpAnyH_take (i := 33) (oi := { dst := Option.some 141, op := Go.Op.move (Go.Operand.tmp 5), type := 24, pos := "law.go:70", after := #[{ on := 32, ground := Go.Ground.guard }], guard := Option.some (32, Bool.false) }) (v := ?_) rfl (by kernel_rfl) (by kernel_rfl) (by kernel_rfl) (fun _ _ _ h => h) (Or.inl ⟨by rfl, ?_⟩) (by assumption) ?_
        rotate_left
        · intro w hSw; (try dsimp only at hSw); go_simp; all_goals (with_reducible rfl)
        try simp only [Act.put, List.setIfInBounds_toArray, List.set_cons_zero, List.set_cons_succ]
        refine wpAnyH_take (i := 35) (oi := { dst := Option.some 143, op := Go.Op.fieldAddr 30 (Go.Operand.tmp 8) 2, type := 0, pos := "law.go:70", after := #[{ on := 32, ground := Go.Ground.guard }], guard := Option.some (32, Bool.false) }) (v := ?_) rfl (by kernel_rfl) (by kernel_rfl) (by kernel_rfl) (fun _ _ _ h => h) (Or.inl ⟨by rfl, ?_⟩) (by assumption) ?_
        rotate_left
        · intro w hSw; (try dsimp only at hSw); go_simp; all_goals (with_reducible rfl)
        try simp only [Act.put, List.setIfInBounds_toArray, List.set_cons_zero, List.set_cons_succ]
        refine wpAnyH_take (i := 36) (oi := { dst := Option.some 144, op := Go.Op.load 3 (Go.Operand.tmp 143), type := 3, pos := "law.go:70", after := #[{ on := 35, ground := Go.Ground.data }, { on := 32, ground := Go.Ground.guard }], guard := Option.some (32, Bool.false) }) (v := ?_) rfl (by kernel_rfl) (by kernel_rfl) (by kernel_rfl) (fun _ _ _ h => h) (Or.inl ⟨by rfl, ?_⟩) (by assumption) ?_
        rotate_left
        · intro w hSw; (try dsimp only at hSw); go_simp; all_goals (with_reducible rfl)
        try simp only [Act.put, List.setIfInBounds_toArray, List.set_cons_zero, List.set_cons_succ]
        refine wpAnyH_take (i := 37) (oi := { dst := Option.some 145, op := Go.Op.fieldAddr 30 (Go.Operand.tmp 8) 0, type := 0, pos := "law.go:70", after := #[{ on := 32, ground := Go.Ground.guard }], guard := Option.some (32, Bool.false) }) (v := ?_) rfl (by kernel_rfl) (by kernel_rfl) (by kernel_rfl) (fun _ _ _ h => h) (Or.inl ⟨by rfl, ?_⟩) (by assumption) ?_
        rotate_left
        · intro w hSw; (try dsimp only at hSw); go_simp; all_goals (with_reducible rfl)
        try simp only [Act.put, List.setIfInBounds_toArray, List.set_cons_zero, List.set_cons_succ]
        refine wpAnyH_take (i := 38) (oi := { dst := Option.some 146, op := Go.Op.load 9 (Go.Operand.tmp 145), type := 9, pos := "law.go:70", after := #[{ on := 37, ground := Go.Ground.data }, { on := 32, ground := Go.Ground.guard }], guard := Option.some (32, Bool.false) }) (v := ?_) rfl (by kernel_rfl) (by kernel_rfl) (by kernel_rfl) (fun _ _ _ h => h) (Or.inl ⟨by rfl, ?_⟩) (by assumption) ?_
        rotate_left
        · intro w hSw; (try dsimp only at hSw); go_simp; all_goals (with_reducible rfl)
        try simp only [Act.put, List.setIfInBounds_toArray, List.set_cons_zero, List.set_cons_succ]
        refine wpAnyH_take (i := 39) (oi := { dst := Option.some 147, op := Go.Op.call { callee := Go.Callee.builtin Go.Builtin.len, args := #[Go.Operand.tmp 146], argTypes := #[9] }, type := 3, pos := "law.go:70", after := #[{ on := 38, ground := Go.Ground.data }, { on := 32, ground := Go.Ground.guard }], guard := Option.some (32, Bool.false) }) (v := ?_) rfl (by kernel_rfl) (by kernel_rfl) (by kernel_rfl) (fun _ _ _ h => h) (Or.inl ⟨by rfl, ?_⟩) (by assumption) ?_
        rotate_left
        · intro w hSw; (try dsimp only at hSw); go_simp; all_goals (with_reducible rfl)
        try simp only [Act.put, List.setIfInBounds_toArray, List.set_cons_zero, List.set_cons_succ]
        refine wpAnyH_take (i := 40) (oi := { dst := Option.some 148, op := Go.Op.binOp Go.BinOp.sub 3 (Go.Operand.tmp 144) (Go.Operand.tmp 147) 3, type := 3, pos := "law.go:70", after := #[{ on := 36, ground := Go.Ground.data }, { on := 39, ground := Go.Ground.data }, { on := 32, ground := Go.Ground.guard }], guard := Option.some (32, Bool.false) }) (v := ?_) rfl (by kernel_rfl) (by kernel_rfl) (by kernel_rfl) (fun _ _ _ h => h) (Or.inl ⟨by rfl, ?_⟩) (by assumption) ?_
        rotate_left
        · intro w hSw; (try dsimp only at hSw); go_simp; all_goals (with_reducible rfl)
        try simp only [Act.put, List.setIfInBounds_toArray, List.set_cons_zero, List.set_cons_succ]
        refine wpAnyH_ready (rs := [34]) (by kernel_rfl) (by simp) ?_
        refine AllReadyH.cons (o := { dst := Option.some 142, op := Go.Op.call { callee := Go.Callee.value (Go.Operand.func 23), args := #[Go.Operand.tmp 141], argTypes := #[24] }, type := 3, pos := "law.go:70", after := #[{ on := 33, ground := Go.Ground.data }, { on := 32, ground := Go.Ground.chain }, { on := 32, ground := Go.Ground.guard }], guard := Option.some (32, Bool.false) }) rfl (fun K hK => ?_) AllReadyH.nil
        go_simp
        refine (left_any (B := w.heap.size) (g := g) (d := d) (r := r) (v := v) (xs := ws) _ hHeld.1.d).mono ?_
        rintro e w' ⟨rfl, qd, rfl⟩
        rw [HL2.out]
        have hF9 := Lib.hid (hHeld.1.below (below_drewN _ qd))
        clear hHeld
        go_wp2_with fail
        refine hK.out _ _ (⟨hF9.out, hF9.out.cells⟩) (fun hHeld => ?_)
        clear hK K
        try simp only [Act.put, List.setIfInBounds_toArray, List.set_cons_zero, List.set_cons_succ]
        refine wpAnyH_take (i := 41) (oi := { dst := Option.some 149, op := Go.Op.binOp Go.BinOp.neq 3 (Go.Operand.tmp 142) (Go.Operand.tmp 148) 3, type := 4, pos := "law.go:70", after := #[{ on := 34, ground := Go.Ground.data }, { on := 40, ground := Go.Ground.data }, { on := 32, ground := Go.Ground.guard }], guard := Option.some (32, Bool.false) }) (v := ?_) rfl (by kernel_rfl) (by kernel_rfl) (by kernel_rfl) (fun _ _ _ h => h) (Or.inl ⟨by rfl, ?_⟩) (by assumption) ?_
        rotate_left
        · intro w hSw; (try dsimp only at hSw); go_simp; all_goals (with_reducible rfl)
        try simp only [Act.put, List.setIfInBounds_toArray, List.set_cons_zero, List.set_cons_succ]
        refine wpAnyH_take (i := 42) (oi := { dst := Option.some 150, op := Go.Op.pick (Go.Operand.tmp 140) (Go.Operand.const (Go.Value.bool Bool.true)) (Go.Operand.tmp 149), type := 4, pos := "law.go:70", after := #[{ on := 32, ground := Go.Ground.data }, { on := 41, ground := Go.Ground.data }], guard := Option.none }) (v := ?_) rfl (by kernel_rfl) (by kernel_rfl) (by kernel_rfl) (fun _ _ _ h => h) (Or.inl ⟨by rfl, ?_⟩) (by assumption) ?_
        rotate_left
        · intro w hSw; (try dsimp only at hSw); go_simp; all_goals (with_reducible rfl)
        try simp only [Act.put, List.setIfInBounds_toArray, List.set_cons_zero, List.set_cons_succ]
        refine wpAnyH_done (by kernel_rfl) ?_ _
        have HF := Lib.hid hHeld.1
        clear hHeld
        go_wp2
        go_roundw
        case rel => exact ⟨k + 1, g, d, v, ws, by omega, by go_num, rfl, by rw [← HT.out]; exact HF.out⟩
        case measure => simp [intOf]; omega
    · go_wp2
      go_ret
      exact ⟨rfl, hp.b⟩

theorem plays_walk (r : Int) (a : Option Addr) (n c : Nat) (w : World) (hz : OpsIn w a n) (hn : n ≤ maxLen) :
    Calls Try.prog 3 #[.int .i64 r, .slice a n c] w fun e w' => e = .returned (.bool true) ∧ Below w.heap.size w w' := by
  by_cases hr : r < 0 ∨ 1048576 < r
  · exact plays_bad r a n c w hr
  · obtain ⟨m, rfl⟩ : ∃ m : Nat, r = (m : Int) := ⟨r.toNat, by omega⟩
    exact plays_good m a n c w (by omega) hz hn
end Go.Proofs.Ytnppnccokmcbpaa
