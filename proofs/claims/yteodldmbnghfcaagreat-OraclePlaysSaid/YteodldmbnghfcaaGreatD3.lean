/- The disk's calls: Bytes, cut, Sync, Truncate. -/
import Derived.Test.YteodldmbnghfcaaGreatD2
namespace Go.Proofs.YteodldmbnghfcaaGreat.Dk
open Go.RowKit

theorem wpList_append_own_any {P : Program} (w : World) {ops : Array Oper} {rest : List Oper} {o : Oper} {a : Act} {Q : Exit → Act → World → Prop} (hgd : o.guard = none) (s x : Operand) (t : TypeId)
    (ho : o.op = .call { callee := .builtin .append, args := #[s, x], argTypes := #[t, t] })
    (base : Nat) (e : TypeId) (i : TypeInfo) (z : Value) (size bytes : Nat) (ht : P.underlying t = some (.slice e)) (hi : P.info? e = some i) (hz : i.zero = some z)
    (hsize : i.size = size) (hby : i.bytes = bytes) (hzs : z.cells.size = size) (hsz : 0 < size)
    (v : Value) (n : Nat) (xs : List Value) (hs : a.eval s = v) (hown : w.ownsRow base e size v n xs)
    (ao : Option Addr) (m c : Nat) (news : List Value) (hx : a.eval x = .slice ao m c) (hl : news.length = m * size) (hnone : ao = none → m = 0 ∧ c = 0)
    (hnews : ∀ ad, ao = some ad → ∀ j u, news[j]? = some u → w.cell? (ad.add j) = some u) (h1 : ∀ u ∈ news, u.oneCell' = true)
    (h63 : n + m ≤ maxLen) (hbytes : (n + m) * bytes ≤ 140737488355328) (hbase : base ≤ w.heap.size)
    (h : ∀ v' w', w'.ownsRow base e size v' (n + m) (xs ++ news) → w.grownBy w' v.ownBlock → wpList P ops Q rest (a.put o.dst v') w') : wpList P ops Q (o :: rest) a w := by
  cases ao with
  | some ad => exact wpList_append_own w hgd s x t ho base e i z size bytes ht hi hz hsize hby hzs hsz v n xs hs hown ad m c news hx hl (hnews ad rfl) h1 h63 hbytes hbase fun v' w' h2 h3 _ => h v' w' h2 h3
  | none =>
    obtain ⟨rfl, rfl⟩ := hnone rfl
    have hn : news = [] := List.eq_nil_of_length_eq_zero (by simpa using hl)
    subst hn
    exact wpList_append_own_none hgd s x t ho base e i size ht hi v n xs hs hown hx (h v w (by simpa using hown) (World.grownBy.refl _ _))

theorem owns_head {w : World} {base n c k : Nat} {e : TypeId} {a : Option Addr} {l : List Value} (h : w.ownsRow base e 1 (.slice a n c) n l) (hk : k ≤ n) : w.ownsRow base e 1 (.slice a k c) k (l.take k) := by
  have hl := h.1
  refine ⟨by simp; omega, ?_⟩
  rcases h.2 with ⟨hv, h0⟩ | ⟨g, cap, cur, hv, h1, h2, h3, h4, h5, h6⟩
  · injection hv with e1 e2 e3
    subst e1 e3
    obtain rfl : k = 0 := by omega
    exact .inl ⟨rfl, rfl⟩
  · injection hv with e1 e2 e3
    subst e1 e3
    exact .inr ⟨g, c, cur, rfl, h1, h2, by omega, h4, h5, by rw [← h6, List.take_take]; congr 1; omega⟩
theorem Whole.store {w : World} {g : Nat} {t : TypeId} {cs : Array Value} (h : Whole w g t cs) (i : Nat) (u : Value) : Whole (w.setCell ⟨g, i, none⟩ u) g t (cs.setIfInBounds i u) := by
  unfold Whole at h ⊢
  simp [World.setCell, Array.getElem?_modify, h]
theorem owns_far {w : World} {base n : Nat} {e : TypeId} {v : Value} {l : List Value} (h : w.ownsRow base e 1 v n l) (g i : Nat) (hg : v.ownBlock ≠ some g) (u : Value) : (w.setCell ⟨g, i, none⟩ u).ownsRow base e 1 v n l :=
  owns_kept h (fun k hk => Below.heap_setCell w ⟨g, i, none⟩ u k (by rintro rfl; exact hg hk))

set_option maxRecDepth 100000 in
set_option maxHeartbeats 1000000 in
theorem bytes_any {B g d r : Nat} {v : Value} {xs : List Int} (w : World) (h : DAt w B g v xs d r) :
    Calls Tryz.prog 26 #[.pointer (some ⟨g, 0, none⟩)] w fun e w' => ∃ u, e = .returned u ∧ w'.ownsRow w.heap.size 5 1 u xs.length (xs.map (Value.int .u8)) ∧ Below w.heap.size w w' := by
  obtain ⟨i0, hi, hz0, hz1, hz2⟩ := info_parts Tryz.infoB
  obtain ⟨c0, _⟩ := h.cells
  obtain ⟨a, c, rfl, hb, hn, hc, hm⟩ := h.slice
  have HNW := Lib.hid hb.news
  have HLN := Lib.hid (show (xs.map (Value.int .u8)).length = xs.length * 1 by simp)
  have HN := Lib.hid hn
  have hlm : xs.length ≤ 1048576 := by have := h.hr; have := h.hm; omega
  clear h hb hn
  go_enter Tryz.func26, Tryz.ntmps26
  go_wp2_with (at_builtin; refine wpList_append_own_any _ rfl _ _ 68 rfl w.heap.size 5 i0 (.int .u8 0) 1 1 Tryz.underlying68 hi hz0 hz1 hz2 rfl (by decide) _ 0 [] rfl (World.ownsRow_nil _ _ _ _) a xs.length c (xs.map (Value.int .u8)) rfl HLN.out HN.out HNW.out (oneCell_map xs) (by unfold maxLen; omega) (by omega) (by simp) ?_; intro v2 w2 hown2 hgrow2)
  have HO := Lib.hid hown2
  have HG := Lib.hid hgrow2
  clear hown2 hgrow2
  go_wp2
  go_ret
  exact ⟨_, rfl, by simpa using HO.out, (Below.refl _ _).grown HG.out (Nat.le_refl _) (by intro k hk; cases hk)⟩

set_option maxRecDepth 100000 in
set_option maxHeartbeats 1000000 in
theorem cut_any {B g d r : Nat} {v : Value} {xs : List Int} (k : Nat) (w : World) (h : DAt w B g v xs d r) (hk : k ≤ xs.length) :
    Calls Tryz.prog 42 #[.pointer (some ⟨g, 0, none⟩), .int .i64 k] w fun e w' => e = .returned (.tuple #[]) ∧ ∃ v', DAt w' B g v' (xs.take k) k r ∧ Turned w w' g none ∧ v'.ownBlock = v.ownBlock := by
  obtain ⟨c0, c1, _, f0, f1⟩ := h.cells
  have hap := h.apart B (e := 5) (by decide) h.own
  have hg := h.blk.lt
  obtain ⟨a, c, rfl, hb, hn, hc, hm⟩ := h.slice
  have hs := fun w => slice_head a xs.length c k (by omega) w
  have H := Lib.hid h
  have HA := Lib.hid hap
  clear h hb hn hap
  go_enter Tryz.func42, Tryz.ntmps42
  go_wp2
  go_end0
  have hlt : (xs.take k).length = k := by simp; omega
  have ho := owns_head H.out.own hk
  refine ⟨rfl, .slice a k c, ⟨?_, H.out.ge, ?_, fun x hx => H.out.byte x (List.mem_of_mem_take hx), by omega, by have := H.out.hr; omega, H.out.hm⟩, ((Turned.refl w g none).setCell 0 _).setCell 1 _, by cases a <;> rfl⟩
  · have := (H.out.blk.store 0 (.slice a k c)).store 1 (.int .i64 k)
    simpa using this
  · rw [hlt, List.map_take]
    exact owns_far (owns_far ho g 0 (by cases a <;> exact HA.out) _) g 1 (by cases a <;> exact HA.out) _

set_option maxRecDepth 100000 in
set_option maxHeartbeats 1000000 in
theorem sync_any {B g d r : Nat} {v : Value} {xs : List Int} (w : World) (h : DAt w B g v xs d r) :
    Calls Tryz.prog 51 #[.pointer (some ⟨g, 0, none⟩)] w fun e w' => e = .returned (.tuple #[]) ∧ DAt w' B g v xs xs.length r ∧ Turned w w' g none := by
  obtain ⟨c0, c1, _, f0, f1⟩ := h.cells
  have H := Lib.hid h
  clear h
  go_enter Tryz.func51, Tryz.ntmps51
  go_wp2_with (go_at_call 40; refine (size_any _ H.out).mono ?_; rintro e w' ⟨rfl, rfl⟩)
  go_end0
  refine ⟨rfl, ⟨?_, H.out.ge, owns_far H.out.own g 1 (H.out.apart B (e := 5) (by decide) H.out.own) _, H.out.byte, Nat.le_refl _, H.out.hr, H.out.hm⟩, (Turned.refl w g none).setCell 1 _⟩
  have := H.out.blk.store 1 (.int .i64 xs.length)
  simpa using this

set_option maxRecDepth 100000 in
theorem trunc_bad {B g d r : Nat} {v : Value} {xs : List Int} (k : Int) (w : World) (h : DAt w B g v xs d r) (hk : k < 0 ∨ (xs.length : Int) < k) :
    Calls Tryz.prog 34 #[.pointer (some ⟨g, 0, none⟩), .int .i64 k] w fun e w' => e = .returned (.int .i64 1) ∧ w = w' := by
  have H := Lib.hid h
  clear h
  by_cases h0 : k < 0
  · go_enter Tryz.func34, Tryz.ntmps34
    go_wp2
    go_ret
    exact ⟨rfl, rfl⟩
  · have h1 : (xs.length : Int) < k := by omega
    clear hk
    go_enter Tryz.func34, Tryz.ntmps34
    go_wp2_with (go_at_call 40; refine (size_any _ H.out).mono ?_; rintro e w' ⟨rfl, rfl⟩)
    go_ret
    exact ⟨rfl, rfl⟩
set_option maxRecDepth 100000 in
theorem trunc_good {B g d r : Nat} {v : Value} {xs : List Int} (k : Nat) (w : World) (h : DAt w B g v xs d r) (hk : k ≤ xs.length) :
    Calls Tryz.prog 34 #[.pointer (some ⟨g, 0, none⟩), .int .i64 k] w fun e w' => e = .returned (.int .i64 0) ∧ ∃ v', DAt w' B g v' (xs.take k) k r ∧ Turned w w' g none ∧ v'.ownBlock = v.ownBlock := by
  have H := Lib.hid h
  clear h
  go_enter Tryz.func34, Tryz.ntmps34
  go_wp2_with (first
    | (go_at_call 40; refine (size_any _ H.out).mono ?_; rintro e w' ⟨rfl, rfl⟩)
    | (go_at_call 42; refine (cut_any k _ H.out hk).mono ?_; rintro e w' ⟨rfl, v', hd, ht, ho⟩; have HD := Lib.hid hd; have HT := Lib.hid ht; have HO := Lib.hid ho; clear hd ht ho))
  go_ret
  exact ⟨rfl, v', HD.out, HT.out, HO.out⟩
end Go.Proofs.YteodldmbnghfcaaGreat.Dk
