/- NetPlays: the network beside the document's packets; each pair of calls. -/
import Derived.Test.YtmmjgpdclodlfaaNR4
import Derived.Test.YtmmjgpdclodlfaaN12
namespace Go.Proofs.Ytmmjgpdclodlfaa
open Go.RowKit

/-- The blocks of a network. -/
def NX (g : Nat) (v : Value) (ps : List Pk) (k : Nat) : Prop := NB g v k ∨ ∃ p ∈ ps, p.v.ownBlock = some k
/-- Packets as the network takes them. -/
structure Good (nodes : Int) (ps : List Pk) : Prop where
  each : ∀ p ∈ ps, (0 ≤ p.fr ∧ p.fr < nodes ∧ 0 ≤ p.dst ∧ p.dst < nodes) ∧ p.xs.length ≤ 140737488351232
  len : ps.length ≤ 4096
theorem Good.sub {nodes : Int} {ps qs : List Pk} (h : Good nodes ps) (hs : qs.Sublist ps) : Good nodes qs := ⟨fun p hp => h.each p (hs.subset hp), Nat.le_trans hs.length_le h.len⟩
theorem NAt.nx {w : World} {B g : Nat} {nodes : Int} {v : Value} {ps : List Pk} (h : NAt w B g nodes v ps) {k : Nat} (hk : NX g v ps k) : B ≤ k ∧ k < w.heap.size := by
  rcases hk with (rfl | hk) | ⟨p, hp, hk⟩
  · exact ⟨h.geg, h.net.lt⟩
  · obtain ⟨h1, cur, hW⟩ := h.row.block hk
    exact ⟨h1, hW.lt⟩
  · obtain ⟨h1, cur, hW⟩ := (h.pks p hp).block hk
    exact ⟨h1, hW.lt⟩
/-- What a call on the network leaves. -/
structure NPost (W w' : World) (B g : Nat) (nodes : Int) (v : Value) (ps : List Pk) (l' : List Dp) : Prop where
  ex : ∃ v' ps', NAt w' B g nodes v' ps' ∧ ps'.map dk = l' ∧ Good nodes ps' ∧ (∀ k, NX g v' ps' k → NX g v ps k ∨ W.heap.size ≤ k)
  chg : Chg W w' (NX g v ps)
theorem NPost.below {W w' : World} {B g : Nat} {nodes : Int} {v : Value} {ps : List Pk} {l : List Dp} (h : NAt W B g nodes v ps) (hb : Below W.heap.size W w') (hg : Good nodes ps) (he : ps.map dk = l) : NPost W w' B g nodes v ps l :=
  ⟨⟨v, ps, h.below hb, he, hg, fun _ hk => .inl hk⟩, Chg.ofBelow _ hb⟩
/-- What a call of the document leaves. -/
structure DPost (W w' : World) (B : Nat) (a : Option Addr) (val : Value) (l' : List Dp) : Prop where
  ex : ∃ a' c', val = .slice a' l'.length c' ∧ Ds w' B a' c' l' ∧ (∀ ad, a' = some ad → a = some ad ∨ W.heap.size ≤ ad.block)
  below : Below W.heap.size W w'
theorem DPost.same {W w' : World} {B c : Nat} {a : Option Addr} {l : List Dp} (h : Ds W B a c l) (hb : Below W.heap.size W w') : DPost W w' B a (.slice a l.length c) l :=
  ⟨⟨a, c, rfl, h.below hb, fun _ h => .inl h⟩, hb⟩
theorem DPost.new {W w' : World} {B c' : Nat} {a a' : Option Addr} {l' : List Dp} (hB : B ≤ W.heap.size) (h : Ds w' W.heap.size a' c' l') (hb : Below W.heap.size W w') : DPost W w' B a (.slice a' l'.length c') l' :=
  ⟨⟨a', c', rfl, h.mono hB, fun ad ha => .inr (h.row.at_ ad ha).2.2.1⟩, hb⟩
/-- The law's two networks. -/
structure NJ (w wr : World) (g : Nat) (nodes : Int) (v : Value) (ps : List Pk) (a : Option Addr) (c : Nat) (l : List Dp) : Prop where
  net : NAt wr w.heap.size g nodes v ps
  good : Good nodes ps
  doc : Ds wr w.heap.size a c l
  sep : ∀ ad, a = some ad → ¬ NX g v ps ad.block
  up : Below w.heap.size w wr
section
variable {w W W' : World} {g : Nat} {nodes : Int} {v : Value} {ps : List Pk} {a : Option Addr} {c : Nat} {l l' : List Dp}
theorem NJ.below (h : NJ w W g nodes v ps a c l) (hb : Below W.heap.size W W') : NJ w W' g nodes v ps a c l :=
  ⟨h.net.below hb, h.good, h.doc.below hb, h.sep, h.up.trans (hb.mono h.up.size)⟩
theorem NJ.net_step (h : NJ w W g nodes v ps a c l) (hp : NPost W W' w.heap.size g nodes v ps l') : ∃ v' ps', NJ w W' g nodes v' ps' a c l ∧ ps'.map dk = l' := by
  obtain ⟨⟨v', ps', hN, he, hg, hx⟩, hc⟩ := hp
  refine ⟨v', ps', ⟨hN, hg, ⟨h.doc.row.keep hc.size fun ad ha => hc.block _ (h.doc.row.at_ ad ha).2.1 (h.sep ad ha)⟩, fun ad ha hk => ?_, h.up.trans (hc.below (fun k hk => (h.net.nx hk).1) h.up.size)⟩, he⟩
  rcases hx _ hk with h1 | h1
  · exact h.sep ad ha h1
  · have := (h.doc.row.at_ ad ha).2.1
    omega
theorem NJ.doc_step {val : Value} (h : NJ w W g nodes v ps a c l) (hp : DPost W W' w.heap.size a val l') : ∃ a' c', val = .slice a' l'.length c' ∧ NJ w W' g nodes v ps a' c' l' := by
  obtain ⟨⟨a', c', hv, hD, hx⟩, hb⟩ := hp
  refine ⟨a', c', hv, ⟨h.net.below hb, h.good, hD, fun ad ha hk => ?_, h.up.trans (hb.mono h.up.size)⟩⟩
  rcases hx ad ha with h1 | h1
  · exact h.sep ad h1 hk
  · have := (h.net.nx hk).2
    omega
theorem nx_whole (hc : Chg W W' (NX g v ps)) {q : Nat} {T : TypeId} {cs : Array Value} (hq : Whole W q T cs) (hn : ∀ k, NX g v ps k → k ≠ q) : Whole W' q T cs :=
  hq.kept (hc.block q hq.lt (fun hk => hn q hk rfl))
theorem NJ.in_ (h : NJ w W g nodes v ps a c l) {ba : Option Addr} {bc : Nat} {xs : List Int} (hp : PkIn w ba bc xs) : PkIn W ba bc xs := hp.below h.up
end
section
variable {W w' : World} {B g : Nat} {nodes : Int} {v : Value} {ps : List Pk}
theorem SendOk.post {fr dst : Int} {xs : List Int} {e : Ending} (h : NAt W B g nodes v ps) (hg : Good nodes ps) (hs : SendOk W B g nodes v ps fr dst xs e w') (h1 : 0 ≤ fr ∧ fr < nodes ∧ 0 ≤ dst ∧ dst < nodes) (hx : xs.length ≤ 140737488351232) (hn : ps.length < 4096) : e = .returned (.int .i64 0) ∧ NPost W w' B g nodes v ps (ps.map dk ++ [(fr, dst, strOfNums xs)]) := by
  obtain ⟨he, u, v', hN, hc, hv, hu⟩ := hs
  refine ⟨he, ⟨⟨v', _, hN, by rw [List.map_append]; rfl, ⟨fun p hp => ?_, by rw [List.length_append]; simp; omega⟩, fun k hk => ?_⟩, hc.mono fun k _ hk => .inl hk⟩⟩
  · rw [List.mem_append, List.mem_singleton] at hp
    rcases hp with hp | rfl
    · exact hg.each p hp
    · exact ⟨h1, hx⟩
  · rcases hk with (rfl | hk) | ⟨p, hp, hk⟩
    · exact .inl (.inl (.inl rfl))
    · exact (hv k hk).imp (fun h => .inl (.inr h)) id
    · rw [List.mem_append, List.mem_singleton] at hp
      rcases hp with hp | rfl
      · exact .inl (.inr ⟨p, hp, hk⟩)
      · exact .inr (hu k hk)
/-- Send, on both sides. -/
theorem send_pair (fr dst : Int) {xs : List Int} (hg : Good nodes ps) (hx : xs.length ≤ 140737488351232) : ∃ (code : Int) (l' : List Dp),
    (∀ (W : World) (B : Nat) (ba : Option Addr) (bc : Nat), NAt W B g nodes v ps → B ≤ W.heap.size → PkIn W ba bc xs → Calls Try.prog 8 #[.pointer (some ⟨g, 0, none⟩), .agg #[.int .i64 fr, .int .i64 dst, .slice ba xs.length bc]] W fun e w' => e = .returned (.int .i64 code) ∧ NPost W w' B g nodes v ps l') ∧
    (∀ (W : World) (B : Nat) (a : Option Addr) (c : Nat), Ds W B a c (ps.map dk) → B ≤ W.heap.size → Calls Try.prog 9 #[.slice a (ps.map dk).length c, .int .i64 nodes, .agg #[.int .i64 fr, .int .i64 dst, .string (strOfNums xs)]] W fun e w' => ∃ val, e = .returned (.tuple #[val, .int .i64 code]) ∧ DPost W w' B a val l') := by
  by_cases hr : fr < 0 ∨ nodes ≤ fr ∨ dst < 0 ∨ nodes ≤ dst
  · refine ⟨1, ps.map dk, fun W B ba bc h hB hp => ?_, fun W B a c h hB => ?_⟩
    · refine (send_range fr dst W h hr).mono ?_
      rintro e w' ⟨he, hb⟩
      exact ⟨he, .below h hb hg rfl⟩
    · refine (rsend_range nodes fr dst _ W hr).mono ?_
      rintro e w' ⟨he, hb⟩
      exact ⟨_, he, .same h hb⟩
  · by_cases hn : ps.length < 4096
    · refine ⟨0, ps.map dk ++ [(fr, dst, strOfNums xs)], fun W B ba bc h hB hp => ?_, fun W B a c h hB => ?_⟩
      · exact (send_ok fr dst W h hp (by omega) (by omega) (by omega) (by omega) hn hB).mono fun e w' hs => hs.post h hg (by omega) hx hn
      · refine (rsend_ok nodes fr dst _ W h (by omega) (by omega) (by omega) (by omega) (by rw [List.length_map]; exact hn)).mono ?_
        rintro e w' ⟨⟨a', c', he, hD⟩, hb⟩
        refine ⟨_, by rw [he], ?_⟩
        have := DPost.new (a := a) hB hD hb
        rw [List.length_append] at this
        exact this
    · refine ⟨3, ps.map dk, fun W B ba bc h hB hp => ?_, fun W B a c h hB => ?_⟩
      · refine (send_full fr dst W h (by omega) (by omega) (by omega) (by omega) (by omega)).mono ?_
        rintro e w' ⟨he, hb⟩
        exact ⟨he, .below h hb hg rfl⟩
      · refine (rsend_full nodes fr dst _ W (by omega) (by omega) (by omega) (by omega) (by rw [List.length_map]; omega)).mono ?_
        rintro e w' ⟨he, hb⟩
        exact ⟨_, he, .same h hb⟩
theorem in_or_out (ps : List Pk) (x : Int) : (x < 0 ∨ (ps.length : Int) ≤ x) ∨ ∃ (i : Nat) (p : Pk), x = (i : Int) ∧ ps[i]? = some p := by
  by_cases h : x < 0 ∨ (ps.length : Int) ≤ x
  · exact .inl h
  · exact .inr ⟨x.toNat, _, by omega, List.getElem?_eq_getElem (by omega)⟩
theorem eraseIdx_map {α β : Type} (f : α → β) : ∀ (l : List α) (i : Nat), (l.eraseIdx i).map f = (l.map f).eraseIdx i
  | [], _ => rfl
  | x :: l, 0 => rfl
  | x :: l, i + 1 => by simp [eraseIdx_map f l i]
/-- Deliver and Without. -/
theorem deliver_pair (x : Int) (hg : Good nodes ps) : ∃ (code : Int) (fr dst : Int) (xs : List Int) (l' : List Dp),
    (∀ (W : World) (B : Nat), NAt W B g nodes v ps → B ≤ W.heap.size → Calls Try.prog 10 #[.pointer (some ⟨g, 0, none⟩), .int .i64 x] W fun e w' => ∃ pa pk, e = .returned (.tuple #[.agg #[.int .i64 fr, .int .i64 dst, .slice pa xs.length pk], .int .i64 code]) ∧ IsB w' pa xs.length xs ∧ NPost W w' B g nodes v ps l') ∧
    (∀ (W : World) (B : Nat) (a : Option Addr) (c : Nat), Ds W B a c (ps.map dk) → B ≤ W.heap.size → Calls Try.prog 11 #[.slice a (ps.map dk).length c, .int .i64 x] W fun e w' => ∃ val, e = .returned (.tuple #[val, .agg #[.int .i64 fr, .int .i64 dst, .string (strOfNums xs)], .int .i64 code]) ∧ DPost W w' B a val l') := by
  rcases in_or_out ps x with hr | ⟨i, p, rfl, hi⟩
  · refine ⟨4, 0, 0, [], ps.map dk, fun W B h hB => ?_, fun W B a c h hB => ?_⟩
    · refine (deliver_none x W h hr).mono ?_
      rintro e w' ⟨he, hb⟩
      exact ⟨none, 0, he, IsB.empty _ _, .below h hb hg rfl⟩
    · refine (rwithout_none x W (by rw [List.length_map]; exact hr)).mono ?_
      rintro e w' ⟨he, hb⟩
      exact ⟨_, he, .same h hb⟩
  · have hil := (List.getElem?_eq_some_iff.1 hi).1
    refine ⟨0, p.fr, p.dst, p.xs, (ps.map dk).eraseIdx i, fun W B h hB => ?_, fun W B a c h hB => ?_⟩
    · refine (deliver_ok W h hi hg.len hB).mono ?_
      rintro e w' ⟨he, v', hN, hP, hc, hv⟩
      obtain ⟨pa, pk, hpv, hin⟩ := hP.in_
      rw [hpv] at he
      refine ⟨pa, pk, he, hin.isb, ⟨⟨v', _, hN, eraseIdx_map _ _ _, hg.sub (List.eraseIdx_sublist _ _), fun k hk => ?_⟩, hc.mono fun k _ hk => .inl hk⟩⟩
      rcases hk with (rfl | hk) | ⟨p, hp, hk⟩
      · exact .inl (.inl (.inl rfl))
      · exact (hv k hk).imp (fun h => .inl (.inr h)) id
      · exact .inl (.inr ⟨p, (List.eraseIdx_sublist _ _).subset hp, hk⟩)
    · refine (rwithout_ok W h (i := i) (p := dk p) (by rw [List.getElem?_map, hi]; rfl) (by rw [List.length_map]; exact hg.len)).mono ?_
      rintro e w' ⟨⟨a', c', he, hD⟩, hb⟩
      refine ⟨_, he, ?_⟩
      have := DPost.new (a := a) hB hD hb
      rw [List.length_eraseIdx_of_lt (by rw [List.length_map]; exact hil)] at this
      exact this
/-- Copy, and Without with Send. -/
theorem copy_pair (x : Int) (hg : Good nodes ps) : ∃ (wrong code : Int) (fr dst : Int) (xs : List Int) (l' : List Dp), (wrong = 0 ∨ wrong = 4 ∧ code = 4 ∧ l' = ps.map dk) ∧
    (∀ (W : World) (B : Nat), NAt W B g nodes v ps → B ≤ W.heap.size → Calls Try.prog 13 #[.pointer (some ⟨g, 0, none⟩), .int .i64 x] W fun e w' => e = .returned (.int .i64 code) ∧ NPost W w' B g nodes v ps l') ∧
    (∀ (W : World) (B : Nat) (a : Option Addr) (c : Nat), Ds W B a c (ps.map dk) → B ≤ W.heap.size → Calls Try.prog 11 #[.slice a (ps.map dk).length c, .int .i64 x] W fun e w' => ∃ a1 n1 c1, e = .returned (.tuple #[.slice a1 n1 c1, .agg #[.int .i64 fr, .int .i64 dst, .string (strOfNums xs)], .int .i64 wrong]) ∧ Below W.heap.size W w') ∧
    (wrong = 0 → ∀ (W : World) (B : Nat) (a : Option Addr) (c : Nat), Ds W B a c (ps.map dk) → B ≤ W.heap.size → Calls Try.prog 9 #[.slice a (ps.map dk).length c, .int .i64 nodes, .agg #[.int .i64 fr, .int .i64 dst, .string (strOfNums xs)]] W fun e w' => ∃ val, e = .returned (.tuple #[val, .int .i64 code]) ∧ DPost W w' B a val l') := by
  rcases in_or_out ps x with hr | ⟨i, p, rfl, hi⟩
  · refine ⟨4, 4, 0, 0, [], ps.map dk, .inr ⟨rfl, rfl, rfl⟩, fun W B h hB => ?_, fun W B a c h hB => ?_, fun h => by cases h⟩
    · refine (copy_none x W h hr).mono ?_
      rintro e w' ⟨he, rfl⟩
      exact ⟨he, .below h (Below.refl _ _) hg rfl⟩
    · refine (rwithout_none x W (by rw [List.length_map]; exact hr)).mono ?_
      rintro e w' ⟨he, hb⟩
      exact ⟨_, _, _, he, hb⟩
  · obtain ⟨⟨h1, h2, h3, h4⟩, hx⟩ := hg.each p (List.mem_of_getElem? hi)
    have hwo : ∀ (W : World) (B : Nat) (a : Option Addr) (c : Nat), Ds W B a c (ps.map dk) → B ≤ W.heap.size → Calls Try.prog 11 #[.slice a (ps.map dk).length c, .int .i64 (i : Int)] W fun e w' => ∃ a1 n1 c1, e = .returned (.tuple #[.slice a1 n1 c1, .agg #[.int .i64 p.fr, .int .i64 p.dst, .string (strOfNums p.xs)], .int .i64 0]) ∧ Below W.heap.size W w' := fun W B a c h hB => by
      refine (rwithout_ok W h (i := i) (p := dk p) (by rw [List.getElem?_map, hi]; rfl) (by rw [List.length_map]; exact hg.len)).mono ?_
      rintro e w' ⟨⟨a', c', he, hD⟩, hb⟩
      exact ⟨_, _, _, he, hb⟩
    by_cases hn : ps.length < 4096
    · refine ⟨0, 0, p.fr, p.dst, p.xs, ps.map dk ++ [(p.fr, p.dst, strOfNums p.xs)], .inl rfl, fun W B h hB => ?_, hwo, fun _ W B a c h hB => ?_⟩
      · exact (copy_ok W h hi h1 h2 h3 h4 hn hB).mono fun e w' hs => hs.post h hg ⟨h1, h2, h3, h4⟩ hx hn
      · refine (rsend_ok nodes p.fr p.dst _ W h h1 h2 h3 h4 (by rw [List.length_map]; exact hn)).mono ?_
        rintro e w' ⟨⟨a', c', he, hD⟩, hb⟩
        refine ⟨_, by rw [he], ?_⟩
        have := DPost.new (a := a) hB hD hb
        rw [List.length_append] at this
        exact this
    · refine ⟨0, 3, p.fr, p.dst, p.xs, ps.map dk, .inl rfl, fun W B h hB => ?_, hwo, fun _ W B a c h hB => ?_⟩
      · refine (copy_full W h hi h1 h2 h3 h4 (by have := hg.len; omega)).mono ?_
        rintro e w' ⟨he, hb⟩
        exact ⟨he, .below h hb hg rfl⟩
      · refine (rsend_full nodes p.fr p.dst _ W h1 h2 h3 h4 (by rw [List.length_map]; omega)).mono ?_
        rintro e w' ⟨he, hb⟩
        exact ⟨_, he, .same h hb⟩
theorem set_map {α β : Type} (f : α → β) : ∀ (l : List α) (i : Nat) (x : α), (l.set i x).map f = (l.map f).set i (f x)
  | [], _, _ => rfl
  | y :: l, 0, x => rfl
  | y :: l, i + 1, x => by simp
/-- Flip, on both sides. -/
theorem flip_pair (x bit : Int) (hbm : bit ≤ 9223372036854775807) (hg : Good nodes ps) (hby : ∀ p ∈ ps, ∀ y ∈ p.xs, 0 ≤ y ∧ y < 256) : ∃ (code : Int) (l' : List Dp),
    (∀ (W : World) (B : Nat), NAt W B g nodes v ps → B ≤ W.heap.size → Calls Try.prog 14 #[.pointer (some ⟨g, 0, none⟩), .int .i64 x, .int .i64 bit] W fun e w' => e = .returned (.int .i64 code) ∧ NPost W w' B g nodes v ps l') ∧
    (∀ (W : World) (B : Nat) (a : Option Addr) (c : Nat), Ds W B a c (ps.map dk) → B ≤ W.heap.size → Calls Try.prog 15 #[.slice a (ps.map dk).length c, .int .i64 x, .int .i64 bit] W fun e w' => ∃ val, e = .returned (.tuple #[val, .int .i64 code]) ∧ DPost W w' B a val l') := by
  rcases in_or_out ps x with hr | ⟨i, p, rfl, hi⟩
  · refine ⟨4, ps.map dk, fun W B h hB => ?_, fun W B a c h hB => ?_⟩
    · refine (flip_none x bit W h hr).mono ?_
      rintro e w' ⟨he, rfl⟩
      exact ⟨he, .below h (Below.refl _ _) hg rfl⟩
    · refine (rflip_none x bit W (by rw [List.length_map]; exact hr)).mono ?_
      rintro e w' ⟨he, rfl⟩
      exact ⟨_, he, .same h (Below.refl _ _)⟩
  · have hdi : (ps.map dk)[i]? = some (dk p) := by rw [List.getElem?_map, hi]; rfl
    have hpe := (hg.each p (List.mem_of_getElem? hi))
    by_cases hb : bit < 0 ∨ (p.xs.length : Int) ≤ bit.tdiv 8
    · refine ⟨1, ps.map dk, fun W B h hB => ?_, fun W B a c h hB => ?_⟩
      · refine (flip_range bit W h hi hb hbm).mono ?_
        rintro e w' ⟨he, rfl⟩
        exact ⟨he, .below h (Below.refl _ _) hg rfl⟩
      · refine (rflip_range bit W h hdi (by unfold dk; rw [strOfNums_size]; exact hb) hbm).mono ?_
        rintro e w' ⟨he, rfl⟩
        exact ⟨_, he, .same h (Below.refl _ _)⟩
    · obtain ⟨k, rfl⟩ : ∃ k : Nat, bit = (k : Int) := ⟨bit.toNat, by omega⟩
      have hd1 : (k : Int).tdiv 8 = ((k / 8 : Nat) : Int) := by rw [Int.tdiv_eq_ediv_of_nonneg (by omega)]; omega
      rw [hd1] at hb
      obtain ⟨y, hy⟩ : ∃ y, p.xs[k / 8]? = some y := ⟨_, List.getElem?_eq_getElem (by omega)⟩
      refine ⟨0, (ps.map dk).set i (p.fr, p.dst, strOfNums (p.xs.set (k / 8) (fb y (k % 8)))), fun W B h hB => ?_, fun W B a c h hB => ?_⟩
      · refine (flip_ok W h hi hy).mono ?_
        rintro e w' ⟨he, hN, hc⟩
        refine ⟨he, ⟨⟨v, _, hN, set_map _ _ _ _, ⟨fun q hq => ?_, by rw [List.length_set]; exact hg.len⟩, fun k' hk => .inl ?_⟩, hc.mono fun k' _ hk => .inr ⟨p, List.mem_of_getElem? hi, hk⟩⟩⟩
        · rcases List.mem_or_eq_of_mem_set hq with hq | rfl
          · exact hg.each q hq
          · exact ⟨hpe.1, by simp only [List.length_set]; exact hpe.2⟩
        · rcases hk with hk | ⟨q, hq, hk⟩
          · exact .inl hk
          · rcases List.mem_or_eq_of_mem_set hq with hq | rfl
            · exact .inr ⟨q, hq, hk⟩
            · exact .inr ⟨p, List.mem_of_getElem? hi, hk⟩
      · refine (rflip_ok (fr := p.fr) (dst := p.dst) (xs := p.xs) (x := y) W h hdi hy (hby p (List.mem_of_getElem? hi) y (List.mem_of_getElem? hy)) (by rw [List.length_map]; exact hg.len) (by omega) hpe.2).mono ?_
        rintro e w' ⟨⟨a', c', he, hD⟩, hb⟩
        refine ⟨_, he, ?_⟩
        have := DPost.new (a := a) hB hD hb
        rw [List.length_set] at this
        exact this
theorem others_map (ps : List Pk) (x : Int) : (others ps x).map dk = dothers (ps.map dk) x := by
  unfold others dothers
  rw [List.filter_map]
  rfl
/-- Lose, on both sides. -/
theorem lose_pair (x : Int) (hg : Good nodes ps) : ∃ (n : Int) (l' : List Dp),
    (∀ (W : World) (B : Nat), NAt W B g nodes v ps → B ≤ W.heap.size → Calls Try.prog 17 #[.pointer (some ⟨g, 0, none⟩), .int .i64 x] W fun e w' => e = .returned (.int .i64 n) ∧ NPost W w' B g nodes v ps l') ∧
    (∀ (W : World) (B : Nat) (a : Option Addr) (c : Nat), Ds W B a c (ps.map dk) → B ≤ W.heap.size → Calls Try.prog 16 #[.slice a (ps.map dk).length c, .int .i64 x] W fun e w' => ∃ val, e = .returned (.tuple #[val, .int .i64 n]) ∧ DPost W w' B a val l') := by
  refine ⟨((ps.length - (others ps x).length : Nat) : Int), dothers (ps.map dk) x, fun W B h hB => ?_, fun W B a c h hB => ?_⟩
  · refine (lose_any x W h hg.len).mono ?_
    rintro e w' ⟨he, v', hN, hc, hv⟩
    refine ⟨he, ⟨⟨v', _, hN, others_map _ _, hg.sub List.filter_sublist, fun k hk => .inl ?_⟩, hc.mono fun k _ hk => .inl hk⟩⟩
    rcases hk with (rfl | hk) | ⟨p, hp, hk⟩
    · exact .inl (.inl rfl)
    · rw [hv] at hk
      exact .inl (.inr hk)
    · exact .inr ⟨p, List.filter_sublist.subset hp, hk⟩
  · refine (rlose_any x W h (by rw [List.length_map]; exact hg.len)).mono ?_
    rintro e w' ⟨⟨a', c', he, hD⟩, hb⟩
    refine ⟨_, ?_, DPost.new (a := a) hB hD hb⟩
    rw [he, ← others_map, List.length_map, List.length_map]
end
end Go.Proofs.Ytmmjgpdclodlfaa
