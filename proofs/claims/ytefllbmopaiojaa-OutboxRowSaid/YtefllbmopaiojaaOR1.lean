/- OutboxRow: what the law has. -/
import Derived.Test.YtefllbmopaiojaaOpsIn
import Derived.Test.YtefllbmopaiojaaO6SS
namespace Go.Proofs.Ytefllbmopaiojaa
open Go.RowKit
open Go.Maps (Keyed)

theorem OS.up {w W W' : World} {g b period size : Nat} {row : Value} {es : List OS.En} (h : OS.OAt W w.heap.size g b period size row es) (hb : Below w.heap.size w W) (hc : Chg W W' (OS.Blk g b row es)) : Below w.heap.size w W' :=
  hb.trans (hc.below (fun _ hk => h.ge hk) hb.size)
theorem OS.OAt.nomap {w : World} {B g b period size gm N : Nat} {row : Value} {es : List OS.En} {P : Program} {kt : TypeId} {mm : Lit → Option Value} (h : OS.OAt w B g b period size row es) (hm : MapAt w P kt gm mm N) (hne : gm ≠ b) : ¬ OS.Blk g b row es gm := by
  rintro (h1 | h1 | h1 | h1)
  · exact hm.ne h.own h1.symm
  · exact hne h1
  · obtain ⟨_, cur, hW⟩ := owned_block h.row h1
    exact hm.ne hW rfl
  · obtain ⟨x, hx, h2⟩ := List.mem_map.1 h1
    exact hm.ne (h.ent x hx) h2
/-- What the law has. -/
structure RJ (w W : World) (g b gm p : Nat) (row : Value) (es : List OS.En) (mm : Lit → Option Value) (N : Nat) : Prop where
  box : OS.OAt W w.heap.size g b p 4096 row es
  val : ∀ x ∈ es, x.v = x.k
  live : ∀ x ∈ es, mm (.string x.k.data.toList) = some (.bool false)
  map : MapAt W Try.prog 9 gm mm N
  mne : gm ≠ b
  mge : w.heap.size ≤ gm
  up : Below w.heap.size w W
section
variable {w W W' : World} {g b gm p N : Nat} {row row' : Value} {es es' : List OS.En} {mm : Lit → Option Value}
theorem RJ.below (h : RJ w W g b gm p row es mm N) (hb : Below W.heap.size W W') : RJ w W' g b gm p row es mm N :=
  { h with box := h.box.below hb, map := h.map.below hb, up := bell_up h.up hb }
theorem RJ.moved (h : RJ w W g b gm p row es mm N) (hc : Chg W W' (OS.Blk g b row es)) : MapAt W' Try.prog 9 gm mm N := h.map.kept (hc.block gm h.map.lt (h.box.nomap h.map h.mne))
theorem RJ.whole (h : RJ w W g b gm p row es mm N) {q : Nat} {cs : Array Value} (hq : Whole W q 33 cs) (hc : Chg W W' (OS.Blk g b row es)) : Whole W' q 33 cs :=
  hq.kept (hc.block q hq.lt (h.box.other hq (by decide) (by decide) (by decide)))
theorem RJ.strs (h : RJ w W g b gm p row es mm N) {B n : Nat} {v : Value} {l : List Value} (hv : W.ownsRow B 9 1 v n l) (hc : Chg W W' (OS.Blk g b row es)) : W'.ownsRow B 9 1 v n l :=
  owns_kept hv fun k hk => by
    obtain ⟨_, cur, hW⟩ := owned_block hv hk
    exact hc.block k hW.lt (h.box.other hW (by decide) (by decide) (by decide))
/-- The table is written. -/
theorem OS.OAt.mapped (h : OS.OAt W w.heap.size g b p 4096 row es) (hm : MapAt W Try.prog 9 gm mm N) (hne : gm ≠ b) (hg : W.grownBy W' (some gm)) : OS.OAt W' w.heap.size g b p 4096 row es :=
  h.kept fun k hk => hg.block k (h.lt hk) (by intro e; injection e with e; subst e; exact h.nomap hm hne hk)
/-- Put, and the table behind it. -/
theorem RJ.put {k : ByteArray} (h : RJ w W g b gm p row es mm N) (hk : k.size ≤ 9223372036854775807) :
    Calls Try.prog 22 #[.pointer (some ⟨g, 0, none⟩), .string k, .string k] W fun x W' => ∃ code, x = .returned (.int .i64 code) ∧ Chg W W' (OS.Blk g b row es) ∧
      ((¬ code = 0 ∧ ∃ row', RJ w W' g b gm p row' es mm N) ∨ (code = 0 ∧ MapAt W' Try.prog 9 gm mm N ∧ ∀ W2, MapAt W2 Try.prog 9 gm (mset mm (.string k.data.toList) (some (.bool false))) (if (mm (.string k.data.toList)).isSome then N else N + 1) → W'.grownBy W2 (some gm) → ∃ row' es', RJ w W2 g b gm p row' es' (mset mm (.string k.data.toList) (some (.bool false))) (if (mm (.string k.data.toList)).isSome then N else N + 1))) := by
  refine (OS.put_any k k W h.box hk h.up.size).mono ?_
  rintro x W' ⟨code, row', es', rfl, hO, hp, hc⟩
  refine ⟨code, rfl, hc, ?_⟩
  have hm := h.moved hc
  have hu := OS.up h.box h.up hc
  have hself := mset_same (m := mm) (v := some (Value.bool false)) (Try.keyS.key (key_str k hk))
  have hother : ∀ x : OS.En, x ∈ es → mset mm (.string k.data.toList) (some (Value.bool false)) (.string x.k.data.toList) = some (.bool false) := by
    intro x hx
    by_cases he : x.k = k
    · rw [he]; exact hself
    · rw [mset_other (fun e => he (str_lit_inj e))]
      exact h.live x hx
  rcases hp with ⟨e1, y, e2, rfl, rfl, rfl, rfl⟩ | ⟨_, _, rfl, rfl⟩ | ⟨_, _, rfl, q, _, rfl⟩
  · refine .inr ⟨rfl, hm, fun W2 hm2 hg => ⟨row', _, hO.mapped hm h.mne hg, fun x hx => ?_, fun x hx => ?_, hm2, h.mne, h.mge, hu.grown hg hu.size (by rintro q ⟨⟩; exact h.mge)⟩⟩
    · rcases List.mem_append.1 hx with h1 | h1
      · exact h.val x (List.mem_append_left _ h1)
      · rcases List.mem_cons.1 h1 with rfl | h1
        · rfl
        · exact h.val x (List.mem_append_right _ (List.mem_cons_of_mem _ h1))
    · rcases List.mem_append.1 hx with h1 | h1
      · exact hother x (List.mem_append_left _ h1)
      · rcases List.mem_cons.1 h1 with rfl | h1
        · exact hself
        · exact hother x (List.mem_append_right _ (List.mem_cons_of_mem _ h1))
  · exact .inl ⟨by decide, row', hO, h.val, h.live, hm, h.mne, h.mge, hu⟩
  · refine .inr ⟨rfl, hm, fun W2 hm2 hg => ⟨row', _, hO.mapped hm h.mne hg, fun x hx => ?_, fun x hx => ?_, hm2, h.mne, h.mge, hu.grown hg hu.size (by rintro q ⟨⟩; exact h.mge)⟩⟩
    · rcases List.mem_append.1 hx with h1 | h1
      · exact h.val x h1
      · rw [List.mem_singleton] at h1
        rw [h1]
    · rcases List.mem_append.1 hx with h1 | h1
      · exact hother x h1
      · rw [List.mem_singleton] at h1
        rw [h1]
        exact hself
theorem RJ.ack {k : ByteArray} (h : RJ w W g b gm p row es mm N) (hk : k.size ≤ 9223372036854775807) :
    Calls Try.prog 23 #[.pointer (some ⟨g, 0, none⟩), .string k] W fun x W' => ∃ bb, x = .returned (.bool bb) ∧ Chg W W' (OS.Blk g b row es) ∧ MapAt W' Try.prog 9 gm mm N ∧
      ∀ W2, MapAt W2 Try.prog 9 gm (mset mm (.string k.data.toList) (some (.bool true))) (if (mm (.string k.data.toList)).isSome then N else N + 1) → W'.grownBy W2 (some gm) → ∃ row' es', RJ w W2 g b gm p row' es' (mset mm (.string k.data.toList) (some (.bool true))) (if (mm (.string k.data.toList)).isSome then N else N + 1) := by
  refine (OS.ack_any k W h.box hk).mono ?_
  rintro x W' ⟨rfl, row', hO, hc⟩
  have hm := h.moved hc
  have hu := OS.up h.box h.up hc
  refine ⟨_, rfl, hc, hm, fun W2 hm2 hg => ⟨row', _, hO.mapped hm h.mne hg, fun x hx => h.val x (List.mem_filter.1 hx).1, fun x hx => ?_, hm2, h.mne, h.mge, hu.grown hg hu.size (by rintro q ⟨⟩; exact h.mge)⟩⟩
  obtain ⟨h1, h2⟩ := List.mem_filter.1 hx
  have he : x.k ≠ k := by simpa using h2
  rw [mset_other (fun e => he (str_lit_inj e))]
  exact h.live x h1
theorem RJ.tick (h : RJ w W g b gm p row es mm N) :
    Calls Try.prog 25 #[.pointer (some ⟨g, 0, none⟩)] W fun x W' => ∃ v, x = .returned v ∧ W'.ownsRow W.heap.size 9 1 v (OS.due es).length (OS.vrow (OS.due es)) ∧ Chg W W' (OS.Blk g b row es) ∧ RJ w W' g b gm p row (es.map (OS.tk p)) mm N := by
  refine (OS.tick_any W h.box).mono ?_
  rintro x W' ⟨v, rfl, hv, hO, hc⟩
  refine ⟨v, rfl, hv, hc, hO, fun x hx => ?_, fun x hx => ?_, h.moved hc, h.mne, h.mge, OS.up h.box h.up hc⟩
  · obtain ⟨z, hz, rfl⟩ := List.mem_map.1 hx
    exact h.val z hz
  · obtain ⟨z, hz, rfl⟩ := List.mem_map.1 hx
    exact h.live z hz
theorem RJ.gone (h : RJ w W g b gm p row es mm N) {x : OS.En} (hx : x ∈ es) : (Instr.lookup 61 (.map (some gm)) (.string x.k) false).run Try.prog W = .ok (.bool false) W := by
  have hz : (zeroValue 4).run Try.prog W = .ok (.bool false) W := by kernel_rfl
  have := h.map.look Try.keyS Try.underlying61 hz false (key_str x.k (h.box.kr x hx))
  rw [h.live x hx] at this
  exact this
end
theorem OS.due_cons (x : OS.En) (l : List OS.En) : OS.due (x :: l) = (if x.t = 0 then [x.v] else []) ++ OS.due l := by
  unfold OS.due
  by_cases h : x.t = 0 <;> simp [h]
theorem OS.due_mem {l : List OS.En} {v : ByteArray} (h : v ∈ OS.due l) : ∃ x ∈ l, x.v = v := by
  unfold OS.due at h
  obtain ⟨x, hx, he⟩ := List.mem_map.1 h
  exact ⟨x, (List.mem_filter.1 hx).1, he⟩
/-- The next one that is due is looked for among the keys. -/
theorem scan_on {es : List OS.En} {a : Nat} {v : ByteArray} {R : List ByteArray} (hv : ∀ x ∈ es, x.v = x.k) (h : OS.due (es.drop a) = v :: R) : ∃ x, es[a]? = some x ∧ (x.k ≠ v → OS.due (es.drop (a + 1)) = v :: R) ∧ ((es.map (·.k)).Nodup → x.k = v → OS.due (es.drop (a + 1)) = R) := by
  have hlt : a < es.length := by
    rcases Nat.lt_or_ge a es.length with h1 | h1
    · exact h1
    · rw [List.drop_eq_nil_of_le h1] at h
      cases h
  have hd : es.drop a = es[a] :: es.drop (a + 1) := List.drop_eq_getElem_cons hlt
  have hxv := hv es[a] (List.getElem_mem hlt)
  rw [hd, OS.due_cons] at h
  refine ⟨es[a], List.getElem?_eq_getElem hlt, fun hne => ?_, fun hnd he => ?_⟩
  · by_cases ht : es[a].t = 0
    · rw [if_pos ht] at h
      injection h with h1 h2
      exact absurd (hxv.symm.trans h1) hne
    · rw [if_neg ht] at h
      exact h
  · by_cases ht : es[a].t = 0
    · rw [if_pos ht] at h
      injection h with h1 h2
    · rw [if_neg ht] at h
      have hm : v ∈ OS.due (es.drop (a + 1)) := by rw [show OS.due (es.drop (a + 1)) = v :: R from h]; simp
      obtain ⟨z, hz, hzv⟩ := OS.due_mem hm
      have hzk := hv z (List.mem_of_mem_drop hz)
      have hs : (es.drop a).map (·.k) = es[a].k :: (es.drop (a + 1)).map (·.k) := by rw [hd]; rfl
      have hn : ((es.drop a).map (·.k)).Nodup := hnd.sublist ((List.drop_sublist _ _).map _)
      rw [hs] at hn
      exact absurd (List.mem_map.2 ⟨z, hz, by rw [← hzk, hzv, he]⟩) (List.nodup_cons.1 hn).1
end Go.Proofs.Ytefllbmopaiojaa
