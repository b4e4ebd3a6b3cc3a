/- The outbox of string,int: what it is, New, Len, find, Keys. -/
import Derived.Test.YtefllbmopaiojaaO0
namespace Go.Proofs.Ytefllbmopaiojaa.OI
open Go.RowKit Go.Proofs.Ytefllbmopaiojaa
open Go.Maps (Keyed)

/-- A thing: its block, key, value, and so many ticks go by without it. -/
structure En where
  p : Nat
  k : ByteArray
  v : Int
  t : Nat
/-- An outbox lies in block g, its index in block b, over base B. -/
structure OAt (w : World) (B g b period size : Nat) (row : Value) (es : List En) : Prop where
  own : Whole w g 67 #[.int .i64 (period : Int), .int .i64 (size : Int), row, .map (some b)]
  row : w.ownsRow B 68 1 row es.length (es.map fun x => at_ x.p)
  ent : ∀ x ∈ es, Whole w x.p 71 #[.string x.k, Value.int .i64 x.v, .int .i64 (x.t : Int)]
  map : ∃ mm, MapAt w Try.prog 9 b mm es.length ∧ ∀ k : ByteArray, k.size ≤ 9223372036854775807 → mm (.string k.data.toList) = (es.find? (fun x => decide (x.k = k))).map (fun x => at_ x.p)
  keys : (es.map (·.k)).Nodup
  nd : (es.map (·.p)).Nodup
  kr : ∀ x ∈ es, x.k.size ≤ 9223372036854775807
  tr : ∀ x ∈ es, x.t < period
  len : es.length ≤ size
  per : 1 ≤ period ∧ period ≤ 1000
  siz : 1 ≤ size ∧ size ≤ 4096
  geg : B ≤ g
  geb : B ≤ b
  gep : ∀ x ∈ es, B ≤ x.p
/-- An outbox's blocks. -/
def Blk (g b : Nat) (row : Value) (es : List En) (k : Nat) : Prop := k = g ∨ k = b ∨ row.ownBlock = some k ∨ k ∈ es.map (·.p)
section
variable {w w' : World} {B g b period size : Nat} {row : Value} {es : List En}
theorem OAt.ge (h : OAt w B g b period size row es) {k : Nat} (hk : Blk g b row es k) : B ≤ k := by
  rcases hk with h1 | h1 | h1 | h1
  · rw [h1]; exact h.geg
  · rw [h1]; exact h.geb
  · exact (owned_block h.row h1).1
  · obtain ⟨x, hx, rfl⟩ := List.mem_map.1 h1
    exact h.gep x hx
theorem OAt.lt (h : OAt w B g b period size row es) {k : Nat} (hk : Blk g b row es k) : k < w.heap.size := by
  rcases hk with h1 | h1 | h1 | h1
  · rw [h1]; exact h.own.lt
  · obtain ⟨mm, hm, _⟩ := h.map
    rw [h1]; exact hm.lt
  · obtain ⟨_, cur, hW⟩ := owned_block h.row h1
    exact hW.lt
  · obtain ⟨x, hx, rfl⟩ := List.mem_map.1 h1
    exact (h.ent x hx).lt
/-- What is none of its types is none of its blocks. -/
theorem OAt.other (h : OAt w B g b period size row es) {k : Nat} {T : TypeId} {cs : Array Value} (hk : Whole w k T cs) (h1 : T ≠ 67) (h2 : T ≠ 68) (h3 : T ≠ 71) : ¬ Blk g b row es k := by
  rintro (hb | hb | hb | hb)
  · exact whole_ne hk h.own h1 hb
  · obtain ⟨mm, hm, _⟩ := h.map
    exact hm.ne hk hb
  · obtain ⟨_, cur, hW⟩ := owned_block h.row hb
    exact whole_ne hk hW h2 rfl
  · obtain ⟨x, hx, rfl⟩ := List.mem_map.1 hb
    exact whole_ne hk (h.ent x hx) h3 rfl
theorem OAt.kept (h : OAt w B g b period size row es) (hb : ∀ k, Blk g b row es k → w'.heap[k]? = w.heap[k]?) : OAt w' B g b period size row es := by
  obtain ⟨mm, hm, hf⟩ := h.map
  exact ⟨h.own.kept (hb g (.inl rfl)), owns_kept h.row (fun k hk => hb k (.inr (.inr (.inl hk)))), fun x hx => (h.ent x hx).kept (hb x.p (.inr (.inr (.inr (List.mem_map.2 ⟨x, hx, rfl⟩))))), ⟨mm, hm.kept (hb b (.inr (.inl rfl))), hf⟩, h.keys, h.nd, h.kr, h.tr, h.len, h.per, h.siz, h.geg, h.geb, h.gep⟩
theorem OAt.below (h : OAt w B g b period size row es) (hb : Below w.heap.size w w') : OAt w' B g b period size row es := h.kept fun _ hk => hb.block _ (h.lt hk)
theorem OAt.four (h : OAt w B g b period size row es) : w.cell? ⟨g, 0, none⟩ = some (.int .i64 (period : Int)) ∧ w.cell? ⟨g, 1, none⟩ = some (.int .i64 (size : Int)) ∧ w.cell? ⟨g, 2, none⟩ = some row ∧ w.cell? ⟨g, 3, none⟩ = some (.map (some b)) ∧ w.frozen? ⟨g, 2, none⟩ = false := by
  refine ⟨?_, ?_, ?_, ?_, h.own.free 2⟩ <;> rw [h.own.cell] <;> rfl
/-- A thing's cells. -/
theorem OAt.thing (h : OAt w B g b period size row es) {x : En} (hx : x ∈ es) : w.cell? ⟨x.p, 0, none⟩ = some (.string x.k) ∧ w.cell? ⟨x.p, 1, none⟩ = some (Value.int .i64 x.v) ∧ w.cell? ⟨x.p, 2, none⟩ = some (.int .i64 (x.t : Int)) ∧ w.frozen? ⟨x.p, 1, none⟩ = false ∧ w.frozen? ⟨x.p, 2, none⟩ = false := by
  have hW := h.ent x hx
  refine ⟨?_, ?_, ?_, hW.free 1, hW.free 2⟩ <;> rw [hW.cell] <;> rfl
end
def findV (es : List En) (k : ByteArray) : Value := ((es.find? (fun x => decide (x.k = k))).map (fun x => at_ x.p)).getD (.pointer none)
theorem find_none_of {es : List En} {k : ByteArray} (h : k ∉ es.map (·.k)) : es.find? (fun x => decide (x.k = k)) = none := by
  rw [List.find?_eq_none]
  intro t ht
  simp
  rintro rfl
  exact h (List.mem_map.2 ⟨t, ht, rfl⟩)
theorem find_some_of {e1 e2 : List En} {x : En} (h : ((e1 ++ x :: e2).map (·.k)).Nodup) : (e1 ++ x :: e2).find? (fun y => decide (y.k = x.k)) = some x := by
  rw [List.find?_append]
  rw [List.map_append, List.map_cons] at h
  have hn : e1.find? (fun y => decide (y.k = x.k)) = none := find_none_of (fun hm => (List.nodup_append.1 h).2.2 x.k hm x.k (by simp) rfl)
  rw [hn]
  simp
theorem find_other {e1 e2 : List En} {x : En} {k : ByteArray} (h : k ≠ x.k) : (e1 ++ x :: e2).find? (fun y => decide (y.k = k)) = (e1 ++ e2).find? (fun y => decide (y.k = k)) := by
  rw [List.find?_append, List.find?_append, List.find?_cons]
  have : decide (x.k = k) = false := by simp; exact Ne.symm h
  rw [this]
theorem split_of {es : List En} {k : ByteArray} (h : k ∈ es.map (·.k)) : ∃ e1 x e2, es = e1 ++ x :: e2 ∧ x.k = k := by
  obtain ⟨x, hm, rfl⟩ := List.mem_map.1 h
  obtain ⟨e1, e2, rfl⟩ := List.append_of_mem hm
  exact ⟨e1, x, e2, rfl, rfl⟩
theorem findV_none {es : List En} {k : ByteArray} (h : k ∉ es.map (·.k)) : findV es k = .pointer none := by
  unfold findV
  rw [find_none_of h]
  rfl
theorem findV_some {e1 e2 : List En} {x : En} (h : ((e1 ++ x :: e2).map (·.k)).Nodup) : findV (e1 ++ x :: e2) x.k = .pointer (some ⟨x.p, 0, none⟩) := by
  unfold findV
  rw [find_some_of h]
  rfl
theorem Try.zeroE (w : World) : (zeroValue 68).run Try.prog w = .ok (.pointer none) w := by kernel_rfl
set_option maxHeartbeats 1000000 in
theorem find_any {B g b period size : Nat} {row : Value} {es : List En} (k : ByteArray) (w : World) (h : OAt w B g b period size row es) (hk : k.size ≤ 9223372036854775807) :
    Calls Try.prog 26 #[.pointer (some ⟨g, 0, none⟩), .string k] w fun x w' => x = .returned (findV es k) ∧ w = w' := by
  obtain ⟨mm, hm, hf⟩ := h.map
  have hlk : (Instr.lookup 64 (.map (some b)) (Value.string k) false).run Try.prog w = .ok (findV es k) w := by
    have := hm.look Try.keyS Try.underlying64 (Try.zeroE w) false (key_str k hk)
    rw [hf k hk] at this
    exact this
  obtain ⟨_, _, _, d3, _⟩ := h.four
  have HF := Lib.hid (findable_any k w)
  generalize findV es k = fv at *
  clear h hk hm hf
  go_enter Try.func26, Try.ntmps26
  go_wp2_with fail
  refine HF.out.mono ?_
  rintro x w1 ⟨rfl, rfl⟩
  go_wp2
  go_ret
  exact ⟨rfl, rfl⟩
set_option maxHeartbeats 1000000 in
theorem new_bad (p s : Int) (w : World) (h : p < 1 ∨ 1000 < p ∨ s < 1 ∨ 4096 < s) :
    Calls Try.prog 8 #[.int .i64 p, .int .i64 s] w fun e w' => e = .returned (.tuple #[.pointer none, .int .i64 1]) ∧ w = w' := by
  have key : p < 1 ∨ (¬ p < 1 ∧ 1000 < p) ∨ (¬ p < 1 ∧ ¬ 1000 < p ∧ s < 1) ∨ (¬ p < 1 ∧ ¬ 1000 < p ∧ ¬ s < 1 ∧ 4096 < s) := by omega
  clear h
  rcases key with h | ⟨h1, h⟩ | ⟨h1, h2, h⟩ | ⟨h1, h2, h3, h⟩
  all_goals
    go_enter Try.func8, Try.ntmps8
    go_wp2
    go_ret2
    exact ⟨rfl, rfl⟩
set_option maxHeartbeats 1000000 in
theorem new_good (B p s : Nat) (w : World) (h1 : 1 ≤ p) (h2 : p ≤ 1000) (h3 : 1 ≤ s) (h4 : s ≤ 4096) (hB : B ≤ w.heap.size) :
    Calls Try.prog 8 #[.int .i64 (p : Int), .int .i64 (s : Int)] w fun e w' => e = .returned (.tuple #[.pointer (some ⟨w.heap.size + 1, 0, none⟩), .int .i64 0]) ∧ OAt w' B (w.heap.size + 1) w.heap.size p s (.slice none 0 0) [] ∧ Below w.heap.size w w' := by
  have q1 : ¬ (p : Int) < 1 := by omega
  have q2 : ¬ 1000 < (p : Int) := by omega
  have q3 : ¬ (s : Int) < 1 := by omega
  have q4 : ¬ 4096 < (s : Int) := by omega
  have hmk := @run_makeMap Try.prog
  have hz : (w.alloc (.map #[] 0)).heap.size = w.heap.size + 1 := by simp
  have hW := heap_alloc_new (w.alloc (.map #[] 0)) (.cells #[.int .i64 (p : Int), .int .i64 (s : Int), .slice none 0 0, .map (some w.heap.size)] 67)
  rw [hz] at hW
  have HO := Lib.hid (show OAt ((w.alloc (.map #[] 0)).alloc (.cells #[.int .i64 (p : Int), .int .i64 (s : Int), .slice none 0 0, .map (some w.heap.size)] 67)) B (w.heap.size + 1) w.heap.size p s (.slice none 0 0) [] from
    ⟨hW, ⟨rfl, .inl ⟨rfl, rfl⟩⟩, by simp, ⟨_, (MapAt.made w Try.prog 9).below (below_alloc _ _), fun _ _ => rfl⟩, by simp, by simp, by simp, by simp, Nat.zero_le _, ⟨h1, h2⟩, ⟨h3, h4⟩, by omega, hB, by simp⟩)
  have HB := Lib.hid ((below_alloc w (.map #[] 0)).trans ((below_alloc (w.alloc (.map #[] 0)) (.cells #[.int .i64 (p : Int), .int .i64 (s : Int), .slice none 0 0, .map (some w.heap.size)] 67)).mono (by simp)))
  clear hW hz
  go_enter Try.func8, Try.ntmps8
  go_wp2
  go_ret2
  exact ⟨rfl, HO.out, HB.out⟩
set_option maxHeartbeats 1000000 in
theorem len_any {B g b period size : Nat} {row : Value} {es : List En} (w : World) (h : OAt w B g b period size row es) :
    Calls Try.prog 17 #[.pointer (some ⟨g, 0, none⟩)] w fun x w' => x = .returned (.int .i64 (es.length : Int)) ∧ w = w' := by
  obtain ⟨_, _, d2, _, _⟩ := h.four
  obtain ⟨a, c, rfl, _, _⟩ := owned_any h.row
  clear h
  go_enter Try.func17, Try.ntmps17
  go_wp2
  go_ret
  exact ⟨rfl, rfl⟩
set_option maxRecDepth 100000 in
set_option maxHeartbeats 4000000 in
theorem keys_any {B g b period size : Nat} {row : Value} {es : List En} (w : World) (h : OAt w B g b period size row es) :
    Calls Try.prog 16 #[.pointer (some ⟨g, 0, none⟩)] w fun x w' => ∃ v, x = .returned v ∧ w'.ownsRow w.heap.size 9 1 v es.length (es.map fun x => Value.string x.k) ∧ Below w.heap.size w w' := by
  obtain ⟨i0, hi, hz0, hz1, hz2⟩ := info_of Try.infoStr
  have hlen := h.len
  have hhi := h.siz.2
  obtain ⟨_, _, d2, _, _⟩ := h.four
  obtain ⟨ra, rc, rfl, _, _⟩ := owned_any h.row
  have hmk : (Instr.makeSlice 44 (.int .i64 0) (.int .i64 (es.length : Int))).run Try.prog w = .ok (.slice (some ⟨w.heap.size, 0, none⟩) 0 es.length) (w.alloc (.cells (madeCells #[Value.string ⟨#[]⟩] es.length) 9)) :=
    make_row w 44 9 i0 (Value.string ⟨#[]⟩) 16 Try.underlying44 hi hz0 hz1 rfl hz2 es.length (by omega) (by omega)
  have hown : (w.alloc (.cells (madeCells #[Value.string ⟨#[]⟩] es.length) 9)).ownsRow w.heap.size 9 1 (.slice (some ⟨w.heap.size, 0, none⟩) 0 es.length) 0 [] := by
    refine ⟨rfl, .inr ⟨w.heap.size, es.length, madeCells #[Value.string ⟨#[]⟩] es.length, rfl, Nat.le_refl _, heap_alloc_new _ _, Nat.zero_le _, by unfold maxLen; omega, ?_, rfl⟩⟩
    rw [size_madeCells]; simp
  have hb1 := below_alloc w (.cells (madeCells #[Value.string ⟨#[]⟩] es.length) 9)
  have d2' := (hb1.cell (p := ⟨g, 2, none⟩) h.own.lt).trans d2
  have HH := Lib.hid (fun W (hW : Below w.heap.size w W) => h.below hW)
  have HO := Lib.hid hown
  have HB1 := Lib.hid hb1
  clear hown hb1 h
  generalize w.alloc (.cells (madeCells #[Value.string ⟨#[]⟩] es.length) 9) = wm at *
  go_enter Try.func16, Try.ntmps16
  go_wp2_with fail
  clear hmk d2 d2'
  go_loopw [3, 17] (fun t3 iv wr => ∃ i : Nat, i ≤ es.length ∧ iv = .int .i64 i ∧ wr.ownsRow w.heap.size 9 1 t3 i ((es.take i).map fun x => Value.string x.k) ∧ Below w.heap.size w wr) (fun _ iv _ => es.length - (intOf iv).toNat)
  case atStart => exact ⟨0, by omega, rfl, HO.out, HB1.out⟩
  case round =>
    obtain ⟨i, hin, rfl, hown, hbw⟩ := hrel
    obtain ⟨ta, tc, rfl, _, _⟩ := owned_any hown
    by_cases hil : i < es.length
    · obtain ⟨x, ht⟩ : ∃ t, es[i]? = some t := ⟨_, List.getElem?_eq_getElem hil⟩
      have hO := HH.out wr hbw
      obtain ⟨be, rfl, hbl, hbb, ce0⟩ := owned_at (i := i) (u := at_ x.p) hO.row (by simp [ht])
      obtain ⟨c0, _, _, _, _⟩ := hO.thing (List.mem_of_getElem? ht)
      unfold at_ at ce0
      have HT := Lib.hid (take_snoc ht)
      have HOW := Lib.hid hown
      have HBW := Lib.hid hbw
      have hsz := hbw.size
      generalize hkk : x.k = kk at *
      have HKK := Lib.hid hkk
      clear ht hown hbw hO hkk
      go_wp2_with (
          at_builtin
          (refine wpList_append_at_any _ rfl _ _ 44 rfl w.heap.size 9 i0 (Value.string ⟨#[]⟩) 1 16 Try.underlying44 hi hz0 hz1 hz2 rfl (by decide) _ i _ rfl (HOW.out.alloc _) (some ⟨wr.heap.size, 0, none⟩) 1 1 [Value.string kk] rfl rfl (by intro h; cases h) (by rintro ad he; injection he with he; subst he; exact cell_one_new _ _ _) (by intro q hq; simp at hq; subst hq; rfl) (by unfold maxLen; omega) (by omega) (by simp; omega) ?_)
          intro v2 w2 hown2 hgrow2 hat2)
      have hB2 := (HBW.out.alloc hsz (.cells #[Value.string kk] 9)).grown hgrow2 (by simp; omega) (fun q hq => ((HOW.out.alloc (.cells #[Value.string kk] 9)).lt q hq).1)
      have hown3 : w2.ownsRow w.heap.size 9 1 v2 (i + 1) ((es.take (i + 1)).map fun x => Value.string x.k) := by
        rw [HT.out, List.map_append, List.map_singleton, HKK.out]
        exact hown2
      have HR1 := Lib.hid hown3
      have HR2 := Lib.hid hB2
      clear hown2 hgrow2 hat2 hB2 hown3
      go_roundw
      case rel => exact ⟨i + 1, by omega, by go_num, HR1.out, HR2.out⟩
      case measure => simp [intOf]; omega
    · obtain rfl : i = es.length := by omega
      have HOW := Lib.hid hown
      have HBW := Lib.hid hbw
      clear hown hbw
      go_wp2
      go_ret
      refine ⟨_, rfl, ?_, HBW.out⟩
      have := HOW.out
      rwa [List.take_length] at this
end Go.Proofs.Ytefllbmopaiojaa.OI
