/- NetAll: what the law keeps. -/
import Derived.Test.YtmmjgpdclodlfaaNP0
import Derived.Test.YtmmjgpdclodlfaaNMap
import Derived.Maps.RangeWalk
import Derived.Laws.IdiomStrings
import Derived.StringKeys
import Derived.Deep.DeepCutAuto
import Derived.Deep.CutBlock
import Derived.BigQuiet
import Derived.Deep.QuietTactic
import Derived.Deep.RegionHeld3
namespace Go.Proofs.Ytmmjgpdclodlfaa
open Go.RowKit
open Go.Maps (Keyed)

def nums (S : ByteArray) : List Int := S.data.toList.map fun x => (x.toNat : Int)
theorem nums_len (S : ByteArray) : (nums S).length = S.size := by unfold nums; rw [List.length_map]; rfl
theorem nums_byte (S : ByteArray) : ∀ x ∈ nums S, 0 ≤ x ∧ x < 256 := by
  intro x hx
  obtain ⟨y, _, rfl⟩ := List.mem_map.1 hx
  have := y.toNat_lt
  omega
theorem nums_str (S : ByteArray) : strOfNums (nums S) = S := by
  have h : (strOfNums (nums S)).data.toList = S.data.toList := by
    rw [strOfNums_data]
    unfold nums
    rw [List.map_map]
    conv => rhs; rw [← List.map_id S.data.toList]
    apply List.map_congr_left
    intro x _
    simp
  have h2 : (strOfNums (nums S)).data = S.data := Array.toList_inj.1 h
  cases S
  cases hh : strOfNums (nums _)
  rw [hh] at h2
  simp only at h2
  rw [h2]
theorem conv_bytes (W : World) (S : ByteArray) (hs : S.size ≤ 140737488351232) : ∃ C W', (convert 9 30 (.string S)).run Try.prog W = .ok (.slice (some ⟨W.heap.size, 0, none⟩) (nums S).length C) W' ∧ PkIn W' (some ⟨W.heap.size, 0, none⟩) C (nums S) ∧ Below W.heap.size W W' ∧ W'.heap.size = W.heap.size + 1 := by
  have hr := run_bytes_of_string (P := Try.prog) W 9 30 5 S Try.underlying9 Try.underlying30 Try.underlying5
  obtain ⟨C, hC⟩ : ∃ C, C = grownCap W S.size 0 5 := ⟨_, rfl⟩
  have hle : S.size ≤ C := by rw [hC]; exact grownCap_ge _ _ _ _
  have hbg : C ≤ maxLen := by rw [hC]; exact grownCap_le_maxLen _ _ _ _ (by unfold maxLen; omega)
  rw [← hC] at hr
  refine ⟨C, _, by rw [nums_len]; exact hr, ⟨⟨rfl, nums_byte S, ?_⟩, (by rintro ⟨⟩), by rw [nums_len]; exact hle, hbg, by rw [nums_len]; omega⟩, (Below.drew (Below.refl _ W)).alloc (Nat.le_refl _) _, by simp⟩
  refine .inr ⟨_, _, rfl, fun i hi => ?_⟩
  have hi' : i < S.data.size := by rw [nums_len] at hi; exact hi
  have h := bytesRow_at S C i hi'
  rw [Nat.zero_add]
  have hc : ∀ fr, (W.drew.alloc (.cells (bytesRow S C) 5 fr)).cell? ⟨W.heap.size, i, none⟩ = (bytesRow S C)[i]? := fun fr => new_cell W.drew _ _ fr i
  rw [hc, h]
  congr 2
  unfold nums
  rw [List.getD_eq_getElem?_getD, List.getElem?_map]
  have : S.data.toList[i]? = some S.data[i] := by simp
  rw [this]
  rfl
/-- Texts that came in. -/
def TextsIn (w : World) (a : Option Addr) (n : Nat) : Prop :=
  n = 0 ∨ ∃ b off, a = some ⟨b, off, none⟩ ∧ b < w.heap.size ∧ ∀ i, i < n → ∃ S : ByteArray, w.cell? ⟨b, off + i, none⟩ = some (.string S) ∧ S.size ≤ 140737488351232
/-- Numbers that came in. -/
def NumsIn (w : World) (a : Option Addr) (n : Nat) : Prop :=
  n = 0 ∨ ∃ b off, a = some ⟨b, off, none⟩ ∧ b < w.heap.size ∧ ∀ i, i < n → ∃ x : Int, w.cell? ⟨b, off + i, none⟩ = some (.int .i64 x)
/-- How many packets have this text. -/
def cntP (ps : List Pk) (S : ByteArray) : Nat := ps.countP (fun p => decide (strOfNums p.xs = S))
theorem cntP_snoc (ps : List Pk) (p : Pk) (S : ByteArray) : cntP (ps ++ [p]) S = if strOfNums p.xs = S then cntP ps S + 1 else cntP ps S := by
  unfold cntP
  rw [List.countP_append, List.countP_cons, List.countP_nil]
  by_cases h : strOfNums p.xs = S <;> simp [h]
theorem cntP_erase (S : ByteArray) : ∀ (ps : List Pk) (i : Nat) (p : Pk), ps[i]? = some p → cntP ps S = if strOfNums p.xs = S then cntP (ps.eraseIdx i) S + 1 else cntP (ps.eraseIdx i) S
  | [], _, _, h => by simp at h
  | x :: ps, 0, p, h => by
    simp at h
    subst h
    unfold cntP
    rw [List.countP_cons]
    by_cases h : strOfNums x.xs = S <;> simp [h]
  | x :: ps, i + 1, p, h => by
    have ih := cntP_erase S ps i p (by simpa using h)
    unfold cntP at ih ⊢
    rw [List.eraseIdx_cons_succ, List.countP_cons, List.countP_cons, ih]
    by_cases h : strOfNums p.xs = S <;> simp [h] <;> omega
theorem cntP_le (ps : List Pk) (S : ByteArray) : cntP ps S ≤ ps.length := List.countP_le_length
theorem cntP_same {ps qs : List Pk} (h : qs.map dk = ps.map dk) (S : ByteArray) : cntP qs S = cntP ps S := by
  have key : ∀ l : List Pk, cntP l S = (l.map dk).countP (fun t => decide (t.2.2 = S)) := fun l => by
    unfold cntP
    rw [List.countP_map]
    rfl
  rw [key, key, h]
theorem Try.keyS : Keyed Try.prog 9 := Go.Maps.string_keyed Try.underlying9
theorem Try.zeroI (w : World) : (zeroValue 3).run Try.prog w = .ok (.int .i64 0) w := by kernel_rfl
theorem key_str (k : ByteArray) (h : k.size ≤ 9223372036854775807) : keyOf Try.prog 9 (Value.string k) = some (.string k.data.toList) := Go.WideMaps.keyOf_string_mk Try.underlying9 (by unfold maxLen; omega)
theorem key_ne {S T : ByteArray} (h : S ≠ T) : (Lit.string S.data.toList) ≠ .string T.data.toList := by
  intro e
  injection e with e
  have := Array.toList_inj.1 e
  cases S; cases T
  simp only at this
  exact h (by rw [this])
/-- What the law's map says of the packets. -/
def Cnts (m : Lit → Option Value) (ps : List Pk) : Prop := ∀ S : ByteArray, (m (.string S.data.toList)).getD (.int .i64 0) = .int .i64 (cntP ps S : Int)
/-- The network and the law's map. -/
structure AJ (w wr : World) (g mb : Nat) (v : Value) (ps : List Pk) (m : Lit → Option Value) (N : Nat) : Prop where
  net : NAt wr w.heap.size g 2 v ps
  good : Good 2 ps
  one : ∀ p ∈ ps, p.fr + p.dst = 1
  map : MapAt wr Try.prog 9 mb m N
  mge : w.heap.size ≤ mb
  cnt : Cnts m ps
  up : Below w.heap.size w wr
theorem NAt.keepX {w w' : World} {B g : Nat} {nodes : Int} {v : Value} {ps : List Pk} (h : NAt w B g nodes v ps) (hk : ∀ k, NX g v ps k → w'.heap[k]? = w.heap[k]?) : NAt w' B g nodes v ps :=
  ⟨h.net.kept (hk g (.inl (.inl rfl))), h.geg, h.row.keep fun q hq => hk q (.inl (.inr hq)), fun p hp => (h.pks p hp).keep fun q hq => hk q (.inr ⟨p, hp, hq⟩), h.apart⟩
theorem NAt.nomap {w : World} {B g b N : Nat} {nodes : Int} {v : Value} {ps : List Pk} {P : Program} {kt : TypeId} {m : Lit → Option Value} (h : NAt w B g nodes v ps) (hm : MapAt w P kt b m N) {k : Nat} (hk : NX g v ps k) : k ≠ b := by
  rcases hk with (rfl | hk) | ⟨p, hp, hk⟩
  · exact hm.ne h.net
  · obtain ⟨_, cur, hW⟩ := h.row.block hk
    exact hm.ne hW
  · obtain ⟨_, cur, hW⟩ := (h.pks p hp).block hk
    exact hm.ne hW
section
variable {w W W' : World} {g mb N N' : Nat} {v : Value} {ps ps' : List Pk} {m m' : Lit → Option Value}
theorem AJ.below (h : AJ w W g mb v ps m N) (hb : Below W.heap.size W W') : AJ w W' g mb v ps m N :=
  ⟨h.net.below hb, h.good, h.one, h.map.below hb, h.mge, h.cnt, h.up.trans (hb.mono h.up.size)⟩
/-- The network has changed; the map's words are those of the elder packets. -/
structure AM (w wr : World) (g mb : Nat) (v : Value) (ps ps0 : List Pk) (m : Lit → Option Value) (N : Nat) : Prop where
  net : NAt wr w.heap.size g 2 v ps
  good : Good 2 ps
  one : ∀ p ∈ ps, p.fr + p.dst = 1
  map : MapAt wr Try.prog 9 mb m N
  mge : w.heap.size ≤ mb
  cnt : Cnts m ps0
  up : Below w.heap.size w wr
theorem AM.below {ps0 : List Pk} (h : AM w W g mb v ps ps0 m N) (hb : Below W.heap.size W W') : AM w W' g mb v ps ps0 m N :=
  ⟨h.net.below hb, h.good, h.one, h.map.below hb, h.mge, h.cnt, h.up.trans (hb.mono h.up.size)⟩
theorem AJ.step {v' : Value} (h : AJ w W g mb v ps m N) (hN : NAt W' w.heap.size g 2 v' ps') (hg : Good 2 ps') (h1 : ∀ p ∈ ps', p.fr + p.dst = 1) (hc : Chg W W' (NX g v ps)) : AM w W' g mb v' ps' ps m N :=
  ⟨hN, hg, h1, h.map.kept (hc.block _ h.map.lt (fun hk => h.net.nomap h.map hk rfl)), h.mge, h.cnt, h.up.trans (hc.below (fun _ hk => (h.net.nx hk).1) h.up.size)⟩
theorem AM.step6 {v' : Value} {ps0 : List Pk} (h : AM w W g mb v ps ps0 m N) (hN : NAt W' w.heap.size g 2 v' ps') (hg : Good 2 ps') (h1 : ∀ p ∈ ps', p.fr + p.dst = 1) (hc : Chg W W' (NX g v ps)) : AM w W' g mb v' ps' ps0 m N :=
  ⟨hN, hg, h1, h.map.kept (hc.block _ h.map.lt (fun hk => h.net.nomap h.map hk rfl)), h.mge, h.cnt, h.up.trans (hc.below (fun _ hk => (h.net.nx hk).1) h.up.size)⟩
theorem AM.mapped {ps0 : List Pk} (h : AM w W g mb v ps ps0 m N) (hm : MapAt W' Try.prog 9 mb m' N') (hg : W.grownBy W' (some mb)) (hc : Cnts m' ps) : AJ w W' g mb v ps m' N' :=
  ⟨h.net.keepX fun k hk => hg.block k (h.net.nx hk).2 (fun e => h.net.nomap h.map hk (by injection e)), h.good, h.one, hm, h.mge, hc, h.up.grown hg h.up.size (by rintro q ⟨⟩; exact h.mge)⟩
theorem Cnts.put {S : ByteArray} (h : Cnts m ps) (hn : ∀ T, cntP ps' T = if S = T then cntP ps S + 1 else cntP ps T) (hS : S.size ≤ 9223372036854775807) : Cnts (mset m (.string S.data.toList) (some (.int .i64 ((cntP ps S : Int) + 1)))) ps' := by
  intro T
  rw [hn T]
  by_cases e : S = T
  · subst e
    rw [mset_same (Try.keyS.key (key_str S hS)), if_pos rfl]
    rfl
  · rw [mset_other (key_ne (fun h => e h.symm)), if_neg e]
    exact h T
theorem Cnts.take {S : ByteArray} (h : Cnts m ps) (hn : ∀ T, cntP ps T = if S = T then cntP ps' S + 1 else cntP ps' T) (hS : S.size ≤ 9223372036854775807) : Cnts (mset m (.string S.data.toList) (some (.int .i64 ((cntP ps S : Int) - 1)))) ps' := by
  intro T
  by_cases e : S = T
  · subst e
    have := hn S
    rw [if_pos rfl] at this
    rw [mset_same (Try.keyS.key (key_str S hS))]
    simp only [Option.getD_some]
    congr 1
    omega
  · have := hn T
    rw [if_neg e] at this
    rw [mset_other (key_ne (fun h => e h.symm)), h T, this]
theorem Cnts.look {S : ByteArray} (h : Cnts m ps) (hm : MapAt W Try.prog 9 mb m N) (hS : S.size ≤ 9223372036854775807) : (Instr.lookup 55 (.map (some mb)) (.string S) false).run Try.prog W = .ok (.int .i64 (cntP ps S : Int)) W := by
  have := hm.look Try.keyS Try.underlying55 (Try.zeroI W) false (key_str S hS)
  rw [h S] at this
  exact this
end
end Go.Proofs.Ytmmjgpdclodlfaa
