/- Slices of bytes and the rows that a call makes: words and facts. -/
import Derived.Test.YteodldmbnghfcaaGreatRows
import Derived.WalkKit
import Derived.ProofKit
import Derived.OpenShut
import Derived.Laws.BitsAllLaws
import Derived.Laws.BytesArg
import Derived.Lib.SlBytesConst
import Derived.Lib.Hide
import Derived.Lib.Strings
import Derived.Outline
import Derived.Maps.AppendAt
import Derived.Laws.AppendOwnNone
import Derived.IntWalk
import Derived.Deep.QuietTactic
import Derived.BigQuiet
import Derived.RegionTactic
import Derived.ChangeAlike
import Derived.Deep.RegionWith
import Derived.Deep.RegionHeld3
namespace Go.Proofs.YteodldmbnghfcaaGreat
open Go.RowKit

theorem getD_mem (l : List Int) (i : Nat) (h : i < l.length) : l.getD i 0 ∈ l := by
  simp [List.getD, h]
/-- A slice's address and length hold just these bytes. -/
def IsB (w : World) (a : Option Addr) (n : Nat) (xs : List Int) : Prop :=
  xs.length = n ∧ (∀ x ∈ xs, 0 ≤ x ∧ x < 256) ∧ (n = 0 ∨ ∃ b off, a = some ⟨b, off, none⟩ ∧ ∀ i, i < n → w.cell? ⟨b, off + i, none⟩ = some (.int .u8 (xs.getD i 0)))
/-- A value is a slice of just these bytes. -/
def IsV (w : World) (v : Value) (xs : List Int) : Prop := ∃ a n c, v = .slice a n c ∧ n ≤ maxLen ∧ IsB w a n xs
theorem Tryz.infoB : (Tryz.prog.info? 5).map (fun i => (i.zero, i.size, i.bytes)) = some (some (.int .u8 0), 1, 1) := by kernel_rfl
theorem IsB.ext {w w' : World} {a : Option Addr} {n : Nat} {xs : List Int} (h : IsB w a n xs) (hw : ∀ b o v, b < w.heap.size → w.cell? ⟨b, o, none⟩ = some v → w'.cell? ⟨b, o, none⟩ = some v) : IsB w' a n xs := by
  obtain ⟨h1, h2, h3⟩ := h
  refine ⟨h1, h2, h3.imp_right ?_⟩
  rintro ⟨b, off, rfl, hc⟩
  exact ⟨b, off, rfl, fun i hi => hw _ _ _ (World.block_lt_of_cell? w ⟨b, off + i, none⟩ (hc i hi)) (hc i hi)⟩
theorem IsB.below {w w' : World} {a : Option Addr} {n : Nat} {xs : List Int} (h : IsB w a n xs) (hw : Below w.heap.size w w') : IsB w' a n xs :=
  h.ext fun b o _ hb hc => (hw.cell (p := ⟨b, o, none⟩) hb).trans hc
theorem IsB.grown {w w' : World} {a : Option Addr} {n : Nat} {xs : List Int} (h : IsB w a n xs) (hw : w.grownBy w' none) : IsB w' a n xs :=
  h.ext fun _ _ _ _ hc => hw.cell hc (by simp)
theorem IsB.alloc {w : World} {a : Option Addr} {n : Nat} {xs : List Int} (h : IsB w a n xs) (o : Obj) : IsB (w.alloc o) a n xs :=
  h.grown (World.grownBy_alloc _ _ _)
theorem IsB.owned {w : World} {base n : Nat} {a : Option Addr} {c : Nat} {xs : List Int} (h : w.ownsRow base 5 1 (.slice a n c) n (xs.map (Value.int .u8))) (hb : ∀ x ∈ xs, 0 ≤ x ∧ x < 256) : IsB w a n xs := by
  refine ⟨by simpa using h.1, hb, ?_⟩
  rcases h.2 with ⟨_, h0⟩ | ⟨g, cap, cur, hv, _⟩
  · exact .inl h0
  · injection hv with e1 e2 e3
    subst e1
    refine .inr ⟨g, 0, rfl, fun i hi => ?_⟩
    have hl : i < xs.length := by have := h.1; simp at this; omega
    have := h.cells (g := g) rfl i (.int .u8 xs[i]) (by simp [hl])
    have e : ((⟨g, 0, none⟩ : Addr).add i) = ⟨g, 0 + i, none⟩ := by
      unfold Addr.add
      split <;> simp_all
    rw [e] at this
    simpa [List.getD, hl] using this
theorem IsB.news {w : World} {a : Option Addr} {n : Nat} {xs : List Int} (h : IsB w a n xs) : ∀ ad, a = some ad → ∀ j u, (xs.map (Value.int .u8))[j]? = some u → w.cell? (ad.add j) = some u := by
  rintro ad rfl j u hu
  obtain ⟨h1, _, h3⟩ := h
  have hj : j < xs.length := by
    rcases Nat.lt_or_ge j xs.length with h | h
    · exact h
    · rw [List.getElem?_eq_none (by simpa using h)] at hu; cases hu
  rcases h3 with h3 | ⟨b, off, he, hc⟩
  · omega
  · injection he with he
    subst he
    have e : ((⟨b, off, none⟩ : Addr).add j) = ⟨b, off + j, none⟩ := by simp [Addr.add]
    rw [e, hc j (by omega)]
    simpa [List.getD, hj] using hu
theorem oneCell_map (xs : List Int) : ∀ u ∈ xs.map (Value.int .u8), u.oneCell' = true := by
  intro u hu
  obtain ⟨x, _, rfl⟩ := List.mem_map.1 hu
  rfl
theorem IsB.sub {w : World} {b off n : Nat} {xs : List Int} (h : IsB w (some ⟨b, off, none⟩) n xs) (i k : Nat) (hik : i + k ≤ n) : IsB w (some ⟨b, off + i, none⟩) k ((xs.drop i).take k) := by
  obtain ⟨h1, h2, h3⟩ := h
  refine ⟨by simp; omega, fun x hx => h2 x (List.mem_of_mem_drop (List.mem_of_mem_take hx)), ?_⟩
  rcases h3 with h3 | ⟨b', off', he, hc⟩
  · exact .inl (by omega)
  · injection he with he
    injection he with e1 e2 e3
    subst e1 e2
    refine .inr ⟨b, off + i, rfl, fun j hj => ?_⟩
    rw [Nat.add_assoc, hc (i + j) (by omega)]
    have hl : i + j < xs.length := by omega
    simp [List.getD, hj]
theorem IsB.empty (w : World) (a : Option Addr) : IsB w a 0 [] := ⟨rfl, by simp, .inl rfl⟩
/-- A slice of integers that came in. -/
def IsRow (k : IntKind) (w : World) (a : Option Addr) (len cap : Nat) (zs : List Int) : Prop :=
  (a = none ∧ len = 0 ∧ cap = 0 ∧ zs = []) ∨
  ∃ x, a = some x ∧ len ≤ cap ∧ cap ≤ maxLen ∧ zs.length = cap ∧ (∀ i, i < zs.length → w.cell? (x.add i) = some (.int k (zs.getD i 0))) ∧ ∀ n ∈ zs, (Lit.int k n).wf = true
theorem wf_byte {x : Int} (h : (Lit.int .u8 x).wf = true) : 0 ≤ x ∧ x < 256 := by
  simp [Lit.wf, IntKind.min, IntKind.max, IntKind.signed, IntKind.bits] at h
  omega
/-- What the walks ask of a slice of bytes that came in. -/
theorem IsRow.isB {w : World} {a : Option Addr} {len cap : Nat} {zs : List Int} (h : IsRow .u8 w a len cap zs) :
    IsB w a len (zs.take len) ∧ (a = none → len = 0 ∧ cap = 0) ∧ len ≤ cap ∧ cap ≤ maxLen := by
  rcases h with ⟨rfl, rfl, rfl, rfl⟩ | ⟨x, rfl, hl, hm, hz, hc, hw⟩
  · exact ⟨IsB.empty _ _, fun _ => ⟨rfl, rfl⟩, by omega, by simp [maxLen]⟩
  · refine ⟨⟨by simp; omega, fun y hy => wf_byte (hw y (List.mem_of_mem_take hy)), ?_⟩, (by intro h; cases h), hl, hm⟩
    rcases Nat.eq_zero_or_pos len with h0 | h0
    · exact .inl h0
    · obtain ⟨b, off, spot⟩ := x
      have hs : spot = none := by simpa [Addr.add] using World.cell?_spot (hc 0 (by omega))
      subst hs
      refine .inr ⟨b, off, rfl, fun i hi => ?_⟩
      have := hc i (by omega)
      have e : ((⟨b, off, none⟩ : Addr).add i) = ⟨b, off + i, none⟩ := by
        unfold Addr.add
        split <;> simp_all
      rw [e] at this
      rw [this]
      simp [List.getD, hi]
/-- A value that is owned is a slice. -/
theorem owned_slice {w : World} {base n : Nat} {v : Value} {xs : List Int} (h : w.ownsRow base 5 1 v n (xs.map (Value.int .u8))) (hb : ∀ x ∈ xs, 0 ≤ x ∧ x < 256) :
    ∃ a c, v = .slice a n c ∧ IsB w a n xs ∧ (a = none → n = 0 ∧ c = 0) ∧ n ≤ c ∧ c ≤ maxLen := by
  rcases h.2 with ⟨rfl, h0⟩ | ⟨g, cap, cur, rfl, _, _, h3, h4, _⟩
  · subst h0
    exact ⟨none, 0, rfl, IsB.owned h hb, by simp, by omega, by simp [maxLen]⟩
  · exact ⟨_, _, rfl, IsB.owned h hb, by simp, h3, h4⟩
theorem IsB.str {w : World} {a : Option Addr} {n : Nat} {xs : List Int} (h : IsB w a n xs) (c : Nat) :
    (convert 68 9 (.slice a n c)).run Tryz.prog w = .ok (.string (strOfNums xs)) w := by
  obtain ⟨h1, _, h3⟩ := h
  rcases h3 with h3 | ⟨b, off, rfl, hc⟩
  · subst h3
    have hx : xs = [] := List.eq_nil_of_length_eq_zero h1
    subst hx
    cases a with
    | none => exact run_convert_bytes_nil w 68 5 Tryz.underlying68 Tryz.underlying5 _ _ 9 Tryz.underlying9
    | some ad =>
      rw [run_convert_bytes_string w 68 9 5 _ 0 c Tryz.underlying68 Tryz.underlying5 Tryz.underlying9, run_bytesToString w _ 0 c [] (by simpa using run_loadCells_list (P := Tryz.prog) w ad [] (fun j v hj => by simp at hj))]
      rfl
  · exact run_convert_bytes_arg w 68 5 Tryz.underlying68 Tryz.underlying5 b off n c xs h1 hc 9 Tryz.underlying9
theorem IsB.lit (w : World) (xs : List Int) (fr : Nat × Nat) (hb : ∀ x ∈ xs, 0 ≤ x ∧ x < 256) : IsB (w.alloc (.cells (xs.map (Value.int .u8)).toArray 5 fr)) (some ⟨w.heap.size, 0, none⟩) xs.length xs := by
  refine ⟨rfl, hb, .inr ⟨_, _, rfl, fun i hi => ?_⟩⟩
  rw [World.cell?_alloc_mark]
  simp [List.getD, hi]
theorem addr_add_zero (x : Addr) : x.add 0 = x := by
  unfold Addr.add
  cases x with
  | mk b o s => cases s <;> simp
theorem slice_head (a : Option Addr) (n c m : Nat) (hm : m ≤ c) (w : World) :
    (Instr.slice 68 (.slice a n c) none (some (.int .i64 (m : Int))) none).run Tryz.prog w = .ok (.slice a m c) w := by
  rw [run_slice_h w _ _ _ _ (by kernel_rfl) .i64 (m : Int) (by omega) (by omega), show Tryz.prog.elem 68 = 5 by kernel_rfl, show (sizeOf 5).run Tryz.prog w = .ok 1 w by kernel_rfl]
  simp [Result.andThen, sliced]
  intro _
  cases a <;> simp [addr_add_zero]
/-- Where a slice's rest begins. -/
def tailAt (a : Option Addr) (c m : Nat) : Option Addr := if c = m then a else a.map (·.add m)
theorem slice_tail (a : Option Addr) (n c m : Nat) (hm : m ≤ n) (w : World) :
    (Instr.slice 68 (.slice a n c) (some (.int .i64 (m : Int))) none none).run Tryz.prog w = .ok (.slice (tailAt a c m) (n - m) (c - m)) w := by
  rw [run_slice_l w _ _ _ _ (by kernel_rfl) .i64 (m : Int) (by omega) (by omega), show Tryz.prog.elem 68 = 5 by kernel_rfl, show (sizeOf 5).run Tryz.prog w = .ok 1 w by kernel_rfl]
  simp [Result.andThen, sliced, tailAt]
theorem IsB.tail {w : World} {a : Option Addr} {n : Nat} {xs : List Int} (h : IsB w a n xs) (c m : Nat) (hm : m ≤ n) (hn : n ≤ c) : IsB w (tailAt a c m) (n - m) (xs.drop m) := by
  rcases Nat.eq_zero_or_pos (n - m) with h0 | h0
  · refine ⟨by simp [h.1], fun x hx => h.2.1 x (List.mem_of_mem_drop hx), .inl h0⟩
  · obtain ⟨b, off, rfl, _⟩ := h.2.2.resolve_left (by omega)
    have h2 := h.sub m (n - m) (by omega)
    rw [List.take_of_length_le (by simp [h.1])] at h2
    have e : tailAt (some ⟨b, off, none⟩) c m = some ⟨b, off + m, none⟩ := by
      unfold tailAt
      rw [if_neg (by omega)]
      simp only [Option.map_some]
      congr 1
      unfold Addr.add
      split <;> simp_all
    rw [e]
    exact h2
theorem IsB.head {w : World} {a : Option Addr} {n : Nat} {xs : List Int} (h : IsB w a n xs) (m : Nat) (hm : m ≤ n) : IsB w a m (xs.take m) := by
  rcases Nat.eq_zero_or_pos m with h0 | h0
  · subst h0
    exact IsB.empty w a
  · obtain ⟨b, off, rfl, _⟩ := h.2.2.resolve_left (by omega)
    simpa using h.sub 0 m (by omega)
theorem owns_shape {w : World} {base n : Nat} {e : TypeId} {v : Value} {l : List Value} (h : w.ownsRow base e 1 v n l) (hn : 0 < n) : ∃ g cap, v = .slice (some ⟨g, 0, none⟩) n cap ∧ n ≤ cap ∧ cap ≤ maxLen := by
  rcases h.2 with ⟨_, h0⟩ | ⟨g, cap, cur, hv, _, _, h3, h4, _⟩
  · omega
  · exact ⟨g, cap, hv, h3, h4⟩
theorem IsV.ext {w w' : World} {v : Value} {xs : List Int} (h : IsV w v xs) (hb : Below w.heap.size w w') : IsV w' v xs := by
  obtain ⟨a, n, c, h1, h2, h3⟩ := h
  exact ⟨a, n, c, h1, h2, h3.below hb⟩
theorem str_append (l m : List Int) : strOfNums l ++ strOfNums m = strOfNums (l ++ m) := by
  apply ByteArray.ext
  apply Array.toList_inj.1
  simp [strOfNums]
theorem str_sub (l : List Int) (i j : Nat) : (strOfNums l).extract i j = strOfNums ((l.drop i).take (j - i)) := by
  apply ByteArray.ext
  apply Array.toList_inj.1
  rw [Lib.extract_data]
  simp [strOfNums, List.map_take, List.map_drop]
theorem str_inj {l m : List Int} (hl : ∀ x ∈ l, 0 ≤ x ∧ x < 256) (hm : ∀ x ∈ m, 0 ≤ x ∧ x < 256) (h : strOfNums l = strOfNums m) : l = m := by
  have h1 : (strOfNums l).data.toList.map (fun b => (b.toNat : Int)) = (strOfNums m).data.toList.map (fun b => (b.toNat : Int)) := by rw [h]
  have key : ∀ k : List Int, (∀ x ∈ k, 0 ≤ x ∧ x < 256) → (strOfNums k).data.toList.map (fun b => (b.toNat : Int)) = k := by
    intro k hk
    rw [strOfNums_data, List.map_map]
    conv => rhs; rw [← List.map_id k]
    apply List.map_congr_left
    intro x hx
    have := hk x hx
    simp
    omega
  rw [key l hl, key m hm] at h1
  exact h1
theorem str_ne {A B : ByteArray} (h : A ≠ B) : (A.toList == B.toList) = false := by
  rw [beq_eq_false_iff_ne]
  intro h2
  apply h
  rw [ByteArray.toList_eq, ByteArray.toList_eq] at h2
  exact ByteArray.ext (Array.toList_inj.1 h2)
end Go.Proofs.YteodldmbnghfcaaGreat
