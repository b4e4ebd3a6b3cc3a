/- Rows of elements of k cells each, whatever they are. Maps of the call's own, with elements of whatever kind (pointers too): a map is a function from keys to values. The oracle's revisions as lists. The oracle in memory: Last, Closed. The oracle takes a record. The oracle writes: write, Issue, Resolve, Open. The oracle is opened; its open ones. The law's opened, and awake. -/
import Derived.Test.YteodldmbnghfcaaGreatC0
import Derived.Maps.OwnOps
import Derived.Maps.OwnSet
import Derived.Test.YteodldmbnghfcaaGreatL7
import Derived.Deep.QuietTactic
import Derived.BigQuiet
import Derived.Maps.AppendAt
import Derived.Deep.RegionLaw
import Derived.StillTailTactics
import Derived.Deep.RegionHeld3
namespace Go.Proofs.YteodldmbnghfcaaGreat
open Go.RowKit

theorem fm_len {α : Type} {f : α → List Value} {k : Nat} (hf : ∀ x, (f x).length = k) (l : List α) : (l.flatMap f).length = l.length * k := by
  induction l with
  | nil => simp
  | cons x l ih => rw [List.flatMap_cons, List.length_append, ih, hf, List.length_cons, Nat.succ_mul]; omega
theorem fm_take {α : Type} {f : α → List Value} {k : Nat} (hf : ∀ x, (f x).length = k) (l : List α) : ∀ m : Nat, (l.flatMap f).take (m * k) = (l.take m).flatMap f := by
  induction l with
  | nil => intro m; simp
  | cons x l ih =>
    intro m
    cases m with
    | zero => simp
    | succ m =>
      rw [List.flatMap_cons, List.take_succ_cons, List.flatMap_cons, List.take_append, hf, List.take_of_length_le (by rw [hf, Nat.succ_mul]; omega), ← ih m]
      congr 2
      rw [Nat.succ_mul]; omega
theorem fm_drop {α : Type} {f : α → List Value} {k : Nat} (hf : ∀ x, (f x).length = k) (l : List α) : ∀ m : Nat, (l.flatMap f).drop (m * k) = (l.drop m).flatMap f := by
  induction l with
  | nil => intro m; simp
  | cons x l ih =>
    intro m
    cases m with
    | zero => simp
    | succ m =>
      rw [List.flatMap_cons, List.drop_succ_cons, List.drop_append, hf, List.drop_eq_nil_of_le (by rw [hf, Nat.succ_mul]; omega), List.nil_append, ← ih m]
      congr 1
      rw [Nat.succ_mul]; omega
theorem fm_at {α : Type} {f : α → List Value} {k : Nat} (hf : ∀ x, (f x).length = k) {l : List α} {i j : Nat} {x : α} (h : l[i]? = some x) (hj : j < k) : (l.flatMap f)[i * k + j]? = (f x)[j]? := by
  induction l generalizing i with
  | nil => simp at h
  | cons y l ih =>
    rw [List.flatMap_cons]
    cases i with
    | zero =>
      simp at h
      subst h
      rw [List.getElem?_append_left (by rw [hf]; omega), Nat.zero_mul, Nat.zero_add]
    | succ i =>
      have h2 : l[i]? = some x := by simpa using h
      rw [List.getElem?_append_right (by rw [hf, Nat.succ_mul]; omega), ← ih h2, hf]
      congr 1
      rw [Nat.succ_mul]; omega
theorem fm_one {α : Type} {f : α → List Value} (h1 : ∀ x, ∀ u ∈ f x, u.oneCell' = true) (l : List α) : ∀ u ∈ l.flatMap f, u.oneCell' = true := by
  intro u hu
  obtain ⟨p, _, hp⟩ := List.mem_flatMap.1 hu
  exact h1 p u hp
/-- These cells lie at an address, k for each of n elements. -/
structure Lies (w : World) (T : TypeId) (k B : Nat) (a : Option Addr) (n c : Nat) (cs : List Value) : Prop where
  len : cs.length = n * k
  nil : a = none → n = 0 ∧ c = 0
  room : n ≤ c
  big : c ≤ maxLen
  at_ : ∀ ad, a = some ad → ad.spot = none ∧ ad.block < w.heap.size ∧ B ≤ ad.block ∧ ∀ (j : Nat) u, cs[j]? = some u → w.cell? (ad.add j) = some u
section
variable {w w' : World} {T : TypeId} {k B B' n c : Nat} {a : Option Addr} {cs : List Value}
theorem Lies.keep (h : Lies w T k B a n c cs) (hs : w.heap.size ≤ w'.heap.size) (hk : ∀ ad, a = some ad → w'.heap[ad.block]? = w.heap[ad.block]?) : Lies w' T k B a n c cs := by
  refine ⟨h.len, h.nil, h.room, h.big, fun ad ha => ?_⟩
  obtain ⟨h1, h2, h3, h5⟩ := h.at_ ad ha
  have hb := hk ad ha
  refine ⟨h1, Nat.lt_of_lt_of_le h2 hs, h3, fun j u hu => ?_⟩
  have := h5 j u hu
  obtain ⟨b, off, spot⟩ := ad
  simp only at h1 hb
  subst h1
  rw [add_plain] at this ⊢
  simp only [World.cell?, hb] at this ⊢
  exact this
theorem Lies.below (h : Lies w T k B a n c cs) (hb : Below w.heap.size w w') : Lies w' T k B a n c cs := h.keep hb.size (fun ad ha => hb.block _ (h.at_ ad ha).2.1)
theorem Lies.none (w : World) (T : TypeId) (k B : Nat) : Lies w T k B .none 0 0 [] := ⟨by simp, fun _ => ⟨rfl, rfl⟩, Nat.le_refl _, by simp [maxLen], fun ad h => by cases h⟩
theorem Lies.mono (h : Lies w T k B a n c cs) (hb : B' ≤ B) : Lies w T k B' a n c cs := ⟨h.len, h.nil, h.room, h.big, fun ad ha => by obtain ⟨h1, h2, h3, h4⟩ := h.at_ ad ha; exact ⟨h1, h2, by omega, h4⟩⟩
theorem Lies.news (h : Lies w T k B a n c cs) : ∀ ad, a = some ad → ∀ (j : Nat) u, cs[j]? = some u → w.cell? (ad.add j) = some u := fun ad ha => (h.at_ ad ha).2.2.2
theorem Lies.addr (h : Lies w T k B a n c cs) (hn : 0 < n) : ∃ b off, a = some ⟨b, off, Option.none⟩ ∧ b < w.heap.size ∧ B ≤ b := by
  cases a with
  | none => have := (h.nil rfl).1; omega
  | some ad =>
    obtain ⟨b, off, spot⟩ := ad
    obtain ⟨h1, h2, h3, _⟩ := h.at_ _ rfl
    simp at h1 h2 h3
    subst h1
    exact ⟨b, off, rfl, h2, h3⟩
theorem Lies.cell {b off : Nat} (h : Lies w T k B (some ⟨b, off, Option.none⟩) n c cs) {j : Nat} {u : Value} (hu : cs[j]? = some u) : w.cell? ⟨b, off + j, Option.none⟩ = some u := by
  have := (h.at_ _ rfl).2.2.2 j u hu
  rwa [add_plain] at this
theorem Lies.owned {base : Nat} {v : Value} (h : w.ownsRow base T k v n cs) : ∃ a c, v = .slice a n c ∧ Lies w T k base a n c cs := by
  have hl : cs.length = n * k := h.1
  rcases h.2 with ⟨rfl, h0⟩ | ⟨g, cap, cur, rfl, hb, hh, hnc, hcm, hsz, ht⟩
  · subst h0
    obtain rfl := List.eq_nil_of_length_eq_zero (by omega : cs.length = 0)
    exact ⟨.none, 0, rfl, Lies.none _ _ _ _⟩
  · refine ⟨_, _, rfl, hl, (by intro e; cases e), hnc, hcm, ?_⟩
    rintro ad ha
    injection ha with ha
    subst ha
    have hlt : g < w.heap.size := by
      rcases Nat.lt_or_ge g w.heap.size with hl | hl
      · exact hl
      · rw [Array.getElem?_eq_none hl] at hh
        cases hh
    refine ⟨rfl, hlt, hb, fun j u hu => ?_⟩
    rw [add_plain, Nat.zero_add]
    simp only [World.cell?, hh]
    rw [← ht, List.getElem?_take] at hu
    split at hu
    · simpa using hu
    · cases hu
theorem Lies.head {m : Nat} (h : Lies w T k B a n c cs) (hm : m ≤ n) : Lies w T k B a m c (cs.take (m * k)) := by
  refine ⟨by rw [List.length_take, h.len]; exact Nat.min_eq_left (Nat.mul_le_mul_right _ hm), fun ha => by have := h.nil ha; omega, by have := h.room; omega, h.big, fun ad ha => ?_⟩
  obtain ⟨h1, h2, h3, h5⟩ := h.at_ ad ha
  refine ⟨h1, h2, h3, fun j u hu => h5 j u ?_⟩
  rw [List.getElem?_take] at hu
  split at hu
  · exact hu
  · cases hu
/-- Where a slice's rest begins. -/
def tailK (k : Nat) (a : Option Addr) (c m : Nat) : Option Addr := if c = m then a else a.map (·.add (m * k))
theorem Lies.tail {m : Nat} (h : Lies w T k B a n c cs) (hm : m ≤ n) : Lies w T k B (tailK k a c m) (n - m) (c - m) (cs.drop (m * k)) := by
  have hroom := h.room
  refine ⟨by rw [List.length_drop, h.len, ← Nat.sub_mul], fun ha => ?_, by omega, by have := h.big; omega, fun ad ha => ?_⟩
  · unfold tailK at ha
    split at ha
    · have := h.nil ha; omega
    · cases a with
      | none => have := h.nil rfl; omega
      | some ad => simp at ha
  · unfold tailK at ha
    by_cases hc : c = m
    · rw [if_pos hc] at ha
      obtain ⟨h1, h2, h3, h5⟩ := h.at_ ad ha
      refine ⟨h1, h2, h3, fun j u hu => ?_⟩
      obtain rfl : n = m := by omega
      rw [List.drop_eq_nil_of_le (by rw [h.len]; exact Nat.le_refl _)] at hu
      simp at hu
    · rw [if_neg hc] at ha
      cases a with
      | none => simp at ha
      | some ad0 =>
        simp only [Option.map_some, Option.some.injEq] at ha
        subst ha
        obtain ⟨h1, h2, h3, h5⟩ := h.at_ ad0 rfl
        obtain ⟨b, off, spot⟩ := ad0
        simp only at h1
        subst h1
        rw [add_plain]
        refine ⟨rfl, h2, h3, fun j u hu => ?_⟩
        rw [List.getElem?_drop] at hu
        have := h5 _ _ hu
        rw [add_plain] at this ⊢
        rw [← this]
        congr 2
        omega
end
/-- s[m:], s[:m] of a slice of elements of k cells. -/
theorem slice_tailK {P : Program} {t e : TypeId} {k : Nat} (ht : P.underlying t = some (.slice e)) (he : P.elem t = e) (a : Option Addr) (n c m : Nat) (hm : m ≤ n) (w : World) (hk : (sizeOf e).run P w = .ok k w) :
    (Instr.slice t (.slice a n c) (some (.int .i64 (m : Int))) none none).run P w = .ok (.slice (tailK k a c m) (n - m) (c - m)) w := by
  subst he
  rw [run_slice_l w _ _ _ _ ht .i64 (m : Int) (by omega) (by omega), hk]
  simp [Result.andThen, sliced, tailK]
theorem slice_headK {P : Program} {t e : TypeId} {k : Nat} (ht : P.underlying t = some (.slice e)) (he : P.elem t = e) (a : Option Addr) (n c m : Nat) (hm : m ≤ c) (w : World) (hk : (sizeOf e).run P w = .ok k w) :
    (Instr.slice t (.slice a n c) none (some (.int .i64 (m : Int))) none).run P w = .ok (.slice a m c) w := by
  subst he
  rw [run_slice_h w _ _ _ _ ht .i64 (m : Int) (by omega) (by omega), hk]
  simp [Result.andThen, sliced]
  intro hc
  cases a <;> simp [Addr.add]
/-- A type's zero, its cells and its bytes, out of one closed fact. -/
theorem info_of {P : Program} {T : TypeId} {z : Value} {s y : Nat} (h : (P.info? T).map (fun i => (i.zero, i.size, i.bytes)) = some (some z, s, y)) : ∃ i, P.info? T = some i ∧ i.zero = some z ∧ i.size = s ∧ i.bytes = y := by
  cases hi : P.info? T with
  | none => rw [hi] at h; cases h
  | some i =>
    rw [hi] at h
    simp at h
    exact ⟨i, rfl, h.1, h.2.1, h.2.2⟩
theorem made_row {P : Program} (w : World) (t e : TypeId) (i : TypeInfo) (z : Value) (size bytes : Nat) (ht : P.underlying t = some (.slice e)) (hi : P.info? e = some i) (hz : i.zero = some z) (hsize : i.size = size) (hby : i.bytes = bytes)
    (n m : Nat) (hnm : n ≤ m) (hm : m * bytes ≤ 140737488355328) (hm2 : m ≤ maxLen) :
    ∃ cs, (Instr.makeSlice t (.int .i64 (n : Int)) (.int .i64 (m : Int))).run P w = .ok (.slice (some ⟨w.heap.size, 0, none⟩) n m) (w.alloc (.cells cs e)) ∧ cs.size = m * size := by
  have hmb : bytes * m ≤ 140737488355328 := by rw [Nat.mul_comm]; exact hm
  have hr := run_make (P := P) w t e i z ht hi hz .i64 .i64 n m (by omega) (by omega) (by rw [hby]; omega) (by unfold maxLen at hm2; omega)
  simp only [Int.toNat_natCast] at hr
  rw [hsize] at hr
  exact ⟨_, hr, by rw [size_madeCells]⟩
end Go.Proofs.YteodldmbnghfcaaGreat

namespace Go.Proofs.YteodldmbnghfcaaGreat
open Go.RowKit
open Go.Maps (Keyed)
open Go.ChangeMaps Go.MapKept
open Go.WideElems (Fit rd rg pl rd_val elemAt)

/-- An element is what it is. -/
def heldR : Value → Option (DataW Value × List MemPlace) := fun v => some (.held v, [])
/-- What a map has under a key. -/
def mview (D : DataW Value) (kl : Lit) : Option Value := match D.atKey kl .nil with
  | .held v => some v
  | _ => none
/-- Block b is a map: what it has under each key, and how many keys. -/
def MapAt (w : World) (P : Program) (k : TypeId) (b : Nat) (m : Lit → Option Value) (N : Nat) : Prop :=
  ∃ D : DataW Value, w.ownsMap P k heldR b N D ∧ Maps.size D = N ∧ ∀ kl, mview D kl = m kl
/-- A function changed at one key. -/
def mset (m : Lit → Option Value) (kl : Lit) (v : Option Value) : Lit → Option Value := fun x => if x.sameKey kl then v else m x
theorem mset_same {m : Lit → Option Value} {kl : Lit} {v : Option Value} (h : WideAt.IsKeyLit kl) : mset m kl v kl = v := by
  unfold mset
  rw [if_pos (WideAt.sameKey_self h)]
theorem mset_other {m : Lit → Option Value} {kl x : Lit} {v : Option Value} (h : x ≠ kl) : mset m kl v x = m x := by
  unfold mset
  rw [if_neg]
  exact fun hs => h (WideAt.sameKey_eq hs)
section
variable {P : Program} {k e t : TypeId} {b N : Nat} {m : Lit → Option Value} {w : World} {D : DataW Value}
theorem MapAt.made (w : World) (P : Program) (k : TypeId) : MapAt (w.alloc (.map #[] 0)) P k w.heap.size (fun _ => none) 0 :=
  ⟨.map [], World.ownsMap_made _ _ _ _, rfl, fun _ => rfl⟩
theorem MapAt.lt (h : MapAt w P k b m N) : b < w.heap.size := by
  obtain ⟨D, h, _⟩ := h
  exact h.lt
theorem MapAt.kept {w' : World} (h : MapAt w P k b m N) (hb : w'.heap[b]? = w.heap[b]?) : MapAt w' P k b m N := by
  obtain ⟨D, ⟨es, clock, h1, h2⟩, h3⟩ := h
  exact ⟨D, ⟨es, clock, hb.trans h1, h2⟩, h3⟩
theorem MapAt.below {w' : World} (h : MapAt w P k b m N) (hb : Below w.heap.size w w') : MapAt w' P k b m N := h.kept (hb.block _ h.lt)
theorem MapAt.ne {c : Nat} {T : TypeId} {cs : Array Value} (h : MapAt w P k b m N) (hc : Whole w c T cs) : c ≠ b := by
  rintro rfl
  obtain ⟨D, ⟨es, clock, h1, _⟩, _⟩ := h
  unfold Whole at hc
  rw [hc] at h1
  cases h1
theorem mview_eq (h : w.ownsMap P k heldR b N D) (K : Keyed P k) (ht : P.underlying t = some (.map k e)) {z : Value} (hz : (zeroValue e).run P w = .ok z w) (c : Bool) {key : Value} {kl : Lit} (hkey : keyOf P k key = some kl) :
    (Instr.lookup t (.map (some b)) key c).run P w = .ok (if c then .tuple #[(mview D kl).getD z, .bool (mview D kl).isSome] else (mview D kl).getD z) w ∧ Maps.has D kl = (mview D kl).isSome := by
  obtain ⟨es, clock, hb, F, _, rfl⟩ := h
  rcases Maps.fit_look c K ht hz hb F hkey with ⟨hrun, _, hat⟩ | ⟨e0, y, _, _, hrun, hR, hat, _⟩
  · have hv : mview (DataW.map ((es.toList.map (rg P k heldR)).foldr DataW.insert [])) kl = none := by
      unfold mview
      rw [hat]
    rw [hv]
    refine ⟨by rw [hrun]; rfl, Maps.has_false_of_atKey hat⟩
  · have hv : mview (DataW.map ((es.toList.map (rg P k heldR)).foldr DataW.insert [])) kl = some e0.val := by
      unfold mview
      rw [hat]
      injection hR with hR
      rw [← hR]
    rw [hv]
    exact ⟨by rw [hrun]; rfl, Maps.has_true_of_atKey hat⟩
/-- 'm[k]' and 'v, ok := m[k]'. -/
theorem MapAt.look (h : MapAt w P k b m N) (K : Keyed P k) (ht : P.underlying t = some (.map k e)) {z : Value} (hz : (zeroValue e).run P w = .ok z w) (c : Bool) {key : Value} {kl : Lit} (hkey : keyOf P k key = some kl) :
    (Instr.lookup t (.map (some b)) key c).run P w = .ok (if c then .tuple #[(m kl).getD z, .bool (m kl).isSome] else (m kl).getD z) w := by
  obtain ⟨D, h, _, hm⟩ := h
  rw [(mview_eq h K ht hz c hkey).1, hm]
theorem MapAt.len (h : MapAt w P k b m N) (ht : P.underlying t = some (.map k e)) (ty : TypeId) : (Builtin.len_ #[t] ty #[.map (some b)]).run P w = .ok (.int .i64 (N : Int)) w := by
  obtain ⟨D, h, rfl, _⟩ := h
  exact h.len ht ty
theorem own_tight (h : w.ownsMap P k heldR b N D) : w.ownsMap P k heldR b (Maps.size D) D := by
  obtain ⟨es, clock, hb, F, _, rfl⟩ := h
  exact ⟨es, clock, hb, F, by simp [Maps.size, length_sorted], rfl⟩
/-- 'm[k] = v'. -/
theorem MapAt.store (h : MapAt w P k b m N) (K : Keyed P k) (ht : P.underlying t = some (.map k e)) {z : Value} (hz : (zeroValue e).run P w = .ok z w) (hn : N < maxLen) {key val : Value} {kl : Lit} (hkey : keyOf P k key = some kl) :
    ∃ w', (Instr.mapUpdate t (.map (some b)) key val).run P w = .ok () w' ∧ MapAt w' P k b (mset m kl (some val)) (if (m kl).isSome then N else N + 1) ∧ w.grownBy w' (some b) ∧ w'.heap.size = w.heap.size := by
  obtain ⟨D, h, rfl, hm⟩ := h
  have hhas := (mview_eq h K ht hz false hkey).2
  obtain ⟨w', hrun, hown, hturn⟩ := h.store (val := val) K ht hn hkey rfl
  refine ⟨w', hrun, ⟨D.put kl (.held val), ?_, ?_, ?_⟩, hturn.grown, ?_⟩
  · have := own_tight hown
    rw [Maps.size_put (h.tidy K), hhas, hm] at this
    exact this
  · rw [Maps.size_put (h.tidy K), hhas, hm]
  · intro x
    by_cases hx : x = kl
    · subst hx
      rw [mset_same (K.key hkey)]
      unfold mview
      rw [Maps.atKey_put_same h.isMap (K.key hkey)]
    · rw [mset_other hx, ← hm]
      unfold mview
      rw [Maps.atKey_put_other hx]
  · obtain ⟨es, clock, es', clock', _, rfl⟩ := hturn
    simp [setBlock]
/-- 'delete(m, k)'. -/
theorem MapAt.drop (h : MapAt w P k b m N) (K : Keyed P k) (ht : P.underlying t = some (.map k e)) {z : Value} (hz : (zeroValue e).run P w = .ok z w) {key : Value} {kl : Lit} (hkey : keyOf P k key = some kl) (ty : TypeId) :
    ∃ w', (Builtin.delete_ #[t, k] ty #[.map (some b), key]).run P w = .ok (.tuple #[]) w' ∧ MapAt w' P k b (mset m kl none) (if (m kl).isSome then N - 1 else N) ∧ w.grownBy w' (some b) ∧ w'.heap.size = w.heap.size := by
  obtain ⟨D, h, rfl, hm⟩ := h
  have hhas := (mview_eq h K ht hz false hkey).2
  obtain ⟨w', hrun, hown, hturn⟩ := h.drop K ht hkey ty
  have hsz : Maps.size (D.del kl) = if (m kl).isSome then Maps.size D - 1 else Maps.size D := by
    have := Maps.size_del (k := kl) (h.tidy K)
    rw [hhas, hm] at this
    split <;> simp_all <;> omega
  refine ⟨w', hrun, ⟨D.del kl, ?_, hsz, ?_⟩, hturn.grown, ?_⟩
  · rw [← hsz]
    exact own_tight hown
  · intro x
    by_cases hx : x = kl
    · subst hx
      rw [mset_same (K.key hkey)]
      unfold mview
      rw [Maps.atKey_of_not_has Maps.has_del_same]
    · rw [mset_other hx, ← hm]
      unfold mview
      by_cases hh : Maps.has D x = true
      · rw [Maps.atKey_del_other hx]
      · have h1 : Maps.has D x = false := by simpa using hh
        rw [Maps.atKey_of_not_has h1, Maps.atKey_of_not_has (by rw [Maps.has_del_other hx]; exact h1)]
  · obtain ⟨es, clock, es', clock', _, rfl⟩ := hturn
    simp [setBlock]
end
/-- 'm[k] = v' at the operation. -/
theorem wpList_store_map {P : Program} (w : World) {ops : Array Oper} {rest : List Oper} {o : Oper} {a : Act} {Q : Exit → Act → World → Prop}
    (hg : o.guard = none) (mm x v : Operand) (t : TypeId) (hop : o.op = Op.mapUpdate t mm x v)
    (k e : TypeId) (K : Keyed P k) (ht : P.underlying t = some (.map k e)) (z : Value) (hz : (zeroValue e).run P w = .ok z w) (b N : Nat) (m : Lit → Option Value)
    (hm : a.eval mm = .map (some b)) (hown : MapAt w P k b m N) (hn : N < maxLen) (key val : Value) (kl : Lit) (hx : a.eval x = key) (hv : a.eval v = val) (hkey : keyOf P k key = some kl)
    (hK : ∀ w', MapAt w' P k b (mset m kl (some val)) (if (m kl).isSome then N else N + 1) → w.grownBy w' (some b) → w'.heap.size = w.heap.size → wpList P ops Q rest (a.put o.dst undef) w') :
    wpList P ops Q (o :: rest) a w := by
  refine wpList_plain hg fun K' hK' => ?_
  obtain ⟨w', hrun, r1, r2, r3⟩ := hown.store K ht hz hn hkey
  unfold Oper.wp
  simp [execOp, hop, hm, hx, hv, Result.andThen]
  rw [hrun]
  exact hK' _ _ (hK w' r1 r2 r3)
/-- 'delete(m, k)' at the operation. -/
theorem wpList_drop_map {P : Program} (w : World) {ops : Array Oper} {rest : List Oper} {o : Oper} {a : Act} {Q : Exit → Act → World → Prop}
    (hg : o.guard = none) (mm x : Operand) (t k : TypeId) (hop : o.op = Op.call { callee := Callee.builtin Builtin.delete, args := #[mm, x], argTypes := #[t, k] })
    (e : TypeId) (K : Keyed P k) (ht : P.underlying t = some (.map k e)) (z : Value) (hz : (zeroValue e).run P w = .ok z w) (b N : Nat) (m : Lit → Option Value)
    (hm : a.eval mm = .map (some b)) (hown : MapAt w P k b m N) (key : Value) (kl : Lit) (hx : a.eval x = key) (hkey : keyOf P k key = some kl)
    (hK : ∀ w', MapAt w' P k b (mset m kl none) (if (m kl).isSome then N - 1 else N) → w.grownBy w' (some b) → w'.heap.size = w.heap.size → wpList P ops Q rest (a.put o.dst (.tuple #[])) w') :
    wpList P ops Q (o :: rest) a w := by
  refine wpList_plain hg fun K' hK' => ?_
  obtain ⟨w', hrun, r1, r2, r3⟩ := hown.drop K ht hz hkey o.type
  unfold Oper.wp
  simp [execOp, resolve, invoke, builtin, hop, hm, hx, hrun, Result.andThen]
  exact hK' _ _ (hK w' r1 r2 r3)
/-- A look-up at the operation. -/
theorem wpList_look_map {P : Program} (w : World) {ops : Array Oper} {rest : List Oper} {o : Oper} {a : Act} {Q : Exit → Act → World → Prop}
    (hg : o.guard = none) (mm x : Operand) (t : TypeId) (c : Bool) (hop : o.op = Op.lookup t mm x c)
    (k e : TypeId) (K : Keyed P k) (ht : P.underlying t = some (.map k e)) (z : Value) (hz : (zeroValue e).run P w = .ok z w) (b N : Nat) (m : Lit → Option Value)
    (hm : a.eval mm = .map (some b)) (hown : MapAt w P k b m N) (key : Value) (kl : Lit) (hx : a.eval x = key) (hkey : keyOf P k key = some kl)
    (r : Value) (hr : (if c then .tuple #[(m kl).getD z, .bool (m kl).isSome] else (m kl).getD z) = r)
    (hK : wpList P ops Q rest (a.put o.dst r) w) :
    wpList P ops Q (o :: rest) a w := by
  refine wpList_plain hg fun K' hK' => ?_
  have hrun := hown.look K ht hz c hkey
  rw [hr] at hrun
  unfold Oper.wp
  simp [execOp, hop, hm, hx, hrun, Result.andThen]
  exact hK' _ _ hK
end Go.Proofs.YteodldmbnghfcaaGreat

namespace Go.Proofs.YteodldmbnghfcaaGreat
open Go.RowKit
open Go.Maps (Keyed)

def InI (k : Int) : Prop := -9223372036854775808 ≤ k ∧ k ≤ 9223372036854775807
/-- A revision that was given out. -/
structure Iss where
  rev : Int
  id : Int
  fr : Int
  done : Bool
def isc (x : Iss) : List Value := [.int .i64 x.rev, .int .i64 x.id, .int .i64 x.fr, .bool x.done]
theorem isc_len (x : Iss) : (isc x).length = 4 := rfl
def iscs (L : List Iss) : List Value := L.flatMap isc
theorem iscs_len (L : List Iss) : (iscs L).length = L.length * 4 := fm_len isc_len L
theorem iscs_append (L M : List Iss) : iscs (L ++ M) = iscs L ++ iscs M := by unfold iscs; rw [List.flatMap_append]
theorem iscs_at {L : List Iss} {i : Nat} {x : Iss} (h : L[i]? = some x) : (iscs L)[i * 4]? = some (.int .i64 x.rev) ∧ (iscs L)[i * 4 + 1]? = some (.int .i64 x.id) ∧ (iscs L)[i * 4 + 2]? = some (.int .i64 x.fr) ∧ (iscs L)[i * 4 + 3]? = some (.bool x.done) :=
  ⟨fm_at (j := 0) isc_len h (by decide), fm_at (j := 1) isc_len h (by decide), fm_at (j := 2) isc_len h (by decide), fm_at (j := 3) isc_len h (by decide)⟩
/-- So many at the front are resolved. -/
def leadN : List Iss → Nat
  | [] => 0
  | x :: L => if x.done then leadN L + 1 else 0
theorem leadN_le : ∀ L : List Iss, leadN L ≤ L.length
  | [] => Nat.le_refl _
  | x :: L => by
    have := leadN_le L
    unfold leadN
    split <;> simp only [List.length_cons] <;> omega
theorem leadN_done : ∀ {L : List Iss} {i : Nat} {x : Iss}, i < leadN L → L[i]? = some x → x.done = true
  | [], _, _, h, _ => by cases h
  | y :: L, i, x, h, hx => by
    unfold leadN at h
    cases hd : y.done with
    | false => rw [hd] at h; simp at h
    | true =>
      rw [hd] at h
      simp only [if_true] at h
      cases i with
      | zero => simp at hx; rw [← hx]; exact hd
      | succ i => exact leadN_done (L := L) (i := i) (by omega) (by simpa using hx)
theorem leadN_stop : ∀ {L : List Iss} {x : Iss}, L[leadN L]? = some x → x.done = false
  | [], _, h => by simp at h
  | y :: L, x, h => by
    unfold leadN at h
    cases hd : y.done with
    | false => rw [hd] at h; simp at h; rw [← h]; exact hd
    | true =>
      rw [hd] at h
      simp only [if_true, List.getElem?_cons_succ] at h
      exact leadN_stop h
theorem leadN_of : ∀ {L : List Iss} {o : Nat}, o ≤ L.length → (∀ i x, i < o → L[i]? = some x → x.done = true) → (∀ x, L[o]? = some x → x.done = false) → leadN L = o
  | [], o, h, _, _ => by simp at h; rw [h]; rfl
  | y :: L, 0, _, _, h3 => by
    have := h3 y (by simp)
    unfold leadN
    rw [this]
    rfl
  | y :: L, o + 1, h, h2, h3 => by
    have hd := h2 0 y (by omega) (by simp)
    unfold leadN
    rw [hd]
    simp only [if_true]
    congr 1
    exact leadN_of (by simpa using h) (fun i x hi hx => h2 (i + 1) x (by omega) (by simpa using hx)) (fun x hx => h3 x (by simpa using hx))
theorem leadN_push (L : List Iss) (x : Iss) (hx : x.done = false) : leadN (L ++ [x]) = leadN L := by
  have hl := leadN_le L
  refine leadN_of (by simp; omega) (fun i y hi hy => ?_) (fun y hy => ?_)
  · rw [List.getElem?_append_left (by omega)] at hy
    exact leadN_done hi hy
  · rcases Nat.lt_or_ge (leadN L) L.length with h | h
    · rw [List.getElem?_append_left h] at hy
      exact leadN_stop hy
    · rw [List.getElem?_append_right h, show leadN L - L.length = 0 by omega] at hy
      simp at hy
      rw [← hy]
      exact hx
/-- One is resolved. -/
def mark (L : List Iss) (i : Nat) : List Iss := L.modify i fun x => { x with done := true }
theorem mark_at (L : List Iss) (i j : Nat) : (mark L i)[j]? = if i = j then L[j]?.map (fun x => { x with done := true }) else L[j]? := by
  unfold mark
  rw [List.getElem?_modify]
  split
  · rfl
  · simp
theorem mark_len (L : List Iss) (i : Nat) : (mark L i).length = L.length := by unfold mark; rw [List.length_modify]
theorem mark_ids (L : List Iss) (i : Nat) : (mark L i).map (·.id) = L.map (·.id) := by
  apply List.ext_getElem?
  intro j
  rw [List.getElem?_map, List.getElem?_map, mark_at]
  split
  · rw [Option.map_map]; rfl
  · rfl
theorem mark_lead (L : List Iss) (i : Nat) : leadN L ≤ leadN (mark L i) := by
  rcases Nat.lt_or_ge (leadN (mark L i)) (leadN L) with h | h
  · have hl := leadN_le L
    have hlt : leadN (mark L i) < (mark L i).length := by rw [mark_len]; omega
    have h1 := leadN_stop (List.getElem?_eq_getElem hlt)
    have h2 : ((mark L i)[leadN (mark L i)]'hlt).done = true := by
      have h3 : (mark L i)[leadN (mark L i)]? = some ((mark L i)[leadN (mark L i)]'hlt) := List.getElem?_eq_getElem hlt
      rw [mark_at] at h3
      obtain ⟨y, hy⟩ : ∃ y, L[leadN (mark L i)]? = some y := ⟨_, List.getElem?_eq_getElem (by omega)⟩
      have h4 := leadN_done h hy
      rw [hy] at h3
      split at h3
      · simp at h3; rw [← h3]
      · injection h3 with h3; rw [← h3]; exact h4
    rw [h1] at h2
    cases h2
  · exact h
def idx (L : List Iss) (k : Int) : Option Nat := L.findIdx? (fun x => decide (x.id = k))
theorem idx_none {L : List Iss} {k : Int} (h : k ∉ L.map (·.id)) : idx L k = none := by
  unfold idx
  rw [List.findIdx?_eq_none_iff]
  intro x hx
  simp
  rintro rfl
  exact h (List.mem_map.2 ⟨x, hx, rfl⟩)
theorem idx_some {L : List Iss} {k : Int} (h : k ∈ L.map (·.id)) : ∃ i x, idx L k = some i ∧ L[i]? = some x ∧ x.id = k := by
  unfold idx
  cases hf : L.findIdx? (fun x => decide (x.id = k)) with
  | none =>
    rw [List.findIdx?_eq_none_iff] at hf
    obtain ⟨x, hx, hk⟩ := List.mem_map.1 h
    have := hf x hx
    simp at this
    exact absurd hk this
  | some i =>
    obtain ⟨hi, hp, _⟩ := List.findIdx?_eq_some_iff_getElem.1 hf
    exact ⟨i, L[i], rfl, List.getElem?_eq_getElem hi, by simpa using hp⟩
theorem idx_push {L : List Iss} {k : Int} (x : Iss) : idx (L ++ [x]) k = if k ∈ L.map (·.id) then idx L k else if x.id = k then some L.length else none := by
  by_cases h : k ∈ L.map (·.id)
  · rw [if_pos h]
    obtain ⟨i, y, h1, _, _⟩ := idx_some h
    unfold idx at h1 ⊢
    rw [List.findIdx?_append, h1]
    rfl
  · rw [if_neg h]
    have h1 := idx_none h
    unfold idx at h1 ⊢
    rw [List.findIdx?_append, h1]
    by_cases hk : x.id = k
    · rw [if_pos hk]; simp [hk]
    · rw [if_neg hk]; simp [hk]
theorem idx_mark (L : List Iss) (i : Nat) (k : Int) : idx (mark L i) k = idx L k := by
  have e : ∀ M : List Iss, idx M k = (M.map (·.id)).findIdx? (fun y => decide (y = k)) := fun M => by unfold idx; rw [List.findIdx?_map]; rfl
  rw [e, e, mark_ids]
/-- A record. -/
def oD (k f i r : Int) : MsgD := ⟨k, f, 0, i, r, 0, 0, false, [], [], [], []⟩
theorem od_in64 {k f i r : Int} (h1 : InI k) (h2 : InI f) (h3 : InI i) (h4 : InI r) : (oD k f i r).in64 := ⟨h1, h2, in0, h3, h4, in0, in0, by simp [oD], by simp [oD]⟩
theorem od_good {k f i r : Int} (h1 : InI k) (h2 : InI f) (h3 : InI i) (h4 : InI r) : (oD k f i r).good := by
  refine ⟨⟨by simp [oD], ⟨by simp [oD], by simp [oD]⟩, ⟨by simp [oD], by simp [oD]⟩, ⟨by simp [oD], by simp [oD]⟩⟩, ?_⟩
  have e1 := Vi.int_length k h1.1 h1.2
  have e2 := Vi.int_length f h2.1 h2.2
  have e3 := Vi.int_length i h3.1 h3.2
  have e4 := Vi.int_length r h4.1 h4.2
  have h0 := Vi.int_length 0 (by omega) (by omega)
  simp only [enc, oD, List.length_append, lst, List.map_nil, List.flatten_nil, List.length_nil, List.length_singleton]
  have : ((0 : Nat) : Int) = 0 := rfl
  rw [this]
  omega
theorem od_fine {k f i r : Int} (h1 : InI k) (h2 : InI f) (h3 : InI i) (h4 : InI r) : (oD k f i r).fine := ⟨od_good h1 h2 h3 h4, od_in64 h1 h2 h3 h4⟩
theorem od_in (w : World) {k f i r : Int} (h1 : InI k) (h2 : InI f) (h3 : InI i) (h4 : InI r) : MsgIn w (.agg #[.int .i64 k, .int .i64 f, .int .i64 0, .int .i64 i, .int .i64 r, .int .i64 0, .int .i64 0, .bool false, .slice none 0 0, .slice none 0 0, .slice none 0 0, .slice none 0 0]) (oD k f i r) :=
  ⟨none, none, none, none, 0, 0, 0, 0, 0, 0, 0, 0, ⟨rfl, h1, h2, in0, h3, h4, in0, in0, ⟨rfl, .inl rfl⟩, ⟨rfl, .inl rfl⟩, ⟨rfl, .inl rfl⟩, ⟨rfl, .inl rfl⟩, by omega, by omega, by omega, by omega⟩⟩
/-- The last revision. -/
def lastR (L : List Iss) : Int := match L.getLast? with
  | some x => x.rev
  | none => 0
theorem lastR_nil : lastR [] = 0 := rfl
theorem lastR_push (L : List Iss) (x : Iss) : lastR (L ++ [x]) = x.rev := by unfold lastR; rw [List.getLast?_concat]
theorem lastR_at {L : List Iss} {x : Iss} (h : L[L.length - 1]? = some x) : lastR L = x.rev := by unfold lastR; rw [List.getLast?_eq_getElem?, h]
theorem lastR_eq (L : List Iss) : lastR L = ((L.map (·.rev)).getLast?).getD 0 := by
  unfold lastR
  rw [List.getLast?_map]
  cases L.getLast? <;> rfl
theorem mark_revs (L : List Iss) (i : Nat) : (mark L i).map (·.rev) = L.map (·.rev) := by
  apply List.ext_getElem?
  intro j
  rw [List.getElem?_map, List.getElem?_map, mark_at]
  split
  · rw [Option.map_map]; rfl
  · rfl
theorem lastR_mark (L : List Iss) (i : Nat) : lastR (mark L i) = lastR L := by rw [lastR_eq, lastR_eq, mark_revs]
/-- Up to this revision nothing is open. -/
def closedR (L : List Iss) : Int := match L[leadN L]? with
  | some x => x.rev - 1
  | none => lastR L
theorem closedR_end {L : List Iss} (h : leadN L = L.length) : closedR L = lastR L := by unfold closedR; rw [h, List.getElem?_eq_none (Nat.le_refl _)]
theorem closedR_at {L : List Iss} {x : Iss} (h : L[leadN L]? = some x) : closedR L = x.rev - 1 := by unfold closedR; rw [h]
/-- What records come to, one by one. -/
def rstep (L : List Iss) (m : MsgD) : List Iss := if m.kind = 1 then (if idx L m.id = none ∧ lastR L < m.rev then L ++ [⟨m.rev, m.id, m.from_, false⟩] else L) else if m.kind = 2 then (match idx L m.id with
  | some i => mark L i
  | none => L) else L
def rep (ms : List MsgD) : List Iss := ms.foldl rstep []
theorem rep_snoc (ms : List MsgD) (m : MsgD) : rep (ms ++ [m]) = rstep (rep ms) m := by unfold rep; rw [List.foldl_append]; rfl
theorem rstep_new {L : List Iss} {m : MsgD} (h1 : m.kind = 1) (h2 : idx L m.id = none) (h3 : lastR L < m.rev) : rstep L m = L ++ [⟨m.rev, m.id, m.from_, false⟩] := by unfold rstep; rw [if_pos h1, if_pos ⟨h2, h3⟩]
theorem rstep_mark {L : List Iss} {m : MsgD} {i : Nat} (h1 : m.kind = 2) (h2 : idx L m.id = some i) : rstep L m = mark L i := by unfold rstep; rw [if_neg (by omega), if_pos h1, h2]
theorem rstep_same {L : List Iss} {m : MsgD} (h : ¬ (m.kind = 1 ∧ idx L m.id = none ∧ lastR L < m.rev)) (h2 : ¬ (m.kind = 2 ∧ idx L m.id ≠ none)) : rstep L m = L := by
  unfold rstep
  split
  · next h1 => rw [if_neg fun h3 => h ⟨h1, h3⟩]
  · split
    · next h1 =>
      cases hi : idx L m.id with
      | none => rfl
      | some i => exact absurd ⟨h1, by rw [hi]; simp⟩ h2
    · rfl
/-- Revisions that rise. -/
structure Rise (L : List Iss) : Prop where
  nd : (L.map (·.id)).Nodup
  rng : ∀ x ∈ L, InI x.id ∧ InI x.fr
  asc : (L.map (·.rev)).Pairwise (· < ·)
  pos : ∀ x ∈ L, 1 ≤ x.rev ∧ x.rev ≤ 9223372036854775807
theorem Rise.nil : Rise [] := ⟨by simp, by simp, by simp, by simp⟩
theorem lastR_mem {L : List Iss} (h : L ≠ []) : ∃ x ∈ L, lastR L = x.rev := by
  have h1 : L.length ≠ 0 := by intro h2; exact h (List.eq_nil_of_length_eq_zero h2)
  exact ⟨L[L.length - 1], List.getElem_mem _, lastR_at (List.getElem?_eq_getElem (by omega))⟩
theorem Rise.last_rng {L : List Iss} (h : Rise L) : 0 ≤ lastR L ∧ lastR L ≤ 9223372036854775807 := by
  by_cases h0 : L = []
  · rw [h0]; exact ⟨by decide, by decide⟩
  · obtain ⟨x, hx, e⟩ := lastR_mem h0
    have := h.pos x hx
    omega
theorem Rise.le_last {L : List Iss} (h : Rise L) {x : Iss} (hx : x ∈ L) : x.rev ≤ lastR L := by
  obtain ⟨i, hi, rfl⟩ := List.getElem_of_mem hx
  have hl : lastR L = L[L.length - 1].rev := lastR_at (List.getElem?_eq_getElem (by omega))
  rw [hl]
  rcases Nat.lt_or_ge i (L.length - 1) with h1 | h1
  · have := List.pairwise_iff_getElem.1 h.asc i (L.length - 1) (by simpa using hi) (by simp; omega) h1
    simp at this
    omega
  · have : i = L.length - 1 := by omega
    subst this
    exact Int.le_refl _
theorem Rise.push {L : List Iss} (h : Rise L) {r f i : Int} (hi : i ∉ L.map (·.id)) (hf : InI f) (hii : InI i) (hr : lastR L < r) (hr2 : r ≤ 9223372036854775807) : Rise (L ++ [⟨r, i, f, false⟩]) := by
  have h0 := h.last_rng
  refine ⟨?_, fun x hx => ?_, ?_, fun x hx => ?_⟩
  · rw [List.map_append]
    refine List.nodup_append.2 ⟨h.nd, by simp, ?_⟩
    intro a ha b hb e
    simp at hb
    rw [e, hb] at ha
    exact hi (by simpa using ha)
  · rcases List.mem_append.1 hx with h1 | h1
    · exact h.rng x h1
    · rw [List.mem_singleton] at h1
      rw [h1]
      exact ⟨hii, hf⟩
  · rw [List.map_append]
    refine List.pairwise_append.2 ⟨h.asc, by simp, ?_⟩
    intro a ha b hb
    obtain ⟨x, hx, rfl⟩ := List.mem_map.1 ha
    simp at hb
    rw [hb]
    have := h.le_last hx
    omega
  · rcases List.mem_append.1 hx with h1 | h1
    · exact h.pos x h1
    · rw [List.mem_singleton] at h1
      rw [h1]
      exact ⟨by show 1 ≤ r; omega, hr2⟩
theorem mark_get {L : List Iss} {i j : Nat} {x : Iss} (hx : (mark L i)[j]? = some x) : ∃ y : Iss, L[j]? = some y ∧ x.rev = y.rev ∧ x.id = y.id ∧ x.fr = y.fr := by
  rw [mark_at] at hx
  split at hx
  · obtain ⟨y, hy, rfl⟩ := Option.map_eq_some_iff.1 hx
    exact ⟨y, hy, rfl, rfl, rfl⟩
  · exact ⟨x, hx, rfl, rfl, rfl⟩
theorem Rise.mark {L : List Iss} (h : Rise L) (i : Nat) : Rise (mark L i) := by
  refine ⟨by rw [mark_ids]; exact h.nd, fun x hx => ?_, by rw [mark_revs]; exact h.asc, fun x hx => ?_⟩
  · obtain ⟨j, hj⟩ := List.getElem?_of_mem hx
    obtain ⟨y, hy, _, h2, h3⟩ := mark_get hj
    rw [h2, h3]
    exact h.rng y (List.mem_of_getElem? hy)
  · obtain ⟨j, hj⟩ := List.getElem?_of_mem hx
    obtain ⟨y, hy, h1, _, _⟩ := mark_get hj
    rw [h1]
    exact h.pos y (List.mem_of_getElem? hy)
theorem idx_none_iff {L : List Iss} {k : Int} : idx L k = none ↔ k ∉ L.map (·.id) := by
  constructor
  · intro h hm
    obtain ⟨i, _, h1, _⟩ := idx_some hm
    rw [h] at h1; cases h1
  · exact idx_none
theorem Rise.step {L : List Iss} (h : Rise L) {m : MsgD} (hm : m.in64) : Rise (rstep L m) := by
  have hid : InI m.id := hm.id
  have hfr : InI m.from_ := hm.from_
  have hrv : InI m.rev := hm.rev
  by_cases h1 : m.kind = 1 ∧ idx L m.id = none ∧ lastR L < m.rev
  · rw [rstep_new h1.1 h1.2.1 h1.2.2]
    exact h.push (idx_none_iff.1 h1.2.1) hfr hid h1.2.2 hrv.2
  · by_cases h2 : m.kind = 2 ∧ idx L m.id ≠ none
    · obtain ⟨i, hi⟩ := Option.ne_none_iff_exists'.1 h2.2
      rw [rstep_mark h2.1 hi]
      exact h.mark i
    · rw [rstep_same h1 h2]
      exact h
theorem Rise.rep {ms : List MsgD} (h : ∀ m ∈ ms, m.in64) : Rise (rep ms) := by
  suffices g : ∀ (ms : List MsgD) (L : List Iss), Rise L → (∀ m ∈ ms, m.in64) → Rise (ms.foldl rstep L) from g ms [] Rise.nil h
  intro ms
  induction ms with
  | nil => intro L hL _; exact hL
  | cons m ms ih => intro L hL hm; exact ih _ (hL.step (hm m (by simp))) fun x hx => hm x (by simp [hx])
theorem rstep_len (L : List Iss) (m : MsgD) : L.length ≤ (rstep L m).length ∧ (rstep L m).length ≤ L.length + 1 := by
  by_cases h1 : m.kind = 1 ∧ idx L m.id = none ∧ lastR L < m.rev
  · rw [rstep_new h1.1 h1.2.1 h1.2.2]; simp
  · by_cases h2 : m.kind = 2 ∧ idx L m.id ≠ none
    · obtain ⟨i, hi⟩ := Option.ne_none_iff_exists'.1 h2.2
      rw [rstep_mark h2.1 hi, mark_len]; omega
    · rw [rstep_same h1 h2]; omega
theorem rep_len (ms : List MsgD) : (rep ms).length ≤ ms.length := by
  suffices g : ∀ (ms : List MsgD) (L : List Iss), (ms.foldl rstep L).length ≤ L.length + ms.length by simpa [Go.Proofs.YteodldmbnghfcaaGreat.rep] using g ms []
  intro ms
  induction ms with
  | nil => intro L; simp
  | cons m ms ih =>
    intro L
    have h1 := ih (rstep L m)
    have h2 := (rstep_len L m).2
    simp only [List.foldl_cons, List.length_cons]
    omega
/-- The open ones, as messages. -/
def pend (L : List Iss) : List MsgD := (L.filter fun x => !x.done).map fun x => oD 1 x.fr x.id x.rev
theorem pend_nil : pend [] = [] := rfl
theorem pend_snoc (L : List Iss) (x : Iss) : pend (L ++ [x]) = pend L ++ if x.done then [] else [oD 1 x.fr x.id x.rev] := by
  unfold pend
  rw [List.filter_append, List.map_append]
  cases h : x.done <;> simp [h]
theorem pend_lead : ∀ L : List Iss, pend (L.drop (leadN L)) = pend L
  | [] => rfl
  | x :: L => by
    unfold leadN
    cases h : x.done with
    | false => rfl
    | true =>
      simp only [if_true, List.drop_succ_cons]
      rw [pend_lead L]
      simp [pend, h]
theorem pend_le (L : List Iss) : (pend L).length ≤ L.length := by unfold pend; rw [List.length_map]; exact List.length_filter_le _ _
end Go.Proofs.YteodldmbnghfcaaGreat

namespace Go.Proofs.YteodldmbnghfcaaGreat
open Go.RowKit
open Go.Maps (Keyed)

/-- Only these blocks, and new memory, are other than they were. -/
structure Chg (w w' : World) (P : Nat → Prop) : Prop where
  os : w'.os = w.os
  tape : w'.tape = w.tape
  output : w'.output = w.output
  size : w.heap.size ≤ w'.heap.size
  block : ∀ k, k < w.heap.size → ¬ P k → w'.heap[k]? = w.heap[k]?
theorem Chg.refl (w : World) (P : Nat → Prop) : Chg w w P := ⟨rfl, rfl, rfl, Nat.le_refl _, fun _ _ _ => rfl⟩
theorem Chg.set {w w' : World} {P : Nat → Prop} (h : Chg w w' P) {b : Nat} (hb : P b) (i : Nat) (u : Value) : Chg w (w'.setCell ⟨b, i, none⟩ u) P :=
  ⟨h.os, h.tape, h.output, by simpa [World.setCell] using h.size, fun k hk hn => (Below.heap_setCell w' ⟨b, i, none⟩ u k (by rintro rfl; exact hn hb)).trans (h.block k hk hn)⟩
theorem Chg.drew {w w' : World} {P : Nat → Prop} (h : Chg w w' P) : Chg w w'.drew P := ⟨h.os, h.tape, h.output, h.size, h.block⟩
theorem Chg.drewN {w w' : World} {P : Nat → Prop} (h : Chg w w' P) (n : Nat) : Chg w (w'.drewN n) P := ⟨h.os, h.tape, h.output, h.size, h.block⟩
theorem Chg.trans {a b c : World} {P : Nat → Prop} (h : Chg a b P) (k : Chg b c P) : Chg a c P :=
  ⟨k.os.trans h.os, k.tape.trans h.tape, k.output.trans h.output, Nat.le_trans h.size k.size, fun i hi hn => (k.block i (Nat.lt_of_lt_of_le hi h.size) hn).trans (h.block i hi hn)⟩
theorem Chg.mono {w w' : World} {P Q : Nat → Prop} (h : Chg w w' P) (hpq : ∀ k, k < w.heap.size → P k → Q k) : Chg w w' Q := ⟨h.os, h.tape, h.output, h.size, fun k hk hn => h.block k hk (fun hp => hn (hpq k hk hp))⟩
theorem Chg.ofBelow {w w' : World} (P : Nat → Prop) (h : Below w.heap.size w w') : Chg w w' P := ⟨h.os, h.tape, h.output, h.size, fun k hk _ => h.block k hk⟩
theorem Chg.below {w w' : World} {P : Nat → Prop} {B : Nat} (h : Chg w w' P) (hP : ∀ k, P k → B ≤ k) (hB : B ≤ w.heap.size) : Below B w w' := ⟨h.os, h.tape, h.output, h.size, fun k hk => h.block k (by omega) (fun hp => by have := hP k hp; omega)⟩
theorem Chg.toGrown {w w1 w2 : World} {P : Nat → Prop} {b : Nat} (h : Chg w w1 P) (hg : w1.grownBy w2 (some b)) (hb : P b) : Chg w w2 P :=
  ⟨hg.os.trans h.os, hg.tape.trans h.tape, hg.output.trans h.output, Nat.le_trans h.size hg.size, fun k hk hn => (hg.block k (Nat.lt_of_lt_of_le hk h.size) (by intro e; injection e with e; subst e; exact hn hb)).trans (h.block k hk hn)⟩
theorem Chg.grow {w w1 w2 : World} {P : Nat → Prop} {ob : Option Nat} (h : Chg w w1 P) (hg : w1.grownBy w2 ob) (hb : ∀ b, ob = some b → P b ∨ w.heap.size ≤ b) : Chg w w2 P :=
  ⟨hg.os.trans h.os, hg.tape.trans h.tape, hg.output.trans h.output, Nat.le_trans h.size hg.size, fun k hk hn => (hg.block k (Nat.lt_of_lt_of_le hk h.size) (by
    intro e
    rcases hb k e.symm with h1 | h1
    · exact hn h1
    · omega)).trans (h.block k hk hn)⟩
theorem Chg.up {w a b : World} {P : Nat → Prop} (h : Chg w a P) (hb : Below w.heap.size a b) : Chg w b P :=
  ⟨hb.os.trans h.os, hb.tape.trans h.tape, hb.output.trans h.output, Nat.le_trans h.size hb.size, fun k hk hn => (hb.block k hk).trans (h.block k hk hn)⟩
theorem whole_ne {w : World} {g k : Nat} {t u : TypeId} {cs ds : Array Value} (h : Whole w g t cs) (h2 : Whole w k u ds) (hn : t ≠ u) : g ≠ k := by
  rintro rfl
  unfold Whole at h h2
  rw [h] at h2
  injection h2 with h2
  injection h2 with _ h2
  exact hn h2
theorem owned_block {w : World} {base n s k : Nat} {v : Value} {e : TypeId} {l : List Value} (h : w.ownsRow base e s v n l) (hk : v.ownBlock = some k) : base ≤ k ∧ ∃ cur, Whole w k e cur := by
  rcases h.2 with ⟨rfl, _⟩ | ⟨g, cap, cur, rfl, hb, hh, _⟩
  · cases hk
  · have : g = k := by simpa [Value.ownBlock] using hk
    subst this
    exact ⟨hb, cur, hh⟩
theorem owns_keepk {w w' : World} {base n k : Nat} {e : TypeId} {v : Value} {l : List Value} (h : w.ownsRow base e k v n l) (hb : ∀ q, v.ownBlock = some q → w'.heap[q]? = w.heap[q]?) : w'.ownsRow base e k v n l := by
  refine ⟨h.1, ?_⟩
  rcases h.2 with h2 | ⟨g, cap, cur, rfl, h3, h4, r⟩
  · exact .inl h2
  · exact .inr ⟨g, cap, cur, rfl, h3, (hb g rfl).trans h4, r⟩
theorem Tryz.keyL : Keyed Tryz.prog 2 := Go.Maps.int_keyed Tryz.underlying2
theorem key_long (k : Int) (h : InI k) : keyOf Tryz.prog 2 (Value.int .i64 k) = some (.int .i64 k) := Go.Maps.keyOf_int_mk Tryz.underlying2 (by unfold InI at h; simp [Lit.wf, IntKind.min, IntKind.max, IntKind.signed, IntKind.bits]; omega)
theorem bell_up {w W W' : World} (hb : Below w.heap.size w W) (h : Below W.heap.size W W') : Below w.heap.size w W' := hb.trans (h.mono hb.size)
/-- An oracle lies in block go, its places in block mb; it writes to the log in block gl. -/
structure OrAt (w : World) (B go gl mb : Nat) (row : Value) (L : List Iss) (o : Nat) : Prop where
  own : Whole w go 81 #[.pointer (some ⟨gl, 0, none⟩), row, .map (some mb), .int .i64 (o : Int)]
  row : w.ownsRow B 83 4 row L.length (iscs L)
  map : ∃ mm, MapAt w Tryz.prog 2 mb mm L.length ∧ ∀ k, InI k → mm (.int .i64 k) = (idx L k).map fun i => .int .i64 (i : Int)
  rise : Rise L
  len : L.length ≤ 1048576
  geo : B ≤ go
  gem : B ≤ mb
def OB (go mb : Nat) (row : Value) (k : Nat) : Prop := k = go ∨ k = mb ∨ row.ownBlock = some k
section
variable {w w' : World} {B go gl mb o : Nat} {row : Value} {L : List Iss}
theorem OrAt.ge (h : OrAt w B go gl mb row L o) {k : Nat} (hk : OB go mb row k) : B ≤ k := by
  rcases hk with h1 | h1 | h1
  · rw [h1]; exact h.geo
  · rw [h1]; exact h.gem
  · exact (owned_block h.row h1).1
theorem OrAt.lt (h : OrAt w B go gl mb row L o) {k : Nat} (hk : OB go mb row k) : k < w.heap.size := by
  rcases hk with h1 | h1 | h1
  · rw [h1]; exact h.own.lt
  · obtain ⟨mm, hm, _⟩ := h.map
    rw [h1]; exact hm.lt
  · obtain ⟨_, cur, hW⟩ := owned_block h.row h1
    exact hW.lt
theorem OrAt.other (h : OrAt w B go gl mb row L o) {k : Nat} {T : TypeId} {cs : Array Value} (hk : Whole w k T cs) (h1 : T ≠ 81) (h2 : T ≠ 83) : ¬ OB go mb row k := by
  rintro (hb | hb | hb)
  · exact whole_ne hk h.own h1 hb
  · obtain ⟨mm, hm, _⟩ := h.map
    exact hm.ne hk hb
  · obtain ⟨_, cur, hW⟩ := owned_block h.row hb
    exact whole_ne hk hW h2 rfl
theorem OrAt.kept (h : OrAt w B go gl mb row L o) (hb : ∀ k, OB go mb row k → w'.heap[k]? = w.heap[k]?) : OrAt w' B go gl mb row L o := by
  obtain ⟨mm, hm, hf⟩ := h.map
  exact ⟨h.own.kept (hb go (.inl rfl)), owns_keepk h.row (fun k hk => hb k (.inr (.inr hk))), ⟨mm, hm.kept (hb mb (.inr (.inl rfl))), hf⟩, h.rise, h.len, h.geo, h.gem⟩
theorem OrAt.below (h : OrAt w B go gl mb row L o) (hb : Below w.heap.size w w') : OrAt w' B go gl mb row L o := h.kept fun _ hk => hb.block _ (h.lt hk)
theorem OrAt.cells (h : OrAt w B go gl mb row L o) : w.cell? ⟨go, 0, none⟩ = some (.pointer (some ⟨gl, 0, none⟩)) ∧ w.cell? ⟨go, 1, none⟩ = some row ∧ w.cell? ⟨go, 2, none⟩ = some (.map (some mb)) ∧ w.cell? ⟨go, 3, none⟩ = some (.int .i64 (o : Int)) ∧ w.frozen? ⟨go, 1, none⟩ = false ∧ w.frozen? ⟨go, 3, none⟩ = false := by
  refine ⟨?_, ?_, ?_, ?_, h.own.free 1, h.own.free 3⟩ <;> rw [h.own.cell] <;> rfl
/-- The i-th revision's cells. -/
theorem OrAt.at_ (h : OrAt w B go gl mb row L o) {i : Nat} {x : Iss} (hx : L[i]? = some x) : ∃ q c, row = .slice (some ⟨q, 0, none⟩) L.length c ∧ L.length ≤ c ∧ q < w.heap.size ∧ w.cell? ⟨q, i * 4, none⟩ = some (.int .i64 x.rev) ∧ w.cell? ⟨q, i * 4 + 1, none⟩ = some (.int .i64 x.id) ∧ w.cell? ⟨q, i * 4 + 2, none⟩ = some (.int .i64 x.fr) ∧ w.cell? ⟨q, i * 4 + 3, none⟩ = some (.bool x.done) ∧ w.frozen? ⟨q, i * 4 + 3, none⟩ = false := by
  have hl := (List.getElem?_eq_some_iff.1 hx).1
  obtain ⟨a, c, hv, hL⟩ := Lies.owned h.row
  obtain ⟨b, off, rfl, hb, _⟩ := hL.addr (by omega)
  obtain ⟨f0, f1, f2, f3⟩ := iscs_at hx
  rcases h.row.2 with ⟨hv2, h0⟩ | ⟨g, cap, cur, hv2, _, hh, hnc, _⟩
  · omega
  · rw [hv] at hv2
    injection hv2 with e1 e2 e3
    injection e1 with e1
    injection e1 with e1 e4
    subst e1 e4 e3
    have c0 := hL.cell f0
    have c1 := hL.cell f1
    have c2 := hL.cell f2
    have c3 := hL.cell f3
    rw [Nat.zero_add] at c0 c1 c2 c3
    have hW : Whole w b 83 cur := hh
    exact ⟨b, c, hv, hnc, hb, c0, c1, c2, c3, hW.free _⟩
theorem OrAt.slice (h : OrAt w B go gl mb row L o) : ∃ a c, row = .slice a L.length c ∧ L.length ≤ c := by
  obtain ⟨a, c, hv, hL⟩ := Lies.owned h.row
  exact ⟨a, c, hv, hL.room⟩
set_option maxRecDepth 100000 in
set_option maxHeartbeats 2000000 in
theorem last_any (w : World) (h : OrAt w B go gl mb row L o) :
    Calls Tryz.prog 19 #[.pointer (some ⟨go, 0, none⟩)] w fun e w' => e = .returned (.int .i64 (lastR L)) ∧ ∃ n, w' = w.drewN n := by
  obtain ⟨_, c1, _, _, _, _⟩ := h.cells
  have hlen := h.len
  rcases Nat.eq_zero_or_pos L.length with h0 | h0
  · have hl : lastR L = 0 := by rw [List.eq_nil_of_length_eq_zero h0]; rfl
    obtain ⟨a, c, rfl, _⟩ := h.slice
    rw [h0] at c1
    rw [hl]
    clear h hlen h0 hl
    go_enter Tryz.func19, Tryz.ntmps19
    go_wp2
    go_ret
    exact ⟨rfl, 0, rfl⟩
  · obtain ⟨x, hx⟩ : ∃ x, L[L.length - 1]? = some x := ⟨_, List.getElem?_eq_getElem (by omega)⟩
    have hrev := lastR_at hx
    obtain ⟨q, c, rfl, _, hq, d0, _, _, _, _⟩ := h.at_ hx
    obtain ⟨m, hm⟩ : ∃ m, L.length = m + 1 := ⟨L.length - 1, by omega⟩
    rw [hm] at c1 d0 hlen
    rw [show m + 1 - 1 = m by omega, ← hrev] at d0
    have hz : ¬ ((m + 1 : Nat) : Int) = 0 := by omega
    have hsub : IntKind.i64.wrap (((m + 1 : Nat) : Int) - 1) = (m : Int) := by rw [IntWalk.i64_in _ (by omega)]; omega
    have h0m : (0 : Int) ≤ (m : Int) := by omega
    generalize lastR L = r at *
    clear h hx hrev hm h0
    go_enter Tryz.func19, Tryz.ntmps19
    go_wp2_with fail
    go_quiet (fail)
    go_wp2
    go_ret
    exact ⟨rfl, _, rfl⟩
set_option maxRecDepth 100000 in
set_option maxHeartbeats 2000000 in
theorem closed_any (w : World) (h : OrAt w B go gl mb row L (leadN L)) :
    Calls Tryz.prog 21 #[.pointer (some ⟨go, 0, none⟩)] w fun e w' => e = .returned (.int .i64 (closedR L)) ∧ ∃ n, w' = w.drewN n := by
  obtain ⟨_, c1, _, c3, _, _⟩ := h.cells
  have hlen := h.len
  have hle := leadN_le L
  by_cases hf : leadN L = L.length
  · have HL := Lib.hid (fun n => last_any (w.drewN n) (h.below (below_drewN w n)))
    rw [closedR_end hf]
    obtain ⟨a, c, rfl, _⟩ := h.slice
    rw [hf] at c3
    generalize lastR L = r at *
    clear h hf hle
    go_enter Tryz.func21, Tryz.ntmps21
    go_wp2_with fail
    go_quiet (fail)
    go_wp2_with fail
    refine (HL.out _).mono ?_
    rintro e w2 ⟨rfl, m, rfl⟩
    go_wp2
    go_ret
    exact ⟨rfl, _, rfl⟩
  · obtain ⟨x, hx⟩ : ∃ x, L[leadN L]? = some x := ⟨_, List.getElem?_eq_getElem (by omega)⟩
    have hpos := h.rise.pos x (List.mem_of_getElem? hx)
    rw [closedR_at hx]
    obtain ⟨q, c, rfl, _, hq, d0, _, _, _, _⟩ := h.at_ hx
    have hne : ¬ (leadN L : Int) = (L.length : Int) := by omega
    have hlt : leadN L < L.length := by omega
    have hsub : IntKind.i64.wrap (x.rev - 1) = x.rev - 1 := IntWalk.i64_in _ (by omega)
    obtain ⟨p1, p2⟩ := hpos
    clear h hx hf
    generalize x.rev = r at *
    generalize leadN L = o at *
    generalize L.length = n at *
    go_enter Tryz.func21, Tryz.ntmps21
    go_wp2_with fail
    go_quiet (fail)
    go_wp2_with fail
    go_quiet (fail)
    go_wp2
    go_ret
    exact ⟨rfl, _, World.drewN_drewN _ _ _⟩
/-- Where the open ones begin is looked for. -/
theorem OrAt.open_ (h : OrAt w B go gl mb row L o) (o' : Nat) : OrAt (w.setCell ⟨go, 3, none⟩ (.int .i64 (o' : Int))) B go gl mb row L o' := by
  obtain ⟨mm, hm, hf⟩ := h.map
  refine ⟨by simpa using h.own.store 3 (.int .i64 (o' : Int)), owns_keepk h.row (fun k hk => Below.heap_setCell _ ⟨go, 3, none⟩ _ k ?_), ⟨mm, hm.kept (Below.heap_setCell _ ⟨go, 3, none⟩ _ mb (hm.ne h.own).symm), hf⟩, h.rise, h.len, h.geo, h.gem⟩
  rintro rfl
  obtain ⟨_, cur, hW⟩ := owned_block h.row hk
  exact whole_ne hW h.own (by decide) rfl
set_option maxRecDepth 100000 in
set_option maxHeartbeats 4000000 in
theorem close_any (w : World) (h : OrAt w B go gl mb row L o) (ho : o ≤ leadN L) :
    Calls Tryz.prog 62 #[.pointer (some ⟨go, 0, none⟩)] w fun e w' => e = .returned (.tuple #[]) ∧ OrAt w' B go gl mb row L (leadN L) ∧ Chg w w' (OB go mb row) := by
  have hle := leadN_le L
  have HH := Lib.hid h
  have hlen := h.len
  clear h
  go_enter Tryz.func62, Tryz.ntmps62
  go_wp2_with fail
  go_loopw [] (fun wr => ∃ o' : Nat, o ≤ o' ∧ o' ≤ leadN L ∧ OrAt wr B go gl mb row L o' ∧ Chg w wr (OB go mb row)) (fun wr => L.length - (match wr.cell? ⟨go, 3, none⟩ with | some (.int _ x) => x.toNat | _ => 0))
  case atStart => exact ⟨o, Nat.le_refl _, ho, HH.out, Chg.refl _ _⟩
  case round =>
    obtain ⟨o', h1, h2, hO, hC⟩ := hrel
    obtain ⟨_, c1, _, c3, _, z3⟩ := hO.cells
    have HO := Lib.hid (fun n => hO.below (below_drewN wr n))
    have HC := Lib.hid (fun n => hC.drewN n)
    by_cases hol : o' < L.length
    · obtain ⟨x, hx⟩ : ∃ x, L[o']? = some x := ⟨_, List.getElem?_eq_getElem hol⟩
      obtain ⟨q, c, rfl, _, hq, _, _, _, d3, _⟩ := hO.at_ hx
      by_cases hlt : o' < leadN L
      · rw [leadN_done hlt hx] at d3
        have hadd : IntKind.i64.wrap ((o' : Int) + 1) = (o' : Int) + 1 := IntWalk.i64_in _ (by omega)
        clear hx hO hC
        go_wp2_with fail
        go_quiet (fail)
        go_wp2_with fail
        go_roundw
        case rel =>
          refine ⟨o' + 1, by omega, by omega, ?_, ?_⟩
          · exact (HO.out _).open_ (o' + 1)
          · exact (HC.out _).set (.inl rfl) 3 _
        case measure =>
          have c4 := fun n => ((HO.out n).open_ (o' + 1)).cells.2.2.2.1
          simp only [Int.natCast_add, Int.natCast_one] at c4
          rw [c3, c4]
          show L.length - ((o' : Int) + 1).toNat < L.length - (o' : Int).toNat
          omega
      · have HE := Lib.hid (show o' = leadN L by omega)
        rw [HE.out] at hx
        rw [leadN_stop hx] at d3
        clear hx hO hC
        go_wp2_with fail
        go_quiet (fail)
        go_wp2_with fail
        go_end0
        exact ⟨rfl, HE.out ▸ HO.out _, HC.out _⟩
    · have HE := Lib.hid (show o' = leadN L by omega)
      obtain ⟨a, c, rfl, _⟩ := hO.slice
      have hnl : ¬ (o' : Int) < (L.length : Int) := by omega
      clear hO hC
      go_wp2_with fail
      go_quiet (fail)
      go_wp2_with fail
      go_end0
      exact ⟨rfl, HE.out ▸ HO.out _, HC.out _⟩
end
end Go.Proofs.YteodldmbnghfcaaGreat

namespace Go.Proofs.YteodldmbnghfcaaGreat
open Go.RowKit
open Go.Maps (Keyed)

theorem step_append_any {P : Program} (w : World) {ops : Array Oper} {o : Oper} {a : Act} {K : Act → World → Prop} {Q : Exit → Act → World → Prop} {E : Prop} (hgd : o.guard = none) (s x : Operand) (t : TypeId)
    (ho : o.op = .call { callee := .builtin .append, args := #[s, x], argTypes := #[t, t] })
    (base : Nat) (e : TypeId) (i : TypeInfo) (z : Value) (size bytes : Nat) (ht : P.underlying t = some (.slice e)) (hi : P.info? e = some i) (hz : i.zero = some z)
    (hsize : i.size = size) (hby : i.bytes = bytes) (hzs : z.cells.size = size) (hsz : 0 < size)
    (v : Value) (n : Nat) (xs : List Value) (hs : a.eval s = v) (hown : w.ownsRow base e size v n xs)
    (ao : Option Addr) (m c : Nat) (news : List Value) (hx : a.eval x = .slice ao m c) (hl : news.length = m * size) (hnone : ao = none → m = 0 ∧ c = 0)
    (hnews : ∀ ad, ao = some ad → ∀ j u, news[j]? = some u → w.cell? (ad.add j) = some u) (h1 : ∀ u ∈ news, u.oneCell' = true)
    (h63 : n + m ≤ maxLen) (hbytes : (n + m) * bytes ≤ 140737488355328) (hbase : base ≤ w.heap.size)
    (h : ∀ v' w', w'.ownsRow base e size v' (n + m) (xs ++ news) → w.grownBy w' v.ownBlock → (v'.ownBlock = v.ownBlock ∨ v'.ownBlock = some w.heap.size) → K (a.put o.dst v') w') :
    if Region.wanted o (yielded ops a.tmps) = true then Oper.wp P o a w K Q else E := by
  have hw : Region.wanted o (yielded ops a.tmps) = true := by simp [Region.wanted, hgd]
  rw [if_pos hw]
  cases ao with
  | some ad =>
    obtain ⟨v', w', hr, h2, h3, _, h4⟩ := run_append_own_at (P := P) w base t o.type e i z size bytes ht hi hz hsize hby hzs hsz v n xs hown ad m c news hl (hnews ad rfl) h1 h63 hbytes hbase
    unfold Oper.wp execOp
    simp only [ho, resolve, invoke, builtin, Sem.run_bind, Sem.run_pure, Result.andThen_ok, List.map_toArray, List.map_cons, List.map_nil, hs, hx, hr]
    exact h v' w' h2 h3 h4
  | none =>
    obtain ⟨rfl, rfl⟩ := hnone rfl
    have hn : news = [] := List.eq_nil_of_length_eq_zero (by simpa using hl)
    subst hn
    have hrun := run_append_owned_none (P := P) (w := w) base t o.type e i size ht hi v n xs hown
    unfold Oper.wp
    simp [execOp, ho, resolve, invoke, builtin, hs, hx, hrun, Result.andThen]
    exact h v w (by simpa using hown) (World.grownBy.refl _ _) (.inl rfl)
theorem Tryz.zeroPl (w : World) : (zeroValue 3).run Tryz.prog w = .ok (.int .i64 0) w := by kernel_rfl
theorem Tryz.info_iss : (Tryz.prog.info? 83).map (fun i => (i.zero, i.size, i.bytes)) = some (some (.agg #[.int .i64 0, .int .i64 0, .int .i64 0, .bool false]), 4, 32) := by kernel_rfl
theorem isc_one (x : Iss) : ∀ u ∈ isc x, u.oneCell' = true := by
  intro u hu
  simp only [isc, List.mem_cons, List.mem_nil_iff, or_false] at hu
  rcases hu with rfl | rfl | rfl | rfl <;> rfl
section
variable {w w' : World} {B go gl mb o : Nat} {row : Value} {L : List Iss}
theorem OrAt.find (h : OrAt w B go gl mb row L o) {k : Int} (hk : InI k) : (Instr.lookup 79 (.map (some mb)) (.int .i64 k) true).run Tryz.prog w = .ok (.tuple #[.int .i64 (((idx L k).getD 0 : Nat) : Int), .bool (idx L k).isSome]) w := by
  obtain ⟨mm, hm, hf⟩ := h.map
  have := hm.look Tryz.keyL Tryz.underlying79 (Tryz.zeroPl w) true (key_long k hk)
  rw [hf k hk] at this
  cases hi : idx L k <;> rw [hi] at this <;> simpa using this
/-- What a message's box holds that take reads. -/
structure MBox (w : World) (b : Nat) (kd fr id rv : Int) : Prop where
  k : w.cell? ⟨b, 0, none⟩ = some (.int .i64 kd)
  f : w.cell? ⟨b, 1, none⟩ = some (.int .i64 fr)
  i : w.cell? ⟨b, 3, none⟩ = some (.int .i64 id)
  r : w.cell? ⟨b, 4, none⟩ = some (.int .i64 rv)
  lt : b < w.heap.size
theorem MBox.below {b : Nat} {kd fr id rv : Int} (h : MBox w b kd fr id rv) (hb : Below w.heap.size w w') : MBox w' b kd fr id rv :=
  ⟨(hb.cell (p := ⟨b, 0, none⟩) h.lt).trans h.k, (hb.cell (p := ⟨b, 1, none⟩) h.lt).trans h.f, (hb.cell (p := ⟨b, 3, none⟩) h.lt).trans h.i, (hb.cell (p := ⟨b, 4, none⟩) h.lt).trans h.r, Nat.lt_of_lt_of_le h.lt hb.size⟩
/-- What comes of a record that is taken. -/
def TakeR (w : World) (B go gl mb : Nat) (row : Value) (L : List Iss) (m : MsgD) (e : Ending) (w' : World) : Prop :=
  e = .returned (.tuple #[]) ∧ ∃ row', OrAt w' B go gl mb row' (rstep L m) (leadN (rstep L m)) ∧ Chg w w' (OB go mb row) ∧ (row'.ownBlock = row.ownBlock ∨ ∃ q, row'.ownBlock = some q ∧ w.heap.size ≤ q)
set_option maxRecDepth 100000 in
set_option maxHeartbeats 8000000 in
theorem take_same (w : World) (V : Value) (m : MsgD) (hm : MsgIn w V m) (h : OrAt w B go gl mb row L (leadN L)) (h1 : ¬ (m.kind = 1 ∧ idx L m.id = none ∧ lastR L < m.rev)) (h2 : ¬ (m.kind = 2 ∧ idx L m.id ≠ none)) :
    Calls Tryz.prog 47 #[.pointer (some ⟨go, 0, none⟩), V] w (TakeR w B go gl mb row L m) := by
  obtain ⟨na, ma, pa, ra, nn, nc, mn, mc, pn, pc, rn, rc, hm⟩ := hm
  have hv := hm.val
  subst hv
  have hid : InI m.id := hm.id
  obtain ⟨W0, hW0, hw0, hb0⟩ := alloc_box w #[.int .i64 m.kind, .int .i64 m.from_, .int .i64 m.«to», .int .i64 m.id, .int .i64 m.rev, .int .i64 m.epoch, .int .i64 m.slot, .bool m.flag, .slice na nn nc, .slice ma mn mc, .slice pa pn pc, .slice ra rn rc]
  have hO := h.below hb0
  have hrs := rstep_same h1 h2
  have HEND := Lib.hid (fun W (hW : Below W0.heap.size W0 W) => (show TakeR w B go gl mb row L m (.returned (.tuple #[])) W from ⟨rfl, row, by rw [hrs]; exact hO.below hW, Chg.ofBelow _ (hb0.trans (hW.mono hb0.size)), .inl rfl⟩))
  obtain ⟨k0, k1, k3, k4, klt⟩ : MBox W0 w.heap.size m.kind m.from_ m.id m.rev := ⟨hw0.cell 0, hw0.cell 1, hw0.cell 3, hw0.cell 4, hw0.lt⟩
  have hlk := fun n => (hO.below (below_drewN W0 n)).find hid
  have HLA := Lib.hid (fun W (hb : Below W0.heap.size W0 W) => last_any W (hO.below hb))
  obtain ⟨_, _, c2, _, _, _⟩ := hO.cells
  have HB0 := Lib.hid hb0
  have HMB := Lib.hid (show MBox W0 w.heap.size m.kind m.from_ m.id m.rev from ⟨k0, k1, k3, k4, klt⟩)
  clear hm hb0 hw0 h hO hrs klt
  generalize m.kind = kd at *
  generalize m.rev = rv at *
  rcases Option.eq_none_or_eq_some (idx L m.id) with hi | ⟨i, hi⟩
  · rw [hi] at hlk h1 h2
    simp only [Option.getD_none, Option.isSome_none] at hlk
    clear hi
    by_cases hk1 : kd = 1
    · subst hk1
      have hle : decide (lastR L < rv) = false := by simpa using h1
      have hle2 : ¬ lastR L < rv := by simpa using h1
      generalize lastR L = la at *
      clear h1 h2
      go_enter Tryz.func47, Tryz.ntmps47
      go_upto_region 1 with fail
      rw [← hW0]
      clear hW0
      go_wp2_with fail
      go_quiet (fail)
      go_wp2_with fail
      obtain ⟨W1, hW1, hb1⟩ : ∃ W1, W1 = W0.drewN nq ∧ Below W0.heap.size W0 W1 := ⟨_, rfl, below_drewN _ _⟩
      rw [← hW1]
      obtain ⟨k0, k1, k3, k4, klt⟩ := HMB.out.below hb1
      have HB1 := Lib.hid hb1
      clear hW1 hb1
      go_quiet ((go_at_call 19; exact Calls.quiet_of (HLA.out _ (bell_up HB1.out (below_drewN _ _)))))
      go_wp2_with fail
      all_goals
        go_end0
        exact HEND.out _ (bell_up HB1.out (below_drewN _ _))
    · have e1 : (kd == 1) = false := by simpa using hk1
      have e2 : decide (kd = 1) = false := by simpa using hk1
      clear h1 h2
      go_enter Tryz.func47, Tryz.ntmps47
      go_upto_region 1 with fail
      rw [← hW0]
      clear hW0
      go_wp2_with fail
      go_quiet (fail)
      go_wp2_with fail
      go_quiet (fail)
      go_wp2_with fail
      all_goals
        go_end0
        exact HEND.out _ (by first | exact below_drewN _ _ | exact (below_drewN _ _).trans (below_drewN _ _))
  · rw [hi] at hlk h1 h2
    simp only [Option.getD_some, Option.isSome_some] at hlk
    clear hi
    have hk2 : ¬ kd = 2 := fun e => h2 ⟨e, by simp⟩
    have e3 : (kd == 2) = false := by simpa using hk2
    have e4 : decide (kd = 2) = false := by simpa using hk2
    by_cases hk1 : kd = 1
    · subst hk1
      clear h1 h2
      go_enter Tryz.func47, Tryz.ntmps47
      go_upto_region 1 with fail
      rw [← hW0]
      clear hW0
      go_wp2_with fail
      go_quiet (fail)
      go_wp2_with fail
      go_quiet (fail)
      go_wp2_with fail
      all_goals
        go_end0
        exact HEND.out _ (by first | exact below_drewN _ _ | exact (below_drewN _ _).trans (below_drewN _ _))
    · have e1 : (kd == 1) = false := by simpa using hk1
      have e2 : decide (kd = 1) = false := by simpa using hk1
      clear h1 h2
      go_enter Tryz.func47, Tryz.ntmps47
      go_upto_region 1 with fail
      rw [← hW0]
      clear hW0
      go_wp2_with fail
      go_quiet (fail)
      go_wp2_with fail
      go_quiet (fail)
      go_wp2_with fail
      all_goals
        go_end0
        exact HEND.out _ (by first | exact below_drewN _ _ | exact (below_drewN _ _).trans (below_drewN _ _))
theorem iscs_mark : ∀ (L : List Iss) (i : Nat), iscs (mark L i) = (iscs L).set (i * 4 + 3) (.bool true) ∨ L.length ≤ i
  | [], i => .inr (Nat.zero_le _)
  | x :: L, 0 => .inl rfl
  | x :: L, i + 1 => by
    rcases iscs_mark L i with h | h
    · refine .inl ?_
      have e1 : iscs (mark (x :: L) (i + 1)) = isc x ++ iscs (mark L i) := rfl
      have e2 : iscs (x :: L) = isc x ++ iscs L := rfl
      rw [e1, e2, h, List.set_append_right _ _ (by rw [isc_len]; omega), isc_len]
      congr 2
      omega
    · exact .inr (by simpa using h)
theorem OrAt.marked (h : OrAt w B go gl mb row L o) {i : Nat} (hi : i < L.length) {q c : Nat} (hr : row = .slice (some ⟨q, 0, none⟩) L.length c) : OrAt (w.setCell ⟨q, i * 4 + 3, none⟩ (.bool true)) B go gl mb row (mark L i) o ∧ OB go mb row q := by
  have hq : OB go mb row q := .inr (.inr (by rw [hr]; rfl))
  obtain ⟨_, cur, hW⟩ := owned_block h.row (show row.ownBlock = some q by rw [hr]; rfl)
  have hgo : q ≠ go := whole_ne hW h.own (by decide)
  obtain ⟨mm, hm, hf⟩ := h.map
  have hmb : q ≠ mb := hm.ne hW
  have hrow := h.row
  rw [hr] at hrow
  have hst := (hrow.stored (i * 4 + 3) (.bool true)).1
  rcases iscs_mark L i with he | he
  · refine ⟨⟨h.own.kept (Below.heap_setCell _ ⟨q, _, none⟩ _ go hgo.symm), ?_, ⟨mm, by rw [mark_len]; exact hm.kept (Below.heap_setCell _ ⟨q, _, none⟩ _ mb hmb.symm), fun k hk => by rw [idx_mark]; exact hf k hk⟩, h.rise.mark i, by rw [mark_len]; exact h.len, h.geo, h.gem⟩, hq⟩
    rw [he, mark_len, hr]
    exact hst
  · omega
set_option maxRecDepth 100000 in
set_option maxHeartbeats 8000000 in
theorem take_mark (w : World) (V : Value) (m : MsgD) (i : Nat) (hm : MsgIn w V m) (h : OrAt w B go gl mb row L (leadN L)) (h1 : m.kind = 2) (h2 : idx L m.id = some i) :
    Calls Tryz.prog 47 #[.pointer (some ⟨go, 0, none⟩), V] w (TakeR w B go gl mb row L m) := by
  obtain ⟨na, ma, pa, ra, nn, nc, mn, mc, pn, pc, rn, rc, hm⟩ := hm
  have hv := hm.val
  subst hv
  have hid : InI m.id := hm.id
  obtain ⟨W0, hW0, hw0, hb0⟩ := alloc_box w #[.int .i64 m.kind, .int .i64 m.from_, .int .i64 m.«to», .int .i64 m.id, .int .i64 m.rev, .int .i64 m.epoch, .int .i64 m.slot, .bool m.flag, .slice na nn nc, .slice ma mn mc, .slice pa pn pc, .slice ra rn rc]
  have hO := h.below hb0
  obtain ⟨i', x, hi', hx, _⟩ := idx_some (L := L) (k := m.id) (by
    by_cases hn : m.id ∈ L.map (·.id)
    · exact hn
    · rw [idx_none hn] at h2; cases h2)
  rw [h2] at hi'
  injection hi' with hi'
  subst hi'
  have hil := (List.getElem?_eq_some_iff.1 hx).1
  have HRS := Lib.hid (rstep_mark h1 h2)
  have hMB : MBox W0 w.heap.size m.kind m.from_ m.id m.rev := ⟨hw0.cell 0, hw0.cell 1, hw0.cell 3, hw0.cell 4, hw0.lt⟩
  obtain ⟨k0, k1, k3, k4, klt⟩ := hMB
  have hlk := fun n => (hO.below (below_drewN W0 n)).find hid
  have HLA := Lib.hid (fun W (hb : Below W0.heap.size W0 W) => last_any W (hO.below hb))
  obtain ⟨_, c1, c2, _, z1, _⟩ := hO.cells
  have HB0 := Lib.hid hb0
  have HH := Lib.hid h
  have hlen := h.len
  have HO := Lib.hid hO
  obtain ⟨q, c, hrow, _, hq, _, _, _, d3, z3⟩ := hO.at_ hx
  have HROW := Lib.hid hrow
  subst hrow
  rw [h1] at k0
  rw [h2] at hlk
  simp only [Option.getD_some, Option.isSome_some] at hlk
  have HIL := Lib.hid hil
  clear hm hb0 hw0 h hO klt h1 h2 hx
  go_enter Tryz.func47, Tryz.ntmps47
  go_upto_region 1 with fail
  rw [← hW0]
  clear hW0
  go_wp2_with fail
  go_quiet (fail)
  go_wp2_with fail
  go_quiet (fail)
  go_wp2_with (go_at_call 62; refine (close_any _ (((HO.out.below (below_drewN _ _)).marked HIL.out rfl).1) (mark_lead _ _)).mono ?_; rintro e w' ⟨rfl, hO', hC⟩)
  have HO2 := Lib.hid hO'
  have HC2 := Lib.hid hC
  clear hO' hC
  go_end0
  refine ⟨rfl, _, by rw [HRS.out]; exact HO2.out, ?_, .inl rfl⟩
  exact (((Chg.ofBelow _ (HB0.out.trans ((below_drewN _ _).mono HB0.out.size))).set (.inr (.inr rfl)) _ _).trans HC2.out)
theorem one_iss (W : World) (q : Nat) (x : Iss) (hq : q = W.heap.size) : ∀ ad, (some ⟨q, 0, none⟩ : Option Addr) = some ad → ∀ j u, (isc x)[j]? = some u → (W.alloc (.cells #[.int .i64 x.rev, .int .i64 x.id, .int .i64 x.fr, .bool x.done] 83)).cell? (ad.add j) = some u := by
  subst hq
  intro ad had j u hu
  injection had with had
  subst had
  rw [add_plain, Nat.zero_add, new_cell]
  simpa [isc] using hu
/-- The state where the key is in the map already, the row not yet. -/
structure Half (w : World) (B go gl mb : Nat) (row : Value) (L : List Iss) (o : Nat) (k : Int) : Prop where
  own : Whole w go 81 #[.pointer (some ⟨gl, 0, none⟩), row, .map (some mb), .int .i64 (o : Int)]
  row : w.ownsRow B 83 4 row L.length (iscs L)
  map : ∃ mm, MapAt w Tryz.prog 2 mb mm (L.length + 1) ∧ ∀ j, InI j → mm (.int .i64 j) = if j = k then some (.int .i64 (L.length : Int)) else (idx L j).map fun i => .int .i64 (i : Int)
theorem Half.kept {k : Int} (h : Half w B go gl mb row L o k) (hb : ∀ j, OB go mb row j → w'.heap[j]? = w.heap[j]?) : Half w' B go gl mb row L o k := by
  obtain ⟨mm, hm, hf⟩ := h.map
  exact ⟨h.own.kept (hb go (.inl rfl)), owns_keepk h.row (fun k hk => hb k (.inr (.inr hk))), ⟨mm, hm.kept (hb mb (.inr (.inl rfl))), hf⟩⟩
theorem Half.below {k : Int} (h : Half w B go gl mb row L o k) (hb : Below w.heap.size w w') : Half w' B go gl mb row L o k := h.kept fun j hj => hb.block j (by
  rcases hj with h1 | h1 | h1
  · rw [h1]; exact h.own.lt
  · obtain ⟨mm, hm, _⟩ := h.map
    rw [h1]; exact hm.lt
  · obtain ⟨_, cur, hW⟩ := owned_block h.row h1
    exact hW.lt)
theorem Half.done {w3 w5 : World} {k f r : Int} {v5 : Value} (h : Half w3 B go gl mb row L (leadN L) k) (hR : Rise L) (hlen : L.length ≤ 1048575) (hg : B ≤ go) (hg2 : B ≤ mb) (hgr : w3.grownBy w5 row.ownBlock) (hown : w5.ownsRow B 83 4 v5 (L.length + 1) (iscs L ++ isc ⟨r, k, f, false⟩)) (hk : k ∉ L.map (·.id)) (hf : InI f) (hki : InI k) (hr : lastR L < r) (hr2 : r ≤ 9223372036854775807) :
    Whole w5 go 81 #[.pointer (some ⟨gl, 0, none⟩), row, .map (some mb), .int .i64 (leadN L : Int)] ∧ OrAt (w5.setCell ⟨go, 1, none⟩ v5) B go gl mb v5 (L ++ [⟨r, k, f, false⟩]) (leadN (L ++ [⟨r, k, f, false⟩])) := by
  obtain ⟨mm, hm, hmf⟩ := h.map
  have hne : row.ownBlock ≠ some go := fun e => by
    obtain ⟨_, cur, hW⟩ := owned_block h.row e
    exact whole_ne hW h.own (by decide) rfl
  have hne2 : row.ownBlock ≠ some mb := fun e => by
    obtain ⟨_, cur, hW⟩ := owned_block h.row e
    exact hm.ne hW rfl
  have ho5 : Whole w5 go 81 #[.pointer (some ⟨gl, 0, none⟩), row, .map (some mb), .int .i64 (leadN L : Int)] := h.own.kept (hgr.block go h.own.lt fun e => hne e.symm)
  have hm5 := hm.kept (hgr.block mb hm.lt fun e => hne2 e.symm)
  have hgm : go ≠ mb := hm.ne h.own
  refine ⟨ho5, ⟨?_, ?_, ⟨mm, ?_, fun j hj => ?_⟩, hR.push hk hf hki hr hr2, by simp; omega, hg, hg2⟩⟩
  · have := ho5.store 1 v5
    rw [leadN_push _ _ rfl]
    simpa using this
  · rw [List.length_append, iscs_append]
    refine owns_keepk (by simpa [iscs] using hown) fun q hq => Below.heap_setCell _ ⟨go, 1, none⟩ _ q ?_
    rintro rfl
    obtain ⟨_, cur, hW⟩ := owned_block hown hq
    exact whole_ne hW ho5 (by decide) rfl
  · rw [List.length_append]
    exact hm5.kept (Below.heap_setCell _ ⟨go, 1, none⟩ _ mb hgm.symm)
  · rw [hmf j hj, idx_push]
    by_cases hjk : j = k
    · subst hjk
      rw [if_pos rfl, if_neg hk, if_pos rfl]
      rfl
    · rw [if_neg hjk]
      by_cases hj2 : j ∈ L.map (·.id)
      · rw [if_pos hj2]
      · rw [if_neg hj2, idx_none hj2, if_neg (fun e => hjk e.symm)]
set_option maxRecDepth 100000 in
set_option maxHeartbeats 8000000 in
theorem take_new (w : World) (V : Value) (m : MsgD) (hm : MsgIn w V m) (h : OrAt w B go gl mb row L (leadN L)) (hll : L.length ≤ 1048575) (hB : B ≤ w.heap.size) (h1 : m.kind = 1) (h2 : idx L m.id = none) (h3 : lastR L < m.rev) :
    Calls Tryz.prog 47 #[.pointer (some ⟨go, 0, none⟩), V] w (TakeR w B go gl mb row L m) := by
  obtain ⟨na, ma, pa, ra, nn, nc, mn, mc, pn, pc, rn, rc, hm⟩ := hm
  have hv := hm.val
  subst hv
  have hid : InI m.id := hm.id
  obtain ⟨W0, hW0, hw0, hb0⟩ := alloc_box w #[.int .i64 m.kind, .int .i64 m.from_, .int .i64 m.«to», .int .i64 m.id, .int .i64 m.rev, .int .i64 m.epoch, .int .i64 m.slot, .bool m.flag, .slice na nn nc, .slice ma mn mc, .slice pa pn pc, .slice ra rn rc]
  have hO := h.below hb0
  have hfr : InI m.from_ := hm.from_
  have hrv : InI m.rev := hm.rev
  have HRS := Lib.hid (rstep_new h1 h2 h3)
  have hMB : MBox W0 w.heap.size m.kind m.from_ m.id m.rev := ⟨hw0.cell 0, hw0.cell 1, hw0.cell 3, hw0.cell 4, hw0.lt⟩
  obtain ⟨k0, k1, k3, k4, klt⟩ := hMB
  have hlk := fun n => (hO.below (below_drewN W0 n)).find hid
  have HLA := Lib.hid (fun W (hb : Below W0.heap.size W0 W) => last_any W (hO.below hb))
  obtain ⟨_, c1, c2, _, z1, _⟩ := hO.cells
  have HB0 := Lib.hid hb0
  have HH := Lib.hid h
  have HNI := Lib.hid (idx_none_iff.1 h2)
  have HGE := Lib.hid (And.intro h.geo h.gem)
  have HRI := Lib.hid h.rise
  have hdl : decide (lastR L < m.rev) = true := by simpa using h3
  have H3 := Lib.hid h3
  have HK0 := Lib.hid h1
  rw [h1] at k0
  rw [h2] at hlk
  simp only [Option.getD_none, Option.isSome_none] at hlk
  have HO := Lib.hid hO
  have HMB := Lib.hid (show MBox W0 w.heap.size m.kind m.from_ m.id m.rev from ⟨hw0.cell 0, hw0.cell 1, hw0.cell 3, hw0.cell 4, hw0.lt⟩)
  have HW0 := Lib.hid hw0
  have HID := Lib.hid hid
  have HFR := Lib.hid hfr
  have HRV := Lib.hid hrv
  clear hm hb0 hw0 h hO klt h1 h2 h3 hid hfr hrv
  go_enter Tryz.func47, Tryz.ntmps47
  go_upto_region 1 with fail
  rw [← hW0]
  clear hW0
  go_wp2_with fail
  go_quiet (fail)
  go_wp2_with fail
  obtain ⟨W1, hW1, hb1⟩ : ∃ W1, W1 = W0.drewN nq ∧ Below W0.heap.size W0 W1 := ⟨_, rfl, below_drewN _ _⟩
  rw [← hW1]
  obtain ⟨k0, k1, k3, k4, klt⟩ := HMB.out.below hb1
  rw [HK0.out] at k0
  obtain ⟨_, c1, c2, _, z1, _⟩ := (HO.out.below hb1).cells
  have HB1 := Lib.hid hb1
  clear hW1 hb1
  go_quiet ((go_at_call 19; exact Calls.quiet_of (HLA.out _ (bell_up HB1.out (below_drewN _ _)))))
  go_wp2_with fail
  obtain ⟨Wq, hWq, hbq⟩ : ∃ Wq, Wq = W1.drewN nq ∧ Below W0.heap.size W0 Wq := ⟨_, rfl, bell_up HB1.out (below_drewN _ _)⟩
  rw [← hWq]
  obtain ⟨k0, k1, k3, k4, klt⟩ := HMB.out.below hbq
  obtain ⟨_, c1, c2, _, z1, _⟩ := (HO.out.below hbq).cells
  have hlk2 := (HO.out.below hbq).find HID.out
  have HBQ := Lib.hid hbq
  clear hWq hbq
  refine wp_region_still_tail 11 (by kernel_rfl) (by kernel_rfl) ?_
  simp only [List.take_succ_cons, List.take_zero, List.drop_succ_cons, List.drop_zero]
  obtain ⟨a0, cc0, hrow, _⟩ := HO.out.slice
  have HROW := Lib.hid hrow
  subst hrow
  repeat still_step
  refine wpStill_nil ?_
  change wpList _ _ _ _ _ Wq.drew
  obtain ⟨W2, hW2, hb2⟩ : ∃ W2, W2 = Wq.drew ∧ Below W0.heap.size W0 W2 := ⟨_, rfl, bell_up HBQ.out (below_drewN _ 1)⟩
  rw [← hW2]
  have hO2 := HO.out.below hb2
  have hbox2 := HW0.out.kept (hb2.block _ HW0.out.lt)
  obtain ⟨mm, hmap, hmf⟩ := hO2.map
  have HO2 := Lib.hid hO2
  have HM2 := Lib.hid hmap
  have HMF := Lib.hid hmf
  have HX2 := Lib.hid hbox2
  have HB2 := Lib.hid hb2
  clear hW2 hb2 hO2 hmap hmf hbox2 hlk c1 c2 z1 k0 k1 k3 k4 hdl
  go_wp2_with (at_mapUpdate; refine wpList_store_map _ rfl _ _ _ 79 rfl 2 3 Tryz.keyL Tryz.underlying79 _ (Tryz.zeroPl _) mb L.length mm rfl HM2.out (by unfold maxLen; omega) (.int .i64 m.id) (.int .i64 (L.length : Int)) (.int .i64 m.id) rfl rfl (key_long m.id HID.out) ?_; intro w3 hm3 hg3 hs3)
  have hnm : mm (.int .i64 m.id) = none := by rw [HMF.out _ HID.out, idx_none HNI.out]; rfl
  rw [hnm] at hm3
  simp only [Option.isSome_none, Bool.false_eq_true, if_false] at hm3
  have hgm : go ≠ mb := HM2.out.ne HO2.out.own
  have hhalf : Half w3 B go gl mb (.slice a0 L.length cc0) L (leadN L) m.id := by
    refine ⟨HO2.out.own.kept (hg3.block go HO2.out.own.lt fun e => hgm (Option.some.inj e)), owns_keepk HO2.out.row (fun q hq => hg3.block q ?_ ?_), ⟨_, hm3, fun j hj => ?_⟩⟩
    · exact (HO2.out.row.lt q hq).2
    · intro e
      obtain ⟨_, cur, hW⟩ := owned_block HO2.out.row hq
      exact HM2.out.ne hW (Option.some.inj e)
    · by_cases hjk : j = m.id
      · subst hjk
        rw [if_pos rfl, mset_same (Tryz.keyL.key (key_long m.id hj))]
      · rw [if_neg hjk, mset_other (fun e => hjk (by injection e)), HMF.out j hj]
  have hX3 := HX2.out.kept (hg3.block _ HX2.out.lt fun e => HM2.out.ne HX2.out (Option.some.inj e))
  have k1 := hX3.cell 1
  have k3 := hX3.cell 3
  have k4 := hX3.cell 4
  have klt := hX3.lt
  have c1 := hhalf.own.cell 1
  have hgo3 := hhalf.own.lt
  have HH3 := Lib.hid hhalf
  have HG3 := Lib.hid (show Chg w w3 (OB go mb (.slice a0 L.length cc0)) from (Chg.ofBelow _ (HB0.out.trans (HB2.out.mono HB0.out.size))).toGrown hg3 (.inr (.inl rfl)))
  have HBW := Lib.hid (show B ≤ w3.heap.size by have := HG3.out.size; omega)
  obtain ⟨i0, hi0, hz0, hz1, hz2⟩ := info_of Tryz.info_iss
  have hne5 : w.heap.size ≠ w3.heap.size := by omega
  have hne6 : go ≠ w3.heap.size := by omega
  clear hm3 hg3 hs3 hnm hhalf hX3 hgm
  go_wp2_with fail
  go_region_law (first
    | (refine step_append_any _ rfl (.tmp 46) (.tmp 54) 78 rfl B 83 i0 (.agg #[.int .i64 0, .int .i64 0, .int .i64 0, .bool false]) 4 32 Tryz.underlying78 hi0 hz0 hz1 hz2 rfl (by decide) (.slice a0 L.length cc0) L.length (iscs L) rfl (HH3.out.row.alloc _) (some ⟨w3.heap.size, 0, none⟩) 1 1 (isc ⟨m.rev, m.id, m.from_, false⟩) rfl rfl (by intro e; cases e) (one_iss _ _ _ rfl) (isc_one _) (by unfold maxLen; omega) (by omega) (by have := HBW.out; simp; omega) ?_
       intro v5 w5 hown5 hgrow5 hv5
       obtain ⟨a5, c5, rfl, _⟩ := Lies.owned hown5
       have HV5 := Lib.hid hv5
       have hdone := (HH3.out.below (w' := w3.drew.alloc (.cells #[.int .i64 m.rev, .int .i64 m.id, .int .i64 m.from_, .bool false] 83)) (bell_up (below_drewN w3 1) (below_alloc w3.drew _))).done HRI.out (by omega) HGE.out.1 HGE.out.2 hgrow5 hown5 HNI.out HFR.out HID.out H3.out HRV.out.2
       have c1' := hdone.1.cell 1
       have z1' := hdone.1.free 1
       have HD := Lib.hid hdone.2
       have HG5 := Lib.hid ((HG3.out.up ((bell_up (below_drewN w3 1) (below_alloc w3.drew (.cells #[.int .i64 m.rev, .int .i64 m.id, .int .i64 m.from_, .bool false] 83))).mono HG3.out.size)).grow hgrow5 (fun b hb => .inl (.inr (.inr hb))))
       have HOW := Lib.hid hown5
       clear hdone hown5 hgrow5 hv5))
  all_goals
    go_wp2_with fail
    go_end0
    refine ⟨rfl, _, by rw [HRS.out]; exact HD.out, HG5.out.set (.inl rfl) 1 _, ?_⟩
    rcases HV5.out with h5 | h5
    · exact .inl h5
    · exact .inr ⟨_, h5, Nat.le_trans HG3.out.size (below_alloc _ _).size⟩
end
end Go.Proofs.YteodldmbnghfcaaGreat

namespace Go.Proofs.YteodldmbnghfcaaGreat
open Go.RowKit

section
variable {w w' : World} {B go gl mb g o r : Nat} {v row : Value} {L : List Iss} {ms : List MsgD}
theorem take_any (w : World) (V : Value) (m : MsgD) (hm : MsgIn w V m) (h : OrAt w B go gl mb row L (leadN L)) (hll : L.length ≤ 1048575) (hB : B ≤ w.heap.size) :
    Calls Tryz.prog 47 #[.pointer (some ⟨go, 0, none⟩), V] w (TakeR w B go gl mb row L m) := by
  by_cases h1 : m.kind = 1 ∧ idx L m.id = none ∧ lastR L < m.rev
  · exact take_new w V m hm h hll hB h1.1 h1.2.1 h1.2.2
  · by_cases h2 : m.kind = 2 ∧ idx L m.id ≠ none
    · obtain ⟨i, hi⟩ := Option.ne_none_iff_exists'.1 h2.2
      exact take_mark w V m i hm h h2.1 hi
    · exact take_same w V m hm h h1 h2
/-- An oracle and its log. -/
structure OS (w : World) (B go gl mb g : Nat) (v row : Value) (ms : List MsgD) (r : Nat) : Prop where
  log : Ls w B gl g v ms (cat ms).length r
  ora : OrAt w B go gl mb row (rep ms) (leadN (rep ms))
  fine : ∀ m ∈ ms, m.fine
theorem OS.below (h : OS w B go gl mb g v row ms r) (hb : Below w.heap.size w w') : OS w' B go gl mb g v row ms r := ⟨Lg.keep h.log hb, h.ora.below hb, h.fine⟩
theorem OS.few (h : OS w B go gl mb g v row ms r) : (rep ms).length ≤ 52429 := by
  have h1 := Ls.small h.log
  have h2 := rep_len ms
  omega
theorem OrAt.kept_log {n d : Nat} {xs : List Int} (h : OrAt w B go gl mb row L o) (hl : Lg w B gl g v xs d r n) (hk : Kept w w' gl g v) : OrAt w' B go gl mb row L o := by
  refine h.kept fun k hk2 => hk.block k (h.lt hk2) ?_ ?_ ?_
  · rintro rfl; exact h.other hl.lg (by decide) (by decide) hk2
  · rintro rfl; exact h.other (show Whole w k 73 _ from hl.disk.blk) (by decide) (by decide) hk2
  · intro e
    obtain ⟨_, cur, hW⟩ := owned_block hl.disk.own e.symm
    exact h.other hW (by decide) (by decide) hk2
theorem Lg.kept_ora {n d : Nat} {xs : List Int} (hl : Lg w B gl g v xs d r n) (h : OrAt w B go gl mb row L o) (hk : Chg w w' (OB go mb row)) : Lg w' B gl g v xs d r n := by
  have hn : ∀ (k : Nat) (T : TypeId) (cs : Array Value), Whole w k T cs → T ≠ 81 → T ≠ 83 → w'.heap[k]? = w.heap[k]? := fun k T cs hW h1 h2 => hk.block k hW.lt (h.other hW h1 h2)
  have hd : Whole w g 73 _ := hl.disk.blk
  refine ⟨hl.lg.kept (hn _ _ _ hl.lg (by decide) (by decide)), hl.ge, ⟨hd.kept (hn _ _ _ hd (by decide) (by decide)), hl.disk.ge, owns_keep hl.disk.own fun j hj => ?_, hl.disk.byte, hl.disk.hd, hl.disk.hr, hl.disk.hm⟩⟩
  obtain ⟨_, cur, hW⟩ := owned_block hl.disk.own hj
  exact hn _ _ _ hW (by decide) (by decide)
theorem past_log {n d k : Nat} {xs : List Int} {t : TypeId} {cs : Array Value} (hw : Whole w k t cs) (h : Lg w B gl g v xs d r n) (hk : Kept w w' gl g v) (ht : t ≠ 91) (h2 : t ≠ 73) (h3 : t ≠ 5) : Whole w' k t cs := by
  refine hw.kept (hk.block k hw.lt (whole_ne hw h.lg ht) (whole_ne hw (show Whole w g 73 _ from h.disk.blk) h2) fun e => ?_)
  obtain ⟨_, cur, hW⟩ := owned_block h.disk.own e.symm
  exact whole_ne hw hW h3 rfl
/-- The blocks of an oracle and its log. -/
def SB (go gl mb g : Nat) (v row : Value) (k : Nat) : Prop := k = gl ∨ k = g ∨ v.ownBlock = some k ∨ OB go mb row k
theorem OS.ge (h : OS w B go gl mb g v row ms r) {k : Nat} (hk : SB go gl mb g v row k) : B ≤ k ∧ k < w.heap.size := by
  have hl : Lg w B gl g v (cat ms) (cat ms).length r ms.length := h.log
  have hd : Whole w g 73 _ := hl.disk.blk
  rcases hk with h1 | h1 | h1 | h1
  · rw [h1]; exact ⟨hl.ge, hl.lg.lt⟩
  · rw [h1]; exact ⟨hl.disk.ge, hd.lt⟩
  · exact hl.disk.own.lt k h1
  · exact ⟨h.ora.ge h1, h.ora.lt h1⟩
theorem OS.other (h : OS w B go gl mb g v row ms r) {k : Nat} {T : TypeId} {cs : Array Value} (hk : Whole w k T cs) (h1 : T ≠ 81) (h2 : T ≠ 83) (h3 : T ≠ 91) (h4 : T ≠ 73) (h5 : T ≠ 5) : ¬ SB go gl mb g v row k := by
  have hl : Lg w B gl g v (cat ms) (cat ms).length r ms.length := h.log
  have hd : Whole w g 73 _ := hl.disk.blk
  rintro (h6 | h6 | h6 | h6)
  · exact whole_ne hk hl.lg h3 h6
  · exact whole_ne hk hd h4 h6
  · obtain ⟨_, cur, hW⟩ := owned_block hl.disk.own h6
    exact whole_ne hk hW h5 rfl
  · exact h.ora.other hk h1 h2 h6
theorem OS.map_other {m : Lit → Option Value} {N b : Nat} {P : Program} {K : TypeId} (h : OS w B go gl mb g v row ms r) (hm : MapAt w P K b m N) (hb : b ≠ mb) : ¬ SB go gl mb g v row b := by
  have hl : Lg w B gl g v (cat ms) (cat ms).length r ms.length := h.log
  have hd : Whole w g 73 _ := hl.disk.blk
  rintro (h6 | h6 | h6 | h6 | h6 | h6)
  · exact hm.ne hl.lg h6.symm
  · exact hm.ne hd h6.symm
  · obtain ⟨_, cur, hW⟩ := owned_block hl.disk.own h6
    exact hm.ne hW rfl
  · exact hm.ne h.ora.own h6.symm
  · exact hb h6
  · obtain ⟨_, cur, hW⟩ := owned_block h.ora.row h6
    exact hm.ne hW rfl
theorem Kept.chg (h : Kept w w' gl g v) : Chg w w' (SB go gl mb g v row) := ⟨h.os, h.tape, h.output, h.size, fun k hk hn => h.block k hk (fun e => hn (.inl e)) (fun e => hn (.inr (.inl e))) (fun e => hn (.inr (.inr (.inl e.symm))))⟩
/-- What becomes of a record that is written. -/
def OwR (w : World) (B go gl mb g : Nat) (v row : Value) (ms : List MsgD) (r : Nat) (m : MsgD) (c : Int) (w' : World) : Prop :=
  (c = 0 ∧ (cat ms).length + (rcd m).length ≤ r ∧ ∃ v' row', OS w' B go gl mb g v' row' (ms ++ [m]) r ∧ Chg w w' (SB go gl mb g v row)) ∨
    (c = 3 ∧ r < (cat ms).length + (rcd m).length ∧ OS w' B go gl mb g v row ms r ∧ Below w.heap.size w w')
def OwE (w : World) (B go gl mb g : Nat) (v row : Value) (ms : List MsgD) (r : Nat) (m : MsgD) (e : Ending) (w' : World) : Prop := ∃ c : Int, e = .returned (.int .i64 c) ∧ OwR w B go gl mb g v row ms r m c w'
abbrev oV (k f i r : Int) : Value := .agg #[.int .i64 k, .int .i64 f, .int .i64 0, .int .i64 i, .int .i64 r, .int .i64 0, .int .i64 0, .bool false, .slice none 0 0, .slice none 0 0, .slice none 0 0, .slice none 0 0]
set_option maxRecDepth 100000 in
set_option maxHeartbeats 8000000 in
theorem owrite_any (w : World) (h : OS w B go gl mb g v row ms r) (hB : B ≤ w.heap.size) (k f i q : Int) (h1 : InI k) (h2 : InI f) (h3 : InI i) (h4 : InI q) :
    Calls Tryz.prog 29 #[.pointer (some ⟨go, 0, none⟩), oV k f i q] w (OwE w B go gl mb g v row ms r (oD k f i q)) := by
  have HF := Lib.hid (od_fine h1 h2 h3 h4)
  have HMI := Lib.hid (fun W => od_in W h1 h2 h3 h4)
  obtain ⟨W0, hW0, hw0, hb0⟩ := alloc_box w #[.int .i64 k, .int .i64 f, .int .i64 0, .int .i64 i, .int .i64 q, .int .i64 0, .int .i64 0, .bool false, .slice none 0 0, .slice none 0 0, .slice none 0 0, .slice none 0 0]
  have hOS := h.below hb0
  obtain ⟨c0, _, _, _, _, _⟩ := hOS.ora.cells
  have k0 := hw0.cell 0
  have k1 := hw0.cell 1
  have k2 := hw0.cell 2
  have k3 := hw0.cell 3
  have k4 := hw0.cell 4
  have k5 := hw0.cell 5
  have k6 := hw0.cell 6
  have k7 := hw0.cell 7
  have k8 := hw0.cell 8
  have k9 := hw0.cell 9
  have k10 := hw0.cell 10
  have k11 := hw0.cell 11
  have HB := Lib.hid hB
  have HB0 := Lib.hid hb0
  have HW := Lib.hid hw0
  have HOS := Lib.hid hOS
  have HFEW := Lib.hid hOS.few
  clear hb0 hw0 h hOS hB h1 h2 h3 h4
  go_enter Tryz.func29, Tryz.ntmps29
  go_upto_region 1 with fail
  rw [← hW0]
  clear hW0
  refine wp_region_still_tail 5 (by kernel_rfl) (by kernel_rfl) ?_
  simp only [List.take_succ_cons, List.take_zero, List.drop_succ_cons, List.drop_zero]
  repeat still_step
  refine wpStill_nil ?_
  change wpList _ _ _ _ _ W0.drew
  obtain ⟨W1, hW1, hb1⟩ : ∃ W1, W1 = W0.drew ∧ Below W0.heap.size W0 W1 := ⟨_, rfl, below_drewN _ 1⟩
  rw [← hW1]
  have HO1 := Lib.hid (HOS.out.below hb1)
  have HW1 := Lib.hid (HW.out.kept (hb1.block _ HW.out.lt))
  have HB1 := Lib.hid (bell_up HB0.out hb1)
  clear hW1 hb1 k0 k1 k2 k3 k4 k5 k6 k7 k8 k9 k10 k11 c0
  go_wp2_with fail
  refine (lwrite_any B gl g v ms _ r _ (oD k f i q) _ HO1.out.log (HMI.out _)).mono ?_
  rintro e w2 ⟨c, rfl, hc⟩
  rcases hc with ⟨rfl, hg, hle, v2, hL2, hK, hv2⟩ | ⟨hc, hL2, hb2⟩
  · have hx2 := past_log HW1.out HO1.out.log hK (by decide) (by decide) (by decide)
    have hO2 := OrAt.kept_log HO1.out.ora HO1.out.log hK
    have hB2 : Below B W1 w2 := Lg.below HO1.out.log hK (by have := HB1.out.size; have := HB.out; omega)
    have k0 := hx2.cell 0
    have k1 := hx2.cell 1
    have k2 := hx2.cell 2
    have k3 := hx2.cell 3
    have k4 := hx2.cell 4
    have k5 := hx2.cell 5
    have k6 := hx2.cell 6
    have k7 := hx2.cell 7
    have k8 := hx2.cell 8
    have k9 := hx2.cell 9
    have k10 := hx2.cell 10
    have k11 := hx2.cell 11
    have HL2 := Lib.hid hL2
    have HO2 := Lib.hid hO2
    have HK2 := Lib.hid (Kept.chg (go := go) (mb := mb) (row := row) hK)
    have HLE := Lib.hid hle
    have HBS := Lib.hid (show B ≤ w2.heap.size by have := HB.out; have := HB1.out.size; have := hB2.size; omega)
    clear hg hle hL2 hK hv2 hx2 hO2 hB2
    go_wp2_with fail
    refine (take_any _ _ (oD k f i q) (HMI.out _) HO2.out (by have := HFEW.out; omega) HBS.out).mono ?_
    rintro e w3 ⟨rfl, row', hO3, hC3, hr3⟩
    have hL3 := Lg.kept_ora HL2.out HO2.out hC3
    have HE := Lib.hid (show OwE w B go gl mb g v row ms r (oD k f i q) (.returned (.int .i64 0)) w3 from ⟨0, rfl, .inl ⟨rfl, HLE.out, v2, row', ⟨hL3, by rw [rep_snoc]; exact hO3, fun m hm => by
      rcases List.mem_append.1 hm with h1 | h1
      · exact HO1.out.fine m h1
      · rw [List.mem_singleton] at h1; rw [h1]; exact HF.out⟩, (Chg.ofBelow _ HB1.out).trans (HK2.out.trans (hC3.mono fun k _ hk => .inr (.inr (.inr hk))))⟩⟩)
    clear hO3 hC3 hr3 hL3
    go_wp2
    go_ret
    exact HE.out
  · have hc3 : c = 3 ∧ r < (cat ms).length + (rcd (oD k f i q)).length := by
      rcases hc with ⟨h1, _, h2⟩ | ⟨_, h2⟩
      · exact ⟨h1, h2⟩
      · exact absurd HF.out.1 h2
    obtain ⟨rfl, hlt⟩ := hc3
    have HE := Lib.hid (show OwE w B go gl mb g v row ms r (oD k f i q) (.returned (.int .i64 3)) w2 from ⟨3, rfl, .inr ⟨rfl, hlt, HO1.out.below hb2, bell_up HB1.out hb2⟩⟩)
    clear hc hlt hL2 hb2
    go_wp2
    go_ret
    exact HE.out
set_option maxRecDepth 100000 in
set_option maxHeartbeats 4000000 in
theorem issue_old (w : World) (h : OS w B go gl mb g v row ms r) (k f : Int) (hk : InI k) (j : Nat) (x : Iss) (hj : idx (rep ms) k = some j) (hx : (rep ms)[j]? = some x) :
    Calls Tryz.prog 9 #[.pointer (some ⟨go, 0, none⟩), .int .i64 k, .int .i64 f] w fun e w' => e = .returned (.tuple #[.int .i64 x.rev, .int .i64 0]) ∧ w = w' := by
  have hlk := h.ora.find hk
  rw [hj] at hlk
  simp only [Option.getD_some, Option.isSome_some] at hlk
  obtain ⟨_, c1, c2, _, _, _⟩ := h.ora.cells
  have hlt := (List.getElem?_eq_some_iff.1 hx).1
  have hlen := h.few
  obtain ⟨q, c, hrow, _, hq, d0, _, _, _, _⟩ := h.ora.at_ hx
  subst hrow
  clear h hj hx
  generalize (rep ms).length = n at *
  go_enter Tryz.func9, Tryz.ntmps9
  go_wp2
  go_ret2
  exact ⟨rfl, rfl⟩
set_option maxRecDepth 100000 in
set_option maxHeartbeats 4000000 in
theorem issue_range (w : World) (h : OS w B go gl mb g v row ms r) (k f : Int) (hk : InI k) (hj : idx (rep ms) k = none) (hl : 1125899906842624 ≤ lastR (rep ms)) :
    Calls Tryz.prog 9 #[.pointer (some ⟨go, 0, none⟩), .int .i64 k, .int .i64 f] w fun e w' => e = .returned (.tuple #[.int .i64 0, .int .i64 1]) ∧ ∃ n, w' = w.drewN n := by
  have hlk := h.ora.find hk
  rw [hj] at hlk
  simp only [Option.getD_none, Option.isSome_none] at hlk
  obtain ⟨_, c1, c2, _, _, _⟩ := h.ora.cells
  have HLA := Lib.hid (last_any w h.ora)
  generalize lastR (rep ms) = la at *
  have hd : decide (la ≥ 1125899906842624) = true := by simpa using hl
  clear h hj
  go_enter Tryz.func9, Tryz.ntmps9
  go_wp2_with (go_at_call 19; refine HLA.out.mono ?_; rintro e w1 ⟨rfl, n1, rfl⟩)
  go_ret2
  exact ⟨rfl, _, rfl⟩
/-- What Issue comes to where there is none yet. -/
def IssR (w : World) (B go gl mb g : Nat) (v row : Value) (ms : List MsgD) (r : Nat) (k f : Int) (e : Ending) (w' : World) : Prop :=
  ∃ c : Int, e = .returned (.tuple #[.int .i64 (if c = 0 then lastR (rep ms) + 1 else 0), .int .i64 c]) ∧ OwR w B go gl mb g v row ms r (oD 1 f k (lastR (rep ms) + 1)) c w'
theorem OwR.from_ {m : MsgD} {c : Int} {W w' : World} (h : OwR W B go gl mb g v row ms r m c w') (hb : Below w.heap.size w W) : OwR w B go gl mb g v row ms r m c w' := by
  rcases h with ⟨h1, h2, v', row', h3, h4⟩ | ⟨h1, h2, h3, h4⟩
  · exact .inl ⟨h1, h2, v', row', h3, (Chg.ofBelow _ hb).trans h4⟩
  · exact .inr ⟨h1, h2, h3, bell_up hb h4⟩
set_option maxRecDepth 100000 in
set_option maxHeartbeats 4000000 in
theorem issue_new (w : World) (h : OS w B go gl mb g v row ms r) (hB : B ≤ w.heap.size) (k f : Int) (hk : InI k) (hf : InI f) (hj : idx (rep ms) k = none) (hl : lastR (rep ms) < 1125899906842624) :
    Calls Tryz.prog 9 #[.pointer (some ⟨go, 0, none⟩), .int .i64 k, .int .i64 f] w (IssR w B go gl mb g v row ms r k f) := by
  have hlk := h.ora.find hk
  rw [hj] at hlk
  simp only [Option.getD_none, Option.isSome_none] at hlk
  obtain ⟨_, c1, c2, _, _, _⟩ := h.ora.cells
  have hl0 := h.ora.rise.last_rng.1
  have HLA := Lib.hid (fun n => last_any (w.drewN n) (h.ora.below (below_drewN w n)))
  have HWR := Lib.hid (fun W (hW : Below w.heap.size w W) => owrite_any W (h.below hW) (Nat.le_trans hB hW.size) 1 f k (lastR (rep ms) + 1) (by unfold InI; omega) hf hk (by unfold InI; omega))
  have HR := Lib.hid (fun (c : Int) W (hW : Below w.heap.size w W) w' (h : OwR W B go gl mb g v row ms r (oD 1 f k (lastR (rep ms) + 1)) c w') => h.from_ hW)
  have HM := Lib.hid (show ∀ c e w', e = .returned (.tuple #[.int .i64 (if c = 0 then lastR (rep ms) + 1 else 0), .int .i64 c]) → OwR w B go gl mb g v row ms r (oD 1 f k (lastR (rep ms) + 1)) c w' → IssR w B go gl mb g v row ms r k f e w' from fun c e w' h1 h2 => ⟨c, h1, h2⟩)
  generalize lastR (rep ms) = la at *
  have hd : decide (la ≥ 1125899906842624) = false := by simp; omega
  clear h hj
  go_enter Tryz.func9, Tryz.ntmps9
  go_wp2_with fail
  refine (HLA.out 0).mono ?_
  rintro e w1 ⟨rfl, n1, rfl⟩
  go_wp2_with fail
  refine (HLA.out _).mono ?_
  rintro e w1 ⟨rfl, n2, rfl⟩
  go_wp2_with fail
  refine (HWR.out (w.drewN (n1 + n2)) ⟨rfl, rfl, rfl, Nat.le_refl _, fun _ _ => rfl⟩).mono ?_
  rintro e w3 ⟨c, rfl, hc⟩
  have hc2 := HR.out c (w.drewN (n1 + n2)) ⟨rfl, rfl, rfl, Nat.le_refl _, fun _ _ => rfl⟩ _ hc
  have HC := Lib.hid hc2
  clear hc hc2
  by_cases h0 : c = 0
  · subst h0
    go_wp2
    go_ret2
    exact HM.out 0 _ _ (Eq.trans (b := Ending.returned (.tuple #[.int .i64 (la + 1), .int .i64 0])) rfl (by rw [if_pos rfl])) HC.out
  · have HN := Lib.hid h0
    go_wp2
    go_ret2
    exact HM.out c _ _ (Eq.trans (b := Ending.returned (.tuple #[.int .i64 0, .int .i64 c])) rfl (by rw [if_neg HN.out])) HC.out
set_option maxRecDepth 100000 in
set_option maxHeartbeats 4000000 in
theorem resolve_none (w : World) (h : OS w B go gl mb g v row ms r) (k : Int) (hk : InI k) (hj : idx (rep ms) k = none) :
    Calls Tryz.prog 12 #[.pointer (some ⟨go, 0, none⟩), .int .i64 k] w fun e w' => e = .returned (.int .i64 4) ∧ w = w' := by
  have hlk := h.ora.find hk
  rw [hj] at hlk
  simp only [Option.getD_none, Option.isSome_none] at hlk
  obtain ⟨_, c1, c2, _, _, _⟩ := h.ora.cells
  clear h hj
  go_enter Tryz.func12, Tryz.ntmps12
  go_wp2
  go_ret
  exact ⟨rfl, rfl⟩
set_option maxRecDepth 100000 in
set_option maxHeartbeats 4000000 in
theorem resolve_done (w : World) (h : OS w B go gl mb g v row ms r) (k : Int) (hk : InI k) (j : Nat) (x : Iss) (hj : idx (rep ms) k = some j) (hx : (rep ms)[j]? = some x) (hd : x.done = true) :
    Calls Tryz.prog 12 #[.pointer (some ⟨go, 0, none⟩), .int .i64 k] w fun e w' => e = .returned (.int .i64 0) ∧ w = w' := by
  have hlk := h.ora.find hk
  rw [hj] at hlk
  simp only [Option.getD_some, Option.isSome_some] at hlk
  obtain ⟨_, c1, c2, _, _, _⟩ := h.ora.cells
  have hlt := (List.getElem?_eq_some_iff.1 hx).1
  have hlen := h.few
  obtain ⟨q, c, hrow, _, hq, _, _, _, d3, _⟩ := h.ora.at_ hx
  subst hrow
  rw [hd] at d3
  clear h hj hx hd
  generalize (rep ms).length = n at *
  go_enter Tryz.func12, Tryz.ntmps12
  go_wp2
  go_ret
  exact ⟨rfl, rfl⟩
set_option maxRecDepth 100000 in
set_option maxHeartbeats 4000000 in
theorem resolve_new (w : World) (h : OS w B go gl mb g v row ms r) (hB : B ≤ w.heap.size) (k : Int) (hk : InI k) (j : Nat) (x : Iss) (hj : idx (rep ms) k = some j) (hx : (rep ms)[j]? = some x) (hd : x.done = false) :
    Calls Tryz.prog 12 #[.pointer (some ⟨go, 0, none⟩), .int .i64 k] w (OwE w B go gl mb g v row ms r (oD 2 0 k 0)) := by
  have hlk := h.ora.find hk
  rw [hj] at hlk
  simp only [Option.getD_some, Option.isSome_some] at hlk
  obtain ⟨_, c1, c2, _, _, _⟩ := h.ora.cells
  have HWR := Lib.hid (owrite_any w h hB 2 0 k 0 (by unfold InI; omega) (by unfold InI; omega) hk (by unfold InI; omega))
  have hlt := (List.getElem?_eq_some_iff.1 hx).1
  have hlen := h.few
  obtain ⟨q, c, hrow, _, hq, _, _, _, d3, _⟩ := h.ora.at_ hx
  have HRW := Lib.hid hrow
  rw [hrow] at c1
  rw [hd] at d3
  clear h hj hx hd hrow
  generalize (rep ms).length = n at *
  go_enter Tryz.func12, Tryz.ntmps12
  go_wp2_with fail
  refine HWR.out.mono ?_
  rintro e w3 ⟨c, rfl, hc⟩
  have HC := Lib.hid hc
  clear hc
  go_wp2
  go_ret
  exact ⟨c, rfl, HC.out⟩
end
end Go.Proofs.YteodldmbnghfcaaGreat

namespace Go.Proofs.YteodldmbnghfcaaGreat
open Go.RowKit
open Go.Maps (Keyed)

section
variable {w w' : World} {B go gl mb g o r : Nat} {v row : Value} {L : List Iss} {ms : List MsgD}
theorem rep_take_succ {i : Nat} {m : MsgD} (h : ms[i]? = some m) : rep (ms.take (i + 1)) = rstep (rep (ms.take i)) m := by
  rw [List.take_succ_eq_append_getElem (List.getElem?_eq_some_iff.1 h).1, rep_snoc, (List.getElem?_eq_some_iff.1 h).2]
theorem rep_take_len (i : Nat) : (rep (ms.take i)).length ≤ ms.length := by
  have h1 := rep_len (ms.take i)
  have h2 := List.length_take_le i ms
  have h3 : (ms.take i).length ≤ ms.length := List.length_take_le' i ms
  omega
/-- How far the records are read. -/
def StO (w wr : World) (go gl mb : Nat) (row : Value) (L : List Iss) : Prop := OrAt wr w.heap.size go gl mb row L (leadN L) ∧ Below w.heap.size w wr
theorem OrAt.made (w : World) (gl : Nat) : OrAt ((w.alloc (.map #[] 0)).alloc (.cells #[.pointer (some ⟨gl, 0, none⟩), .slice none 0 0, .map (some w.heap.size), .int .i64 0] 81)) w.heap.size (w.heap.size + 1) gl w.heap.size (.slice none 0 0) [] 0 := by
  have hs : (w.alloc (.map #[] 0)).heap.size = w.heap.size + 1 := by simp
  have h1 := heap_alloc_new (w.alloc (.map #[] 0)) (.cells #[.pointer (some ⟨gl, 0, none⟩), .slice none 0 0, .map (some w.heap.size), .int .i64 0] 81)
  rw [hs] at h1
  refine ⟨h1, ⟨rfl, .inl ⟨rfl, rfl⟩⟩, ⟨_, (MapAt.made w Tryz.prog 2).below (below_alloc _ _), fun k _ => rfl⟩, Rise.nil, by simp, by omega, Nat.le_refl _⟩
set_option maxRecDepth 100000 in
set_option maxHeartbeats 8000000 in
theorem oopen_any (w : World) (gl : Nat) (a : Option Addr) (n c : Nat) (hx : MsgsIn w a n ms) (hn : n ≤ 1048575) :
    Calls Tryz.prog 27 #[.pointer (some ⟨gl, 0, none⟩), .slice a n c] w fun e w' => ∃ go mb row, e = .returned (.pointer (some ⟨go, 0, none⟩)) ∧ OrAt w' w.heap.size go gl mb row (rep ms) (leadN (rep ms)) ∧ Below w.heap.size w w' := by
  have HX := Lib.hid hx
  have HN := Lib.hid (show n = ms.length from hx.1.symm)
  have HML := Lib.hid (rep_take_len (ms := ms))
  have HMD := Lib.hid (OrAt.made w gl)
  have hmm := @run_makeMap Tryz.prog
  clear hx
  go_enter Tryz.func27, Tryz.ntmps27
  go_wp2_with fail
  have HS0 := Lib.hid (show StO w ((w.alloc (.map #[] 0)).alloc (.cells #[.pointer (some ⟨gl, 0, none⟩), .slice none 0 0, .map (some w.heap.size), .int .i64 0] 81)) (w.heap.size + 1) gl w.heap.size (.slice none 0 0) [] from ⟨HMD.out, (below_alloc w _).trans ((below_alloc _ _).mono (by simp))⟩)
  go_loopw [14] (fun iv wr => ∃ (i : Nat) (row : Value), i ≤ n ∧ iv = .int .i64 i ∧ StO w wr (w.heap.size + 1) gl w.heap.size row (rep (ms.take i))) (fun iv _ => n - (intOf iv).toNat)
  case atStart => exact ⟨0, _, by omega, rfl, HS0.out⟩
  case round =>
    obtain ⟨i, row, hin, rfl, hst⟩ := hrel
    have HST := Lib.hid hst
    clear hst
    by_cases hil : i < n
    · obtain ⟨b, off, rfl, hbl, hcc⟩ := HX.out.2.resolve_left (by omega)
      obtain ⟨m, hmi⟩ := get_some HX.out.1 hil
      have HTS := Lib.hid (rep_take_succ hmi)
      obtain ⟨s8, s9, s10, s11, hbx, hmin⟩ := (hcc i m hmi)
      obtain ⟨q0, q1, q2, q3, q4, q5, q6, q7, q8, q9, q10, q11⟩ := hbx
      have p0 := (HST.out.2.cell (p := ⟨b, off + i * 12, none⟩) hbl).trans q0
      have p1 := (HST.out.2.cell (p := ⟨b, off + i * 12 + 1, none⟩) hbl).trans q1
      have p2 := (HST.out.2.cell (p := ⟨b, off + i * 12 + 2, none⟩) hbl).trans q2
      have p3 := (HST.out.2.cell (p := ⟨b, off + i * 12 + 3, none⟩) hbl).trans q3
      have p4 := (HST.out.2.cell (p := ⟨b, off + i * 12 + 4, none⟩) hbl).trans q4
      have p5 := (HST.out.2.cell (p := ⟨b, off + i * 12 + 5, none⟩) hbl).trans q5
      have p6 := (HST.out.2.cell (p := ⟨b, off + i * 12 + 6, none⟩) hbl).trans q6
      have p7 := (HST.out.2.cell (p := ⟨b, off + i * 12 + 7, none⟩) hbl).trans q7
      have p8 := (HST.out.2.cell (p := ⟨b, off + i * 12 + 8, none⟩) hbl).trans q8
      have p9 := (HST.out.2.cell (p := ⟨b, off + i * 12 + 9, none⟩) hbl).trans q9
      have p10 := (HST.out.2.cell (p := ⟨b, off + i * 12 + 10, none⟩) hbl).trans q10
      have p11 := (HST.out.2.cell (p := ⟨b, off + i * 12 + 11, none⟩) hbl).trans q11
      have HMB := Lib.hid (fun w' (hb : Below w.heap.size w w') => (show MsgB w' w.heap.size (.agg #[.int .i64 m.kind, .int .i64 m.from_, .int .i64 m.«to», .int .i64 m.id, .int .i64 m.rev, .int .i64 m.epoch, .int .i64 m.slot, .bool m.flag, s8, s9, s10, s11]) m from MsgB.below hmin hb))
      have hshape : ∃ a8 n8 c8 a9 n9 c9 a10 n10 c10 a11 n11 c11, s8 = .slice a8 n8 c8 ∧ s9 = .slice a9 n9 c9 ∧ s10 = .slice a10 n10 c10 ∧ s11 = .slice a11 n11 c11 := by
        obtain ⟨na, ma, pa, ra, nn, nc, mn, mc, pn, pc, rn, rc, h⟩ := hmin
        have hv := h.val
        injection hv with hv
        injection hv with hv
        simp only [List.cons.injEq, and_true] at hv
        obtain ⟨_, _, _, _, _, _, _, _, rfl, rfl, rfl, rfl⟩ := hv
        exact ⟨_, _, _, _, _, _, _, _, _, _, _, _, rfl, rfl, rfl, rfl⟩
      obtain ⟨a8, n8, c8, a9, n9, c9, a10, n10, c10, a11, n11, c11, rfl, rfl, rfl, rfl⟩ := hshape
      clear hcc hmi hmin q0 q1 q2 q3 q4 q5 q6 q7 q8 q9 q10 q11
      obtain ⟨X, hX, hwx, hbx⟩ := alloc_box wr #[.int .i64 m.kind, .int .i64 m.from_, .int .i64 m.«to», .int .i64 m.id, .int .i64 m.rev, .int .i64 m.epoch, .int .i64 m.slot, .bool m.flag, .slice a8 n8 c8, .slice a9 n9 c9, .slice a10 n10 c10, .slice a11 n11 c11]
      have hbX : Below w.heap.size w X := HST.out.2.trans (hbx.mono HST.out.2.size)
      have HTK := Lib.hid (take_any X (.agg #[.int .i64 m.kind, .int .i64 m.from_, .int .i64 m.«to», .int .i64 m.id, .int .i64 m.rev, .int .i64 m.epoch, .int .i64 m.slot, .bool m.flag, .slice a8 n8 c8, .slice a9 n9 c9, .slice a10 n10 c10, .slice a11 n11 c11]) m ((HMB.out X hbX).msg hbX.size) (HST.out.1.below hbx) (by have := HML.out i; have := HN.out; omega) hbX.size)
      have HOX := Lib.hid (HST.out.1.below hbx)
      have HBX := Lib.hid hbX
      have hij : (0:Int) ≤ (i:Int) ∧ (i:Int) < (n:Int) := by omega
      go_upto_region 5 with fail
      rw [← hX]
      have k0 := hwx.cell 0
      have k1 := hwx.cell 1
      have k2 := hwx.cell 2
      have k3 := hwx.cell 3
      have k4 := hwx.cell 4
      have k5 := hwx.cell 5
      have k6 := hwx.cell 6
      have k7 := hwx.cell 7
      have k8 := hwx.cell 8
      have k9 := hwx.cell 9
      have k10 := hwx.cell 10
      have k11 := hwx.cell 11
      clear hX hwx hbx hbX p0 p1 p2 p3 p4 p5 p6 p7 p8 p9 p10 p11
      go_wp2_with fail
      refine HTK.out.mono ?_
      rintro e w4 ⟨rfl, row', hO4, hC4, hr4⟩
      have HS4 := Lib.hid (show StO w w4 (w.heap.size + 1) gl w.heap.size row' (rep (ms.take (i + 1))) from ⟨by rw [HTS.out]; exact hO4, HBX.out.trans (hC4.below (fun k hk => HOX.out.ge hk) HBX.out.size)⟩)
      clear hO4 hC4 hr4
      go_wp2_with fail
      exact ⟨⟨i + 1, row', by omega, by go_num, HS4.out⟩, by simp [intOf]; omega⟩
    · obtain rfl : i = n := by omega
      have HE := Lib.hid (show ms.take i = ms by rw [HN.out, List.take_length])
      go_wp2
      go_ret
      exact ⟨_, _, row, rfl, by have := HST.out.1; rwa [HE.out] at this, HST.out.2⟩
theorem OrAt.lies (h : OrAt w B go gl mb row L o) : ∃ a c, row = .slice a L.length c ∧ Lies w 83 4 B a L.length c (iscs L) := Lies.owned h.row
theorem iscs_drop (L : List Iss) (k : Nat) : (iscs L).drop (k * 4) = iscs (L.drop k) := fm_drop isc_len L k
theorem one12 (x : Iss) : ∀ u ∈ ([.int .i64 1, .int .i64 x.fr, .int .i64 0, .int .i64 x.id, .int .i64 x.rev, .int .i64 0, .int .i64 0, .bool false, .slice none 0 0, .slice none 0 0, .slice none 0 0, .slice none 0 0] : List Value), u.oneCell' = true := by
  intro u hu
  simp only [List.mem_cons, List.not_mem_nil, or_false] at hu
  rcases hu with rfl | rfl | rfl | rfl | rfl | rfl | rfl | rfl | rfl | rfl | rfl | rfl <;> rfl
/-- How far the open ones are gathered. -/
def StG (w wr : World) (M : List Iss) (v : Value) : Prop := AllAt wr w.heap.size v (pend M) ∧ Below w.heap.size w wr
theorem StG.nil (w wr : World) (hb : Below w.heap.size w wr) : StG w wr [] (.slice none 0 0) := ⟨AllAt.nil _ _, hb⟩
theorem pend_rng {M N : List Iss} (h : M <+: N) (hl : N.length ≤ 1048576) : (pend M).length ≤ 1048576 := Nat.le_trans (pend_le M) (Nat.le_trans h.length_le hl)
theorem take_succ_snoc {M : List Iss} {i : Nat} {x : Iss} (h : M[i]? = some x) : M.take (i + 1) = M.take i ++ [x] := by
  rw [List.take_succ_eq_append_getElem (List.getElem?_eq_some_iff.1 h).1, (List.getElem?_eq_some_iff.1 h).2]
set_option maxRecDepth 100000 in
set_option maxHeartbeats 8000000 in
theorem pending_any (w : World) (h : OrAt w B go gl mb row L (leadN L)) :
    Calls Tryz.prog 24 #[.pointer (some ⟨go, 0, none⟩)] w fun e w' => ∃ a c, e = .returned (.slice a (pend L).length c) ∧ AllAt w' w.heap.size (.slice a (pend L).length c) (pend L) ∧ Below w.heap.size w w' := by
  obtain ⟨i0, hi0, hz0, hz1, hz2⟩ := info_parts Tryz.infoG
  obtain ⟨_, c1, _, c3, _, _⟩ := h.cells
  have hle := leadN_le L
  have hlen := h.len
  obtain ⟨a, c, hrow, hL⟩ := h.lies
  subst hrow
  have hT := hL.tail hle
  rw [iscs_drop] at hT
  have hsl := fun w => slice_tailK (P := Tryz.prog) (t := 78) (e := 83) (k := 4) rfl rfl a L.length c (leadN L) hle w (by kernel_rfl)
  have HPL := Lib.hid (pend_lead L)
  have HRNG := Lib.hid h.rise.rng
  have HPOS := Lib.hid h.rise.pos
  have HMEM := Lib.hid (fun (x : Iss) (i : Nat) (hx : (L.drop (leadN L))[i]? = some x) => (List.drop_sublist (leadN L) L).subset (List.mem_of_getElem? hx))
  have HT := Lib.hid hT
  have hml : (L.drop (leadN L)).length = L.length - leadN L := List.length_drop
  have HML := Lib.hid hml
  have HLEN := Lib.hid hlen
  clear h hL hT hml
  generalize L.drop (leadN L) = M at *
  generalize tailK 4 a c (leadN L) = ta at *
  generalize leadN L = ld at *
  generalize hn : L.length = n at *
  generalize hkk : n - ld = k at *
  generalize c - ld = tc at *
  have HPE := Lib.hid (fun v w' (h : StG w w' M v) => (show ∃ a c, v = .slice a (pend L).length c ∧ AllAt w' w.heap.size (.slice a (pend L).length c) (pend L) ∧ Below w.heap.size w w' from by
    obtain ⟨h1, h2⟩ := h
    obtain ⟨a', c', rfl, _⟩ := h1.slice
    rw [HPL.out] at h1 ⊢
    exact ⟨a', c', rfl, h1, h2⟩))
  have HKN := Lib.hid (show k ≤ 1048576 by omega)
  clear hkk hn
  go_enter Tryz.func24, Tryz.ntmps24
  go_wp2_with fail
  go_quiet (fail)
  have hbq := below_drewN w nq
  generalize w.drewN nq = wq at *
  have HS0 := Lib.hid (StG.nil w wq hbq)
  clear hbq
  go_wp2_with fail
  go_loopw [3, 16] (fun av iv wr => ∃ (i : Nat) (ra : Option Addr) (rc : Nat), i ≤ k ∧ iv = .int .i64 i ∧ av = .slice ra (pend (M.take i)).length rc ∧ StG w wr (M.take i) (.slice ra (pend (M.take i)).length rc)) (fun _ iv _ => k - (intOf iv).toNat)
  case atStart => exact ⟨0, none, 0, by omega, rfl, rfl, HS0.out⟩
  case round =>
    obtain ⟨i, ra, rc, hin, rfl, rfl, hst⟩ := hrel
    have HST := Lib.hid hst
    clear hst
    by_cases hil : i < k
    · obtain ⟨b, off, rfl, hbl, _⟩ := HT.out.addr (by omega)
      obtain ⟨x, hx⟩ : ∃ x, M[i]? = some x := ⟨_, List.getElem?_eq_getElem (by have := HML.out; omega)⟩
      obtain ⟨q0, q1, q2, q3⟩ := iscs_at hx
      have hoff : off + i * 4 = off + i * 4 := rfl
      have p0 := (HST.out.2.cell (p := ⟨b, off + i * 4, none⟩) hbl).trans (HT.out.cell q0)
      have p1 := (HST.out.2.cell (p := ⟨b, off + i * 4 + 1, none⟩) hbl).trans (HT.out.cell q1)
      have p2 := (HST.out.2.cell (p := ⟨b, off + i * 4 + 2, none⟩) hbl).trans (HT.out.cell q2)
      have p3 := (HST.out.2.cell (p := ⟨b, off + i * 4 + 3, none⟩) hbl).trans (HT.out.cell q3)
      have hr := HRNG.out x (HMEM.out x i hx)
      have hp := HPOS.out x (HMEM.out x i hx)
      have HXX := Lib.hid (take_succ_snoc hx)
      have HPS := Lib.hid (pend_snoc (M.take i) x)
      have HMI := Lib.hid (fun W => od_in W (show InI 1 by unfold InI; omega) hr.2 hr.1 (show InI x.rev by unfold InI; omega))
      have hij : (0:Int) ≤ (i:Int) ∧ (i:Int) < (k:Int) := by omega
      have hkn := HKN.out
      have hpl : (pend (M.take i)).length ≤ 1048576 := by have := pend_le (M.take i); have h1 := List.length_take_le i M; have := HKN.out; omega
      clear q0 q1 q2 q3 hx hoff hr hp
      obtain ⟨X, hX, hwx, hbx⟩ : ∃ X, X = wr.alloc (.cells #[.int .i64 x.rev, .int .i64 x.id, .int .i64 x.fr, .bool x.done] 83) ∧ Whole X wr.heap.size 83 #[.int .i64 x.rev, .int .i64 x.id, .int .i64 x.fr, .bool x.done] ∧ Below wr.heap.size wr X := ⟨_, rfl, heap_alloc_new _ _, below_alloc _ _⟩
      have HX2 := Lib.hid (show StG w X (M.take i) (.slice ra (pend (M.take i)).length rc) from ⟨HST.out.1.below hbx HST.out.2.size, HST.out.2.trans (hbx.mono HST.out.2.size)⟩)
      go_upto_region 5 with fail
      rw [← hX]
      have k0 := hwx.cell 0
      have k1 := hwx.cell 1
      have k2 := hwx.cell 2
      have k3 := hwx.cell 3
      clear hX hwx hbx p0 p1 p2 p3
      cases hd : x.done
      · rw [hd] at HPS k3
        simp only [Bool.false_eq_true, if_false] at HPS
        obtain ⟨ss, hss, hrow, hall⟩ := HX2.out.1
        have HROW := Lib.hid hrow
        have HSZ := Lib.hid HX2.out.2.size
        clear hd hss hrow hall
        go_wp2_with (at_builtin; refine wpList_append_at_any _ rfl _ _ 33 rfl w.heap.size 43 i0 (.agg MsgZ) 12 160 Tryz.underlying33 hi0 hz0 hz1 hz2 rfl (by decide) _ (pend (M.take i)).length _ rfl (HROW.out.alloc _) (some ⟨X.heap.size, 0, none⟩) 1 1 [.int .i64 1, .int .i64 x.fr, .int .i64 0, .int .i64 x.id, .int .i64 x.rev, .int .i64 0, .int .i64 0, .bool false, .slice none 0 0, .slice none 0 0, .slice none 0 0, .slice none 0 0] rfl rfl (by intro h; cases h) (by rintro ad he; injection he with he; subst he; exact cells_new _ [.int .i64 1, .int .i64 x.fr, .int .i64 0, .int .i64 x.id, .int .i64 x.rev, .int .i64 0, .int .i64 0, .bool false, .slice none 0 0, .slice none 0 0, .slice none 0 0, .slice none 0 0] _) (one12 x) (by unfold maxLen; omega) (by omega) (by have := HSZ.out; simp; omega) ?_; intro v2 w5 hown5 hgrow5 hat5)
        have hbe := below_alloc X (.cells #[.int .i64 1, .int .i64 x.fr, .int .i64 0, .int .i64 x.id, .int .i64 x.rev, .int .i64 0, .int .i64 0, .bool false, .slice none 0 0, .slice none 0 0, .slice none 0 0, .slice none 0 0] 43)
        have hA5 := (HX2.out.1.below hbe HSZ.out).step (w' := w5) (v' := v2) (m := oD 1 x.fr x.id x.rev) (s := (.slice none 0 0, .slice none 0 0, .slice none 0 0, .slice none 0 0)) (Nat.le_trans HSZ.out hbe.size) (MsgB.below (B := w.heap.size) (HMI.out w) (HX2.out.2.trans (hbe.mono HSZ.out))) (fun l hl => by rw [row_one hl (HROW.out.alloc _)]; exact hown5) hgrow5
        obtain ⟨ra5, rc5, rfl, _, _⟩ := owned_some hown5
        have hEQ : pend (M.take (i + 1)) = pend (M.take i) ++ [oD 1 x.fr x.id x.rev] := by rw [HXX.out, HPS.out]
        have hl5 : (pend (M.take i)).length + 1 = (pend (M.take (i + 1))).length := by rw [hEQ]; simp
        rw [← hEQ, hl5] at hA5
        have HS5 := Lib.hid (show StG w w5 (M.take (i + 1)) (.slice ra5 (pend (M.take (i + 1))).length rc5) from ⟨hA5.1, (HX2.out.2.trans (hbe.mono HSZ.out)).trans hA5.2⟩)
        rw [hl5]
        clear hown5 hgrow5 hat5 hbe hA5 hEQ hl5 k0 k1 k2 k3 HPS
        exact ⟨⟨i + 1, ra5, rc5, by omega, by go_num, rfl, HS5.out⟩, by simp [intOf]; omega⟩
      · rw [hd] at HPS k3
        simp only [if_true, List.append_nil] at HPS
        have hEQ : pend (M.take (i + 1)) = pend (M.take i) := by rw [HXX.out, HPS.out]
        have HS5 := Lib.hid (show StG w X (M.take (i + 1)) (.slice ra (pend (M.take (i + 1))).length rc) from by unfold StG; rw [hEQ]; exact HX2.out)
        have HEQ := Lib.hid hEQ
        clear hd hEQ HPS
        go_wp2_with fail
        exact ⟨⟨i + 1, ra, rc, by omega, by go_num, by rw [HEQ.out], HS5.out⟩, by simp [intOf]; omega⟩
    · obtain rfl : i = k := by omega
      have HE := Lib.hid (show M.take i = M by rw [← HML.out, List.take_length])
      go_wp2
      go_ret
      have := HST.out
      rw [HE.out] at this
      obtain ⟨a', c', he, h2⟩ := HPE.out _ _ this
      exact ⟨a', c', by rw [HE.out, he]; rfl, h2⟩
end
end Go.Proofs.YteodldmbnghfcaaGreat

namespace Go.Proofs.YteodldmbnghfcaaGreat
open Go.RowKit

section
variable {w w' : World} {B go gl mb g o r : Nat} {v row : Value} {L : List Iss} {ms : List MsgD}
theorem OrAt.lower {B' : Nat} (h : OrAt w B go gl mb row L o) (hb : B' ≤ B) : OrAt w B' go gl mb row L o := ⟨h.own, owns_lower h.row hb, h.map, h.rise, h.len, Nat.le_trans hb h.geo, Nat.le_trans hb h.gem⟩
theorem Turned.chg (h : Dk.Turned w w' g none) (P : Nat → Prop) (hg : P g) : Chg w w' P := ⟨h.os, h.tape, h.output, h.size, fun k hk hn => h.block k hk (fun e => hn (by rw [e]; exact hg)) (by simp)⟩
/-- What opened comes to. -/
def OpdR (w : World) (B g : Nat) (ms : List MsgD) (r : Nat) (e : Ending) (w' : World) : Prop :=
  ∃ go gl mb v' row, e = .returned (.pointer (some ⟨go, 0, none⟩)) ∧ OS w' B go gl mb g v' row ms r ∧ Chg w w' (fun k => k = g) ∧ w.heap.size ≤ mb
set_option maxRecDepth 100000 in
set_option maxHeartbeats 4000000 in
theorem opened_any (w : World) (d : Nat) (h : Dk.DAt w B g v (cat ms) d r) (hf : ∀ m ∈ ms, m.fine) (hB : B ≤ w.heap.size) :
    Calls Tryz.prog 7 #[.pointer (some ⟨g, 0, none⟩)] w (OpdR w B g ms r) := by
  have HL := Lib.hid (lopen_cat B g v ms d r w h hf)
  have HF := Lib.hid hf
  have HB := Lib.hid hB
  have HRM := Lib.hid (show ms.length * 20 ≤ 1048576 by have h1 := cat_len ms; have h2 := h.hr; have h3 := h.hm; omega)
  clear h hf hB
  go_enter Tryz.func7, Tryz.ntmps7
  go_wp2_with fail
  refine HL.out.mono ?_
  rintro e w1 ⟨gl, ra, rc, v', rfl, h1, h2, h3, hls, h5, _, hms, ht⟩
  have HO := Lib.hid (oopen_any w1 gl ra ms.length rc hms (by have := HRM.out; omega))
  have HLS := Lib.hid hls
  have HT := Lib.hid (Turned.chg ht (fun k => k = g) rfl)
  clear h1 h2 h3 hls h5 hms ht
  go_wp2_with fail
  refine HO.out.mono ?_
  rintro e w2 ⟨go, mb, row, rfl, hO, hb2⟩
  have HE := Lib.hid (show OpdR w B g ms r (.returned (.pointer (some ⟨go, 0, none⟩))) w2 from ⟨go, gl, mb, v', row, rfl, ⟨Lg.keep HLS.out hb2, hO.lower (by have := HB.out; have := HT.out.size; omega), HF.out⟩, HT.out.up (hb2.mono HT.out.size), Nat.le_trans HT.out.size hO.gem⟩)
  clear hO hb2
  go_wp2
  go_ret
  exact HE.out
theorem od_len {k f i q : Int} (h1 : InI k) (h2 : InI f) (h3 : InI i) (h4 : InI q) : (rcd (oD k f i q)).length ≤ 150 := by
  have e1 := Vi.int_length k h1.1 h1.2
  have e2 := Vi.int_length f h2.1 h2.2
  have e3 := Vi.int_length i h3.1 h3.2
  have e4 := Vi.int_length q h4.1 h4.2
  have h0 := Vi.int_length 0 (by omega) (by omega)
  rw [rcd_len]
  simp only [enc, oD, List.length_append, lst, List.map_nil, List.flatten_nil, List.length_nil, List.length_singleton]
  have : ((0 : Nat) : Int) = 0 := rfl
  rw [this]
  omega
theorem crash_all (w : World) (h : OS w B go gl mb g v row ms r) :
    Calls Tryz.prog 17 #[.pointer (some ⟨g, 0, none⟩), .int .i64 0] w fun e w' => e = .returned (.tuple #[]) ∧ ∃ v', Dk.DAt w' B g v' (cat ms) (cat ms).length r ∧ Chg w w' (fun k => k = g) := by
  have hl : Lg w B gl g v (cat ms) (cat ms).length r ms.length := h.log
  refine (Dk.crash_any 0 w hl.disk (by omega)).mono ?_
  rintro e w' ⟨rfl, v', h1, h2, _⟩
  have hle : Dk.left (cat ms).length (cat ms).length 0 = (cat ms).length := by unfold Dk.left; simp
  rw [hle, List.take_length] at h1
  exact ⟨rfl, v', h1, Turned.chg h2 _ rfl⟩
def om7 : MsgD := oD 1 1 7 1
def om8 : MsgD := oD 1 1 8 2
def om9 : MsgD := oD 2 0 7 0
theorem in_small {k : Int} (h : -1000 ≤ k ∧ k ≤ 1000) : InI k := ⟨by omega, by omega⟩
theorem len3 : (rcd om7).length ≤ 150 ∧ (rcd om8).length ≤ 150 ∧ (rcd om9).length ≤ 150 := ⟨od_len (in_small (by omega)) (in_small (by omega)) (in_small (by omega)) (in_small (by omega)), od_len (in_small (by omega)) (in_small (by omega)) (in_small (by omega)) (in_small (by omega)), od_len (in_small (by omega)) (in_small (by omega)) (in_small (by omega)) (in_small (by omega))⟩
theorem cat_one (m : MsgD) : (cat [m]).length = (rcd m).length := by simp [cat]
theorem cat_two (m m' : MsgD) : (cat [m, m']).length = (rcd m).length + (rcd m').length := by simp [cat]
def L7 : List Iss := [⟨1, 7, 1, false⟩]
def L8 : List Iss := [⟨1, 7, 1, false⟩, ⟨2, 8, 1, false⟩]
def L9 : List Iss := [⟨1, 7, 1, true⟩, ⟨2, 8, 1, false⟩]
theorem rep7 : rep [om7] = L7 := rfl
theorem rep8 : rep [om7, om8] = L8 := rfl
theorem rep9 : rep [om7, om8, om9] = L9 := rfl
theorem last0 : lastR (rep []) = 0 := rfl
theorem last7 : lastR (rep [om7]) = 1 := rfl
theorem last8 : lastR (rep [om7, om8]) = 2 := rfl
theorem closed8 : closedR (rep [om7, om8]) = 0 := rfl
theorem closed9 : closedR (rep [om7, om8, om9]) = 1 := rfl
theorem OS.sb_ge (h : OS w B go gl mb g v row ms r) (hc : Chg w w' (SB go gl mb g v row)) (hB : B ≤ w.heap.size) : Below B w w' := hc.below (fun _ hk => (h.ge hk).1) hB
set_option maxRecDepth 100000 in
set_option maxHeartbeats 8000000 in
theorem awake_any (w : World) :
    Calls Tryz.prog 4 #[] w fun e w' => e = .returned (.bool true) ∧ Below w.heap.size w w' := by
  have HL3 := Lib.hid len3
  have HF7 := Lib.hid (od_fine (k := 1) (f := 1) (i := 7) (r := 1) (in_small (by omega)) (in_small (by omega)) (in_small (by omega)) (in_small (by omega)))
  have HF8 := Lib.hid (od_fine (k := 1) (f := 1) (i := 8) (r := 2) (in_small (by omega)) (in_small (by omega)) (in_small (by omega)) (in_small (by omega)))
  have HN := Lib.hid (Dk.new_good w.heap.size 1000 w (by decide) (Nat.le_refl _))
  go_enter Tryz.func4, Tryz.ntmps4
  go_wp2_with fail
  refine HN.out.mono ?_
  rintro e w1 ⟨rfl, hd1, hb1⟩
  have hgs := hb1.size
  have HB1 := Lib.hid hb1
  have HO1 := Lib.hid (opened_any (ms := []) w1 0 hd1 (by simp) hb1.size)
  clear hd1 hb1 HN
  go_wp2_with fail
  refine HO1.out.mono ?_
  rintro e w2 ⟨go, gl, mb, v2, row2, rfl, hos, hch, _⟩
  have HB2 := Lib.hid (show Below w.heap.size w w2 from HB1.out.trans (hch.below (fun k hk => by rw [hk]; exact Nat.le_refl _) hgs))
  have HC2 := Lib.hid (issue_new w2 hos HB2.out.size 7 1 (in_small (by omega)) (in_small (by omega)) rfl (by rw [last0]; omega))
  have HO2 := Lib.hid hos
  clear hos hch HO1
  go_wp2_with fail
  refine HC2.out.mono ?_
  rintro e w3 ⟨c, rfl, hc⟩
  rcases hc with ⟨rfl, _, v3, row3, hos, hch⟩ | ⟨_, hlt, _, _⟩
  rotate_left
  · exfalso
    have h1 : (rcd (oD 1 1 7 (lastR (rep []) + 1))).length ≤ 150 := HL3.out.1
    have h2 : (cat []).length = 0 := rfl
    omega
  rw [if_pos rfl, last0]
  have hos7 : OS w3 w.heap.size go gl mb w.heap.size v3 row3 [om7] 1000 := hos
  have HB3 := Lib.hid (show Below w.heap.size w w3 from HB2.out.trans (HO2.out.sb_ge hch HB2.out.size))
  have HC3 := Lib.hid (issue_new w3 hos7 HB3.out.size 8 1 (in_small (by omega)) (in_small (by omega)) rfl (by rw [last7]; omega))
  have HO3 := Lib.hid hos7
  clear hos hos7 hch HC2
  go_wp2_with fail
  refine HC3.out.mono ?_
  rintro e w4 ⟨c, rfl, hc⟩
  rcases hc with ⟨rfl, _, v4, row4, hos, hch⟩ | ⟨_, hlt, _, _⟩
  rotate_left
  · exfalso
    have h1 : (rcd (oD 1 1 8 (lastR (rep [om7]) + 1))).length ≤ 150 := HL3.out.2.1
    have h2 := cat_one om7
    have h3 := HL3.out.1
    omega
  rw [if_pos rfl, last7]
  have hos8 : OS w4 w.heap.size go gl mb w.heap.size v4 row4 [om7, om8] 1000 := hos
  have HB4 := Lib.hid (show Below w.heap.size w w4 from HB3.out.trans (HO3.out.sb_ge hch HB3.out.size))
  have HCR := Lib.hid (crash_all w4 hos8)
  have HO4 := Lib.hid hos8
  clear hos hos8 hch HC3
  go_wp2_with fail
  refine HCR.out.mono ?_
  rintro e w5 ⟨rfl, v5, hd5, hc5⟩
  have HB5 := Lib.hid (show Below w.heap.size w w5 from HB4.out.trans (hc5.below (fun k hk => by rw [hk]; exact Nat.le_refl _) HB4.out.size))
  have HO5 := Lib.hid (opened_any (ms := [om7, om8]) w5 _ hd5 HO4.out.fine HB5.out.size)
  clear hd5 hc5 HCR
  go_wp2_with fail
  refine HO5.out.mono ?_
  rintro e w6 ⟨go6, gl6, mb6, v6, row6, rfl, hos, hch, _⟩
  have HB6 := Lib.hid (show Below w.heap.size w w6 from HB5.out.trans (hch.below (fun k hk => by rw [hk]; exact Nat.le_refl _) HB5.out.size))
  have HC6 := Lib.hid (issue_old w6 hos 8 2 (in_small (by omega)) 1 ⟨2, 8, 1, false⟩ rfl rfl)
  have HO6 := Lib.hid hos
  clear hos hch HO5
  go_wp2_with fail
  refine HC6.out.mono ?_
  rintro e w7 ⟨rfl, rfl⟩
  have HCL := Lib.hid (closed_any w6 HO6.out.ora)
  rw [closed8] at HCL
  go_wp2_with fail
  refine HCL.out.mono ?_
  rintro e w7 ⟨rfl, n7, rfl⟩
  have HO7 := Lib.hid (HO6.out.below (below_drewN w6 n7))
  have HB7 := Lib.hid (bell_up HB6.out (below_drewN w6 n7))
  have HR7 := Lib.hid (resolve_new (w6.drewN n7) HO7.out HB7.out.size 7 (in_small (by omega)) 0 ⟨1, 7, 1, false⟩ rfl rfl rfl)
  clear HCL HC6
  generalize w6.drewN n7 = w7 at *
  go_wp2_with fail
  refine HR7.out.mono ?_
  rintro e w8 ⟨c, rfl, hc⟩
  rcases hc with ⟨rfl, _, v8, row8, hos, hch⟩ | ⟨_, hlt, _, _⟩
  rotate_left
  · exfalso
    have h1 : (rcd (oD 2 0 7 0)).length ≤ 150 := HL3.out.2.2
    have h2 := cat_two om7 om8
    have h3 := HL3.out.1
    have h4 := HL3.out.2.1
    omega
  have HB8 := Lib.hid (show Below w.heap.size w w8 from HB7.out.trans (HO7.out.sb_ge hch HB7.out.size))
  have hos9 : OS w8 w.heap.size go6 gl6 mb6 w.heap.size v8 row8 [om7, om8, om9] 1000 := hos
  have HCM := Lib.hid (closed_any w8 hos9.ora)
  rw [closed9] at HCM
  clear hos hos9 hch HR7
  go_wp2_with fail
  refine HCM.out.mono ?_
  rintro e w9 ⟨rfl, n9, rfl⟩
  have HB9 := Lib.hid (bell_up HB8.out (below_drewN w8 n9))
  go_wp2
  go_ret
  exact ⟨rfl, HB9.out⟩
end
end Go.Proofs.YteodldmbnghfcaaGreat
