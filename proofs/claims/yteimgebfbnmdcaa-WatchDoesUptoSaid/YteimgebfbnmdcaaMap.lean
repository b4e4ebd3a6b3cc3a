/- Maps of the call's own, with elements of whatever kind (pointers too): a map is a function from keys to values. -/
import Derived.Test.YteimgebfbnmdcaaTB
import Derived.Maps.OwnOps
import Derived.Maps.OwnSet
namespace Go.Proofs.Yteimgebfbnmdcaa
open Go.RowKit
open Go.Maps (Keyed)
open Go.ChangeMaps Go.MapKept
open Go.WideElems (Fit rd rg pl rd_val elemAt)

/-- An element is what it is. -/
def heldR : Value → Option (DataW Value × List MemPlace) := fun v => some (.held v, [])
/-- What a map has under a key. -/
def mview (D : DataW Value) (kl : Lit) : Option Value := match D.atKey kl .nil with
  | .held v => some v
  | _ => none
/-- Block b is a map: what it has under each key, and how many keys. -/
def MapAt (w : World) (P : Program) (k : TypeId) (b : Nat) (m : Lit → Option Value) (N : Nat) : Prop :=
  ∃ D : DataW Value, w.ownsMap P k heldR b N D ∧ Maps.size D = N ∧ ∀ kl, mview D kl = m kl
/-- A function changed at one key. -/
def mset (m : Lit → Option Value) (kl : Lit) (v : Option Value) : Lit → Option Value := fun x => if x.sameKey kl then v else m x
theorem mset_same {m : Lit → Option Value} {kl : Lit} {v : Option Value} (h : WideAt.IsKeyLit kl) : mset m kl v kl = v := by
  unfold mset
  rw [if_pos (WideAt.sameKey_self h)]
theorem mset_other {m : Lit → Option Value} {kl x : Lit} {v : Option Value} (h : x ≠ kl) : mset m kl v x = m x := by
  unfold mset
  rw [if_neg]
  exact fun hs => h (WideAt.sameKey_eq hs)
section
variable {P : Program} {k e t : TypeId} {b N : Nat} {m : Lit → Option Value} {w : World} {D : DataW Value}
theorem MapAt.made (w : World) (P : Program) (k : TypeId) : MapAt (w.alloc (.map #[] 0)) P k w.heap.size (fun _ => none) 0 :=
  ⟨.map [], World.ownsMap_made _ _ _ _, rfl, fun _ => rfl⟩
theorem MapAt.lt (h : MapAt w P k b m N) : b < w.heap.size := by
  obtain ⟨D, h, _⟩ := h
  exact h.lt
theorem MapAt.kept {w' : World} (h : MapAt w P k b m N) (hb : w'.heap[b]? = w.heap[b]?) : MapAt w' P k b m N := by
  obtain ⟨D, ⟨es, clock, h1, h2⟩, h3⟩ := h
  exact ⟨D, ⟨es, clock, hb.trans h1, h2⟩, h3⟩
theorem MapAt.below {w' : World} (h : MapAt w P k b m N) (hb : Below w.heap.size w w') : MapAt w' P k b m N := h.kept (hb.block _ h.lt)
theorem MapAt.ne {c : Nat} {T : TypeId} {cs : Array Value} (h : MapAt w P k b m N) (hc : Whole w c T cs) : c ≠ b := by
  rintro rfl
  obtain ⟨D, ⟨es, clock, h1, _⟩, _⟩ := h
  unfold Whole at hc
  rw [hc] at h1
  cases h1
theorem mview_eq (h : w.ownsMap P k heldR b N D) (K : Keyed P k) (ht : P.underlying t = some (.map k e)) {z : Value} (hz : (zeroValue e).run P w = .ok z w) (c : Bool) {key : Value} {kl : Lit} (hkey : keyOf P k key = some kl) :
    (Instr.lookup t (.map (some b)) key c).run P w = .ok (if c then .tuple #[(mview D kl).getD z, .bool (mview D kl).isSome] else (mview D kl).getD z) w ∧ Maps.has D kl = (mview D kl).isSome := by
  obtain ⟨es, clock, hb, F, _, rfl⟩ := h
  rcases Maps.fit_look c K ht hz hb F hkey with ⟨hrun, _, hat⟩ | ⟨e0, y, _, _, hrun, hR, hat, _⟩
  · have hv : mview (DataW.map ((es.toList.map (rg P k heldR)).foldr DataW.insert [])) kl = none := by
      unfold mview
      rw [hat]
    rw [hv]
    refine ⟨by rw [hrun]; rfl, Maps.has_false_of_atKey hat⟩
  · have hv : mview (DataW.map ((es.toList.map (rg P k heldR)).foldr DataW.insert [])) kl = some e0.val := by
      unfold mview
      rw [hat]
      injection hR with hR
      rw [← hR]
    rw [hv]
    exact ⟨by rw [hrun]; rfl, Maps.has_true_of_atKey hat⟩
/-- 'm[k]' and 'v, ok := m[k]'. -/
theorem MapAt.look (h : MapAt w P k b m N) (K : Keyed P k) (ht : P.underlying t = some (.map k e)) {z : Value} (hz : (zeroValue e).run P w = .ok z w) (c : Bool) {key : Value} {kl : Lit} (hkey : keyOf P k key = some kl) :
    (Instr.lookup t (.map (some b)) key c).run P w = .ok (if c then .tuple #[(m kl).getD z, .bool (m kl).isSome] else (m kl).getD z) w := by
  obtain ⟨D, h, _, hm⟩ := h
  rw [(mview_eq h K ht hz c hkey).1, hm]
theorem MapAt.len (h : MapAt w P k b m N) (ht : P.underlying t = some (.map k e)) (ty : TypeId) : (Builtin.len_ #[t] ty #[.map (some b)]).run P w = .ok (.int .i64 (N : Int)) w := by
  obtain ⟨D, h, rfl, _⟩ := h
  exact h.len ht ty
theorem own_tight (h : w.ownsMap P k heldR b N D) : w.ownsMap P k heldR b (Maps.size D) D := by
  obtain ⟨es, clock, hb, F, _, rfl⟩ := h
  exact ⟨es, clock, hb, F, by simp [Maps.size, length_sorted], rfl⟩
/-- 'm[k] = v'. -/
theorem MapAt.store (h : MapAt w P k b m N) (K : Keyed P k) (ht : P.underlying t = some (.map k e)) {z : Value} (hz : (zeroValue e).run P w = .ok z w) (hn : N < maxLen) {key val : Value} {kl : Lit} (hkey : keyOf P k key = some kl) :
    ∃ w', (Instr.mapUpdate t (.map (some b)) key val).run P w = .ok () w' ∧ MapAt w' P k b (mset m kl (some val)) (if (m kl).isSome then N else N + 1) ∧ w.grownBy w' (some b) ∧ w'.heap.size = w.heap.size := by
  obtain ⟨D, h, rfl, hm⟩ := h
  have hhas := (mview_eq h K ht hz false hkey).2
  obtain ⟨w', hrun, hown, hturn⟩ := h.store (val := val) K ht hn hkey rfl
  refine ⟨w', hrun, ⟨D.put kl (.held val), ?_, ?_, ?_⟩, hturn.grown, ?_⟩
  · have := own_tight hown
    rw [Maps.size_put (h.tidy K), hhas, hm] at this
    exact this
  · rw [Maps.size_put (h.tidy K), hhas, hm]
  · intro x
    by_cases hx : x = kl
    · subst hx
      rw [mset_same (K.key hkey)]
      unfold mview
      rw [Maps.atKey_put_same h.isMap (K.key hkey)]
    · rw [mset_other hx, ← hm]
      unfold mview
      rw [Maps.atKey_put_other hx]
  · obtain ⟨es, clock, es', clock', _, rfl⟩ := hturn
    simp [setBlock]
/-- 'delete(m, k)'. -/
theorem MapAt.drop (h : MapAt w P k b m N) (K : Keyed P k) (ht : P.underlying t = some (.map k e)) {z : Value} (hz : (zeroValue e).run P w = .ok z w) {key : Value} {kl : Lit} (hkey : keyOf P k key = some kl) (ty : TypeId) :
    ∃ w', (Builtin.delete_ #[t, k] ty #[.map (some b), key]).run P w = .ok (.tuple #[]) w' ∧ MapAt w' P k b (mset m kl none) (if (m kl).isSome then N - 1 else N) ∧ w.grownBy w' (some b) ∧ w'.heap.size = w.heap.size := by
  obtain ⟨D, h, rfl, hm⟩ := h
  have hhas := (mview_eq h K ht hz false hkey).2
  obtain ⟨w', hrun, hown, hturn⟩ := h.drop K ht hkey ty
  have hsz : Maps.size (D.del kl) = if (m kl).isSome then Maps.size D - 1 else Maps.size D := by
    have := Maps.size_del (k := kl) (h.tidy K)
    rw [hhas, hm] at this
    split <;> simp_all <;> omega
  refine ⟨w', hrun, ⟨D.del kl, ?_, hsz, ?_⟩, hturn.grown, ?_⟩
  · rw [← hsz]
    exact own_tight hown
  · intro x
    by_cases hx : x = kl
    · subst hx
      rw [mset_same (K.key hkey)]
      unfold mview
      rw [Maps.atKey_of_not_has Maps.has_del_same]
    · rw [mset_other hx, ← hm]
      unfold mview
      by_cases hh : Maps.has D x = true
      · rw [Maps.atKey_del_other hx]
      · have h1 : Maps.has D x = false := by simpa using hh
        rw [Maps.atKey_of_not_has h1, Maps.atKey_of_not_has (by rw [Maps.has_del_other hx]; exact h1)]
  · obtain ⟨es, clock, es', clock', _, rfl⟩ := hturn
    simp [setBlock]
end
/-- 'm[k] = v' at the operation. -/
theorem wpList_store_map {P : Program} (w : World) {ops : Array Oper} {rest : List Oper} {o : Oper} {a : Act} {Q : Exit → Act → World → Prop}
    (hg : o.guard = none) (mm x v : Operand) (t : TypeId) (hop : o.op = Op.mapUpdate t mm x v)
    (k e : TypeId) (K : Keyed P k) (ht : P.underlying t = some (.map k e)) (z : Value) (hz : (zeroValue e).run P w = .ok z w) (b N : Nat) (m : Lit → Option Value)
    (hm : a.eval mm = .map (some b)) (hown : MapAt w P k b m N) (hn : N < maxLen) (key val : Value) (kl : Lit) (hx : a.eval x = key) (hv : a.eval v = val) (hkey : keyOf P k key = some kl)
    (hK : ∀ w', MapAt w' P k b (mset m kl (some val)) (if (m kl).isSome then N else N + 1) → w.grownBy w' (some b) → w'.heap.size = w.heap.size → wpList P ops Q rest (a.put o.dst undef) w') :
    wpList P ops Q (o :: rest) a w := by
  refine wpList_plain hg fun K' hK' => ?_
  obtain ⟨w', hrun, r1, r2, r3⟩ := hown.store K ht hz hn hkey
  unfold Oper.wp
  simp [execOp, hop, hm, hx, hv, Result.andThen]
  rw [hrun]
  exact hK' _ _ (hK w' r1 r2 r3)
/-- 'delete(m, k)' at the operation. -/
theorem wpList_drop_map {P : Program} (w : World) {ops : Array Oper} {rest : List Oper} {o : Oper} {a : Act} {Q : Exit → Act → World → Prop}
    (hg : o.guard = none) (mm x : Operand) (t k : TypeId) (hop : o.op = Op.call { callee := Callee.builtin Builtin.delete, args := #[mm, x], argTypes := #[t, k] })
    (e : TypeId) (K : Keyed P k) (ht : P.underlying t = some (.map k e)) (z : Value) (hz : (zeroValue e).run P w = .ok z w) (b N : Nat) (m : Lit → Option Value)
    (hm : a.eval mm = .map (some b)) (hown : MapAt w P k b m N) (key : Value) (kl : Lit) (hx : a.eval x = key) (hkey : keyOf P k key = some kl)
    (hK : ∀ w', MapAt w' P k b (mset m kl none) (if (m kl).isSome then N - 1 else N) → w.grownBy w' (some b) → w'.heap.size = w.heap.size → wpList P ops Q rest (a.put o.dst (.tuple #[])) w') :
    wpList P ops Q (o :: rest) a w := by
  refine wpList_plain hg fun K' hK' => ?_
  obtain ⟨w', hrun, r1, r2, r3⟩ := hown.drop K ht hz hkey o.type
  unfold Oper.wp
  simp [execOp, resolve, invoke, builtin, hop, hm, hx, hrun, Result.andThen]
  exact hK' _ _ (hK w' r1 r2 r3)
/-- A look-up at the operation. -/
theorem wpList_look_map {P : Program} (w : World) {ops : Array Oper} {rest : List Oper} {o : Oper} {a : Act} {Q : Exit → Act → World → Prop}
    (hg : o.guard = none) (mm x : Operand) (t : TypeId) (c : Bool) (hop : o.op = Op.lookup t mm x c)
    (k e : TypeId) (K : Keyed P k) (ht : P.underlying t = some (.map k e)) (z : Value) (hz : (zeroValue e).run P w = .ok z w) (b N : Nat) (m : Lit → Option Value)
    (hm : a.eval mm = .map (some b)) (hown : MapAt w P k b m N) (key : Value) (kl : Lit) (hx : a.eval x = key) (hkey : keyOf P k key = some kl)
    (r : Value) (hr : (if c then .tuple #[(m kl).getD z, .bool (m kl).isSome] else (m kl).getD z) = r)
    (hK : wpList P ops Q rest (a.put o.dst r) w) :
    wpList P ops Q (o :: rest) a w := by
  refine wpList_plain hg fun K' hK' => ?_
  have hrun := hown.look K ht hz c hkey
  rw [hr] at hrun
  unfold Oper.wp
  simp [execOp, hop, hm, hx, hrun, Result.andThen]
  exact hK' _ _ hK
end Go.Proofs.Yteimgebfbnmdcaa
