/- Plain facts on the ring: places, and the point that is met first. No Go in sight. -/
namespace Go.Proofs.YtobehjlejlaeeaaDoor.Mt

def mixB (h b : Nat) : Nat := (h ^^^ b) * 16777619 % 4294967296
def fold (h : Nat) (l : List UInt8) : Nat := l.foldl (fun h b => mixB h b.toNat) h
def start : Nat := 2166136261
def fnv (l : List UInt8) : Nat := fold start l
def mulm (h m : Nat) : Nat := h * m % 4294967296
def sh (h d : Nat) : Nat := h ^^^ (h / d)
def fin (h : Nat) : Nat := sh (mulm (sh (mulm (sh h 65536) 2246822507) 8192) 3266489909) 65536
def hash (s : ByteArray) : Nat := fin (fnv s.data.toList)
theorem mixB_lt (h b : Nat) : mixB h b < 4294967296 := by
  unfold mixB
  omega
theorem mulm_lt (h b : Nat) : mulm h b < 4294967296 := by
  unfold mulm
  omega
theorem sh_lt (h d : Nat) (hh : h < 4294967296) : sh h d < 4294967296 := by
  unfold sh
  exact Nat.xor_lt_two_pow (n := 32) hh (Nat.lt_of_le_of_lt (Nat.div_le_self _ _) hh)
theorem fold_lt (l : List UInt8) : ∀ h : Nat, h < 4294967296 → fold h l < 4294967296 := by
  induction l with
  | nil => exact fun h hh => hh
  | cons x l ih =>
    intro h _
    exact ih _ (mixB_lt _ _)
theorem start_lt : start < 4294967296 := by
  unfold start
  omega
theorem fnv_lt (l : List UInt8) : fnv l < 4294967296 := by
  unfold fnv
  exact fold_lt l _ start_lt
theorem fold_snoc (h : Nat) (l : List UInt8) (b : UInt8) : fold h (l ++ [b]) = mixB (fold h l) b.toNat := by
  unfold fold
  rw [List.foldl_append, List.foldl_cons, List.foldl_nil]
theorem fnv_snoc (l : List UInt8) (b : UInt8) : fnv (l ++ [b]) = mixB (fnv l) b.toNat := fold_snoc _ _ _
theorem take_snoc (s : ByteArray) (k : Nat) (h : k < s.size) : s.data.toList.take (k + 1) = s.data.toList.take k ++ [s[k]] := by
  rw [List.take_succ_eq_append_getElem (by simpa using h)]; rfl
theorem fnv_take (s : ByteArray) (k : Nat) (h : k < s.size) : fnv (s.data.toList.take (k + 1)) = mixB (fnv (s.data.toList.take k)) s[k].toNat := by
  rw [take_snoc s k h, fnv_snoc]
theorem hash_lt (s : ByteArray) : hash s < 4294967296 := by
  unfold hash fin
  exact sh_lt _ _ (mulm_lt _ _)
/-- A number below 100 in digits. -/
def dec (n : Nat) : ByteArray := if n < 10 then ⟨#[UInt8.ofNat (48 + n)]⟩ else ⟨#[UInt8.ofNat (48 + n / 10), UInt8.ofNat (48 + n % 10)]⟩
theorem dec_size (n : Nat) : (dec n).size ≤ 2 := by
  unfold dec
  split
  · exact Nat.le_succ 1
  · exact Nat.le_refl 2
/-- Ways upwards round the ring, and the point that is met first. -/
def far (at_ x : Nat) : Nat := (x + 4294967296 - at_) % 4294967296
def pick (at_ : Nat) (f p : Nat × Nat) : Nat × Nat := if far at_ p.1 < far at_ f.1 then p else f
def firstOf (at_ : Nat) (f : Nat × Nat) (l : List (Nat × Nat)) : Nat × Nat := l.foldl (pick at_) f
def owner (at_ : Nat) (l : List (Nat × Nat)) : Nat := (firstOf at_ (l.headD (0, 0)) l).2
theorem firstOf_snoc (at_ : Nat) (f p : Nat × Nat) (l : List (Nat × Nat)) : firstOf at_ f (l ++ [p]) = pick at_ (firstOf at_ f l) p := by
  unfold firstOf
  rw [List.foldl_append, List.foldl_cons, List.foldl_nil]
theorem firstOf_take (at_ : Nat) (f p : Nat × Nat) (l : List (Nat × Nat)) (k : Nat) (h : l[k]? = some p) : firstOf at_ f (l.take (k + 1)) = pick at_ (firstOf at_ f (l.take k)) p := by
  obtain ⟨hk, he⟩ := List.getElem?_eq_some_iff.1 h
  rw [List.take_succ_eq_append_getElem hk, he, firstOf_snoc]
theorem firstOf_all (at_ : Nat) (Q : Nat × Nat → Prop) (l : List (Nat × Nat)) : ∀ f : Nat × Nat, Q f → (∀ p ∈ l, Q p) → Q (firstOf at_ f l) := by
  induction l with
  | nil => exact fun f hf _ => hf
  | cons p l ih =>
    intro f hf hl
    refine ih (pick at_ f p) ?_ (fun q hq => hl q (by simp [hq]))
    unfold pick
    split
    · exact hl p (by simp)
    · exact hf
def nodeText (n p : Nat) : ByteArray := ((⟨#[110, 111, 100, 101, 32]⟩ : ByteArray) ++ dec n ++ (⟨#[32, 112, 111, 105, 110, 116, 32]⟩ : ByteArray)) ++ dec p
def slotText (s : Nat) : ByteArray := (⟨#[115, 108, 111, 116, 32]⟩ : ByteArray) ++ dec s
def pt (n p : Nat) : Nat × Nat := (hash (nodeText n p), n)
def row (n points : Nat) : List (Nat × Nat) := (List.range points).map (pt n)
def pts (nodes points : Nat) : List (Nat × Nat) := (List.range nodes).flatMap (fun n => row n points)
theorem row_len (n points : Nat) : (row n points).length = points := by simp [row]
theorem row_succ (n k : Nat) : row n (k + 1) = row n k ++ [pt n k] := by simp [row, List.range_succ]
theorem pts_succ (n points : Nat) : pts (n + 1) points = pts n points ++ row n points := by simp [pts, List.range_succ]
theorem pts_len (n points : Nat) : (pts n points).length = n * points := by
  induction n with
  | zero => simp [pts]
  | succ n ih => rw [pts_succ, List.length_append, ih, row_len, Nat.succ_mul]
theorem pts_in {n points : Nat} {x : Nat × Nat} (h : x ∈ pts n points) : x.1 < 4294967296 ∧ x.2 < n := by
  simp only [pts, row, List.mem_flatMap, List.mem_map, List.mem_range] at h
  obtain ⟨m, hm, p, _, rfl⟩ := h
  exact ⟨hash_lt _, hm⟩
/-- Who owns a slot in the first table. -/
def own (nodes points s : Nat) : Nat := owner (hash (slotText s)) (pts nodes points)
def owns (nodes points : Nat) : List Int := (List.range 16).map (fun s => (own nodes points s : Int))
theorem own_lt {nodes points s : Nat} (h1 : 0 < nodes) (h2 : 0 < points) : own nodes points s < nodes := by
  have hl : (pts nodes points).length = nodes * points := pts_len _ _
  have hp : 0 < nodes * points := Nat.mul_pos h1 h2
  unfold own owner
  refine firstOf_all _ (fun q => q.2 < nodes) _ _ ?_ (fun q hq => (pts_in hq).2)
  cases hc : pts nodes points with
  | nil => rw [hc] at hl; simp at hl; omega
  | cons x l => exact (pts_in (by rw [hc]; simp)).2
def part (f : Nat → Int) (s : Nat) : List Int := (List.range 16).map (fun j => if j < s then f j else 0)
theorem part_len (f : Nat → Int) (s : Nat) : (part f s).length = 16 := by simp [part]
theorem part_set (f : Nat → Int) (s : Nat) : (part f s).set s (f s) = part f (s + 1) := by
  apply List.ext_getElem
  · simp [part]
  · intro j h1 h2
    rw [List.getElem_set]
    simp only [part, List.getElem_map, List.getElem_range]
    by_cases hj : s = j
    · subst hj
      simp
    · rw [if_neg hj]
      by_cases h3 : j < s
      · rw [if_pos h3, if_pos (by omega)]
      · rw [if_neg h3, if_neg (by omega)]
theorem part_all (nodes points : Nat) : part (fun j => (own nodes points j : Int)) 16 = owns nodes points := by
  unfold part owns
  apply List.map_congr_left
  intro j hj
  rw [List.mem_range] at hj
  rw [if_pos hj]
theorem part_none (f : Nat → Int) : part f 0 = List.replicate 16 0 := rfl
theorem owns_len (nodes points : Nat) : (owns nodes points).length = 16 := by simp [owns]
theorem owns_at (nodes points s : Nat) (h : s < 16) : (owns nodes points).getD s 0 = (own nodes points s : Int) := by
  simp [owns, List.getD, h]
/-- A slot given to another node. -/
def zeros : List Int := List.replicate 16 0
def move (e : Int) (o : List Int) (slot to : Int) : Int × List Int × Int :=
  if slot < 0 ∨ 15 < slot ∨ to < 0 ∨ 7 < to ∨ e < 0 ∨ 1125899906842623 < e then (0, zeros, 1)
  else if o.getD slot.toNat 0 = to then (0, zeros, 5) else (e + 1, o.set slot.toNat to, 0)
/-- The numbers below a bound that pass, rising. -/
def ups (f : Nat → Bool) (n : Nat) : List Nat := (List.range n).filter f
theorem ups_yes {f : Nat → Bool} {n : Nat} (h : f n = true) : ups f (n + 1) = ups f n ++ [n] := by simp [ups, List.range_succ, h]
theorem ups_no {f : Nat → Bool} {n : Nat} (h : f n = false) : ups f (n + 1) = ups f n := by simp [ups, List.range_succ, h]
theorem ups_len (f : Nat → Bool) (n : Nat) : (ups f n).length ≤ n := by
  have := List.length_filter_le f (List.range n)
  simpa [ups] using this
def other (a b : List Int) (s : Nat) : Bool := a.getD s 0 != b.getD s 0
def is (a : List Int) (x : Int) (s : Nat) : Bool := a.getD s 0 == x
end Go.Proofs.YtobehjlejlaeeaaDoor.Mt
