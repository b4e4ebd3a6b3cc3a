/- What continuing bytes come to. What is read is just what would be written. Plain lists. A message that was read, as one that came in. Decode of any bytes, also of none at an address of whatever kind. What cannot be read is told by a number above 0. -/
import Derived.Test.YteodldmbnghfcaaGreatCCuts
import Derived.Test.YteodldmbnghfcaaGreatCApart
namespace Go.Proofs.YteodldmbnghfcaaGreat
open Go.RowKit

namespace Vi
/-- What some continuing bytes come to. -/
def val : List Int → Nat
  | [] => 0
  | c :: r => c.toNat % 128 + 128 * val r
theorem val_snoc (l : List Int) (c : Int) : val (l ++ [c]) = val l + (c.toNat % 128) * 128 ^ l.length := by
  induction l with
  | nil => simp [val]
  | cons x l ih =>
    simp only [List.cons_append, val, ih, List.length_cons, Nat.pow_succ]
    rw [Nat.mul_add, Nat.add_assoc]
    congr 2
    rw [Nat.mul_comm 128, Nat.mul_assoc]
theorem vi_pre : ∀ (pre : List Int) (v : Nat), (∀ c ∈ pre, 128 ≤ c ∧ c < 256) → (v ≠ 0 ∨ pre = []) → vi (val pre + v * 128 ^ pre.length) = pre ++ vi v := by
  intro pre
  induction pre with
  | nil => intro v _ _; simp [val]
  | cons c r ih =>
    intro v hc hv
    have hv0 : v ≠ 0 := by rcases hv with h | h; exact h; cases h
    have hcc := hc c (by simp)
    have hr := ih v (fun x hx => hc x (List.mem_cons_of_mem _ hx)) (.inl hv0)
    have hpos : 0 < v * 128 ^ r.length := Nat.mul_pos (by omega) (Nat.pow_pos (by omega))
    have e : val (c :: r) + v * 128 ^ (c :: r).length = c.toNat % 128 + 128 * (val r + v * 128 ^ r.length) := by
      simp only [val, List.length_cons, Nat.pow_succ]
      rw [Nat.mul_add, Nat.add_assoc]
      congr 2
      rw [← Nat.mul_assoc, Nat.mul_comm]
    rw [e, vi_big _ (by omega)]
    have e1 : (c.toNat % 128 + 128 * (val r + v * 128 ^ r.length)) / 128 = val r + v * 128 ^ r.length := by omega
    have e2 : (((c.toNat % 128 + 128 * (val r + v * 128 ^ r.length)) % 128 + 128 : Nat) : Int) = c := by omega
    rw [e1, e2, hr]
    rfl
theorem val_lt : ∀ (pre : List Int), val pre < 128 ^ pre.length := by
  intro pre
  induction pre with
  | nil => simp [val]
  | cons c r ih =>
    simp only [val, List.length_cons, Nat.pow_succ]
    omega
theorem zig_unzig (u : Nat) : zig (unzig u) = u := by
  unfold zig unzig
  split
  · rw [if_pos (by omega)]; omega
  · rw [if_neg (by omega)]; omega
/-- The bytes of the number that was read are the bytes that were read, just if no byte is idle. -/
theorem canon {pre : List Int} {x : Int} (hc : ∀ c ∈ pre, 128 ≤ c ∧ c < 256) (hx : 0 ≤ x ∧ x < 128) : (int (unzig (val pre + x.toNat * 128 ^ pre.length)) = pre ++ [x]) ↔ ¬ (x = 0 ∧ 0 < pre.length) := by
  rw [int, zig_unzig]
  constructor
  · rintro h ⟨rfl, hp⟩
    have hl := val_lt pre
    have h1 : (vi (val pre + (0 : Int).toNat * 128 ^ pre.length)).length ≤ pre.length := by
      have := vi_length (pre.length - 1) (val pre) (by rw [Nat.sub_add_cancel hp]; exact hl)
      simpa [Nat.sub_add_cancel hp] using this
    rw [h] at h1
    simp at h1
    omega
  · intro h
    have hv : x.toNat ≠ 0 ∨ pre = [] := by
      by_cases h0 : x = 0
      · right
        exact List.eq_nil_of_length_eq_zero (by rcases Nat.eq_zero_or_pos pre.length with h1 | h1; exact h1; exact absurd ⟨h0, h1⟩ h)
      · left; omega
    rw [vi_pre pre x.toNat hc hv, vi_small _ (by omega)]
    congr 2
    omega
end Vi
end Go.Proofs.YteodldmbnghfcaaGreat

namespace Go.Proofs.YteodldmbnghfcaaGreat
open Go.RowKit

def Byt (xs : List Int) : Prop := ∀ x ∈ xs, 0 ≤ x ∧ x < 256
theorem Vi.get_inv : ∀ (l pre : List Int) (n : Int) (k : Nat), Byt l → (∀ c ∈ pre, 128 ≤ c ∧ c < 256) → Vi.get pre.length (Vi.val pre) l = (n, k, 0) → pre ++ l = Vi.int n ++ l.drop (k - pre.length) ∧ pre.length < k
  | [], pre, n, k, _, _, h => by simp [Vi.get] at h
  | x :: r, pre, n, k, hb, hp, h => by
    have hx := hb x (by simp)
    rw [Vi.get] at h
    by_cases h9 : pre.length = 9 ∧ 1 < x
    · rw [if_pos h9] at h
      simp at h
    rw [if_neg h9] at h
    by_cases hc : 128 ≤ x
    · rw [if_pos hc, show pre.length + 1 = (pre ++ [x]).length by simp, ← Vi.val_snoc] at h
      obtain ⟨h1, h2⟩ := get_inv r (pre ++ [x]) n k (fun y hy => hb y (List.mem_cons_of_mem _ hy)) (fun c h => by
        rcases List.mem_append.1 h with h | h
        · exact hp c h
        · obtain rfl : c = x := by simpa using h
          exact ⟨hc, hx.2⟩) h
      rw [List.length_append, List.length_singleton] at h1 h2
      refine ⟨?_, by omega⟩
      rw [List.append_assoc, List.singleton_append] at h1
      rw [h1, show k - pre.length = (k - (pre.length + 1)) + 1 by omega, List.drop_succ_cons]
    · rw [if_neg hc] at h
      by_cases h0 : x = 0 ∧ 0 < pre.length
      · rw [if_pos h0] at h
        simp at h
      rw [if_neg h0] at h
      simp only [Prod.mk.injEq, and_true] at h
      obtain ⟨rfl, rfl⟩ := h
      have := (Vi.canon hp (x := x) ⟨hx.1, by omega⟩).2 h0
      rw [this]
      refine ⟨?_, by omega⟩
      rw [show pre.length + 1 - pre.length = 1 by omega, List.append_assoc]
      rfl
/-- What is read by p is what f writes, and P. -/
def Iv {α : Type} (p : List Int → Except Int (α × List Int)) (f : α → List Int) (P : α → Prop) : Prop := ∀ xs x l, Byt xs → p xs = .ok (x, l) → xs = f x ++ l ∧ P x ∧ Byt l
theorem byt_tail {a b : List Int} (h : Byt (a ++ b)) : Byt b := fun x hx => h x (List.mem_append_right _ hx)
theorem byt_head {a b : List Int} (h : Byt (a ++ b)) : Byt a := fun x hx => h x (List.mem_append_left _ hx)
theorem Iv.of {α : Type} {p : List Int → Except Int (α × List Int)} {f : α → List Int} {P : α → Prop} (h : ∀ xs x l, Byt xs → p xs = .ok (x, l) → xs = f x ++ l ∧ P x) : Iv p f P := fun xs x l hb hp => by
  obtain ⟨h1, h2⟩ := h xs x l hb hp
  refine ⟨h1, h2, ?_⟩
  rw [h1] at hb
  exact byt_tail hb
theorem Iv.step {α β : Type} {p : List Int → Except Int (α × List Int)} {f : α → List Int} {P : α → Prop} {k : α → List Int → Except Int (β × List Int)} {xs l' : List Int} {y : β} (h : Iv p f P) (hb : Byt xs) (hk : rb (p xs) k = .ok (y, l')) :
    ∃ x l, xs = f x ++ l ∧ P x ∧ Byt l ∧ k x l = .ok (y, l') := by
  cases hp : p xs with
  | error c => rw [rb_bad hp] at hk; cases hk
  | ok q =>
    obtain ⟨x, l⟩ := q
    rw [rb_ok hp] at hk
    obtain ⟨h1, h2, h3⟩ := h xs x l hb hp
    exact ⟨x, l, h1, h2, h3, hk⟩
theorem iv_num : Iv rnum Vi.int In64 := Iv.of fun xs n l hb h => by
  rw [rnum] at h
  split at h
  · rename_i h0
    injection h with h
    injection h with h1 h2
    obtain ⟨g1, g2⟩ := Vi.get_inv xs [] (Vi.get 0 0 xs).1 (Vi.get 0 0 xs).2.1 hb (by simp) (by rw [← h0]; rfl)
    subst h1 h2
    exact ⟨by simpa using g1, (get_range xs 0 0 hb (by omega) (by simp)).1⟩
  · cases h
theorem iv_count (most : Int) : Iv (rcount most) Vi.int (fun n => 0 ≤ n ∧ n ≤ most) := Iv.of fun xs n l hb h => by
  have hr := rcount_range h
  refine ⟨?_, hr⟩
  rw [rcount] at h
  cases hp : rnum xs with
  | error c => rw [hp] at h; cases h
  | ok q =>
    obtain ⟨x, l2⟩ := q
    rw [hp] at h
    simp only at h
    split at h
    · cases h
    · injection h with h
      injection h with h1 h2
      subst h1 h2
      exact (iv_num xs _ _ hb hp).1
theorem iv_truth : Iv rtruth (fun d => [bit d]) (fun _ => True) := Iv.of fun xs d l hb h => by
  cases xs with
  | nil => cases h
  | cons x xs =>
    have hx := hb x (by simp)
    rw [rtruth] at h
    split at h
    · cases h
    · injection h with h
      injection h with h1 h2
      subst h1 h2
      refine ⟨?_, trivial⟩
      by_cases h1 : x = 1
      · subst h1; rfl
      · obtain rfl : x = 0 := by omega
        rfl
theorem bl_nums {l : List Int} (h : Byt l) : bl (strOfNums l) = l := by
  simp only [bl, strOfNums, List.map_map]
  conv => rhs; rw [← List.map_id l]
  refine List.map_congr_left fun x hx => ?_
  have := h x hx
  simp
  omega
def TextOk (t : List Int) : Prop := t.length ≤ 128 ∧ Byt t
theorem iv_text : Iv rtext (fun t => tx (strOfNums t)) TextOk := Iv.of fun xs t l hb h => by
  rw [rtext] at h
  cases hp : rcount 128 xs with
  | error c => rw [hp] at h; cases h
  | ok q =>
    obtain ⟨n, r⟩ := q
    rw [hp] at h
    simp only at h
    split at h
    · cases h
    · rename_i hl
      injection h with h
      injection h with h1 h2
      obtain ⟨g1, g2, g3⟩ := iv_count 128 xs n r hb hp
      subst h1 h2
      have hbt : Byt (r.take n.toNat) := fun x hx => g3 x (List.mem_of_mem_take hx)
      have hlen : (r.take n.toNat).length = n.toNat := by rw [List.length_take]; omega
      refine ⟨?_, by omega, hbt⟩
      rw [tx, bl_nums hbt, strOfNums_size, hlen, List.append_assoc, List.take_append_drop, show ((n.toNat : Nat) : Int) = n by omega]
      exact g1
def TxOk (t : Tx) : Prop := TextOk t.1 ∧ TextOk t.2.1 ∧ TextOk t.2.2
theorem iv_tuple : Iv rtuple (fun t => tup (strOfNums t.1) (strOfNums t.2.1) (strOfNums t.2.2)) TxOk := Iv.of fun xs t l hb h => by
  have e : rtuple xs = rb (rtext xs) fun a l => rb (rtext l) fun b l => rb (rtext l) fun c l => .ok ((a, b, c), l) := by
    unfold rtuple rb
    cases rtext xs with
    | error c => rfl
    | ok p =>
      simp only []
      cases rtext p.2 with
      | error c => rfl
      | ok p =>
        simp only []
        cases rtext p.2 with
        | error c => rfl
        | ok p => rfl
  rw [e] at h
  obtain ⟨a, l1, rfl, ha, hb, h⟩ := iv_text.step hb h
  obtain ⟨b, l2, rfl, hb', hb, h⟩ := iv_text.step hb h
  obtain ⟨c, l3, rfl, hc, hb, h⟩ := iv_text.step hb h
  injection h with h
  injection h with h1 h2
  subst h1 h2
  exact ⟨by simp [tup], ha, hb', hc⟩
def mutD (q : Bool × Tx) : Mut := ⟨q.1, strOfNums q.2.1, strOfNums q.2.2.1, strOfNums q.2.2.2⟩
def rowD (q : Tx × Int × Int) : RowD := ⟨strOfNums q.1.1, strOfNums q.1.2.1, strOfNums q.1.2.2, q.2.1, q.2.2⟩
theorem iv_flag : Iv rflag (fun q => mutB (mutD q)) (fun q => TxOk q.2) := Iv.of fun xs t l hb h => by
  have e : rflag xs = rb (rtruth xs) fun a l => rb (rtuple l) fun b l => .ok ((a, b), l) := by
    unfold rflag rb
    cases rtruth xs with
    | error c => rfl
    | ok p =>
      simp only []
      cases rtuple p.2 with
      | error c => rfl
      | ok p => rfl
  rw [e] at h
  obtain ⟨a, l1, rfl, ha, hb, h⟩ := iv_truth.step hb h
  obtain ⟨b, l2, rfl, hb', hb, h⟩ := iv_tuple.step hb h
  injection h with h
  injection h with h1 h2
  subst h1 h2
  exact ⟨by simp [mutB, mutD, flagged], hb'⟩
theorem iv_row : Iv rrow (fun q => rowOf (rowD q)) (fun q => TxOk q.1 ∧ In64 q.2.1 ∧ In64 q.2.2) := Iv.of fun xs t l hb h => by
  have e : rrow xs = rb (rtuple xs) fun a l => rb (rnum l) fun b l => rb (rnum l) fun c l => .ok ((a, b, c), l) := by
    unfold rrow rb
    cases rtuple xs with
    | error c => rfl
    | ok p =>
      simp only []
      cases rnum p.2 with
      | error c => rfl
      | ok p =>
        simp only []
        cases rnum p.2 with
        | error c => rfl
        | ok p => rfl
  rw [e] at h
  obtain ⟨a, l1, rfl, ha, hb, h⟩ := iv_tuple.step hb h
  obtain ⟨b, l2, rfl, hb', hb, h⟩ := iv_num.step hb h
  obtain ⟨c, l3, rfl, hc, hb, h⟩ := iv_num.step hb h
  injection h with h
  injection h with h1 h2
  subst h1 h2
  exact ⟨by simp [rowOf, rowD, rowB], ha, hb', hc⟩
theorem iv_rep {α : Type} {p : List Int → Except Int (α × List Int)} {f : α → List Int} {P : α → Prop} (h : Iv p f P) : ∀ n, Iv (rrep p n) (fun xs => (xs.map f).flatten) (fun xs => xs.length = n ∧ ∀ x ∈ xs, P x)
  | 0 => Iv.of fun xs t l hb h => by
    injection h with h
    injection h with h1 h2
    subst h1 h2
    exact ⟨rfl, rfl, by simp⟩
  | n + 1 => Iv.of fun xs t l hb hr => by
    have e : rrep p (n + 1) xs = rb (p xs) fun a l => rb (rrep p n l) fun b l => .ok (a :: b, l) := by
      rw [rrep]
      unfold rb
      cases p xs with
      | error c => rfl
      | ok q =>
        simp only []
        cases rrep p n q.2 with
        | error c => rfl
        | ok q => rfl
    rw [e] at hr
    obtain ⟨a, l1, rfl, ha, hb, hr⟩ := h.step hb hr
    obtain ⟨b, l2, rfl, hb', hb, hr⟩ := (iv_rep h n).step hb hr
    injection hr with hr
    injection hr with h1 h2
    subst h1 h2
    refine ⟨by simp, by simp [hb'.1], ?_⟩
    intro x hx
    rcases List.mem_cons.1 hx with rfl | hx
    · exact ha
    · exact hb'.2 x hx
theorem iv_lst {α : Type} {p : List Int → Except Int (α × List Int)} {f : α → List Int} {P : α → Prop} (h : Iv p f P) : Iv (rlst p) (lst f) (fun xs => xs.length ≤ 1024 ∧ ∀ x ∈ xs, P x) := Iv.of fun xs t l hb hr => by
  have e : rlst p xs = rb (rcount 1024 xs) fun n l => rrep p n.toNat l := by
    unfold rlst rb
    cases rcount 1024 xs with
    | error c => rfl
    | ok q => rfl
  rw [e] at hr
  obtain ⟨n, l1, rfl, hn, hb, hr⟩ := (iv_count 1024).step hb hr
  obtain ⟨h1, h2, h3⟩ := iv_rep h n.toNat l1 t l hb hr
  subst h1
  refine ⟨?_, by omega, h2.2⟩
  rw [lst, h2.1, show ((n.toNat : Nat) : Int) = n by omega, List.append_assoc]
/-- The message that was read, as one that came in. -/
def unR (m : MsgR) : MsgD := ⟨m.kind, m.frm, m.too, m.id, m.rev, m.epoch, m.slot, m.flag, m.nodes, m.muts.map mutD, m.pre.map mutD, m.rows.map rowD⟩
structure MsgR.fine (m : MsgR) : Prop where
  nums : In64 m.kind ∧ In64 m.frm ∧ In64 m.too ∧ In64 m.id ∧ In64 m.rev ∧ In64 m.epoch ∧ In64 m.slot
  nodes : m.nodes.length ≤ 1024 ∧ ∀ x ∈ m.nodes, In64 x
  muts : m.muts.length ≤ 1024 ∧ ∀ x ∈ m.muts, TxOk x.2
  pre : m.pre.length ≤ 1024 ∧ ∀ x ∈ m.pre, TxOk x.2
  rows : m.rows.length ≤ 1024 ∧ ∀ x ∈ m.rows, TxOk x.1 ∧ In64 x.2.1 ∧ In64 x.2.2
theorem tx_mut {q : Bool × Tx} (h : TxOk q.2) : (mutD q).ok := by
  obtain ⟨h1, h2, h3⟩ := h
  exact ⟨by rw [mutD, strOfNums_size]; exact h1.1, by rw [mutD, strOfNums_size]; exact h2.1, by rw [mutD, strOfNums_size]; exact h3.1⟩
theorem tx_row {q : Tx × Int × Int} (h : TxOk q.1) : (rowD q).ok := by
  obtain ⟨h1, h2, h3⟩ := h
  exact ⟨by rw [rowD, strOfNums_size]; exact h1.1, by rw [rowD, strOfNums_size]; exact h2.1, by rw [rowD, strOfNums_size]; exact h3.1⟩
theorem MsgR.fine.ok {m : MsgR} (h : m.fine) : (unR m).ok := by
  refine ⟨h.nodes.1, ⟨by simpa [unR] using h.muts.1, ?_⟩, ⟨by simpa [unR] using h.pre.1, ?_⟩, ⟨by simpa [unR] using h.rows.1, ?_⟩⟩
  · intro x hx
    obtain ⟨q, hq, rfl⟩ := List.mem_map.1 hx
    exact tx_mut (h.muts.2 q hq)
  · intro x hx
    obtain ⟨q, hq, rfl⟩ := List.mem_map.1 hx
    exact tx_mut (h.pre.2 q hq)
  · intro x hx
    obtain ⟨q, hq, rfl⟩ := List.mem_map.1 hx
    exact tx_row (h.rows.2 q hq).1
theorem MsgR.fine.in64 {m : MsgR} (h : m.fine) : (unR m).in64 := by
  obtain ⟨⟨h0, h1, h2, h3, h4, h5, h6⟩, h8, _, _, h11⟩ := h
  refine ⟨h0, h1, h2, h3, h4, h5, h6, h8.2, ?_⟩
  intro x hx
  obtain ⟨q, hq, rfl⟩ := List.mem_map.1 hx
  exact (h11.2 q hq).2
theorem lst_map {α β : Type} (f : β → List Int) (g : α → β) (l : List α) : lst f (l.map g) = lst (fun x => f (g x)) l := by
  simp only [lst, List.length_map, List.map_map]
  rfl
theorem iv_msg : Iv rmsg (fun m => enc (unR m)) MsgR.fine := Iv.of fun xs t l hb h => by
  obtain ⟨a0, l0, rfl, p0, hb, h⟩ := iv_num.step hb h
  obtain ⟨a1, l1, rfl, p1, hb, h⟩ := iv_num.step hb h
  obtain ⟨a2, l2, rfl, p2, hb, h⟩ := iv_num.step hb h
  obtain ⟨a3, l3, rfl, p3, hb, h⟩ := iv_num.step hb h
  obtain ⟨a4, l4, rfl, p4, hb, h⟩ := iv_num.step hb h
  obtain ⟨a5, l5, rfl, p5, hb, h⟩ := iv_num.step hb h
  obtain ⟨a6, l6, rfl, p6, hb, h⟩ := iv_num.step hb h
  obtain ⟨a7, l7, rfl, p7, hb, h⟩ := iv_truth.step hb h
  obtain ⟨a8, l8, rfl, p8, hb, h⟩ := (iv_lst iv_num).step hb h
  obtain ⟨a9, l9, rfl, p9, hb, h⟩ := (iv_lst iv_flag).step hb h
  obtain ⟨a10, l10, rfl, p10, hb, h⟩ := (iv_lst iv_flag).step hb h
  obtain ⟨a11, l11, rfl, p11, hb, h⟩ := (iv_lst iv_row).step hb h
  injection h with h
  injection h with h1 h2
  subst h1 h2
  refine ⟨?_, ⟨⟨p0, p1, p2, p3, p4, p5, p6⟩, p8, p9, p10, p11⟩⟩
  simp only [enc, unR, lst_map, List.append_assoc]
theorem dec_inv {xs : List Int} {m : MsgR} (hb : Byt xs) (h : dec xs = .ok m) : xs = enc (unR m) ∧ m.fine ∧ xs.length ≤ 16384 := by
  rw [dec] at h
  split at h
  · cases h
  rename_i hl
  cases hp : rmsg xs with
  | error c => rw [hp] at h; cases h
  | ok q =>
    obtain ⟨x, l⟩ := q
    rw [hp] at h
    simp only at h
    split at h
    · rename_i h0
      injection h with h
      subst h h0
      obtain ⟨h1, h2, _⟩ := iv_msg xs x [] hb hp
      exact ⟨by simpa using h1, h2, by omega⟩
    · cases h
end Go.Proofs.YteodldmbnghfcaaGreat

namespace Go.Proofs.YteodldmbnghfcaaGreat
open Go.RowKit

theorem flat_at {α : Type} {f : α → List Value} {k : Nat} (hf : ∀ x, (f x).length = k) : ∀ (l : List α) (i j : Nat) (x : α), l[i]? = some x → j < k → (l.flatMap f)[i * k + j]? = (f x)[j]?
  | [], i, j, x, h, _ => by simp at h
  | y :: r, 0, j, x, h, hj => by
    obtain rfl : y = x := by simpa using h
    rw [List.flatMap_cons, Nat.zero_mul, Nat.zero_add, List.getElem?_append_left (by rw [hf]; exact hj)]
  | y :: r, i + 1, j, x, h, hj => by
    rw [List.flatMap_cons, List.getElem?_append_right (by rw [hf, Nat.succ_mul]; omega), hf, show (i + 1) * k + j - k = i * k + j by rw [Nat.succ_mul]; omega]
    exact flat_at hf r i j x (by simpa using h) hj
theorem own_cases {w : World} {base n s : Nat} {e : TypeId} {v : Value} {l : List Value} (h : w.ownsRow base e s v n l) : (v = .slice none 0 0 ∧ n = 0) ∨ ∃ g c, v = .slice (some ⟨g, 0, none⟩) n c ∧ c ≤ maxLen ∧ n ≤ c ∧ g < w.heap.size ∧ ∀ j u, l[j]? = some u → w.cell? ⟨g, j, none⟩ = some u := by
  rcases h.2 with h2 | ⟨g, cap, cur, rfl, h3, h4, h5, h6, _⟩
  · exact .inl h2
  · refine .inr ⟨g, cap, rfl, h6, h5, (h.lt g rfl).2, fun j u hu => ?_⟩
    have := h.cells (g := g) rfl j u hu
    rwa [add_plain, Nat.zero_add] at this
theorem own_ints {w : World} {base : Nat} {v : Value} {l : List Int} (h : w.ownsRow base 3 1 v l.length (l.map (Value.int .i64))) (hl : ∀ x ∈ l, In64 x) :
    ∃ a n c, v = .slice a n c ∧ IntsAt w w.heap.size a n l ∧ n ≤ 9223372036854775807 := by
  rcases own_cases h with ⟨rfl, h0⟩ | ⟨g, c, rfl, hc, hn, hg, hcell⟩
  · exact ⟨none, 0, 0, rfl, ⟨h0, .inl rfl⟩, by omega⟩
  · unfold maxLen at hc
    refine ⟨_, _, _, rfl, ⟨rfl, .inr ⟨g, 0, rfl, hg, fun i z hz => ⟨?_, hl z (List.mem_of_getElem? hz)⟩⟩⟩, by omega⟩
    rw [Nat.zero_add]
    exact hcell i _ (by rw [List.getElem?_map, hz]; rfl)
theorem own_muts {w : World} {base : Nat} {v : Value} {e : TypeId} {l : List (Bool × Tx)} (h : w.ownsRow base e 4 v l.length (l.flatMap flagC)) (hl : ∀ x ∈ l, TxOk x.2) :
    ∃ a n c, v = .slice a n c ∧ MutsAt w w.heap.size a n (l.map mutD) ∧ n ≤ 9223372036854775807 := by
  rcases own_cases h with ⟨rfl, h0⟩ | ⟨g, c, rfl, hc, hn, hg, hcell⟩
  · exact ⟨none, 0, 0, rfl, ⟨by simpa using h0, .inl rfl⟩, by omega⟩
  · unfold maxLen at hc
    refine ⟨_, _, _, rfl, ⟨by simp, .inr ⟨g, 0, rfl, hg, fun i z hz => ?_⟩⟩, by omega⟩
    rw [List.getElem?_map] at hz
    obtain ⟨q, hq, rfl⟩ := Option.map_eq_some_iff.1 hz
    have hf : ∀ j, j < 4 → (l.flatMap flagC)[i * 4 + j]? = (flagC q)[j]? := fun j hj => flat_at (f := flagC) (k := 4) (fun _ => rfl) l i j q hq hj
    obtain ⟨h1, h2, h3⟩ := tx_mut (hl q (List.mem_of_getElem? hq))
    rw [Nat.zero_add]
    exact ⟨hcell (i * 4) _ (hf 0 (by omega)), hcell (i * 4 + 1) _ (hf 1 (by omega)), hcell (i * 4 + 2) _ (hf 2 (by omega)), hcell (i * 4 + 3) _ (hf 3 (by omega)), by omega, by omega, by omega⟩
theorem own_rows {w : World} {base : Nat} {v : Value} {e : TypeId} {l : List (Tx × Int × Int)} (h : w.ownsRow base e 5 v l.length (l.flatMap rowC)) (hl : ∀ x ∈ l, TxOk x.1 ∧ In64 x.2.1 ∧ In64 x.2.2) :
    ∃ a n c, v = .slice a n c ∧ RowsAt w w.heap.size a n (l.map rowD) ∧ n ≤ 9223372036854775807 := by
  rcases own_cases h with ⟨rfl, h0⟩ | ⟨g, c, rfl, hc, hn, hg, hcell⟩
  · exact ⟨none, 0, 0, rfl, ⟨by simpa using h0, .inl rfl⟩, by omega⟩
  · unfold maxLen at hc
    refine ⟨_, _, _, rfl, ⟨by simp, .inr ⟨g, 0, rfl, hg, fun i z hz => ?_⟩⟩, by omega⟩
    rw [List.getElem?_map] at hz
    obtain ⟨q, hq, rfl⟩ := Option.map_eq_some_iff.1 hz
    have hf : ∀ j, j < 5 → (l.flatMap rowC)[i * 5 + j]? = (rowC q)[j]? := fun j hj => flat_at (f := rowC) (k := 5) (fun _ => rfl) l i j q hq hj
    have hq2 := hl q (List.mem_of_getElem? hq)
    obtain ⟨h1, h2, h3⟩ := tx_row hq2.1
    rw [Nat.zero_add]
    exact ⟨hcell (i * 5) _ (hf 0 (by omega)), hcell (i * 5 + 1) _ (hf 1 (by omega)), hcell (i * 5 + 2) _ (hf 2 (by omega)), hcell (i * 5 + 3) _ (hf 3 (by omega)), hcell (i * 5 + 4) _ (hf 4 (by omega)), by omega, by omega, by omega, hq2.2.1, hq2.2.2⟩
theorem own_in {w : World} {base : Nat} {m : MsgR} {v8 v9 v10 v11 : Value} (h : MOwn w base m v8 v9 v10 v11) (hf : m.fine) : MsgIn w (.agg (msgC m v8 v9 v10 v11)) (unR m) := by
  obtain ⟨a8, n8, c8, rfl, h8, l8⟩ := own_ints h.nodes hf.nodes.2
  obtain ⟨a9, n9, c9, rfl, h9, l9⟩ := own_muts h.muts hf.muts.2
  obtain ⟨a10, n10, c10, rfl, h10, l10⟩ := own_muts h.pre hf.pre.2
  obtain ⟨a11, n11, c11, rfl, h11, l11⟩ := own_rows h.rows hf.rows.2
  obtain ⟨p0, p1, p2, p3, p4, p5, p6⟩ := hf.nums
  exact ⟨a8, a9, a10, a11, n8, c8, n9, c9, n10, c10, n11, c11, ⟨rfl, p0, p1, p2, p3, p4, p5, p6, h8, h9, h10, h11, l8, l9, l10, l11⟩⟩
def zeroD : MsgD := ⟨0, 0, 0, 0, 0, 0, 0, false, [], [], [], []⟩
theorem in0 : In64 0 := ⟨by decide, by decide⟩
theorem zero_in (w : World) : MsgIn w (.agg MsgZ) zeroD :=
  ⟨none, none, none, none, 0, 0, 0, 0, 0, 0, 0, 0, ⟨rfl, in0, in0, in0, in0, in0, in0, in0, ⟨rfl, .inl rfl⟩, ⟨rfl, .inl rfl⟩, ⟨rfl, .inl rfl⟩, ⟨rfl, .inl rfl⟩, by omega, by omega, by omega, by omega⟩⟩
/-- What was written and is read again is the message. -/
theorem unR_toR {m : MsgD} : unR (toR m) = m := by
  have hs : ∀ a : ByteArray, strOfNums (bl a) = a := fun a => by
    apply bl_inj
    exact bl_nums (bl_byte a)
  obtain ⟨x0, x1, x2, x3, x4, x5, x6, x7, x8, x9, x10, x11⟩ := m
  have hm : ∀ l : List Mut, (l.map mutR).map mutD = l := fun l => by
    rw [List.map_map]
    conv => rhs; rw [← List.map_id l]
    refine List.map_congr_left fun x _ => ?_
    simp [mutR, mutD, txs, hs]
  have hr : ∀ l : List RowD, (l.map rowR).map rowD = l := fun l => by
    rw [List.map_map]
    conv => rhs; rw [← List.map_id l]
    refine List.map_congr_left fun x _ => ?_
    simp [rowR, rowD, txs, hs]
  simp only [unR, toR, hm, hr]
theorem toR_fine {m : MsgD} (ok : m.ok) (h : m.in64) : (toR m).fine := by
  have ht : ∀ a b c : ByteArray, a.size ≤ 128 → b.size ≤ 128 → c.size ≤ 128 → TxOk (txs a b c) := fun a b c h1 h2 h3 => ⟨⟨by rw [txs, bl_length]; exact h1, bl_byte a⟩, ⟨by rw [txs, bl_length]; exact h2, bl_byte b⟩, ⟨by rw [txs, bl_length]; exact h3, bl_byte c⟩⟩
  refine ⟨⟨h.kind, h.from_, h.too, h.id, h.rev, h.epoch, h.slot⟩, ⟨ok.nodes, h.nodes⟩, ⟨by simpa [toR] using ok.muts.1, ?_⟩, ⟨by simpa [toR] using ok.pre.1, ?_⟩, ⟨by simpa [toR] using ok.rows.1, ?_⟩⟩
  · intro x hx
    obtain ⟨q, hq, rfl⟩ := List.mem_map.1 hx
    obtain ⟨h1, h2, h3⟩ := ok.muts.2 q hq
    exact ht _ _ _ h1 h2 h3
  · intro x hx
    obtain ⟨q, hq, rfl⟩ := List.mem_map.1 hx
    obtain ⟨h1, h2, h3⟩ := ok.pre.2 q hq
    exact ht _ _ _ h1 h2 h3
  · intro x hx
    obtain ⟨q, hq, rfl⟩ := List.mem_map.1 hx
    obtain ⟨h1, h2, h3⟩ := ok.rows.2 q hq
    exact ⟨ht _ _ _ h1 h2 h3, (h.rows q hq).1, (h.rows q hq).2⟩
/-- What a call of Decode comes to, in one word: the message, as one that came in, or the error. -/
def DMsg (w : World) (r : Except Int MsgR) (e : Ending) (w' : World) : Prop :=
  ∃ V d c, e = .returned (.tuple #[V, .int .i64 c]) ∧ MsgIn w' V d ∧ Below w.heap.size w w' ∧ ((∃ m, r = .ok m ∧ d = unR m ∧ c = 0) ∨ (r = .error c ∧ d = zeroD))
theorem dmsg_of {w : World} {r : Except Int MsgR} {e : Ending} {w' : World} (h : DDone w r e w') (hf : ∀ m, r = .ok m → m.fine) : DMsg w r e w' := by
  rcases h with ⟨m, v8, v9, v10, v11, hm, rfl, hO, hb⟩ | ⟨c, hm, rfl, hb⟩
  · exact ⟨_, _, _, rfl, own_in hO (hf m hm), hb, .inl ⟨m, hm, rfl, rfl⟩⟩
  · exact ⟨_, _, _, rfl, zero_in _, hb, .inr ⟨hm, rfl⟩⟩
end Go.Proofs.YteodldmbnghfcaaGreat

namespace Go.Proofs.YteodldmbnghfcaaGreat
open Go.RowKit

set_option maxRecDepth 100000 in
set_option maxHeartbeats 1000000 in
theorem decode_of (a : Option Addr) (n c : Nat) (w : World) (xs : List Int) (hn : xs.length = n) (hl : ¬ 16384 < n) (hM : Calls Tryz.prog 74 #[.pointer (some ⟨w.heap.size + 1 + 1, 0, none⟩)] (decW w (.slice a n c)) (MDone (decW w (.slice a n c)) w.heap.size (w.heap.size + 1 + 1) (rmsg xs))) :
    Calls Tryz.prog 64 #[.slice a n c] w (DDone w (dec xs)) := by
  have hmf : ∀ (fn : Fn) (first cap : Array Value) (w : World), (Instr.makeFunc fn first cap).run Tryz.prog w = .ok (.func fn first cap) w := fun _ _ _ _ => rfl
  have HM := Lib.hid hM
  clear hM
  have hd : dec xs = match rmsg xs with
    | .error c => .error c
    | .ok (m, ys) => if ys = [] then .ok m else .error 21 := by rw [dec, if_neg (by omega)]; rfl
  have HD := Lib.hid hd
  clear hd
  go_enter_defers Tryz.func64, Tryz.ntmps64
  go_wp2_with fail
  refine (show Calls Tryz.prog 74 #[.pointer (some ⟨w.heap.size + 1 + 1, 0, none⟩)] (decW w (.slice a n c)) _ from HM.out).mono ?_
  rintro e w1 (⟨m, ys, u, v8, v9, v10, v11, hr, rfl, hO, hA, hF⟩ | ⟨cd, hr, rfl, hF⟩)
  · obtain ⟨p8, q8, rfl, _, _⟩ := owned_any hO.nodes
    obtain ⟨p9, q9, rfl, _, _⟩ := owned_some hO.muts
    obtain ⟨p10, q10, rfl, _, _⟩ := owned_some hO.pre
    obtain ⟨p11, q11, rfl, _, _⟩ := owned_some hO.rows
    obtain ⟨hp, hq, _⟩ := decW_at w (.slice a n c)
    have hp1 := hF.whole hp (by omega)
    have hq1 := hF.whole hq (by omega)
    have k0 : w1.cell? ⟨w.heap.size, 0, none⟩ = some (.int .i64 0) := by rw [hp1.cell]; rfl
    have z0 : w1.frozen? ⟨w.heap.size, 0, none⟩ = false := hp1.free 0
    have k1 : w1.cell? ⟨w.heap.size, 1, none⟩ = some (.int .i64 0) := by rw [hp1.cell]; rfl
    have z1 : w1.frozen? ⟨w.heap.size, 1, none⟩ = false := hp1.free 1
    have k2 : w1.cell? ⟨w.heap.size, 2, none⟩ = some (.int .i64 0) := by rw [hp1.cell]; rfl
    have z2 : w1.frozen? ⟨w.heap.size, 2, none⟩ = false := hp1.free 2
    have k3 : w1.cell? ⟨w.heap.size, 3, none⟩ = some (.int .i64 0) := by rw [hp1.cell]; rfl
    have z3 : w1.frozen? ⟨w.heap.size, 3, none⟩ = false := hp1.free 3
    have k4 : w1.cell? ⟨w.heap.size, 4, none⟩ = some (.int .i64 0) := by rw [hp1.cell]; rfl
    have z4 : w1.frozen? ⟨w.heap.size, 4, none⟩ = false := hp1.free 4
    have k5 : w1.cell? ⟨w.heap.size, 5, none⟩ = some (.int .i64 0) := by rw [hp1.cell]; rfl
    have z5 : w1.frozen? ⟨w.heap.size, 5, none⟩ = false := hp1.free 5
    have k6 : w1.cell? ⟨w.heap.size, 6, none⟩ = some (.int .i64 0) := by rw [hp1.cell]; rfl
    have z6 : w1.frozen? ⟨w.heap.size, 6, none⟩ = false := hp1.free 6
    have k7 : w1.cell? ⟨w.heap.size, 7, none⟩ = some (.bool false) := by rw [hp1.cell]; rfl
    have z7 : w1.frozen? ⟨w.heap.size, 7, none⟩ = false := hp1.free 7
    have k8 : w1.cell? ⟨w.heap.size, 8, none⟩ = some (.slice none 0 0) := by rw [hp1.cell]; rfl
    have z8 : w1.frozen? ⟨w.heap.size, 8, none⟩ = false := hp1.free 8
    have k9 : w1.cell? ⟨w.heap.size, 9, none⟩ = some (.slice none 0 0) := by rw [hp1.cell]; rfl
    have z9 : w1.frozen? ⟨w.heap.size, 9, none⟩ = false := hp1.free 9
    have k10 : w1.cell? ⟨w.heap.size, 10, none⟩ = some (.slice none 0 0) := by rw [hp1.cell]; rfl
    have z10 : w1.frozen? ⟨w.heap.size, 10, none⟩ = false := hp1.free 10
    have k11 : w1.cell? ⟨w.heap.size, 11, none⟩ = some (.slice none 0 0) := by rw [hp1.cell]; rfl
    have z11 : w1.frozen? ⟨w.heap.size, 11, none⟩ = false := hp1.free 11
    have hP := twelve_store hp1 (.int .i64 m.kind) (.int .i64 m.frm) (.int .i64 m.too) (.int .i64 m.id) (.int .i64 m.rev) (.int .i64 m.epoch) (.int .i64 m.slot) (.bool m.flag) (.slice p8 m.nodes.length q8) (.slice p9 m.muts.length q9) (.slice p10 m.pre.length q10) (.slice p11 m.rows.length q11)
    have hQ := twelve_whole hq1 (show w.heap.size + 1 ≠ w.heap.size by omega) (.int .i64 m.kind) (.int .i64 m.frm) (.int .i64 m.too) (.int .i64 m.id) (.int .i64 m.rev) (.int .i64 m.epoch) (.int .i64 m.slot) (.bool m.flag) (.slice p8 m.nodes.length q8) (.slice p9 m.muts.length q9) (.slice p10 m.pre.length q10) (.slice p11 m.rows.length q11)
    have hR := twelve_whole hA.blk (show w.heap.size + 1 + 1 ≠ w.heap.size by omega) (.int .i64 m.kind) (.int .i64 m.frm) (.int .i64 m.too) (.int .i64 m.id) (.int .i64 m.rev) (.int .i64 m.epoch) (.int .i64 m.slot) (.bool m.flag) (.slice p8 m.nodes.length q8) (.slice p9 m.muts.length q9) (.slice p10 m.pre.length q10) (.slice p11 m.rows.length q11)
    have hB := twelve_below (decW_rf hF) (Nat.le_refl _) (.int .i64 m.kind) (.int .i64 m.frm) (.int .i64 m.too) (.int .i64 m.id) (.int .i64 m.rev) (.int .i64 m.epoch) (.int .i64 m.slot) (.bool m.flag) (.slice p8 m.nodes.length q8) (.slice p9 m.muts.length q9) (.slice p10 m.pre.length q10) (.slice p11 m.rows.length q11)
    have hsz : w.heap.size < (decW w (.slice a n c)).heap.size := by rw [decW_size]; omega
    have hsq : w.heap.size + 1 < (decW w (.slice a n c)).heap.size := by rw [decW_size]; omega
    have hO8 := twelve_owns hO.nodes hsz (.int .i64 m.kind) (.int .i64 m.frm) (.int .i64 m.too) (.int .i64 m.id) (.int .i64 m.rev) (.int .i64 m.epoch) (.int .i64 m.slot) (.bool m.flag) (.slice p8 m.nodes.length q8) (.slice p9 m.muts.length q9) (.slice p10 m.pre.length q10) (.slice p11 m.rows.length q11)
    have hO9 := twelve_owns hO.muts hsz (.int .i64 m.kind) (.int .i64 m.frm) (.int .i64 m.too) (.int .i64 m.id) (.int .i64 m.rev) (.int .i64 m.epoch) (.int .i64 m.slot) (.bool m.flag) (.slice p8 m.nodes.length q8) (.slice p9 m.muts.length q9) (.slice p10 m.pre.length q10) (.slice p11 m.rows.length q11)
    have hO10 := twelve_owns hO.pre hsz (.int .i64 m.kind) (.int .i64 m.frm) (.int .i64 m.too) (.int .i64 m.id) (.int .i64 m.rev) (.int .i64 m.epoch) (.int .i64 m.slot) (.bool m.flag) (.slice p8 m.nodes.length q8) (.slice p9 m.muts.length q9) (.slice p10 m.pre.length q10) (.slice p11 m.rows.length q11)
    have hO11 := twelve_owns hO.rows hsz (.int .i64 m.kind) (.int .i64 m.frm) (.int .i64 m.too) (.int .i64 m.id) (.int .i64 m.rev) (.int .i64 m.epoch) (.int .i64 m.slot) (.bool m.flag) (.slice p8 m.nodes.length q8) (.slice p9 m.muts.length q9) (.slice p10 m.pre.length q10) (.slice p11 m.rows.length q11)
    have hlie := hA.lies
    have HSQ := Lib.hid hsq
    have HSZ := Lib.hid hsz
    have HR := Lib.hid hr
    clear hp hq hp1 hq1 hA hO hF hsz hsq hr HM
    unfold msgC
    go_upto_region 6 with fail
    clear k0 z0 k1 z1 k2 z2 k3 z3 k4 z4 k5 z5 k6 z6 k7 z7 k8 z8 k9 z9 k10 z10 k11 z11
    generalize ((((((((((((w1.setCell ⟨w.heap.size, 0, none⟩ (.int .i64 m.kind)).setCell ⟨w.heap.size, 1, none⟩ (.int .i64 m.frm)).setCell ⟨w.heap.size, 2, none⟩ (.int .i64 m.too)).setCell ⟨w.heap.size, 3, none⟩ (.int .i64 m.id)).setCell ⟨w.heap.size, 4, none⟩ (.int .i64 m.rev)).setCell ⟨w.heap.size, 5, none⟩ (.int .i64 m.epoch)).setCell ⟨w.heap.size, 6, none⟩ (.int .i64 m.slot)).setCell ⟨w.heap.size, 7, none⟩ (.bool m.flag)).setCell ⟨w.heap.size, 8, none⟩ (.slice p8 m.nodes.length q8)).setCell ⟨w.heap.size, 9, none⟩ (.slice p9 m.muts.length q9)).setCell ⟨w.heap.size, 10, none⟩ (.slice p10 m.pre.length q10)).setCell ⟨w.heap.size, 11, none⟩ (.slice p11 m.rows.length q11)) = W2 at *
    have kb : W2.cell? ⟨w.heap.size + 1 + 1, 0, none⟩ = some u := by rw [hR.cell]; rfl
    have k0 : W2.cell? ⟨w.heap.size, 0, none⟩ = some (.int .i64 m.kind) := by rw [hP.cell]; rfl
    have z0 : W2.frozen? ⟨w.heap.size, 0, none⟩ = false := hP.free 0
    have k1 : W2.cell? ⟨w.heap.size, 1, none⟩ = some (.int .i64 m.frm) := by rw [hP.cell]; rfl
    have z1 : W2.frozen? ⟨w.heap.size, 1, none⟩ = false := hP.free 1
    have k2 : W2.cell? ⟨w.heap.size, 2, none⟩ = some (.int .i64 m.too) := by rw [hP.cell]; rfl
    have z2 : W2.frozen? ⟨w.heap.size, 2, none⟩ = false := hP.free 2
    have k3 : W2.cell? ⟨w.heap.size, 3, none⟩ = some (.int .i64 m.id) := by rw [hP.cell]; rfl
    have z3 : W2.frozen? ⟨w.heap.size, 3, none⟩ = false := hP.free 3
    have k4 : W2.cell? ⟨w.heap.size, 4, none⟩ = some (.int .i64 m.rev) := by rw [hP.cell]; rfl
    have z4 : W2.frozen? ⟨w.heap.size, 4, none⟩ = false := hP.free 4
    have k5 : W2.cell? ⟨w.heap.size, 5, none⟩ = some (.int .i64 m.epoch) := by rw [hP.cell]; rfl
    have z5 : W2.frozen? ⟨w.heap.size, 5, none⟩ = false := hP.free 5
    have k6 : W2.cell? ⟨w.heap.size, 6, none⟩ = some (.int .i64 m.slot) := by rw [hP.cell]; rfl
    have z6 : W2.frozen? ⟨w.heap.size, 6, none⟩ = false := hP.free 6
    have k7 : W2.cell? ⟨w.heap.size, 7, none⟩ = some (.bool m.flag) := by rw [hP.cell]; rfl
    have z7 : W2.frozen? ⟨w.heap.size, 7, none⟩ = false := hP.free 7
    have k8 : W2.cell? ⟨w.heap.size, 8, none⟩ = some (.slice p8 m.nodes.length q8) := by rw [hP.cell]; rfl
    have z8 : W2.frozen? ⟨w.heap.size, 8, none⟩ = false := hP.free 8
    have k9 : W2.cell? ⟨w.heap.size, 9, none⟩ = some (.slice p9 m.muts.length q9) := by rw [hP.cell]; rfl
    have z9 : W2.frozen? ⟨w.heap.size, 9, none⟩ = false := hP.free 9
    have k10 : W2.cell? ⟨w.heap.size, 10, none⟩ = some (.slice p10 m.pre.length q10) := by rw [hP.cell]; rfl
    have z10 : W2.frozen? ⟨w.heap.size, 10, none⟩ = false := hP.free 10
    have k11 : W2.cell? ⟨w.heap.size, 11, none⟩ = some (.slice p11 m.rows.length q11) := by rw [hP.cell]; rfl
    have z11 : W2.frozen? ⟨w.heap.size, 11, none⟩ = false := hP.free 11
    have kq : W2.cell? ⟨w.heap.size + 1, 0, none⟩ = some (.int .i64 0) := by rw [hQ.cell]; rfl
    have zq : W2.frozen? ⟨w.heap.size + 1, 0, none⟩ = false := hQ.free 0
    have HP := Lib.hid hP
    have HQ := Lib.hid hQ
    have HB := Lib.hid hB
    have HO8 := Lib.hid hO8
    have HO9 := Lib.hid hO9
    have HO10 := Lib.hid hO10
    have HO11 := Lib.hid hO11
    clear hP hQ hR hB hO8 hO9 hO10 hO11
    by_cases hys : ys = []
    · have hul : ∃ pa ca, u = .slice pa 0 ca := by
        rcases hlie with ⟨h1, _⟩ | ⟨b1, o1, c1, h1, _⟩
        · exact ⟨_, _, h1⟩
        · exact ⟨_, _, by rw [h1, hys]; rfl⟩
      obtain ⟨pa, ca, rfl⟩ := hul
      have HE := Lib.hid (show dec xs = .ok m by rw [HD.out, HR.out]; simp only []; rw [if_pos hys])
      clear hlie hys HD HR
      go_wp2
      refine leaves_cons (f := 73) (args := #[.pointer (some ⟨w.heap.size, 0, none⟩), .pointer (some ⟨w.heap.size + 1, 0, none⟩)]) (by simp) (by simp [go_sem]) ?_
      refine (dcatch_idle _ _ _).mono ?_
      rintro e u' w'' ⟨rfl, rfl, rfl⟩
      have hP := (twelve_store HP.out (.int .i64 m.kind) (.int .i64 m.frm) (.int .i64 m.too) (.int .i64 m.id) (.int .i64 m.rev) (.int .i64 m.epoch) (.int .i64 m.slot) (.bool m.flag) (.slice p8 m.nodes.length q8) (.slice p9 m.muts.length q9) (.slice p10 m.pre.length q10) (.slice p11 m.rows.length q11)).far (w.heap.size + 1) 0 (by omega) (.int .i64 0)
      have hQ : Whole _ (w.heap.size + 1) 25 #[.int .i64 0] := (twelve_whole HQ.out (show w.heap.size + 1 ≠ w.heap.size by omega) (.int .i64 m.kind) (.int .i64 m.frm) (.int .i64 m.too) (.int .i64 m.id) (.int .i64 m.rev) (.int .i64 m.epoch) (.int .i64 m.slot) (.bool m.flag) (.slice p8 m.nodes.length q8) (.slice p9 m.muts.length q9) (.slice p10 m.pre.length q10) (.slice p11 m.rows.length q11)).store 0 (.int .i64 0)
      have hB := (twelve_below HB.out (Nat.le_refl _) (.int .i64 m.kind) (.int .i64 m.frm) (.int .i64 m.too) (.int .i64 m.id) (.int .i64 m.rev) (.int .i64 m.epoch) (.int .i64 m.slot) (.bool m.flag) (.slice p8 m.nodes.length q8) (.slice p9 m.muts.length q9) (.slice p10 m.pre.length q10) (.slice p11 m.rows.length q11)).setCell (p := ⟨w.heap.size + 1, 0, none⟩) (by simp) (.int .i64 0)
      have hO8 := owns_fars (twelve_owns HO8.out HSZ.out (.int .i64 m.kind) (.int .i64 m.frm) (.int .i64 m.too) (.int .i64 m.id) (.int .i64 m.rev) (.int .i64 m.epoch) (.int .i64 m.slot) (.bool m.flag) (.slice p8 m.nodes.length q8) (.slice p9 m.muts.length q9) (.slice p10 m.pre.length q10) (.slice p11 m.rows.length q11)) (w.heap.size + 1) 0 HSQ.out (.int .i64 0)
      have hO9 := owns_fars (twelve_owns HO9.out HSZ.out (.int .i64 m.kind) (.int .i64 m.frm) (.int .i64 m.too) (.int .i64 m.id) (.int .i64 m.rev) (.int .i64 m.epoch) (.int .i64 m.slot) (.bool m.flag) (.slice p8 m.nodes.length q8) (.slice p9 m.muts.length q9) (.slice p10 m.pre.length q10) (.slice p11 m.rows.length q11)) (w.heap.size + 1) 0 HSQ.out (.int .i64 0)
      have hO10 := owns_fars (twelve_owns HO10.out HSZ.out (.int .i64 m.kind) (.int .i64 m.frm) (.int .i64 m.too) (.int .i64 m.id) (.int .i64 m.rev) (.int .i64 m.epoch) (.int .i64 m.slot) (.bool m.flag) (.slice p8 m.nodes.length q8) (.slice p9 m.muts.length q9) (.slice p10 m.pre.length q10) (.slice p11 m.rows.length q11)) (w.heap.size + 1) 0 HSQ.out (.int .i64 0)
      have hO11 := owns_fars (twelve_owns HO11.out HSZ.out (.int .i64 m.kind) (.int .i64 m.frm) (.int .i64 m.too) (.int .i64 m.id) (.int .i64 m.rev) (.int .i64 m.epoch) (.int .i64 m.slot) (.bool m.flag) (.slice p8 m.nodes.length q8) (.slice p9 m.muts.length q9) (.slice p10 m.pre.length q10) (.slice p11 m.rows.length q11)) (w.heap.size + 1) 0 HSQ.out (.int .i64 0)
      generalize (((((((((((((W2.setCell ⟨w.heap.size, 0, none⟩ (.int .i64 m.kind)).setCell ⟨w.heap.size, 1, none⟩ (.int .i64 m.frm)).setCell ⟨w.heap.size, 2, none⟩ (.int .i64 m.too)).setCell ⟨w.heap.size, 3, none⟩ (.int .i64 m.id)).setCell ⟨w.heap.size, 4, none⟩ (.int .i64 m.rev)).setCell ⟨w.heap.size, 5, none⟩ (.int .i64 m.epoch)).setCell ⟨w.heap.size, 6, none⟩ (.int .i64 m.slot)).setCell ⟨w.heap.size, 7, none⟩ (.bool m.flag)).setCell ⟨w.heap.size, 8, none⟩ (.slice p8 m.nodes.length q8)).setCell ⟨w.heap.size, 9, none⟩ (.slice p9 m.muts.length q9)).setCell ⟨w.heap.size, 10, none⟩ (.slice p10 m.pre.length q10)).setCell ⟨w.heap.size, 11, none⟩ (.slice p11 m.rows.length q11)).setCell ⟨w.heap.size + 1, 0, none⟩ (.int .i64 0)) = X at *
      exact ⟨_, results_row_cell rfl _ X w.heap.size _ _ _ _ rfl hP Tryz.underlying43 rfl (by kernel_rfl) ⟨w.heap.size + 1, 0, none⟩ _ rfl (load_errno X _ _ hQ), .inl ⟨m, .slice p8 m.nodes.length q8, .slice p9 m.muts.length q9, .slice p10 m.pre.length q10, .slice p11 m.rows.length q11, HE.out, rfl, ⟨owns_lower hO8 (by rw [decW_size]; omega), owns_lower hO9 (by rw [decW_size]; omega), owns_lower hO10 (by rw [decW_size]; omega), owns_lower hO11 (by rw [decW_size]; omega)⟩, hB⟩⟩
    · have hul : ∃ pa k ca, u = .slice pa (k + 1) ca := by
        rcases hlie with ⟨_, h1⟩ | ⟨b1, o1, c1, h1, _⟩
        · exact absurd h1 hys
        · have hl : ys.length ≠ 0 := fun h0 => hys (List.eq_nil_of_length_eq_zero h0)
          exact ⟨_, ys.length - 1, _, by rw [h1]; congr 1; omega⟩
      obtain ⟨pa, kl, ca, rfl⟩ := hul
      have HE := Lib.hid (show dec xs = .error 21 by rw [HD.out, HR.out]; simp only []; rw [if_neg hys])
      clear hlie hys HD HR
      go_wp2
      refine leaves_cons (f := 73) (args := #[.pointer (some ⟨w.heap.size, 0, none⟩), .pointer (some ⟨w.heap.size + 1, 0, none⟩)]) (by simp) (by simp [go_sem]) ?_
      refine (dcatch_idle _ _ _).mono ?_
      rintro e u' w'' ⟨rfl, rfl, rfl⟩
      have hP := (twelve_store HP.out (.int .i64 0) (.int .i64 0) (.int .i64 0) (.int .i64 0) (.int .i64 0) (.int .i64 0) (.int .i64 0) (.bool false) (.slice none 0 0) (.slice none 0 0) (.slice none 0 0) (.slice none 0 0)).far (w.heap.size + 1) 0 (by omega) (.int .i64 21)
      have hQ : Whole _ (w.heap.size + 1) 25 #[.int .i64 21] := (twelve_whole HQ.out (show w.heap.size + 1 ≠ w.heap.size by omega) (.int .i64 0) (.int .i64 0) (.int .i64 0) (.int .i64 0) (.int .i64 0) (.int .i64 0) (.int .i64 0) (.bool false) (.slice none 0 0) (.slice none 0 0) (.slice none 0 0) (.slice none 0 0)).store 0 (.int .i64 21)
      have hB := (twelve_below HB.out (Nat.le_refl _) (.int .i64 0) (.int .i64 0) (.int .i64 0) (.int .i64 0) (.int .i64 0) (.int .i64 0) (.int .i64 0) (.bool false) (.slice none 0 0) (.slice none 0 0) (.slice none 0 0) (.slice none 0 0)).setCell (p := ⟨w.heap.size + 1, 0, none⟩) (by simp) (.int .i64 21)
      generalize (((((((((((((W2.setCell ⟨w.heap.size, 0, none⟩ (.int .i64 0)).setCell ⟨w.heap.size, 1, none⟩ (.int .i64 0)).setCell ⟨w.heap.size, 2, none⟩ (.int .i64 0)).setCell ⟨w.heap.size, 3, none⟩ (.int .i64 0)).setCell ⟨w.heap.size, 4, none⟩ (.int .i64 0)).setCell ⟨w.heap.size, 5, none⟩ (.int .i64 0)).setCell ⟨w.heap.size, 6, none⟩ (.int .i64 0)).setCell ⟨w.heap.size, 7, none⟩ (.bool false)).setCell ⟨w.heap.size, 8, none⟩ (.slice none 0 0)).setCell ⟨w.heap.size, 9, none⟩ (.slice none 0 0)).setCell ⟨w.heap.size, 10, none⟩ (.slice none 0 0)).setCell ⟨w.heap.size, 11, none⟩ (.slice none 0 0)).setCell ⟨w.heap.size + 1, 0, none⟩ (.int .i64 21)) = X at *
      exact ⟨_, results_row_cell rfl _ X w.heap.size _ _ _ _ rfl hP Tryz.underlying43 rfl (by kernel_rfl) ⟨w.heap.size + 1, 0, none⟩ _ rfl (load_errno X _ _ hQ), .inr ⟨21, HE.out, rfl, hB⟩⟩
  · go_wp2
    refine leaves_cons (f := 73) (args := #[.pointer (some ⟨w.heap.size, 0, none⟩), .pointer (some ⟨w.heap.size + 1, 0, none⟩)]) (by simp) (by simp [go_sem]) ?_
    obtain ⟨hp, hq, _⟩ := decW_at w (.slice a n c)
    refine (dcatch_panicking w.heap.size (w.heap.size + 1) (by omega) cd 0 _ _ _ _ _ _ _ _ _ _ _ _ w1 (hF.whole hp (by omega)) (hF.whole hq (by omega))).mono ?_
    rintro e u' w'' ⟨rfl, rfl, rfl⟩
    have hW := twelve_store (hF.whole hp (by omega)) (.int .i64 0) (.int .i64 0) (.int .i64 0) (.int .i64 0) (.int .i64 0) (.int .i64 0) (.int .i64 0) (.bool false) (.slice none 0 0) (.slice none 0 0) (.slice none 0 0) (.slice none 0 0)
    have hQ := twelve_whole (hF.whole hq (by omega)) (show w.heap.size + 1 ≠ w.heap.size by omega) (.int .i64 0) (.int .i64 0) (.int .i64 0) (.int .i64 0) (.int .i64 0) (.int .i64 0) (.int .i64 0) (.bool false) (.slice none 0 0) (.slice none 0 0) (.slice none 0 0) (.slice none 0 0)
    have hW2 := hW.far (w.heap.size + 1) 0 (by omega) (.int .i64 cd)
    have hQ2 : Whole _ (w.heap.size + 1) 25 #[.int .i64 cd] := hQ.store 0 (.int .i64 cd)
    have hB := twelve_below (decW_rf hF) (Nat.le_refl _) (.int .i64 0) (.int .i64 0) (.int .i64 0) (.int .i64 0) (.int .i64 0) (.int .i64 0) (.int .i64 0) (.bool false) (.slice none 0 0) (.slice none 0 0) (.slice none 0 0) (.slice none 0 0)
    have hB2 := hB.setCell (p := ⟨w.heap.size + 1, 0, none⟩) (by simp) (.int .i64 cd)
    have hE : dec xs = .error cd := by rw [HD.out, hr]
    clear hW hQ hB hp hq hF hr HD HM
    generalize (((((((((((((w1.setCell ⟨w.heap.size, 0, none⟩ (.int .i64 0)).setCell ⟨w.heap.size, 1, none⟩ (.int .i64 0)).setCell ⟨w.heap.size, 2, none⟩ (.int .i64 0)).setCell ⟨w.heap.size, 3, none⟩ (.int .i64 0)).setCell ⟨w.heap.size, 4, none⟩ (.int .i64 0)).setCell ⟨w.heap.size, 5, none⟩ (.int .i64 0)).setCell ⟨w.heap.size, 6, none⟩ (.int .i64 0)).setCell ⟨w.heap.size, 7, none⟩ (.bool false)).setCell ⟨w.heap.size, 8, none⟩ (.slice none 0 0)).setCell ⟨w.heap.size, 9, none⟩ (.slice none 0 0)).setCell ⟨w.heap.size, 10, none⟩ (.slice none 0 0)).setCell ⟨w.heap.size, 11, none⟩ (.slice none 0 0)).setCell ⟨w.heap.size + 1, 0, none⟩ (.int .i64 cd)) = X at *
    exact ⟨_, results_row_cell rfl _ X.drew w.heap.size _ _ _ _ rfl (show X.drew.heap[w.heap.size]? = _ from hW2) Tryz.underlying43 rfl (by kernel_rfl) ⟨w.heap.size + 1, 0, none⟩ _ rfl (load_errno X.drew _ _ hQ2), .inr ⟨cd, hE, rfl, hB2.trans (show Below w.heap.size X X.drew from ⟨rfl, rfl, rfl, Nat.le_refl _, fun _ _ => rfl⟩)⟩⟩

set_option maxRecDepth 100000 in
theorem rnumber_empty (g : Nat) (a : Option Addr) (c : Nat) (w : World) (h : Whole w g 153 #[.slice a 0 c]) :
    Calls Tryz.prog 79 #[.pointer (some ⟨g, 0, none⟩)] w (fun e w' => e = Bad 10 ∧ w = w') := by
  have k0 : w.cell? ⟨g, 0, none⟩ = some (.slice a 0 c) := by rw [h.cell]; rfl
  clear h
  go_enter Tryz.func79, Tryz.ntmps79
  go_wp2_with fail
  refine (getint_any w.heap.size a 0 c [] w ⟨rfl, .inl rfl⟩ (by omega)).mono ?_
  rintro e w1 ⟨rfl, rfl⟩
  simp only [Vi.get]
  go_wp2
  exact ⟨rfl, rfl, rfl⟩
set_option maxRecDepth 100000 in
set_option maxHeartbeats 1000000 in
theorem rmessage_empty (B g : Nat) (a : Option Addr) (c : Nat) (w : World) (h : Whole w g 153 #[.slice a 0 c]) :
    Calls Tryz.prog 74 #[.pointer (some ⟨g, 0, none⟩)] w (MDone w B g (rmsg [])) := by
  obtain ⟨W, hW⟩ : ∃ W, W = ((w.alloc (.cells #[.pointer (some ⟨g, 0, none⟩)] 151)).alloc (.cells MsgZ 43)).alloc (.cells MsgZ 43) := ⟨_, rfl⟩
  have hb : Below w.heap.size w W := by rw [hW]; exact (((Below.refl _ _).alloc (Nat.le_refl _) _).alloc (by simp) _).alloc (by simp; omega) _
  have HN := Lib.hid (rnumber_empty g a c W (h.kept (hb.block _ h.lt)))
  have HB := Lib.hid hb
  have HWW := Lib.hid hW
  clear hb hW h
  go_enter Tryz.func74, Tryz.ntmps74
  go_wp2_with fail
  rw [← HWW.out]
  refine HN.out.mono ?_
  rintro e w1 ⟨rfl, rfl⟩
  go_wp2
  exact ⟨rfl, .inr ⟨10, rfl, rfl, ⟨HB.out.os, HB.out.tape, HB.out.output, HB.out.size, fun k hk _ => HB.out.block k hk⟩⟩⟩
theorem decode_isb {a : Option Addr} {n c : Nat} {w : World} {xs : List Int} (h : IsB w a n xs) (hnc : n ≤ c) (hc : c ≤ maxLen) :
    Calls Tryz.prog 64 #[.slice a n c] w (DMsg w (dec xs)) := by
  have hf : ∀ m, dec xs = .ok m → m.fine := fun m hm => (dec_inv h.2.1 hm).2.1
  by_cases hk : 16384 < n
  · exact (decode_long a n c w xs h.1 hk).mono fun e w' hd => dmsg_of hd hf
  · rcases Nat.eq_zero_or_pos n with rfl | h0
    · obtain rfl : xs = [] := List.eq_nil_of_length_eq_zero h.1
      refine (decode_of a 0 c w [] rfl hk ?_).mono fun e w' hd => dmsg_of hd hf
      exact rmessage_empty _ _ a c _ (decW_at w (.slice a 0 c)).2.2
    · obtain ⟨b, off, rfl, hcell⟩ := h.2.2.resolve_left (by omega)
      refine (decode_short _ n c w xs h.1 hk (.inr ⟨b, off, c, by rw [h.1], by rw [h.1]; exact hnc, hc, World.block_lt_of_cell? w ⟨b, off + 0, none⟩ (hcell 0 h0), fun i x hx => ⟨?_, h.2.1 x (List.mem_of_getElem? hx)⟩⟩)).mono fun e w' hd => dmsg_of hd hf
      have hil : i < n := by have := (List.getElem?_eq_some_iff.1 hx).1; have := h.1; omega
      have e : xs.getD i 0 = x := by rw [List.getD_eq_getElem?_getD, hx]; rfl
      have := hcell i hil
      rwa [e] at this
/-- Decode of bytes of the call's own. -/
theorem decode_row {w : World} {base n : Nat} {v : Value} {xs : List Int} (h : w.ownsRow base 5 1 v n (xs.map (Value.int .u8))) (hb : Byt xs) :
    Calls Tryz.prog 64 #[v] w (DMsg w (dec xs)) := by
  obtain ⟨a, c, rfl, h1, h2⟩ := owned_any h
  exact (decode_own h hb).mono fun e w' hd => dmsg_of hd fun m hm => (dec_inv hb hm).2.1
end Go.Proofs.YteodldmbnghfcaaGreat

namespace Go.Proofs.YteodldmbnghfcaaGreat
open Go.RowKit

/-- Errors are told by numbers above 0. -/
def En {α : Type} (p : List Int → Except Int (α × List Int)) : Prop := ∀ xs c, p xs = .error c → c ≠ 0
theorem En.step {α β : Type} {p : List Int → Except Int (α × List Int)} {k : α → List Int → Except Int (β × List Int)} (h : En p) (hk : ∀ x, En (k x)) : En (fun xs => rb (p xs) k) := fun xs c hc => by
  simp only at hc
  cases hp : p xs with
  | error e =>
    rw [rb_bad hp] at hc
    injection hc with hc
    subst hc
    exact h xs e hp
  | ok q =>
    obtain ⟨x, l⟩ := q
    rw [rb_ok hp] at hc
    exact hk x l c hc
theorem En.ok {α : Type} (f : List Int → α × List Int) : En (fun l => .ok (f l)) := fun _ _ h => by cases h
theorem en_num : En rnum := fun xs c h => by
  rw [rnum] at h
  split at h
  · cases h
  · rename_i h0
    injection h with h
    rw [← h]
    exact h0
theorem en_count (most : Int) : En (rcount most) := fun xs c h => by
  rw [rcount] at h
  cases hp : rnum xs with
  | error e =>
    rw [hp] at h
    injection h with h
    subst h
    exact en_num xs e hp
  | ok q =>
    rw [hp] at h
    simp only at h
    split at h
    · injection h with h; omega
    · cases h
theorem en_truth : En rtruth := fun xs c h => by
  cases xs with
  | nil => injection h with h; omega
  | cons x l =>
    rw [rtruth] at h
    split at h
    · injection h with h; omega
    · cases h
theorem en_text : En rtext := fun xs c h => by
  rw [rtext] at h
  cases hp : rcount 128 xs with
  | error e =>
    rw [hp] at h
    injection h with h
    subst h
    exact en_count 128 xs e hp
  | ok q =>
    rw [hp] at h
    simp only at h
    split at h
    · injection h with h; omega
    · cases h
theorem en_tuple : En rtuple := fun xs c h => by
  rw [rtuple] at h
  split at h
  · rename_i e hp
    injection h with h; subst h
    exact en_text _ _ hp
  · split at h
    · rename_i e hp
      injection h with h; subst h
      exact en_text _ _ hp
    · split at h
      · rename_i e hp
        injection h with h; subst h
        exact en_text _ _ hp
      · cases h
theorem en_flag : En rflag := fun xs c h => by
  rw [rflag] at h
  split at h
  · rename_i e hp
    injection h with h; subst h
    exact en_truth _ _ hp
  · split at h
    · rename_i e hp
      injection h with h; subst h
      exact en_tuple _ _ hp
    · cases h
theorem en_row : En rrow := fun xs c h => by
  rw [rrow] at h
  split at h
  · rename_i e hp
    injection h with h; subst h
    exact en_tuple _ _ hp
  · split at h
    · rename_i e hp
      injection h with h; subst h
      exact en_num _ _ hp
    · split at h
      · rename_i e hp
        injection h with h; subst h
        exact en_num _ _ hp
      · cases h
theorem en_rep {α : Type} {p : List Int → Except Int (α × List Int)} (hp : En p) : ∀ n, En (rrep p n)
  | 0 => fun xs c h => by cases h
  | n + 1 => fun xs c h => by
    rw [rrep] at h
    split at h
    · rename_i e hq
      injection h with h; subst h
      exact hp _ _ hq
    · split at h
      · rename_i e hq
        injection h with h; subst h
        exact en_rep hp n _ _ hq
      · cases h
theorem en_lst {α : Type} {p : List Int → Except Int (α × List Int)} (hp : En p) : En (rlst p) := fun xs c h => by
  rw [rlst] at h
  split at h
  · rename_i e hq
    injection h with h; subst h
    exact en_count _ _ _ hq
  · exact en_rep hp _ _ _ h
theorem en_msg : En rmsg :=
  en_num.step fun _ => en_num.step fun _ => en_num.step fun _ => en_num.step fun _ => en_num.step fun _ => en_num.step fun _ => en_num.step fun _ => en_truth.step fun _ => (en_lst en_num).step fun _ => (en_lst en_flag).step fun _ => (en_lst en_flag).step fun _ => (en_lst en_row).step fun _ => En.ok _
theorem dec_err {xs : List Int} {c : Int} (h : dec xs = .error c) : c ≠ 0 := by
  rw [dec] at h
  split at h
  · injection h with h; omega
  split at h
  · rename_i e hq
    injection h with h; subst h
    exact en_msg _ _ hq
  · split at h
    · cases h
    · injection h with h; omega

end Go.Proofs.YteodldmbnghfcaaGreat
