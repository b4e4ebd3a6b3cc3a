/- What is read is just what would be written. Plain lists. -/
import Derived.Test.YtbckccgcjmanlaaCRefG
namespace Go.Proofs.Ytbckccgcjmanlaa
open Go.RowKit

def Byt (xs : List Int) : Prop := ∀ x ∈ xs, 0 ≤ x ∧ x < 256
theorem Vi.get_inv : ∀ (l pre : List Int) (n : Int) (k : Nat), Byt l → (∀ c ∈ pre, 128 ≤ c ∧ c < 256) → Vi.get pre.length (Vi.val pre) l = (n, k, 0) → pre ++ l = Vi.int n ++ l.drop (k - pre.length) ∧ pre.length < k
  | [], pre, n, k, _, _, h => by simp [Vi.get] at h
  | x :: r, pre, n, k, hb, hp, h => by
    have hx := hb x (by simp)
    rw [Vi.get] at h
    by_cases h9 : pre.length = 9 ∧ 1 < x
    · rw [if_pos h9] at h
      simp at h
    rw [if_neg h9] at h
    by_cases hc : 128 ≤ x
    · rw [if_pos hc, show pre.length + 1 = (pre ++ [x]).length by simp, ← Vi.val_snoc] at h
      obtain ⟨h1, h2⟩ := get_inv r (pre ++ [x]) n k (fun y hy => hb y (List.mem_cons_of_mem _ hy)) (fun c h => by
        rcases List.mem_append.1 h with h | h
        · exact hp c h
        · obtain rfl : c = x := by simpa using h
          exact ⟨hc, hx.2⟩) h
      rw [List.length_append, List.length_singleton] at h1 h2
      refine ⟨?_, by omega⟩
      rw [List.append_assoc, List.singleton_append] at h1
      rw [h1, show k - pre.length = (k - (pre.length + 1)) + 1 by omega, List.drop_succ_cons]
    · rw [if_neg hc] at h
      by_cases h0 : x = 0 ∧ 0 < pre.length
      · rw [if_pos h0] at h
        simp at h
      rw [if_neg h0] at h
      simp only [Prod.mk.injEq, and_true] at h
      obtain ⟨rfl, rfl⟩ := h
      have := (Vi.canon hp (x := x) ⟨hx.1, by omega⟩).2 h0
      rw [this]
      refine ⟨?_, by omega⟩
      rw [show pre.length + 1 - pre.length = 1 by omega, List.append_assoc]
      rfl
/-- What is read by p is what f writes, and P. -/
def Iv {α : Type} (p : List Int → Except Int (α × List Int)) (f : α → List Int) (P : α → Prop) : Prop := ∀ xs x l, Byt xs → p xs = .ok (x, l) → xs = f x ++ l ∧ P x ∧ Byt l
theorem byt_tail {a b : List Int} (h : Byt (a ++ b)) : Byt b := fun x hx => h x (List.mem_append_right _ hx)
theorem byt_head {a b : List Int} (h : Byt (a ++ b)) : Byt a := fun x hx => h x (List.mem_append_left _ hx)
theorem Iv.of {α : Type} {p : List Int → Except Int (α × List Int)} {f : α → List Int} {P : α → Prop} (h : ∀ xs x l, Byt xs → p xs = .ok (x, l) → xs = f x ++ l ∧ P x) : Iv p f P := fun xs x l hb hp => by
  obtain ⟨h1, h2⟩ := h xs x l hb hp
  refine ⟨h1, h2, ?_⟩
  rw [h1] at hb
  exact byt_tail hb
theorem Iv.step {α β : Type} {p : List Int → Except Int (α × List Int)} {f : α → List Int} {P : α → Prop} {k : α → List Int → Except Int (β × List Int)} {xs l' : List Int} {y : β} (h : Iv p f P) (hb : Byt xs) (hk : rb (p xs) k = .ok (y, l')) :
    ∃ x l, xs = f x ++ l ∧ P x ∧ Byt l ∧ k x l = .ok (y, l') := by
  cases hp : p xs with
  | error c => rw [rb_bad hp] at hk; cases hk
  | ok q =>
    obtain ⟨x, l⟩ := q
    rw [rb_ok hp] at hk
    obtain ⟨h1, h2, h3⟩ := h xs x l hb hp
    exact ⟨x, l, h1, h2, h3, hk⟩
theorem iv_num : Iv rnum Vi.int In64 := Iv.of fun xs n l hb h => by
  rw [rnum] at h
  split at h
  · rename_i h0
    injection h with h
    injection h with h1 h2
    obtain ⟨g1, g2⟩ := Vi.get_inv xs [] (Vi.get 0 0 xs).1 (Vi.get 0 0 xs).2.1 hb (by simp) (by rw [← h0]; rfl)
    subst h1 h2
    exact ⟨by simpa using g1, (get_range xs 0 0 hb (by omega) (by simp)).1⟩
  · cases h
theorem iv_count (most : Int) : Iv (rcount most) Vi.int (fun n => 0 ≤ n ∧ n ≤ most) := Iv.of fun xs n l hb h => by
  have hr := rcount_range h
  refine ⟨?_, hr⟩
  rw [rcount] at h
  cases hp : rnum xs with
  | error c => rw [hp] at h; cases h
  | ok q =>
    obtain ⟨x, l2⟩ := q
    rw [hp] at h
    simp only at h
    split at h
    · cases h
    · injection h with h
      injection h with h1 h2
      subst h1 h2
      exact (iv_num xs _ _ hb hp).1
theorem iv_truth : Iv rtruth (fun d => [bit d]) (fun _ => True) := Iv.of fun xs d l hb h => by
  cases xs with
  | nil => cases h
  | cons x xs =>
    have hx := hb x (by simp)
    rw [rtruth] at h
    split at h
    · cases h
    · injection h with h
      injection h with h1 h2
      subst h1 h2
      refine ⟨?_, trivial⟩
      by_cases h1 : x = 1
      · subst h1; rfl
      · obtain rfl : x = 0 := by omega
        rfl
theorem bl_nums {l : List Int} (h : Byt l) : bl (strOfNums l) = l := by
  simp only [bl, strOfNums, List.map_map]
  conv => rhs; rw [← List.map_id l]
  refine List.map_congr_left fun x hx => ?_
  have := h x hx
  simp
  omega
def TextOk (t : List Int) : Prop := t.length ≤ 128 ∧ Byt t
theorem iv_text : Iv rtext (fun t => tx (strOfNums t)) TextOk := Iv.of fun xs t l hb h => by
  rw [rtext] at h
  cases hp : rcount 128 xs with
  | error c => rw [hp] at h; cases h
  | ok q =>
    obtain ⟨n, r⟩ := q
    rw [hp] at h
    simp only at h
    split at h
    · cases h
    · rename_i hl
      injection h with h
      injection h with h1 h2
      obtain ⟨g1, g2, g3⟩ := iv_count 128 xs n r hb hp
      subst h1 h2
      have hbt : Byt (r.take n.toNat) := fun x hx => g3 x (List.mem_of_mem_take hx)
      have hlen : (r.take n.toNat).length = n.toNat := by rw [List.length_take]; omega
      refine ⟨?_, by omega, hbt⟩
      rw [tx, bl_nums hbt, strOfNums_size, hlen, List.append_assoc, List.take_append_drop, show ((n.toNat : Nat) : Int) = n by omega]
      exact g1
def TxOk (t : Tx) : Prop := TextOk t.1 ∧ TextOk t.2.1 ∧ TextOk t.2.2
theorem iv_tuple : Iv rtuple (fun t => tup (strOfNums t.1) (strOfNums t.2.1) (strOfNums t.2.2)) TxOk := Iv.of fun xs t l hb h => by
  have e : rtuple xs = rb (rtext xs) fun a l => rb (rtext l) fun b l => rb (rtext l) fun c l => .ok ((a, b, c), l) := by
    unfold rtuple rb
    cases rtext xs with
    | error c => rfl
    | ok p =>
      simp only []
      cases rtext p.2 with
      | error c => rfl
      | ok p =>
        simp only []
        cases rtext p.2 with
        | error c => rfl
        | ok p => rfl
  rw [e] at h
  obtain ⟨a, l1, rfl, ha, hb, h⟩ := iv_text.step hb h
  obtain ⟨b, l2, rfl, hb', hb, h⟩ := iv_text.step hb h
  obtain ⟨c, l3, rfl, hc, hb, h⟩ := iv_text.step hb h
  injection h with h
  injection h with h1 h2
  subst h1 h2
  exact ⟨by simp [tup], ha, hb', hc⟩
def mutD (q : Bool × Tx) : Mut := ⟨q.1, strOfNums q.2.1, strOfNums q.2.2.1, strOfNums q.2.2.2⟩
def rowD (q : Tx × Int × Int) : RowD := ⟨strOfNums q.1.1, strOfNums q.1.2.1, strOfNums q.1.2.2, q.2.1, q.2.2⟩
theorem iv_flag : Iv rflag (fun q => mutB (mutD q)) (fun q => TxOk q.2) := Iv.of fun xs t l hb h => by
  have e : rflag xs = rb (rtruth xs) fun a l => rb (rtuple l) fun b l => .ok ((a, b), l) := by
    unfold rflag rb
    cases rtruth xs with
    | error c => rfl
    | ok p =>
      simp only []
      cases rtuple p.2 with
      | error c => rfl
      | ok p => rfl
  rw [e] at h
  obtain ⟨a, l1, rfl, ha, hb, h⟩ := iv_truth.step hb h
  obtain ⟨b, l2, rfl, hb', hb, h⟩ := iv_tuple.step hb h
  injection h with h
  injection h with h1 h2
  subst h1 h2
  exact ⟨by simp [mutB, mutD, flagged], hb'⟩
theorem iv_row : Iv rrow (fun q => rowOf (rowD q)) (fun q => TxOk q.1 ∧ In64 q.2.1 ∧ In64 q.2.2) := Iv.of fun xs t l hb h => by
  have e : rrow xs = rb (rtuple xs) fun a l => rb (rnum l) fun b l => rb (rnum l) fun c l => .ok ((a, b, c), l) := by
    unfold rrow rb
    cases rtuple xs with
    | error c => rfl
    | ok p =>
      simp only []
      cases rnum p.2 with
      | error c => rfl
      | ok p =>
        simp only []
        cases rnum p.2 with
        | error c => rfl
        | ok p => rfl
  rw [e] at h
  obtain ⟨a, l1, rfl, ha, hb, h⟩ := iv_tuple.step hb h
  obtain ⟨b, l2, rfl, hb', hb, h⟩ := iv_num.step hb h
  obtain ⟨c, l3, rfl, hc, hb, h⟩ := iv_num.step hb h
  injection h with h
  injection h with h1 h2
  subst h1 h2
  exact ⟨by simp [rowOf, rowD, rowB], ha, hb', hc⟩
theorem iv_rep {α : Type} {p : List Int → Except Int (α × List Int)} {f : α → List Int} {P : α → Prop} (h : Iv p f P) : ∀ n, Iv (rrep p n) (fun xs => (xs.map f).flatten) (fun xs => xs.length = n ∧ ∀ x ∈ xs, P x)
  | 0 => Iv.of fun xs t l hb h => by
    injection h with h
    injection h with h1 h2
    subst h1 h2
    exact ⟨rfl, rfl, by simp⟩
  | n + 1 => Iv.of fun xs t l hb hr => by
    have e : rrep p (n + 1) xs = rb (p xs) fun a l => rb (rrep p n l) fun b l => .ok (a :: b, l) := by
      rw [rrep]
      unfold rb
      cases p xs with
      | error c => rfl
      | ok q =>
        simp only []
        cases rrep p n q.2 with
        | error c => rfl
        | ok q => rfl
    rw [e] at hr
    obtain ⟨a, l1, rfl, ha, hb, hr⟩ := h.step hb hr
    obtain ⟨b, l2, rfl, hb', hb, hr⟩ := (iv_rep h n).step hb hr
    injection hr with hr
    injection hr with h1 h2
    subst h1 h2
    refine ⟨by simp, by simp [hb'.1], ?_⟩
    intro x hx
    rcases List.mem_cons.1 hx with rfl | hx
    · exact ha
    · exact hb'.2 x hx
theorem iv_lst {α : Type} {p : List Int → Except Int (α × List Int)} {f : α → List Int} {P : α → Prop} (h : Iv p f P) : Iv (rlst p) (lst f) (fun xs => xs.length ≤ 1024 ∧ ∀ x ∈ xs, P x) := Iv.of fun xs t l hb hr => by
  have e : rlst p xs = rb (rcount 1024 xs) fun n l => rrep p n.toNat l := by
    unfold rlst rb
    cases rcount 1024 xs with
    | error c => rfl
    | ok q => rfl
  rw [e] at hr
  obtain ⟨n, l1, rfl, hn, hb, hr⟩ := (iv_count 1024).step hb hr
  obtain ⟨h1, h2, h3⟩ := iv_rep h n.toNat l1 t l hb hr
  subst h1
  refine ⟨?_, by omega, h2.2⟩
  rw [lst, h2.1, show ((n.toNat : Nat) : Int) = n by omega, List.append_assoc]
/-- The message that was read, as one that came in. -/
def unR (m : MsgR) : MsgD := ⟨m.kind, m.frm, m.too, m.id, m.rev, m.epoch, m.slot, m.flag, m.nodes, m.muts.map mutD, m.pre.map mutD, m.rows.map rowD⟩
structure MsgR.fine (m : MsgR) : Prop where
  nums : In64 m.kind ∧ In64 m.frm ∧ In64 m.too ∧ In64 m.id ∧ In64 m.rev ∧ In64 m.epoch ∧ In64 m.slot
  nodes : m.nodes.length ≤ 1024 ∧ ∀ x ∈ m.nodes, In64 x
  muts : m.muts.length ≤ 1024 ∧ ∀ x ∈ m.muts, TxOk x.2
  pre : m.pre.length ≤ 1024 ∧ ∀ x ∈ m.pre, TxOk x.2
  rows : m.rows.length ≤ 1024 ∧ ∀ x ∈ m.rows, TxOk x.1 ∧ In64 x.2.1 ∧ In64 x.2.2
theorem tx_mut {q : Bool × Tx} (h : TxOk q.2) : (mutD q).ok := by
  obtain ⟨h1, h2, h3⟩ := h
  exact ⟨by rw [mutD, strOfNums_size]; exact h1.1, by rw [mutD, strOfNums_size]; exact h2.1, by rw [mutD, strOfNums_size]; exact h3.1⟩
theorem tx_row {q : Tx × Int × Int} (h : TxOk q.1) : (rowD q).ok := by
  obtain ⟨h1, h2, h3⟩ := h
  exact ⟨by rw [rowD, strOfNums_size]; exact h1.1, by rw [rowD, strOfNums_size]; exact h2.1, by rw [rowD, strOfNums_size]; exact h3.1⟩
theorem MsgR.fine.ok {m : MsgR} (h : m.fine) : (unR m).ok := by
  refine ⟨h.nodes.1, ⟨by simpa [unR] using h.muts.1, ?_⟩, ⟨by simpa [unR] using h.pre.1, ?_⟩, ⟨by simpa [unR] using h.rows.1, ?_⟩⟩
  · intro x hx
    obtain ⟨q, hq, rfl⟩ := List.mem_map.1 hx
    exact tx_mut (h.muts.2 q hq)
  · intro x hx
    obtain ⟨q, hq, rfl⟩ := List.mem_map.1 hx
    exact tx_mut (h.pre.2 q hq)
  · intro x hx
    obtain ⟨q, hq, rfl⟩ := List.mem_map.1 hx
    exact tx_row (h.rows.2 q hq).1
theorem MsgR.fine.in64 {m : MsgR} (h : m.fine) : (unR m).in64 := by
  obtain ⟨⟨h0, h1, h2, h3, h4, h5, h6⟩, h8, _, _, h11⟩ := h
  refine ⟨h0, h1, h2, h3, h4, h5, h6, h8.2, ?_⟩
  intro x hx
  obtain ⟨q, hq, rfl⟩ := List.mem_map.1 hx
  exact (h11.2 q hq).2
theorem lst_map {α β : Type} (f : β → List Int) (g : α → β) (l : List α) : lst f (l.map g) = lst (fun x => f (g x)) l := by
  simp only [lst, List.length_map, List.map_map]
  rfl
theorem iv_msg : Iv rmsg (fun m => enc (unR m)) MsgR.fine := Iv.of fun xs t l hb h => by
  obtain ⟨a0, l0, rfl, p0, hb, h⟩ := iv_num.step hb h
  obtain ⟨a1, l1, rfl, p1, hb, h⟩ := iv_num.step hb h
  obtain ⟨a2, l2, rfl, p2, hb, h⟩ := iv_num.step hb h
  obtain ⟨a3, l3, rfl, p3, hb, h⟩ := iv_num.step hb h
  obtain ⟨a4, l4, rfl, p4, hb, h⟩ := iv_num.step hb h
  obtain ⟨a5, l5, rfl, p5, hb, h⟩ := iv_num.step hb h
  obtain ⟨a6, l6, rfl, p6, hb, h⟩ := iv_num.step hb h
  obtain ⟨a7, l7, rfl, p7, hb, h⟩ := iv_truth.step hb h
  obtain ⟨a8, l8, rfl, p8, hb, h⟩ := (iv_lst iv_num).step hb h
  obtain ⟨a9, l9, rfl, p9, hb, h⟩ := (iv_lst iv_flag).step hb h
  obtain ⟨a10, l10, rfl, p10, hb, h⟩ := (iv_lst iv_flag).step hb h
  obtain ⟨a11, l11, rfl, p11, hb, h⟩ := (iv_lst iv_row).step hb h
  injection h with h
  injection h with h1 h2
  subst h1 h2
  refine ⟨?_, ⟨⟨p0, p1, p2, p3, p4, p5, p6⟩, p8, p9, p10, p11⟩⟩
  simp only [enc, unR, lst_map, List.append_assoc]
theorem dec_inv {xs : List Int} {m : MsgR} (hb : Byt xs) (h : dec xs = .ok m) : xs = enc (unR m) ∧ m.fine ∧ xs.length ≤ 16384 := by
  rw [dec] at h
  split at h
  · cases h
  rename_i hl
  cases hp : rmsg xs with
  | error c => rw [hp] at h; cases h
  | ok q =>
    obtain ⟨x, l⟩ := q
    rw [hp] at h
    simp only at h
    split at h
    · rename_i h0
      injection h with h
      subst h h0
      obtain ⟨h1, h2, _⟩ := iv_msg xs x [] hb hp
      exact ⟨by simpa using h1, h2, by omega⟩
    · cases h
end Go.Proofs.Ytbckccgcjmanlaa
