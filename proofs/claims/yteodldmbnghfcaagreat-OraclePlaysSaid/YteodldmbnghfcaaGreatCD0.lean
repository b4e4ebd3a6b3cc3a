/- The document's reading: states. -/
import Derived.Test.YteodldmbnghfcaaGreatCInv
namespace Go.Proofs.YteodldmbnghfcaaGreat
open Go.RowKit

/-- What is left to read, and the code. -/
abbrev St := List Int × Int
/-- A thing read in a state; z where nothing is read. -/
def rst {α : Type} (p : List Int → Except Int (α × List Int)) (z : α) (s : St) : α × St := if s.2 = 0 then (match p s.1 with | .ok (x, l) => (x, (l, 0)) | .error c => (z, ([], c))) else (z, s)
/-- What a reading comes to that goes on from a state. -/
def res {β : Type} (s : St) (k : List Int → Except Int (β × List Int)) : Except Int (β × List Int) := if s.2 = 0 then k s.1 else .error s.2
theorem rst_ok {α : Type} {p : List Int → Except Int (α × List Int)} {z x : α} {l : List Int} {xs : List Int} (h : p xs = .ok (x, l)) : rst p z (xs, 0) = (x, (l, 0)) := by unfold rst; rw [if_pos rfl]; simp only [h]
theorem rst_bad {α : Type} {p : List Int → Except Int (α × List Int)} {z : α} {c : Int} {xs : List Int} (h : p xs = .error c) : rst p z (xs, 0) = (z, ([], c)) := by unfold rst; rw [if_pos rfl]; simp only [h]
theorem rst_no {α : Type} (p : List Int → Except Int (α × List Int)) (z : α) {s : St} (h : s.2 ≠ 0) : rst p z s = (z, s) := by unfold rst; rw [if_neg h]
theorem res_ok {β : Type} (xs : List Int) (k : List Int → Except Int (β × List Int)) : res (xs, 0) k = k xs := by unfold res; rw [if_pos rfl]
theorem res_no {β : Type} {s : St} (h : s.2 ≠ 0) (k : List Int → Except Int (β × List Int)) : res s k = .error s.2 := by unfold res; rw [if_neg h]
/-- One thing is read. -/
theorem res_step {α β : Type} {p : List Int → Except Int (α × List Int)} (hp : En p) (z : α) (s : St) (f : α → List Int → Except Int (β × List Int)) : res s (fun l => rb (p l) f) = res (rst p z s).2 (fun l => f (rst p z s).1 l) := by
  by_cases h : s.2 = 0
  · obtain ⟨xs, c⟩ := s
    obtain rfl : c = 0 := h
    rw [res_ok]
    cases hr : p xs with
    | ok v =>
      obtain ⟨x, l⟩ := v
      rw [rst_ok hr, res_ok]
      rfl
    | error c =>
      rw [rst_bad hr, res_no (hp xs c hr)]
      rfl
  · rw [rst_no p z h, res_no h, res_no h]
/-- The bytes of a state. -/
def StOk (s : St) : Prop := Byt s.1 ∧ s.1.length ≤ 1048576
def Suf {α : Type} (p : List Int → Except Int (α × List Int)) : Prop := ∀ xs x l, p xs = .ok (x, l) → ∃ k, l = xs.drop k
theorem StOk.rst {α : Type} {p : List Int → Except Int (α × List Int)} (hp : Suf p) (z : α) {s : St} (h : StOk s) : StOk (rst p z s).2 := by
  by_cases h0 : s.2 = 0
  · obtain ⟨xs, c⟩ := s
    obtain rfl : c = 0 := h0
    cases hr : p xs with
    | ok v =>
      obtain ⟨x, l⟩ := v
      rw [rst_ok hr]
      obtain ⟨k, rfl⟩ := hp xs x l hr
      exact ⟨fun y hy => h.1 y (List.mem_of_mem_drop hy), by have := h.2; show (xs.drop k).length ≤ _; rw [List.length_drop]; simp only at this; omega⟩
    | error c =>
      rw [rst_bad hr]
      exact ⟨fun y hy => (by cases hy), Nat.zero_le _⟩
  · rw [rst_no p z h0]
    exact h
theorem suf_num : Suf rnum := fun xs x l h => by
  unfold rnum at h
  split at h
  · injection h with h
    injection h with _ h
    exact ⟨_, h.symm⟩
  · cases h
theorem suf_count (most : Int) : Suf (rcount most) := fun xs x l h => by
  unfold rcount at h
  split at h
  · cases h
  · rename_i n' l' hr
    split at h
    · cases h
    · injection h with h
      injection h with _ h
      rw [← h]
      exact suf_num xs n' l' hr
theorem suf_truth : Suf rtruth := fun xs x l h => by
  cases xs with
  | nil => cases h
  | cons y ys =>
    have h2 : (if 1 < y then Except.error 22 else Except.ok (y == 1, ys) : Except Int (Bool × List Int)) = .ok (x, l) := h
    split at h2
    · cases h2
    · injection h2 with h2
      injection h2 with _ h2
      exact ⟨1, by rw [← h2]; rfl⟩
theorem suf_text : Suf rtext := fun xs x l h => by
  unfold rtext at h
  split at h
  · cases h
  · rename_i n' l' hr
    split at h
    · cases h
    · injection h with h
      injection h with _ h
      obtain ⟨k, hk⟩ := suf_count 128 xs n' l' hr
      exact ⟨k + n'.toNat, by rw [← h, hk, List.drop_drop]⟩
/-- Three texts. -/
theorem rtuple_rb {β : Type} (l : List Int) (f : Tx → List Int → Except Int (β × List Int)) : rb (rtuple l) f = rb (rtext l) fun a l => rb (rtext l) fun b l => rb (rtext l) fun c l => f (a, b, c) l := by
  unfold rtuple rb
  cases rtext l with
  | error c => rfl
  | ok v =>
    obtain ⟨a, l1⟩ := v
    dsimp only
    cases rtext l1 with
    | error c => rfl
    | ok v =>
      obtain ⟨b, l2⟩ := v
      dsimp only
      cases rtext l2 with
      | error c => rfl
      | ok v => rfl
/-- A tuple read in a state. -/
def tst (s : St) : Tx × St := ((((rst rtext [] s).1, (rst rtext [] (rst rtext [] s).2).1, (rst rtext [] (rst rtext [] (rst rtext [] s).2).2).1)), (rst rtext [] (rst rtext [] (rst rtext [] s).2).2).2)
theorem res_tuple {β : Type} (s : St) (f : Tx → List Int → Except Int (β × List Int)) : res s (fun l => rb (rtuple l) f) = res (tst s).2 (fun l => f (tst s).1 l) := by
  simp only [rtuple_rb]
  rw [res_step en_text [] s, res_step en_text [] _, res_step en_text [] _]
  rfl
theorem StOk.tst {s : St} (h : StOk s) : StOk (tst s).2 := ((h.rst suf_text []).rst suf_text []).rst suf_text []
theorem rflag_rb {β : Type} (l : List Int) (f : Bool × Tx → List Int → Except Int (β × List Int)) : rb (rflag l) f = rb (rtruth l) fun d l => rb (rtuple l) fun t l => f (d, t) l := by
  unfold rflag rb
  cases rtruth l with
  | error c => rfl
  | ok v =>
    obtain ⟨a, l1⟩ := v
    dsimp only
    cases rtuple l1 with
    | error c => rfl
    | ok v => rfl
/-- A mutation read in a state. -/
def fst' (s : St) : (Bool × Tx) × St := (((rst rtruth false s).1, (tst (rst rtruth false s).2).1), (tst (rst rtruth false s).2).2)
theorem res_flag {β : Type} (s : St) (f : Bool × Tx → List Int → Except Int (β × List Int)) : res s (fun l => rb (rflag l) f) = res (fst' s).2 (fun l => f (fst' s).1 l) := by
  simp only [rflag_rb]
  rw [res_step en_truth false s, res_tuple]
  rfl
theorem rrow_rb {β : Type} (l : List Int) (f : Tx × Int × Int → List Int → Except Int (β × List Int)) : rb (rrow l) f = rb (rtuple l) fun t l => rb (rnum l) fun a l => rb (rnum l) fun b l => f (t, a, b) l := by
  unfold rrow rb
  cases rtuple l with
  | error c => rfl
  | ok v =>
    obtain ⟨a, l1⟩ := v
    dsimp only
    cases rnum l1 with
    | error c => rfl
    | ok v =>
      obtain ⟨b, l2⟩ := v
      dsimp only
      cases rnum l2 with
      | error c => rfl
      | ok v => rfl
/-- A row read in a state. -/
def rwst (s : St) : (Tx × Int × Int) × St := (((tst s).1, (rst rnum 0 (tst s).2).1, (rst rnum 0 (rst rnum 0 (tst s).2).2).1), (rst rnum 0 (rst rnum 0 (tst s).2).2).2)
theorem res_row {β : Type} (s : St) (f : Tx × Int × Int → List Int → Except Int (β × List Int)) : res s (fun l => rb (rrow l) f) = res (rwst s).2 (fun l => f (rwst s).1 l) := by
  simp only [rrow_rb]
  rw [res_tuple, res_step en_num 0 _, res_step en_num 0 _]
  rfl
/-- A list: how many. -/
theorem res_list {α β : Type} (p : List Int → Except Int (α × List Int)) (s : St) (f : List α → List Int → Except Int (β × List Int)) : res s (fun l => rb (rlst p l) f) = res (rst (rcount 1024) 0 s).2 (fun l => rb (rrep p (rst (rcount 1024) 0 s).1.toNat l) f) := by
  have h : ∀ l, rb (rlst p l) f = rb (rcount 1024 l) fun n l => rb (rrep p n.toNat l) f := fun l => by
    unfold rlst rb
    cases rcount 1024 l with
    | error c => rfl
    | ok v => rfl
  simp only [h]
  exact res_step (en_count 1024) 0 s _
/-- One item more. -/
theorem rrep_rb {α β : Type} (p : List Int → Except Int (α × List Int)) (m : Nat) (l : List Int) (ys : List α) (f : List α → List Int → Except Int (β × List Int)) : rb (rrep p (m + 1) l) (fun zs l => f (ys ++ zs) l) = rb (p l) fun x l => rb (rrep p m l) fun zs l => f ((ys ++ [x]) ++ zs) l := by
  rw [rrep]
  unfold rb
  cases p l with
  | error c => rfl
  | ok v =>
    obtain ⟨x, l1⟩ := v
    dsimp only
    cases rrep p m l1 with
    | error c => rfl
    | ok v =>
      obtain ⟨zs, l2⟩ := v
      dsimp only
      rw [List.append_assoc]
      rfl
theorem rrep_end {α β : Type} (p : List Int → Except Int (α × List Int)) (l : List Int) (ys : List α) (f : List α → List Int → Except Int (β × List Int)) : rb (rrep p 0 l) (fun zs l => f (ys ++ zs) l) = f ys l := by
  rw [rrep]
  unfold rb
  dsimp only
  rw [List.append_nil]
theorem res_no2 {β : Type} {s : St} (h : s.2 ≠ 0) (k k2 : List Int → Except Int (β × List Int)) : res s k = res s k2 := by rw [res_no h, res_no h]
/-- The first seven numbers. -/
def nst : Nat → St → List Int × St
  | 0, s => ([], s)
  | i + 1, s => ((nst i s).1 ++ [(rst rnum 0 (nst i s).2).1], (rst rnum 0 (nst i s).2).2)
theorem nst_len : ∀ (i : Nat) (s : St), (nst i s).1.length = i
  | 0, _ => rfl
  | i + 1, s => by rw [nst, List.length_append, nst_len i s]; rfl
theorem StOk.nst {s : St} (h : StOk s) : ∀ i, StOk (nst i s).2
  | 0 => h
  | i + 1 => (StOk.nst h i).rst suf_num 0
theorem rcount_st_range (s : St) : 0 ≤ (rst (rcount 1024) 0 s).1 ∧ (rst (rcount 1024) 0 s).1 ≤ 1024 := by
  by_cases h : s.2 = 0
  · obtain ⟨xs, c⟩ := s
    obtain rfl : c = 0 := h
    cases hr : rcount 1024 xs with
    | ok v =>
      obtain ⟨x, l⟩ := v
      rw [rst_ok hr]
      exact rcount_range hr
    | error c =>
      rw [rst_bad hr]
      exact ⟨Int.le_refl 0, show (0 : Int) ≤ 1024 by decide⟩
  · rw [rst_no _ _ h]
    exact ⟨Int.le_refl 0, show (0 : Int) ≤ 1024 by decide⟩
/-- What the document's reading begins with. -/
theorem rmsg_seven (s : St) : ∃ a0 a1 a2 a3 a4 a5 a6, (nst 7 s).1 = [a0, a1, a2, a3, a4, a5, a6] ∧ res s rmsg = res (nst 7 s).2 (fun l => m7 a0 a1 a2 a3 a4 a5 a6 l) := by
  refine ⟨(rst rnum 0 (nst 0 s).2).1, (rst rnum 0 (nst 1 s).2).1, (rst rnum 0 (nst 2 s).2).1, (rst rnum 0 (nst 3 s).2).1, (rst rnum 0 (nst 4 s).2).1, (rst rnum 0 (nst 5 s).2).1, (rst rnum 0 (nst 6 s).2).1, rfl, ?_⟩
  have h0 : res s rmsg = res s (fun l => rb (rnum l) fun x l => m1 x l) := rfl
  rw [h0, res_step en_num 0]
  simp only [m1]
  rw [res_step en_num 0]
  simp only [m2]
  rw [res_step en_num 0]
  simp only [m3]
  rw [res_step en_num 0]
  simp only [m4]
  rw [res_step en_num 0]
  simp only [m5]
  rw [res_step en_num 0]
  simp only [m6]
  rw [res_step en_num 0]
  rfl
end Go.Proofs.YteodldmbnghfcaaGreat
