/- What cannot be read is told by a number above 0. -/
import Derived.Test.YtbckccgcjmanlaaCDec
namespace Go.Proofs.Ytbckccgcjmanlaa
open Go.RowKit

/-- Errors are told by numbers above 0. -/
def En {α : Type} (p : List Int → Except Int (α × List Int)) : Prop := ∀ xs c, p xs = .error c → c ≠ 0
theorem En.step {α β : Type} {p : List Int → Except Int (α × List Int)} {k : α → List Int → Except Int (β × List Int)} (h : En p) (hk : ∀ x, En (k x)) : En (fun xs => rb (p xs) k) := fun xs c hc => by
  simp only at hc
  cases hp : p xs with
  | error e =>
    rw [rb_bad hp] at hc
    injection hc with hc
    subst hc
    exact h xs e hp
  | ok q =>
    obtain ⟨x, l⟩ := q
    rw [rb_ok hp] at hc
    exact hk x l c hc
theorem En.ok {α : Type} (f : List Int → α × List Int) : En (fun l => .ok (f l)) := fun _ _ h => by cases h
theorem en_num : En rnum := fun xs c h => by
  rw [rnum] at h
  split at h
  · cases h
  · rename_i h0
    injection h with h
    rw [← h]
    exact h0
theorem en_count (most : Int) : En (rcount most) := fun xs c h => by
  rw [rcount] at h
  cases hp : rnum xs with
  | error e =>
    rw [hp] at h
    injection h with h
    subst h
    exact en_num xs e hp
  | ok q =>
    rw [hp] at h
    simp only at h
    split at h
    · injection h with h; omega
    · cases h
theorem en_truth : En rtruth := fun xs c h => by
  cases xs with
  | nil => injection h with h; omega
  | cons x l =>
    rw [rtruth] at h
    split at h
    · injection h with h; omega
    · cases h
theorem en_text : En rtext := fun xs c h => by
  rw [rtext] at h
  cases hp : rcount 128 xs with
  | error e =>
    rw [hp] at h
    injection h with h
    subst h
    exact en_count 128 xs e hp
  | ok q =>
    rw [hp] at h
    simp only at h
    split at h
    · injection h with h; omega
    · cases h
theorem en_tuple : En rtuple := fun xs c h => by
  rw [rtuple] at h
  split at h
  · rename_i e hp
    injection h with h; subst h
    exact en_text _ _ hp
  · split at h
    · rename_i e hp
      injection h with h; subst h
      exact en_text _ _ hp
    · split at h
      · rename_i e hp
        injection h with h; subst h
        exact en_text _ _ hp
      · cases h
theorem en_flag : En rflag := fun xs c h => by
  rw [rflag] at h
  split at h
  · rename_i e hp
    injection h with h; subst h
    exact en_truth _ _ hp
  · split at h
    · rename_i e hp
      injection h with h; subst h
      exact en_tuple _ _ hp
    · cases h
theorem en_row : En rrow := fun xs c h => by
  rw [rrow] at h
  split at h
  · rename_i e hp
    injection h with h; subst h
    exact en_tuple _ _ hp
  · split at h
    · rename_i e hp
      injection h with h; subst h
      exact en_num _ _ hp
    · split at h
      · rename_i e hp
        injection h with h; subst h
        exact en_num _ _ hp
      · cases h
theorem en_rep {α : Type} {p : List Int → Except Int (α × List Int)} (hp : En p) : ∀ n, En (rrep p n)
  | 0 => fun xs c h => by cases h
  | n + 1 => fun xs c h => by
    rw [rrep] at h
    split at h
    · rename_i e hq
      injection h with h; subst h
      exact hp _ _ hq
    · split at h
      · rename_i e hq
        injection h with h; subst h
        exact en_rep hp n _ _ hq
      · cases h
theorem en_lst {α : Type} {p : List Int → Except Int (α × List Int)} (hp : En p) : En (rlst p) := fun xs c h => by
  rw [rlst] at h
  split at h
  · rename_i e hq
    injection h with h; subst h
    exact en_count _ _ _ hq
  · exact en_rep hp _ _ _ h
theorem en_msg : En rmsg :=
  en_num.step fun _ => en_num.step fun _ => en_num.step fun _ => en_num.step fun _ => en_num.step fun _ => en_num.step fun _ => en_num.step fun _ => en_truth.step fun _ => (en_lst en_num).step fun _ => (en_lst en_flag).step fun _ => (en_lst en_flag).step fun _ => (en_lst en_row).step fun _ => En.ok _
theorem dec_err {xs : List Int} {c : Int} (h : dec xs = .error c) : c ≠ 0 := by
  rw [dec] at h
  split at h
  · injection h with h; omega
  split at h
  · rename_i e hq
    injection h with h; subst h
    exact en_msg _ _ hq
  · split at h
    · cases h
    · injection h with h; omega

end Go.Proofs.Ytbckccgcjmanlaa
