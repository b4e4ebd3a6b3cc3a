/- OutboxSeen: lists of keys that are remembered, and calls as the law sees them. -/
import Derived.Test.YtefllbmopaiojaaS2
namespace Go.Proofs.Ytefllbmopaiojaa
open Go.RowKit
open Go.Maps (Keyed)

theorem exit_mem {P : List Int} {i t s0 M : Nat} (hP : P.length = i) (ht : t ≤ i) (hM : M = (mru (P.drop (i - t))).length) (hle : M ≤ s0) (hx : t = i ∨ M = s0) (y : Int) : y ∈ P.drop (i - t) ↔ y ∈ (mru P).take s0 := by
  rw [← mem_mru]
  rcases hx with h | h
  · subst h
    rw [Nat.sub_self, List.drop_zero] at hM ⊢
    rw [List.take_of_length_le (by omega)]
  · obtain ⟨R, hR⟩ := mru_prefix (P.take (i - t)) (P.drop (i - t))
    rw [List.take_append_drop] at hR
    rw [hR, List.take_append_of_le_length (by omega), List.take_of_length_le (by omega)]
def upd (T : Int → Int) (x v : Int) : Int → Int := fun k => if k = x then v else T k
theorem map_upd {L : List Int} {T : Int → Int} {x v : Int} (h : x ∉ L) : L.map (fun k => (k, upd T x v k)) = L.map fun k => (k, T k) := by
  apply List.map_congr_left
  intro k hk
  have : k ≠ x := by rintro rfl; exact h hk
  simp [upd, this]
theorem less_map (L : List Int) (T : Int → Int) (x : Int) : KI.less (L.map fun k => (k, T k)) x = (L.filter fun k => decide (k ≠ x)).map fun k => (k, T k) := by
  unfold KI.less
  rw [List.filter_map]
  rfl
theorem step_old {P : List Int} {T : Int → Int} {x v : Int} {s0 : Nat} (h : x ∈ (mru P).take s0) :
    (x, v) :: KI.less (((mru P).take s0).map fun k => (k, T k)) x = ((mru (P ++ [x])).take s0).map fun k => (k, upd T x v k) := by
  obtain ⟨A, C, hAC⟩ := List.append_of_mem h
  have hnd : (A ++ x :: C).Nodup := by rw [← hAC]; exact (mru_nodup P).sublist (List.take_sublist _ _)
  have h1 := List.nodup_append.1 hnd
  have hA : x ∉ A := fun hk => h1.2.2 x hk x (by simp) rfl
  have hC : x ∉ C := (List.nodup_cons.1 h1.2.1).1
  rw [mru_snoc, take_there (mru_nodup P) hAC, less_map, hAC, List.filter_append, List.filter_cons, filter_none hA, filter_none hC]
  simp only [ne_eq, not_true, decide_false, Bool.false_eq_true, if_false]
  rw [List.map_cons, map_upd (by simp [hA, hC])]
  simp [upd]
theorem step_new {P : List Int} {T : Int → Int} {x v : Int} {s0 : Nat} (hs : 1 ≤ s0) (h : x ∉ (mru P).take s0) {n : Nat} (hn : n = ((mru P).take s0).length) :
    (x, v) :: (if n = s0 then (((mru P).take s0).map fun k => (k, T k)).dropLast else ((mru P).take s0).map fun k => (k, T k)) = ((mru (P ++ [x])).take s0).map fun k => (k, upd T x v k) := by
  rw [mru_snoc, take_none hs h, hn, List.map_cons]
  have hd : ∀ L : List Int, (L.map fun k => (k, T k)).dropLast = L.dropLast.map fun k => (k, T k) := fun L => by
    rw [List.dropLast_eq_take, List.dropLast_eq_take, List.map_take, List.length_map]
  split
  · rw [hd, map_upd (fun hm => h ((List.dropLast_sublist _).subset hm))]
    simp [upd]
  · rw [map_upd h]
    simp [upd]
/-- The cache and the law's table, as they lie. -/
def Q1 (w W : World) (s g b mt size : Nat) (L : List (Int × Int)) (f m : Int) (mm : Lit → Option Value) (N : Nat) : Prop :=
  ∃ es, KI.SAt W w.heap.size s g b size es f m ∧ KI.kv es = L ∧ MapAt W Try.prog 3 mt mm N ∧ Below w.heap.size w W ∧ mt ≠ b
section
variable {w W W' : World} {s g b mt size N : Nat} {L : List (Int × Int)} {f m : Int} {mm : Lit → Option Value}
theorem Q1.below (h : Q1 w W s g b mt size L f m mm N) (hb : Below W.heap.size W W') : Q1 w W' s g b mt size L f m mm N := by
  obtain ⟨es, h1, h2, h3, h4, h5⟩ := h
  exact ⟨es, h1.below hb, h2, h3.below hb, bell_up h4 hb, h5⟩
theorem Q1.look (h : Q1 w W s g b mt size L f m mm N) {x v : Int} (hx : InI x) (hv : mm (.int .i64 x) = some (.int .i64 v)) : (Instr.lookup 54 (.map (some mt)) (.int .i64 x) false).run Try.prog W = .ok (.int .i64 v) W := by
  obtain ⟨es, h1, h2, h3, h4, h5⟩ := h
  have := h3.look KI.Try.keyed Try.underlying54 (Try.zeroI W) false (key_int x hx)
  rw [hv] at this
  exact this
theorem map_far {es : List KI.En} (h1 : KI.SAt W w.heap.size s g b size es f m) (h3 : MapAt W Try.prog 3 mt mm N) (h5 : mt ≠ b) (hc : KI.Chg W W' (KI.CB g b es)) : MapAt W' Try.prog 3 mt mm N := by
  refine h3.kept (hc.block mt h3.lt ?_)
  obtain ⟨M, ⟨⟨k0, v0, hk⟩, he⟩, hl⟩ := h1.cat.ring.ex
  rintro (h | h | h)
  · exact h3.ne hk h.symm
  · exact h5 h
  · obtain ⟨⟨p, k', v'⟩, hp, h2⟩ := List.mem_map.1 h
    exact h3.ne (he p k' v' hp) h2
theorem first_old {k v : Int} (h : Q1 w W s g b mt size L f m mm N) (hk : (k, v) ∈ L) (hv : 0 ≤ v ∧ v ≤ 4611686018427387904) (hf : 0 ≤ f ∧ f ≤ 4611686018427387904) :
    Calls Try.prog 19 #[.pointer (some ⟨s, 0, none⟩), .int .i64 k] W fun x W' => x = .returned (.bool false) ∧ Q1 w W' s g b mt size ((k, v + 1) :: KI.less L k) (f + 1) m mm N := by
  obtain ⟨es, h1, rfl, h3, h4, h5⟩ := h
  refine (KI.first_there W h1 hk hv hf h4.size).mono ?_
  rintro x W' ⟨rfl, ⟨es', hS, hkv⟩, hc⟩
  exact ⟨rfl, es', hS, hkv, map_far h1 h3 h5 hc, KI.up h1 h4 hc, h5⟩
theorem first_new {k : Int} (h : Q1 w W s g b mt size L f m mm N) (hkr : InI k) (hk : k ∉ L.map (·.1)) (hm : 0 ≤ m ∧ m ≤ 4611686018427387904) :
    Calls Try.prog 19 #[.pointer (some ⟨s, 0, none⟩), .int .i64 k] W fun x W' => x = .returned (.bool true) ∧ Q1 w W' s g b mt size ((k, 1) :: (if L.length = size then L.dropLast else L)) f (m + 1) mm N := by
  obtain ⟨es, h1, rfl, h3, h4, h5⟩ := h
  refine (KI.first_none W h1 hkr hk hm h4.size).mono ?_
  rintro x W' ⟨rfl, ⟨es', hS, hkv⟩, hc⟩
  rw [← KI.kv_len] at hkv
  exact ⟨rfl, es', hS, hkv, map_far h1 h3 h5 hc, KI.up h1 h4 hc, h5⟩
theorem times_q {k v : Int} {R : List (Int × Int)} (h : Q1 w W s g b mt size ((k, v) :: R) f m mm N) (hn : k ∉ R.map (·.1)) (hf : 0 ≤ f ∧ f ≤ 4611686018427387904) :
    Calls Try.prog 20 #[.pointer (some ⟨s, 0, none⟩), .int .i64 k] W fun x W' => x = .returned (.int .i64 v) ∧ Q1 w W' s g b mt size ((k, v) :: R) (f + 1) m mm N := by
  obtain ⟨es, h1, h2, h3, h4, h5⟩ := h
  refine (KI.times_there W h1 (KI.kv_of h2) hf).mono ?_
  rintro x W' ⟨rfl, ⟨es', hS, hkv⟩, hc⟩
  refine ⟨rfl, es', hS, ?_, map_far h1 h3 h5 hc, KI.up h1 h4 hc, h5⟩
  rw [hkv, h2]
  congr 1
  unfold KI.less
  rw [List.filter_cons]
  simp only [ne_eq, not_true, decide_false, Bool.false_eq_true, if_false]
  exact KI.less_none hn
theorem notin_less {L : List (Int × Int)} {x : Int} : x ∉ (KI.less L x).map (·.1) := by
  intro h
  obtain ⟨t, ht, he⟩ := List.mem_map.1 h
  unfold KI.less at ht
  have := (List.mem_filter.1 ht).2
  simp at this
  exact this he
theorem has_next {P : List Int} {T : Int → Int} {x v : Int} {m2 : Lit → Option Value} (hx : InI x) (hh : ∀ k, InI k → mm (.int .i64 k) = if k ∈ P then some (.int .i64 (T k)) else none)
    (h1 : m2 (.int .i64 x) = some (.int .i64 v)) (h2 : ∀ k, k ≠ x → m2 (.int .i64 k) = mm (.int .i64 k)) (k : Int) (hk : InI k) : m2 (.int .i64 k) = if k ∈ P ++ [x] then some (.int .i64 (upd T x v k)) else none := by
  by_cases hkx : k = x
  · subst hkx
    rw [h1, if_pos (by simp)]
    simp [upd]
  · rw [h2 k hkx, hh k hk]
    simp [hkx, upd]
theorem SJ.next {wr : World} {P : List Int} {es : List KI.En} {T : Int → Int} {x v f' m' : Int} {m2 : Lit → Option Value} {N' : Nat} (h : SJ w wr s g b mt size P es f m mm N T) (hx : InI x) (hv : 1 ≤ v ∧ v ≤ (P.length : Int) + 1)
    (hq : Q1 w W s g b mt size (((mru (P ++ [x])).take size).map fun k => (k, upd T x v k)) f' m' m2 N') (hf : 0 ≤ f' ∧ f' ≤ f + 2) (hm : 0 ≤ m' ∧ m' ≤ m + 1) (hN : N' ≤ N + 1)
    (hh : ∀ k, InI k → m2 (.int .i64 k) = if k ∈ P ++ [x] then some (.int .i64 (upd T x v k)) else none) : ∃ es', SJ w W s g b mt size (P ++ [x]) es' f' m' m2 N' (upd T x v) := by
  obtain ⟨es', h1, h2, h3, h4, h5⟩ := hq
  have hl : (P ++ [x]).length = P.length + 1 := by simp
  have a1 := h.few
  have a2 := h.ff
  have a3 := h.fm
  refine ⟨es', h1, h3, h.mge, h5, by rw [hl]; omega, h2, hh, fun k hk => ?_, fun k hk => ?_, by rw [hl]; omega, by rw [hl]; omega, h4⟩
  · rw [hl]
    unfold upd
    split
    · omega
    · rename_i hne
      have hk2 : k ∈ P := by
        rcases List.mem_append.1 hk with h6 | h6
        · exact h6
        · exact absurd (by simpa using h6) hne
      have := h.cnt k hk2
      omega
  · rcases List.mem_append.1 hk with h6 | h6
    · exact h.rng k h6
    · rw [List.mem_singleton] at h6
      rw [h6]
      exact hx
end
end Go.Proofs.Ytefllbmopaiojaa
