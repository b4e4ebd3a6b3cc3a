/- DiskParts: the parts' copies, each a row of its own. -/
import Derived.Test.YtnppnccokmcbpaaDOpen
import Derived.Deep.Matrix
namespace Go.Proofs.Ytnppnccokmcbpaa
open Go.RowKit

/-- An owned row of bytes, whatever they are. -/
def SomeB (w : World) (base g n c : Nat) : Prop := ∃ l : List Value, w.ownsRow base 5 1 (.slice (some ⟨g, 0, none⟩) n c) n l ∧ ∀ v ∈ l, ∃ y : Nat, y < 256 ∧ v = .int .u8 y
theorem SomeB.cell {w : World} {base g n c : Nat} (h : SomeB w base g n c) (k : Nat) (hk : k < n) : ∃ y : Nat, y < 256 ∧ w.cell? ⟨g, k, none⟩ = some (.int .u8 y) ∧ w.frozen? ⟨g, k, none⟩ = false := by
  obtain ⟨l, ho, hl⟩ := h
  have hlen : l.length = n := by simpa using ho.1
  have hc := ho.cellAt k (by omega)
  have he : l[k]? = some l[k] := by simp [hlen, hk]
  obtain ⟨y, hy, hv⟩ := hl l[k] (List.getElem_mem _)
  exact ⟨y, hy, by rw [hc, he, hv], ho.frozenAt k⟩
theorem SomeB.store {w : World} {base g n c : Nat} (h : SomeB w base g n c) (k y : Nat) (hy : y < 256) : SomeB (w.setCell ⟨g, k, none⟩ (.int .u8 y)) base g n c := by
  obtain ⟨l, ho, hl⟩ := h
  refine ⟨_, (ho.stored k (.int .u8 y)).1, fun v hv => ?_⟩
  rcases List.mem_or_eq_of_mem_set hv with h | h
  · exact hl v h
  · exact ⟨y, hy, h⟩
theorem owns_below {w w' : World} {base n g c : Nat} {e : TypeId} {l : List Value} (h : w.ownsRow base e 1 (.slice (some ⟨g, 0, none⟩) n c) n l) (hb : Below w.heap.size w w') : w'.ownsRow base e 1 (.slice (some ⟨g, 0, none⟩) n c) n l := by
  have hg := (h.lt g rfl).2
  obtain ⟨h1, h2⟩ := h
  refine ⟨h1, ?_⟩
  rcases h2 with h2 | ⟨g', cap', cur, hv, hg', hh, r⟩
  · exact .inl h2
  · injection hv with e1 e2 e3
    injection e1 with e1
    injection e1 with e1
    subst e1
    exact .inr ⟨g, cap', cur, by rw [e3], hg', by rw [hb.block g hg]; exact hh, r⟩
theorem SomeB.below {w w' : World} {base g n c : Nat} (h : SomeB w base g n c) (hb : Below w.heap.size w w') : SomeB w' base g n c := by
  obtain ⟨l, ho, hl⟩ := h
  exact ⟨l, owns_below ho hb, hl⟩
theorem SomeB.ge {w : World} {base g n c : Nat} (h : SomeB w base g n c) : base ≤ g ∧ g < w.heap.size := by
  obtain ⟨l, ho, _⟩ := h
  exact ho.lt g rfl
theorem owns_other {w : World} {base n : Nat} {e : TypeId} {g cap : Nat} {xs : List Value} (h : w.ownsRow base e 1 (.slice (some ⟨g, 0, none⟩) n cap) n xs) (a : Addr) (ha : a.block ≠ g) (u : Value) : (w.setCell a u).ownsRow base e 1 (.slice (some ⟨g, 0, none⟩) n cap) n xs := by
  obtain ⟨h1, h2⟩ := h
  refine ⟨h1, ?_⟩
  rcases h2 with ⟨h2, _⟩ | ⟨g', cap', cur, hv, hg, hh, r⟩
  · cases h2
  · injection hv with e1 e2 e3
    injection e1 with e1
    injection e1 with e1
    subst e1
    exact .inr ⟨g, cap', cur, by rw [e3], hg, by rw [Below.heap_setCell _ _ _ _ (by omega)]; exact hh, r⟩
theorem owns_kept_below {w w' : World} {base n : Nat} {e : TypeId} {v : Value} {l : List Value} (h : w.ownsRow base e 1 v n l) (hb : Below w.heap.size w w') : w'.ownsRow base e 1 v n l := by
  rcases h.2 with ⟨rfl, rfl⟩ | ⟨g, cap, cur, rfl, r⟩
  · exact ⟨h.1, .inl ⟨rfl, rfl⟩⟩
  · exact owns_below h hb
theorem Try.infoS : (Try.prog.info? 31).map (fun i => (i.zero, i.size, i.bytes)) = some (some (.slice none 0 0), 1, 24) := by kernel_rfl
/-- A list of slices of bytes that came in. -/
def ListIn (w : World) (a : Option Addr) (n : Nat) (xss : List (List Int)) : Prop :=
  xss.length = n ∧ (n = 0 ∨ ∃ b off, a = some ⟨b, off, none⟩ ∧ ∀ i, i < n → ∃ ua m uc, w.cell? ⟨b, off + i, none⟩ = some (.slice ua m uc) ∧ m ≤ maxLen ∧ (ua = none → m = 0 ∧ uc = 0) ∧ IsB w ua m (xss.getD i []))

theorem SomeB.kept {w w' : World} {base g n c : Nat} (h : SomeB w base g n c) (hb : w'.heap[g]? = w.heap[g]?) : SomeB w' base g n c := by
  obtain ⟨l, ho, hl⟩ := h
  exact ⟨l, owns_kept ho (fun k hk => by simp [Value.ownBlock] at hk; subst hk; exact hb), hl⟩
theorem IsB.kept {w w' : World} {b off n : Nat} {xs : List Int} (h : IsB w (some ⟨b, off, none⟩) n xs) (hb : w'.heap[b]? = w.heap[b]?) : IsB w' (some ⟨b, off, none⟩) n xs := by
  obtain ⟨h1, h2, h3⟩ := h
  refine ⟨h1, h2, h3.imp_right ?_⟩
  rintro ⟨b', off', he, hc⟩
  injection he with he
  injection he with e1 e2 e3
  subst e1 e2
  exact ⟨b, off, rfl, fun i hi => (World.cell?_of_block (w := w) (a := ⟨b, off + i, none⟩) hb).trans (hc i hi)⟩
theorem SomeB.typed {w : World} {base g n c : Nat} (h : SomeB w base g n c) : ∃ cur, w.heap[g]? = some (.cells cur 5 (0, 0)) := by
  obtain ⟨l, ho, _⟩ := h
  rcases ho.2 with ⟨h, _⟩ | ⟨g', cap, cur, hv, _, hh, _⟩
  · cases h
  · injection hv with e1 e2 e3
    injection e1 with e1
    injection e1 with e1
    subst e1
    exact ⟨cur, hh⟩
theorem owned_type {w : World} {base n : Nat} {e : TypeId} {v : Value} {l : List Value} (h : w.ownsRow base e 1 v n l) (k : Nat) (hk : v.ownBlock = some k) : ∃ cur, w.heap[k]? = some (.cells cur e (0, 0)) := by
  rcases h.2 with ⟨rfl, _⟩ | ⟨g, cap, cur, rfl, _, hh, _⟩
  · simp [Value.ownBlock] at hk
  · simp [Value.ownBlock] at hk
    subst hk
    exact ⟨cur, hh⟩

/-- The copies: a row of slices, each a row of bytes of its own; from place i on they are as they were made. -/
structure MineAt (w : World) (B : Nat) (v : Value) (us : List Value) (P : List (List Int)) (i : Nat) : Prop where
  own : w.ownsRow B 31 1 v P.length us
  row : ∀ j, j < P.length → ∃ g c, us.getD j undef = .slice (some ⟨g, 0, none⟩) (P.getD j []).length c ∧ SomeB w B g (P.getD j []).length c ∧ (i ≤ j → IsB w (some ⟨g, 0, none⟩) (P.getD j []).length (P.getD j []))
  apart : ∀ j k g m c g' m' c', j ≠ k → j < P.length → k < P.length → us.getD j undef = .slice (some ⟨g, 0, none⟩) m c → us.getD k undef = .slice (some ⟨g', 0, none⟩) m' c' → g ≠ g'
theorem MineAt.nil (w : World) (B : Nat) : MineAt w B (.slice none 0 0) [] [] 0 :=
  ⟨World.ownsRow_nil _ _ _ _, fun j hj => absurd hj (by simp), fun j k _ _ _ _ _ _ _ hj => absurd hj (by simp)⟩
theorem MineAt.next {w : World} {B : Nat} {v : Value} {us : List Value} {P : List (List Int)} {i : Nat} (h : MineAt w B v us P i) : MineAt w B v us P (i + 1) :=
  ⟨h.own, fun j hj => by
    obtain ⟨g, c, h1, h2, h3⟩ := h.row j hj
    exact ⟨g, c, h1, h2, fun hi => h3 (by omega)⟩, h.apart⟩
/-- The copies are as they were where none of their blocks has been written. -/
theorem MineAt.stay {w w' : World} {B : Nat} {v : Value} {us : List Value} {P : List (List Int)} {i : Nat} (h : MineAt w B v us P i)
    (hb : ∀ k t cur, w.heap[k]? = some (.cells cur t (0, 0)) → t = 5 ∨ t = 31 → k < w.heap.size → w'.heap[k]? = w.heap[k]?) : MineAt w' B v us P i := by
  refine ⟨owns_kept h.own (fun k hk => ?_), fun j hj => ?_, h.apart⟩
  · obtain ⟨cur, hc⟩ := owned_type h.own k hk
    exact hb k _ cur hc (.inr rfl) (h.own.lt k hk).2
  · obtain ⟨g, c, h1, h2, h3⟩ := h.row j hj
    obtain ⟨cur, hc⟩ := h2.typed
    have hk := hb g _ cur hc (.inl rfl) h2.ge.2
    exact ⟨g, c, h1, h2.kept hk, fun hi => (h3 hi).kept hk⟩
theorem MineAt.below {w w' : World} {B : Nat} {v : Value} {us : List Value} {P : List (List Int)} {i : Nat} (h : MineAt w B v us P i) (hb : Below w.heap.size w w') : MineAt w' B v us P i :=
  h.stay fun k _ _ _ _ hk => hb.block k hk
theorem MineAt.turned {w w' : World} {B B2 g d r : Nat} {v u : Value} {us : List Value} {P : List (List Int)} {xs : List Int} {i : Nat} (h : MineAt w B v us P i) (hd : DAt w B2 g u xs d r) (ht : Turned w w' g none) : MineAt w' B v us P i :=
  h.stay fun k t cur hc hty hk => ht.block k hk (by
    rintro rfl
    have h1 := hd.blk
    unfold Whole at h1
    rw [hc] at h1
    injection h1 with h1
    injection h1 with _ h1
    rcases hty with rfl | rfl <;> exact absurd h1 (by decide)) (by simp)
/-- One copy more. -/
theorem MineAt.snoc {w w' : World} {B : Nat} {v v' : Value} {us : List Value} {P : List (List Int)} {p : List Int} {g c : Nat} (h : MineAt w B v us P 0)
    (hu : w.ownsRow B 5 1 (.slice (some ⟨g, 0, none⟩) p.length c) p.length (p.map (Value.int .u8))) (hp : ∀ x ∈ p, 0 ≤ x ∧ x < 256)
    (hnew : ∀ j g' m' c', j < P.length → us.getD j undef = .slice (some ⟨g', 0, none⟩) m' c' → g' ≠ g)
    (ho : w'.ownsRow B 31 1 v' (P.length + 1) (us ++ [.slice (some ⟨g, 0, none⟩) p.length c])) (hg : w.grownBy w' v.ownBlock) : MineAt w' B v' (us ++ [.slice (some ⟨g, 0, none⟩) p.length c]) (P ++ [p]) 0 := by
  have hl : us.length = P.length := by simpa using h.own.1
  have hblk : ∀ k t cur, w.heap[k]? = some (.cells cur t (0, 0)) → t = 5 → k < w.heap.size → w'.heap[k]? = w.heap[k]? := by
    intro k t cur hc ht hk
    refine hg.block k hk (fun e => ?_)
    obtain ⟨cur2, hc2⟩ := owned_type h.own k e.symm
    rw [hc] at hc2
    injection hc2 with hc2
    injection hc2 with _ hc2
    rw [ht] at hc2
    exact absurd hc2 (by decide)
  have hlast : ∀ j, ¬ j < P.length → j < (P ++ [p]).length → j = P.length := by intro j h1 h2; simp at h2; omega
  have gl : ∀ j, j < P.length → (us ++ [Value.slice (some ⟨g, 0, none⟩) p.length c]).getD j undef = us.getD j undef := by
    intro j hj; simp [List.getD, List.getElem?_append_left (show j < us.length by omega)]
  have gr : (us ++ [Value.slice (some ⟨g, 0, none⟩) p.length c]).getD P.length undef = .slice (some ⟨g, 0, none⟩) p.length c := by
    simp [List.getD, ← hl]
  have pl : ∀ j, j < P.length → (P ++ [p]).getD j [] = P.getD j [] := by
    intro j hj; simp [List.getD, List.getElem?_append_left hj]
  have pr : (P ++ [p]).getD P.length [] = p := by simp [List.getD]
  refine ⟨by simpa using ho, fun j hj => ?_, fun j k g1 m1 c1 g2 m2 c2 hjk hj hk e1 e2 => ?_⟩
  · by_cases hjl : j < P.length
    · rw [gl j hjl, pl j hjl]
      obtain ⟨g', c', h1, h2, h3⟩ := h.row j hjl
      obtain ⟨cur, hc⟩ := h2.typed
      have hk := hblk g' _ cur hc rfl h2.ge.2
      exact ⟨g', c', h1, h2.kept hk, fun hi => (h3 hi).kept hk⟩
    · obtain rfl := hlast j hjl hj
      rw [gr, pr]
      obtain ⟨cur, hc⟩ := owned_type hu g rfl
      have hk := hblk g _ cur hc rfl (hu.lt g rfl).2
      have hs : SomeB w B g p.length c := ⟨_, hu, fun v hv => by
        obtain ⟨x, hx, rfl⟩ := List.mem_map.1 hv
        have := hp x hx
        exact ⟨x.toNat, by omega, by rw [Int.toNat_of_nonneg this.1]⟩⟩
      exact ⟨g, c, rfl, hs.kept hk, fun _ => (IsB.owned hu hp).kept hk⟩
  · by_cases hjl : j < P.length
    · rw [gl j hjl] at e1
      by_cases hkl : k < P.length
      · rw [gl k hkl] at e2
        exact h.apart j k g1 m1 c1 g2 m2 c2 hjk hjl hkl e1 e2
      · obtain rfl := hlast k hkl hk
        rw [gr] at e2
        injection e2 with e2
        injection e2 with e2
        injection e2 with e2
        rw [← e2]
        exact hnew j g1 m1 c1 hjl e1
    · obtain rfl := hlast j hjl hj
      rw [gr] at e1
      injection e1 with e1
      injection e1 with e1
      injection e1 with e1
      have hkl : k < P.length := by simp at hk; omega
      rw [gl k hkl] at e2
      rw [← e1]
      exact (hnew k g2 m2 c2 hkl e2).symm
/-- A byte of the copy before place i is written. -/
theorem MineAt.store {w : World} {B : Nat} {v : Value} {us : List Value} {P : List (List Int)} {i j g m c : Nat} (h : MineAt w B v us P i) (hj : j < i) (hjl : j < P.length) (he : us.getD j undef = .slice (some ⟨g, 0, none⟩) m c) (k y : Nat) (hy : y < 256) : MineAt (w.setCell ⟨g, k, none⟩ (.int .u8 y)) B v us P i := by
  obtain ⟨g0, c0, e0, s0, _⟩ := h.row j hjl
  have hg : g0 = g := by
    rw [he] at e0
    injection e0 with e0
    injection e0 with e0
    injection e0 with e0
    exact e0.symm
  refine ⟨?_, fun j' hj' => ?_, h.apart⟩
  · refine owns_far h.own g k (fun e => ?_) _
    obtain ⟨cur, hc⟩ := owned_type h.own g e
    obtain ⟨cur2, hc2⟩ := s0.typed
    rw [hg, hc] at hc2
    injection hc2 with hc2
    injection hc2 with _ hc2
    exact absurd hc2 (by decide)
  · obtain ⟨g', c', h1, h2, h3⟩ := h.row j' hj'
    by_cases hjj : j' = j
    · subst hjj
      have hgg : g' = g := by
        rw [he] at h1
        injection h1 with h1
        injection h1 with h1
        injection h1 with h1
        exact h1.symm
      subst hgg
      exact ⟨g', c', h1, h2.store k y hy, fun hi => absurd hi (by omega)⟩
    · have hne := h.apart j' j g' _ c' g m c hjj hj' hjl h1 he
      have hk : (w.setCell ⟨g, k, none⟩ (.int .u8 y)).heap[g']? = w.heap[g']? := Below.heap_setCell w ⟨g, k, none⟩ _ g' hne
      exact ⟨g', c', h1, h2.kept hk, fun hi => (h3 hi).kept hk⟩
end Go.Proofs.Ytnppnccokmcbpaa
