/- The walk of frame.Cut. -/
import Derived.Test.YtjilhmidgebfbaaL9
namespace Go.Proofs.Ytjilhmidgebfbaa
open Go.RowKit

theorem err_zero {xs : List Int} (h : Fr.err xs = 0) : 8 ≤ xs.length ∧ Fr.wd xs 4 ≤ 16384 ∧ 8 + Fr.wd xs 4 ≤ xs.length ∧ Mt.sum ((xs.drop 0).take 4 ++ Fr.pay xs) = Fr.wd (xs.drop 4) 4 := by
  unfold Fr.err at h
  split at h
  · omega
  · split at h
    · omega
    · split at h
      · omega
      · split at h
        · exact ⟨by omega, by omega, by omega, by assumption⟩
        · omega
theorem pay_length {xs : List Int} (h : Fr.err xs = 0) : (Fr.pay xs).length = Fr.wd xs 4 := by
  have := err_zero h
  simp [Fr.pay]
  omega
theorem pay_byte {xs : List Int} (hb : ∀ x ∈ xs, 0 ≤ x ∧ x < 256) : ∀ x ∈ Fr.pay xs, 0 ≤ x ∧ x < 256 := fun x hx => hb x (List.mem_of_mem_drop (List.mem_of_mem_take hx))

/-- The payloads of the frames with which some bytes begin, how many bytes these have, what is wrong with what follows; f: as many rounds at most. -/
def cuts : Nat → List Int → List (List Int) × Nat × Nat
  | 0, _ => ([], 0, 0)
  | f + 1, xs => if xs.length = 0 then ([], 0, 0) else if Fr.err xs = 0 then
      (Fr.pay xs :: (cuts f (xs.drop (8 + Fr.wd xs 4))).1, 8 + Fr.wd xs 4 + (cuts f (xs.drop (8 + Fr.wd xs 4))).2.1, (cuts f (xs.drop (8 + Fr.wd xs 4))).2.2)
    else ([], 0, Fr.err xs)
theorem cuts_fuel : ∀ (m : Nat) (xs : List Int) (f g : Nat), xs.length ≤ m → xs.length ≤ f → xs.length ≤ g → cuts f xs = cuts g xs := by
  intro m
  induction m with
  | zero =>
    intro xs f g h _ _
    have h0 : xs.length = 0 := by omega
    cases f <;> cases g <;> simp [cuts, h0]
  | succ m ih =>
    intro xs f g h hf hg
    rcases Nat.eq_zero_or_pos xs.length with h0 | h0
    · cases f <;> cases g <;> simp [cuts, h0]
    · obtain ⟨f, rfl⟩ : ∃ f', f = f' + 1 := ⟨f - 1, by omega⟩
      obtain ⟨g, rfl⟩ : ∃ g', g = g' + 1 := ⟨g - 1, by omega⟩
      have e := ih (xs.drop (8 + Fr.wd xs 4)) f g (by simp; omega) (by simp; omega) (by simp; omega)
      simp only [cuts, e]
def cutAll (xs : List Int) : List (List Int) × Nat × Nat := cuts xs.length xs
theorem cutAll_nil {xs : List Int} (h : xs.length = 0) : cutAll xs = ([], 0, 0) := by
  unfold cutAll
  rw [h]
  rfl
theorem cutAll_bad {xs : List Int} (h0 : 0 < xs.length) (h : Fr.err xs ≠ 0) : cutAll xs = ([], 0, Fr.err xs) := by
  unfold cutAll
  obtain ⟨f, hf⟩ : ∃ f, xs.length = f + 1 := ⟨xs.length - 1, by omega⟩
  rw [hf, cuts, if_neg (by omega), if_neg h]
theorem cutAll_step {xs : List Int} (h : Fr.err xs = 0) :
    cutAll xs = (Fr.pay xs :: (cutAll (xs.drop (8 + Fr.wd xs 4))).1, 8 + Fr.wd xs 4 + (cutAll (xs.drop (8 + Fr.wd xs 4))).2.1, (cutAll (xs.drop (8 + Fr.wd xs 4))).2.2) := by
  have hl := (err_zero h).1
  unfold cutAll
  obtain ⟨f, hf⟩ : ∃ f, xs.length = f + 1 := ⟨xs.length - 1, by omega⟩
  have e := cuts_fuel f (xs.drop (8 + Fr.wd xs 4)) f (xs.drop (8 + Fr.wd xs 4)).length (by simp; omega) (by simp; omega) (Nat.le_refl _)
  conv => lhs; rw [hf]
  rw [cuts, if_neg (by omega), if_pos h, e]
/-- What has been cut off, and the rest. -/
def joinCut (P : List (List Int)) (at0 : Nat) (r : List (List Int) × Nat × Nat) : List (List Int) × Nat × Nat := (P ++ r.1, at0 + r.2.1, r.2.2)

/-- A value owns just these bytes. -/
def OwnV (w : World) (v : Value) (xs : List Int) : Prop := ∃ base, w.ownsRow base 5 1 v xs.length (xs.map (Value.int .u8)) ∧ ∀ x ∈ xs, 0 ≤ x ∧ x < 256
theorem OwnV.isV {w : World} {v : Value} {xs : List Int} (h : OwnV w v xs) (hl : xs.length ≤ maxLen) : IsV w v xs := by
  obtain ⟨base, ho, hb⟩ := h
  obtain ⟨a, c, rfl, hi, _⟩ := owned_slice ho hb
  exact ⟨a, _, c, rfl, hl, hi⟩
theorem ownBlock_lt {w : World} {base n : Nat} {e : TypeId} {v : Value} {l : List Value} (h : w.ownsRow base e 1 v n l) : ∀ k, v.ownBlock = some k → k < w.heap.size := fun k hk => (h.lt k hk).2
theorem owns_kept_below {w w' : World} {base n : Nat} {e : TypeId} {v : Value} {l : List Value} (h : w.ownsRow base e 1 v n l) (hb : Below w.heap.size w w') : w'.ownsRow base e 1 v n l := by
  rcases h.2 with ⟨rfl, rfl⟩ | ⟨g, cap, cur, rfl, r⟩
  · exact ⟨h.1, .inl ⟨rfl, rfl⟩⟩
  · exact owns_below h hb
theorem OwnV.below {w w' : World} {v : Value} {xs : List Int} (h : OwnV w v xs) (hb : Below w.heap.size w w') : OwnV w' v xs := by
  obtain ⟨base, ho, hx⟩ := h
  exact ⟨base, owns_kept_below ho hb, hx⟩
theorem block_type {w : World} {base n : Nat} {e : TypeId} {v : Value} {l : List Value} (h : w.ownsRow base e 1 v n l) (k : Nat) (hk : v.ownBlock = some k) : ∃ cur, w.heap[k]? = some (.cells cur e (0, 0)) := by
  rcases h.2 with ⟨rfl, _⟩ | ⟨g, cap, cur, rfl, _, hh, _⟩
  · simp [Value.ownBlock] at hk
  · simp [Value.ownBlock] at hk
    subst hk
    exact ⟨cur, hh⟩
/-- Bytes stay while a row of another type is written. -/
theorem OwnV.grown {w w' : World} {v u : Value} {xs : List Int} {base n : Nat} {e : TypeId} {l : List Value} (h : OwnV w v xs) (hu : w.ownsRow base e 1 u n l) (he : e ≠ 5) (hg : w.grownBy w' u.ownBlock) : OwnV w' v xs := by
  obtain ⟨b0, ho, hx⟩ := h
  refine ⟨b0, ho.kept hg ?_, hx⟩
  cases hv : v.ownBlock with
  | none => exact .inl rfl
  | some k =>
    refine .inr fun hk => ?_
    obtain ⟨c1, h1⟩ := block_type ho k hv
    obtain ⟨c2, h2⟩ := block_type hu k hk.symm
    rw [h1] at h2
    injection h2 with h2
    injection h2 with _ h2
    exact he h2.symm

/-- A row of owned payloads. -/
def Pays (w : World) (base : Nat) (v : Value) (P : List (List Int)) : Prop :=
  ∃ vs : List Value, w.ownsRow base 41 1 v P.length vs ∧ ∀ i, i < P.length → OwnV w (vs.getD i undef) (P.getD i [])
theorem Pays.nil (w : World) (base : Nat) : Pays w base (.slice none 0 0) [] := ⟨[], World.ownsRow_nil _ _ _ _, fun i hi => absurd hi (by simp)⟩
theorem Pays.below {w w' : World} {base : Nat} {v : Value} {P : List (List Int)} (h : Pays w base v P) (hb : Below w.heap.size w w') : Pays w' base v P := by
  obtain ⟨vs, ho, hv⟩ := h
  exact ⟨vs, owns_kept_below ho hb, fun i hi => (hv i hi).below hb⟩
theorem Pays.snoc {w w' : World} {base : Nat} {v v' u : Value} {P : List (List Int)} {vs : List Value} {p : List Int} (ho : w.ownsRow base 41 1 v P.length vs) (hv : ∀ i, i < P.length → OwnV w (vs.getD i undef) (P.getD i [])) (hu : OwnV w u p)
    (ho' : w'.ownsRow base 41 1 v' (P.length + 1) (vs ++ [u])) (hg : w.grownBy w' v.ownBlock) : Pays w' base v' (P ++ [p]) := by
  have hl : vs.length = P.length := by simpa using ho.1
  refine ⟨vs ++ [u], by simpa using ho', fun i hi => ?_⟩
  rw [List.length_append, List.length_singleton] at hi
  rcases Nat.lt_or_ge i P.length with h | h
  · have := (hv i h).grown ho (by decide) hg
    simpa [List.getD, List.getElem?_append_left (show i < vs.length by omega), List.getElem?_append_left h] using this
  · have hi2 : i = P.length := by omega
    subst hi2
    have := hu.grown ho (by decide) hg
    simpa [List.getD, List.getElem?_append_right (show vs.length ≤ P.length by omega), hl] using this
theorem Try.infoS : (Try.prog.info? 41).map (fun i => (i.zero, i.size, i.bytes)) = some (some (.slice none 0 0), 1, 24) := by kernel_rfl

/-- What a call of Cut comes to. -/
def CutPost (w : World) (xs : List Int) (e : Ending) (w' : World) : Prop :=
  Below w.heap.size w w' ∧ ∃ v, e = .returned (.tuple #[v, .int .i64 (((cutAll xs).2.1 : Nat)), .int .i64 (((cutAll xs).2.2 : Nat))]) ∧ Pays w' w.heap.size v (cutAll xs).1
theorem CutPost.mk {w w' : World} {xs : List Int} {e : Ending} {P : List (List Int)} {k c : Nat} {v : Value} (hb : Below w.heap.size w w') (h : cutAll xs = (P, k, c)) (he : e = .returned (.tuple #[v, .int .i64 ((k : Nat)), .int .i64 ((c : Nat))])) (hp : Pays w' w.heap.size v P) : CutPost w xs e w' := by
  refine ⟨hb, v, ?_, ?_⟩
  · rw [he, h]
  · rw [h]; exact hp

set_option maxRecDepth 100000 in
set_option maxHeartbeats 4000000 in
theorem cut_any (a : Option Addr) (n c : Nat) (xs : List Int) (w : World) (hxs : IsB w a n xs) (hnc : n ≤ c) (hcm : c ≤ maxLen) (hn : n ≤ 1099511627776) :
    Calls Try.prog 30 #[.slice a n c] w (CutPost w xs) := by
  obtain ⟨i0, hi, hz0, hz1, hz2⟩ := info_parts Try.infoS
  have HX := Lib.hid hxs
  clear hxs
  unfold maxLen at hcm
  go_enter Try.func30, Try.ntmps30
  go_wp2_with fail
  go_loopw [5, 6] (fun v p wr => ∃ (P : List (List Int)) (k : Nat), k ≤ n ∧ P.length ≤ k ∧ p = .int .i64 k ∧ Pays wr w.heap.size v P ∧ cutAll xs = joinCut P k (cutAll (xs.drop k)) ∧ Below w.heap.size w wr)
    (fun _ p _ => n - (intOf p).toNat)
  case atStart => exact ⟨[], 0, by omega, by simp, rfl, Pays.nil _ _, by simp [joinCut], Below.refl _ _⟩
  case round =>
    obtain ⟨P, k, hk, hPk, rfl, hpays, hcut, hbel⟩ := hrel
    have HC := Lib.hid hcut
    have HP := Lib.hid hpays
    have HB := Lib.hid hbel
    clear hcut hpays hbel
    by_cases hkn : k < n
    · have hs1 := fun w => slice_tail a n c k hk w
      have hx1 := (HX.out.below HB.out).tail c k hk hnc
      have hlt := hx1.1
      generalize tailAt a c k = a2 at *
      have HX1 := Lib.hid hx1
      clear hx1
      go_wp2_with fail
      refine (Fr.open_any a2 (n - k) (c - k) (xs.drop k) _ (by unfold maxLen; omega) (by omega) (by unfold maxLen; omega) HX1.out).mono ?_
      rintro e w2 ⟨hb2, h⟩
      have hbw := HB.out.trans (hb2.mono HB.out.size)
      have HP2 := Lib.hid (HP.out.below hb2)
      have HB2 := Lib.hid hbw
      have hszw := hbw.size
      by_cases he : Fr.err (xs.drop k) = 0
      · obtain ⟨_, u, rfl, hou⟩ := h.resolve_right (fun h => h.1 he)
        have hz := err_zero he
        have hpl := pay_length he
        have hst := cutAll_step he
        obtain ⟨ua, uc, rfl, _⟩ := owned_slice hou (pay_byte HX1.out.2.1)
        have hu : OwnV w2 (.slice ua (Fr.wd (xs.drop k) 4) uc) (Fr.pay (xs.drop k)) := ⟨_, by rw [hpl]; exact hou, pay_byte HX1.out.2.1⟩
        have hpos : k + (8 + Fr.wd (xs.drop k) 4) ≤ n := by omega
        have hcn : cutAll xs = joinCut (P ++ [Fr.pay (xs.drop k)]) (k + (8 + Fr.wd (xs.drop k) 4)) (cutAll (xs.drop (k + (8 + Fr.wd (xs.drop k) 4)))) := by
          rw [HC.out, hst]
          simp [joinCut, List.drop_drop, Nat.add_assoc]
        have HCN := Lib.hid hcn
        have HU := Lib.hid hu
        obtain ⟨vs, hvo, hvs⟩ := HP2.out
        have HVS := Lib.hid hvs
        have HVO := Lib.hid hvo
        generalize Fr.wd (xs.drop k) 4 = t at *
        generalize Fr.pay (xs.drop k) = py at *
        clear hb2 h hbw he hou hz hpl hst hu hcn hvs hvo hs1
        go_wp2_with (at_builtin; refine wpList_append_own _ rfl _ _ 66 rfl w.heap.size 41 i0 (.slice none 0 0) 1 24 Try.underlying66 hi hz0 hz1 hz2 rfl (by decide) _ P.length _ rfl (HVO.out.alloc _) ⟨w2.heap.size, 0, none⟩ 1 1 [.slice ua t uc] rfl rfl (cell_one_new _ _ _) (by intro q hq; simp at hq; subst hq; rfl) (by unfold maxLen; omega) (by omega) (by simp; omega) ?_; intro v3 w3 hown3 hgrow3 _)
        have hb3 := (HB2.out.alloc hszw _).grown hgrow3 (by simp; omega) (fun q hq => (HVO.out.lt q hq).1)
        have hp3 := Pays.snoc (HVO.out.alloc _) (fun i hi => (HVS.out i hi).below ((Below.refl _ _).alloc (Nat.le_refl _) _)) (HU.out.below ((Below.refl _ _).alloc (Nat.le_refl _) _)) hown3 hgrow3
        have HB3 := Lib.hid hb3
        have HP3 := Lib.hid hp3
        clear hb3 hp3 hown3 hgrow3
        go_wp2
        go_roundw
        case rel => exact ⟨P ++ [py], k + (8 + t), hpos, by simp; omega, by go_num, HP3.out, HCN.out, HB3.out⟩
        case measure => simp [intOf]; omega
      · obtain ⟨_, rfl⟩ := h.resolve_left (fun h => he h.1)
        have hbd := cutAll_bad (by omega) he
        have hfin : cutAll xs = (P, k, Fr.err (xs.drop k)) := by rw [HC.out, hbd]; simp [joinCut]
        have HF := Lib.hid hfin
        have hne : (((Fr.err (xs.drop k) : Nat) : Int) != 0) = true := by simp; omega
        generalize Fr.err (xs.drop k) = q at *
        clear hb2 h hbw hbd hfin he hs1
        go_wp2
        go_ret3
        exact CutPost.mk HB2.out HF.out rfl HP2.out
    · have hkn' : k = n := by omega
      have hfin : cutAll xs = (P, k, 0) := by rw [HC.out, cutAll_nil (by simp [HX.out.1, hkn'])]; simp [joinCut]
      have HF := Lib.hid hfin
      clear hfin hkn'
      go_wp2
      go_ret3
      exact CutPost.mk HB.out HF.out rfl HP.out
end Go.Proofs.Ytjilhmidgebfbaa
