/- Watch's sorts. -/
import Derived.Test.YteimgebfbnmdcaaHE
namespace Go.Proofs.Yteimgebfbnmdcaa
open Go.RowKit
open Go.Shelf
open Go.Maps (Keyed)
open Go.Sort (HoldsK flatK size_flatK get_flatK SWO PermIn)

theorem sortC {w : World} {B : Nat} {v : Value} {l : List Ch} (hrow : w.ownsRow B 53 5 v l.length (l.flatMap chc)) (hlen : l.length ≤ 1099511627776) :
    Calls Try.prog 27 #[v, .func (.func 28) #[] #[]] w fun e w' => e = .returned (.tuple #[]) ∧ ∃ out : List Ch, Stb clt l out ∧ w'.ownsRow B 53 5 v out.length (out.flatMap chc) ∧ w.grownBy w' v.ownBlock := by
  have h := sortStableC chc_len chc_one (cf := cfC) (by rw [ltOf_cfC]; exact swoC) 28 (enters_of Try.func28 (by kernel_rfl) rfl) (fun W x y => chCmp_any W x y) hrow hlen
  rw [ltOf_cfC] at h
  exact h
theorem sortR {w : World} {B : Nat} {v : Value} {l : List Rw} (hrow : w.ownsRow B 49 5 v l.length (l.flatMap rw1)) (hlen : l.length ≤ 1099511627776) :
    Calls Try.prog 38 #[v, .func (.func 39) #[] #[]] w fun e w' => e = .returned (.tuple #[]) ∧ ∃ out : List Rw, Stb (rlt ltT) l out ∧ w'.ownsRow B 49 5 v out.length (out.flatMap rw1) ∧ w.grownBy w' v.ownBlock := by
  have h := sortStableR rw1_len rw1_one (cf := cfR) (by rw [ltOf_cfR]; exact swoR) 39 (enters_of Try.func39 (by kernel_rfl) rfl) (fun W x y => rowCmp_any W x y) hrow hlen
  rw [ltOf_cfR] at h
  exact h
theorem tc_one (x : Tp) : ∀ v ∈ tc x, v.oneCell' = true := fun v hv => by
  simp only [tc, List.mem_cons, List.not_mem_nil, or_false] at hv
  rcases hv with rfl | rfl | rfl <;> rfl

set_option maxHeartbeats 4000000 in
theorem sortT0 {w : World} {B : Nat} {v : Value} {ts : List Tp} (hrow : w.ownsRow B 47 3 v ts.length (ts.flatMap tc)) (hlen : ts.length ≤ 1099511627776) :
    Calls Try.prog 60 #[v, .func (.func 31) #[] #[]] w fun e w' => e = .returned (.tuple #[]) ∧ ∃ ts' : List Tp, ts'.Perm ts ∧ ts'.Pairwise (fun a b => ltOf cfq b a = false) ∧ w'.ownsRow B 47 3 v ts'.length (ts'.flatMap tc) ∧ w.grownBy w' v.ownBlock := by
  rcases Nat.eq_zero_or_pos ts.length with h0 | hpos
  · obtain rfl := List.eq_nil_of_length_eq_zero h0
    obtain ⟨a, c, rfl, _, _⟩ := owned_anyE hrow
    have hcon := AnyF.slices_SortFunc_none (P := Try.prog) (ρ := Try.laySortT_ren) { Try.laySortT with } a c (.func (.func 31) #[] #[]) w
    change Calls Try.prog 60 _ _ _ at hcon
    refine hcon.mono ?_
    rintro e w' ⟨rfl, rfl⟩
    exact ⟨rfl, [], List.Perm.refl _, List.Pairwise.nil, hrow, World.grownBy.refl _ _⟩
  · rcases hrow.2 with ⟨_, hz⟩ | ⟨gb, cap, cur, rfl, hbase, hgb, r1, r2, r3, r4⟩
    · omega
    · have hwb : Whole w gb 47 cur := hgb
      have hH : HoldsK tc 3 w gb 0 ts.toArray := holds_of_own tc_len hwb r4
      have hcmp : CmpLays Try.prog 31 #[] tc 3 cfq gb 0 ts.toArray.size w := by
        intro m os dk _ x y
        exact compareG_any x.o x.r x.u y.o y.r y.u _
      have hcon := AnyQ.slices_SortFunc (P := Try.prog) (ρ := Try.laySortT_ren) Try.laySortT 3 (fun w => by kernel_rfl) (fun w => by kernel_rfl) tc tc_len tc_one cfq swoQ 31 #[] gb 0 cap ts.toArray w (enters_of Try.func31 (by kernel_rfl) rfl) hcmp hH hwb.lt (by simp; omega)
      change Calls Try.prog 60 _ _ _ at hcon
      simp only [List.size_toArray] at hcon
      refine hcon.mono ?_
      rintro e w' ⟨rfl, d', n, os, ⟨p1, _, p2⟩, h2, rfl⟩
      have hds : d'.size = ts.length := by simpa using p1
      have hperm : d'.toList.Perm ts := by
        have e1 : d'.extract 0 ts.length = d' := by rw [← hds]; simp
        have e2 : ts.toArray.extract 0 ts.length = ts.toArray := by simp
        rw [e1, e2] at p2
        simpa using p2
      obtain ⟨o1, o2⟩ := own_of_sorted (enc := tc) tc_len (n := n) (os := os) hbase hwb r1 r2 r3 hds
      refine ⟨rfl, d'.toList, hperm, ?_, o1, o2⟩
      rw [List.pairwise_iff_getElem]
      intro i j hi hj hij
      have h3 := h2 i j (Nat.zero_le _) hij (by rw [← hds]; simpa using hj)
      rw [getElem!_pos d' j (by simpa using hj), getElem!_pos d' i (by simpa using hi)] at h3
      simpa using h3

set_option maxHeartbeats 4000000 in
theorem sortM0 {w : World} {B : Nat} {v : Value} {ts : List Mu} (hrow : w.ownsRow B 51 4 v ts.length (ts.flatMap muc)) (hlen : ts.length ≤ 1099511627776) :
    Calls Try.prog 42 #[v, .func (.func 43) #[] #[]] w fun e w' => e = .returned (.tuple #[]) ∧ ∃ ts' : List Mu, ts'.Perm ts ∧ ts'.Pairwise (fun a b => ltOf cfM b a = false) ∧ w'.ownsRow B 51 4 v ts'.length (ts'.flatMap muc) ∧ w.grownBy w' v.ownBlock := by
  rcases Nat.eq_zero_or_pos ts.length with h0 | hpos
  · obtain rfl := List.eq_nil_of_length_eq_zero h0
    obtain ⟨a, c, rfl, _, _⟩ := owned_anyE hrow
    have hcon := AnyF.slices_SortFunc_none (P := Try.prog) (ρ := Try.laySortM_ren) { Try.laySortM with } a c (.func (.func 43) #[] #[]) w
    change Calls Try.prog 42 _ _ _ at hcon
    refine hcon.mono ?_
    rintro e w' ⟨rfl, rfl⟩
    exact ⟨rfl, [], List.Perm.refl _, List.Pairwise.nil, hrow, World.grownBy.refl _ _⟩
  · rcases hrow.2 with ⟨_, hz⟩ | ⟨gb, cap, cur, rfl, hbase, hgb, r1, r2, r3, r4⟩
    · omega
    · have hwb : Whole w gb 51 cur := hgb
      have hH : HoldsK muc 4 w gb 0 ts.toArray := holds_of_own muc_len hwb r4
      have hcmp : CmpLays Try.prog 43 #[] muc 4 cfM gb 0 ts.toArray.size w := by
        intro m os dk _ x y
        exact muCmp_any _ x y
      have hcon := AnyQ.slices_SortFunc (P := Try.prog) (ρ := Try.laySortM_ren) Try.laySortM 4 (fun w => by kernel_rfl) (fun w => by kernel_rfl) muc muc_len muc_one cfM (by rw [ltOf_cfM]; exact ⟨fun x => swoT0.irrefl x.t, fun x y z => swoT0.trans x.t y.t z.t, fun x y z => swoT0.ntrans x.t y.t z.t⟩) 43 #[] gb 0 cap ts.toArray w (enters_of Try.func43 (by kernel_rfl) rfl) hcmp hH hwb.lt (by simp; omega)
      change Calls Try.prog 42 _ _ _ at hcon
      simp only [List.size_toArray] at hcon
      refine hcon.mono ?_
      rintro e w' ⟨rfl, d', n, os, ⟨p1, _, p2⟩, h2, rfl⟩
      have hds : d'.size = ts.length := by simpa using p1
      have hperm : d'.toList.Perm ts := by
        have e1 : d'.extract 0 ts.length = d' := by rw [← hds]; simp
        have e2 : ts.toArray.extract 0 ts.length = ts.toArray := by simp
        rw [e1, e2] at p2
        simpa using p2
      obtain ⟨o1, o2⟩ := own_of_sorted (enc := muc) muc_len (n := n) (os := os) hbase hwb r1 r2 r3 hds
      refine ⟨rfl, d'.toList, hperm, ?_, o1, o2⟩
      rw [List.pairwise_iff_getElem]
      intro i j hi hj hij
      have h3 := h2 i j (Nat.zero_le _) hij (by rw [← hds]; simpa using hj)
      rw [getElem!_pos d' j (by simpa using hj), getElem!_pos d' i (by simpa using hi)] at h3
      simpa using h3

/-- Unlike tuples, sorted: one behind the other. -/
theorem strict_of {α : Type} {lt : α → α → Bool} (tri : ∀ a b, a ≠ b → lt b a = false → lt a b = true) {l : List α} (hn : l.Nodup) (h : l.Pairwise fun a b => lt b a = false) : l.Pairwise fun a b => lt a b = true :=
  (List.Pairwise.and hn h).imp fun {a b} ⟨h1, h2⟩ => tri a b h1 h2
/-- Sorted without a repetition, with the same members: the same list. -/
theorem sset_unique {α : Type} {lt : α → α → Bool} (irr : ∀ a, lt a a = false) (tr : ∀ a b c, lt a b = true → lt b c = true → lt a c = true) {l m : List α} (hl : l.Pairwise fun a b => lt a b = true) (hm : m.Pairwise fun a b => lt a b = true) (h : ∀ x, x ∈ l ↔ x ∈ m) : l = m := by
  have nd : ∀ {k : List α}, k.Pairwise (fun a b => lt a b = true) → k.Nodup := fun hk => hk.imp fun {a b} hab e => by rw [e, irr] at hab; cases hab
  exact List.Perm.eq_of_pairwise (le := fun a b => lt a b = true) (fun a b _ _ h1 h2 => by have := tr _ _ _ h1 h2; rw [irr] at this; cases this) hl hm ((List.perm_ext_iff_of_nodup (nd hl) (nd hm)).2 h)
set_option maxHeartbeats 1000000 in
theorem sortT {w : World} {B : Nat} {v : Value} {ts : List Tp} (hrow : w.ownsRow B 47 3 v ts.length (ts.flatMap tc)) (hnd : ts.Nodup) (hlen : ts.length ≤ 1099511627776) :
    Calls Try.prog 60 #[v, .func (.func 31) #[] #[]] w fun e w' => e = .returned (.tuple #[]) ∧ ∃ ts' : List Tp, ts'.Perm ts ∧ ts'.Pairwise (fun a b => ltT a b = true) ∧ w'.ownsRow B 47 3 v ts'.length (ts'.flatMap tc) ∧ w.grownBy w' v.ownBlock := by
  refine (sortT0 hrow hlen).mono ?_
  rintro e w' ⟨rfl, ts', h1, h2, h3, h4⟩
  refine ⟨rfl, ts', h1, strict_of (fun a b hn h => ordT.tri b a (Ne.symm hn) h) (h1.nodup_iff.2 hnd) (h2.imp fun {a b} h => by rw [ltOf_cfq] at h; exact h), h3, h4⟩
theorem sortM {w : World} {B : Nat} {v : Value} {ts : List Mu} (hrow : w.ownsRow B 51 4 v ts.length (ts.flatMap muc)) (hnd : (ts.map Mu.t).Nodup) (hlen : ts.length ≤ 1099511627776) :
    Calls Try.prog 42 #[v, .func (.func 43) #[] #[]] w fun e w' => e = .returned (.tuple #[]) ∧ ∃ ts' : List Mu, ts'.Perm ts ∧ (ts'.map Mu.t).Pairwise (fun a b => ltT a b = true) ∧ w'.ownsRow B 51 4 v ts'.length (ts'.flatMap muc) ∧ w.grownBy w' v.ownBlock := by
  refine (sortM0 hrow hlen).mono ?_
  rintro e w' ⟨rfl, ts', h1, h2, h3, h4⟩
  refine ⟨rfl, ts', h1, strict_of (fun a b hn h => ordT.tri b a (Ne.symm hn) h) ((h1.map _).nodup_iff.2 hnd) ?_, h3, h4⟩
  rw [List.pairwise_map]
  exact h2.imp fun {a b} h => by rw [ltOf_cfM] at h; exact h
end Go.Proofs.Yteimgebfbnmdcaa
