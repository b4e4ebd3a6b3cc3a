/- FrameOnly: the frame of the payload that is taken is just those bytes. -/
import Derived.Test.YtojkegnflbfloaaAwake
import Derived.Deep.QuietTactic
import Derived.IntWalk
namespace Go.Proofs.Ytojkegnflbfloaa
open Go.RowKit

/-- A slice of integers that came in. -/
def IsRow (k : IntKind) (w : World) (a : Option Addr) (len cap : Nat) (zs : List Int) : Prop :=
  (a = none ∧ len = 0 ∧ cap = 0 ∧ zs = []) ∨
  ∃ x, a = some x ∧ len ≤ cap ∧ cap ≤ maxLen ∧ zs.length = cap ∧ (∀ i, i < zs.length → w.cell? (x.add i) = some (.int k (zs.getD i 0))) ∧ ∀ n ∈ zs, (Lit.int k n).wf = true

theorem wf_byte {x : Int} (h : (Lit.int .u8 x).wf = true) : 0 ≤ x ∧ x < 256 := by
  simp [Lit.wf, IntKind.min, IntKind.max, IntKind.signed, IntKind.bits] at h
  omega

/-- What the walks ask of a slice of bytes that came in. -/
theorem IsRow.isB {w : World} {a : Option Addr} {len cap : Nat} {zs : List Int} (h : IsRow .u8 w a len cap zs) :
    IsB w a len (zs.take len) ∧ (a = none → len = 0 ∧ cap = 0) ∧ len ≤ cap ∧ cap ≤ maxLen := by
  rcases h with ⟨rfl, rfl, rfl, rfl⟩ | ⟨x, rfl, hl, hm, hz, hc, hw⟩
  · exact ⟨IsB.empty _ _, fun _ => ⟨rfl, rfl⟩, by omega, by simp [maxLen]⟩
  · refine ⟨⟨by simp; omega, fun y hy => wf_byte (hw y (List.mem_of_mem_take hy)), ?_⟩, (by intro h; cases h), hl, hm⟩
    rcases Nat.eq_zero_or_pos len with h0 | h0
    · exact .inl h0
    · obtain ⟨b, off, spot⟩ := x
      have hs : spot = none := by simpa [Addr.add] using World.cell?_spot (hc 0 (by omega))
      subst hs
      refine .inr ⟨b, off, rfl, fun i hi => ?_⟩
      have := hc i (by omega)
      have e : ((⟨b, off, none⟩ : Addr).add i) = ⟨b, off + i, none⟩ := by
        unfold Addr.add
        split <;> simp_all
      rw [e] at this
      rw [this]
      simp [List.getD, hi]

theorem be_wd (l : List Int) (hl : l.length = 4) (hb : ∀ x ∈ l, 0 ≤ x ∧ x < 256) : be (wd l 4) = l := by
  match l, hl with
  | [a, b, c, d], _ =>
    have ha := hb a (by simp)
    have hb' := hb b (by simp)
    have hc := hb c (by simp)
    have hd := hb d (by simp)
    simp only [be, wd, List.getD]
    simp
    omega
theorem wd_take (l : List Int) : wd (l.take 4) 4 = wd l 4 := by
  simp [wd, List.getD]
theorem err_zero {xs : List Int} (h : err xs = 0) : 8 ≤ xs.length ∧ wd xs 4 ≤ 16384 ∧ 8 + wd xs 4 ≤ xs.length ∧ Mt.sum ((xs.drop 0).take 4 ++ pay xs) = wd (xs.drop 4) 4 := by
  unfold err at h
  split at h
  · omega
  · split at h
    · omega
    · split at h
      · omega
      · split at h
        · exact ⟨by omega, by omega, by omega, by assumption⟩
        · omega
theorem pay_length {xs : List Int} (h : err xs = 0) : (pay xs).length = wd xs 4 := by
  have := err_zero h
  simp [pay]
  omega
theorem pay_byte {xs : List Int} (hb : ∀ x ∈ xs, 0 ≤ x ∧ x < 256) : ∀ x ∈ pay xs, 0 ≤ x ∧ x < 256 := fun x hx => hb x (List.mem_of_mem_drop (List.mem_of_mem_take hx))
theorem sealed_pay {xs : List Int} (h : err xs = 0) (hb : ∀ x ∈ xs, 0 ≤ x ∧ x < 256) : sealed (pay xs) = xs.take (8 + wd xs 4) := by
  obtain ⟨h1, h2, h3, h4⟩ := err_zero h
  have e1 : be (wd xs 4) = xs.take 4 := by
    rw [← wd_take]
    exact be_wd _ (by simp; omega) (fun x hx => hb x (List.mem_of_mem_take hx))
  have e2 : be (wd (xs.drop 4) 4) = (xs.drop 4).take 4 := by
    rw [← wd_take]
    exact be_wd _ (by simp; omega) (fun x hx => hb x (List.mem_of_mem_drop (List.mem_of_mem_take hx)))
  rw [List.drop_zero] at h4
  rw [sealed, pay_length h, e1, h4, e2, pay]
  have e3 : xs.take (8 + wd xs 4) = xs.take 4 ++ ((xs.drop 4).take 4 ++ (xs.drop 8).take (wd xs 4)) := by
    rw [show 8 + wd xs 4 = 4 + (4 + wd xs 4) by omega, List.take_add, List.take_add, List.drop_drop]
  rw [e3, List.append_assoc]

/-- A value that is owned is a slice. -/
theorem owned_slice {w : World} {base n : Nat} {v : Value} {xs : List Int} (h : w.ownsRow base 5 1 v n (xs.map (Value.int .u8))) (hb : ∀ x ∈ xs, 0 ≤ x ∧ x < 256) :
    ∃ a c, v = .slice a n c ∧ IsB w a n xs ∧ (a = none → n = 0 ∧ c = 0) ∧ n ≤ c ∧ c ≤ maxLen := by
  rcases h.2 with ⟨rfl, h0⟩ | ⟨g, cap, cur, rfl, _, _, h3, h4, _⟩
  · subst h0
    exact ⟨none, 0, rfl, IsB.owned h hb, by simp, by omega, by simp [maxLen]⟩
  · exact ⟨_, _, rfl, IsB.owned h hb, by simp, h3, h4⟩

set_option maxHeartbeats 2000000 in
theorem only_bad (a : Option Addr) (n c : Nat) (xs : List Int) (w : World) (hxs : IsB w a n xs) (hnc : n ≤ c) (hcm : c ≤ maxLen) (he : err xs ≠ 0) :
    Calls Try.prog 10 #[.slice a n c] w fun e w' => e = .returned (.bool true) ∧ Below w.heap.size w w' := by
  have HX := Lib.hid hxs
  have HE := Lib.hid he
  clear hxs he
  go_enter Try.func10, Try.ntmps10
  go_wp2_with fail
  refine (awake_any w).mono ?_
  rintro e w1 ⟨rfl, hb1⟩
  have hx1 := HX.out.below hb1
  have HB1 := Lib.hid hb1
  have HX1 := Lib.hid hx1
  clear hb1 hx1
  go_wp2_with fail
  refine (open_any a n c xs _ (by omega) hnc hcm HX1.out).mono ?_
  rintro e w2 ⟨hb2, h⟩
  obtain ⟨_, rfl⟩ := h.resolve_left (fun h => HE.out h.1)
  have HB2 := Lib.hid (HB1.out.trans (hb2.mono HB1.out.size))
  have hne : (((err xs : Nat) : Int) != 0) = true := by
    have := HE.out
    simp
    omega
  clear hb2 h
  go_wp2
  go_ret
  exact ⟨rfl, HB2.out⟩

set_option maxHeartbeats 2000000 in
theorem only_good (b off n c : Nat) (xs : List Int) (w : World) (hxs : IsB w (some ⟨b, off, none⟩) n xs) (hnc : n ≤ c) (hcm : c ≤ maxLen) (he : err xs = 0) :
    Calls Try.prog 10 #[.slice (some ⟨b, off, none⟩) n c] w fun e w' => e = .returned (.bool true) ∧ Below w.heap.size w w' := by
  have HX := Lib.hid hxs
  have HE := Lib.hid he
  obtain ⟨z1, z2, z3, z4⟩ := err_zero he
  have z5 := hxs.1
  have hpl := pay_length he
  have hsl := sealed_length (pay xs)
  have hpb := pay_byte hxs.2.1
  have hse := sealed_pay he hxs.2.1
  have HPB := Lib.hid hpb
  have HSE := Lib.hid hse
  have HPL := Lib.hid hpl
  have hsub := hxs.sub 0 (8 + wd xs 4) (by omega)
  have HSU := Lib.hid (show IsB w (some ⟨b, off, none⟩) (8 + wd xs 4) (xs.take (8 + wd xs 4)) by simpa using hsub)
  have hln : 8 + wd xs 4 ≤ n := by omega
  have HSL := Lib.hid hsl
  generalize ht : wd xs 4 = t at *
  have HT := Lib.hid ht
  clear hxs he z4 z5 hpl hsl hpb hse hsub ht z3
  go_enter Try.func10, Try.ntmps10
  go_wp2_with fail
  refine (awake_any w).mono ?_
  rintro e w1 ⟨rfl, hb1⟩
  have hx1 := HX.out.below hb1
  have HB1 := Lib.hid hb1
  have HX1 := Lib.hid hx1
  clear hb1 hx1
  go_wp2_with fail
  refine (open_any _ n c xs _ (by omega) hnc hcm HX1.out).mono ?_
  rintro e w2 ⟨hb2, h⟩
  obtain ⟨_, v, rfl, hown⟩ := h.resolve_right (fun h => h.1 HE.out)
  rw [HT.out] at hown ⊢
  obtain ⟨pa, pc, rfl, hpi, hpn, hpc, hpm⟩ := owned_slice hown HPB.out
  have HB2 := Lib.hid (HB1.out.trans (hb2.mono HB1.out.size))
  have HPI := Lib.hid hpi
  have HPN := Lib.hid hpn
  clear hb2 h hown hpi hpn
  go_wp2_with fail
  refine (seal_fits pa t pc (pay xs) _ z2 HPN.out HPI.out).mono ?_
  rintro e w3 ⟨g, rfl, hown3, hb3⟩
  have HB3 := Lib.hid (HB2.out.trans (hb3.mono HB2.out.size))
  have hsb : ∀ x ∈ sealed (pay xs), 0 ≤ x ∧ x < 256 := sealed_byte _ HPB.out (by rw [HPL.out]; exact z2)
  have hs3 : IsB w3 (some ⟨g, 0, none⟩) (8 + t) (xs.take (8 + t)) := by
    have := IsB.owned hown3 hsb
    rwa [HSE.out] at this
  have hu3 := HSU.out.below HB3.out
  obtain ⟨S, hS⟩ : ∃ S, S = strOfNums (xs.take (8 + t)) := ⟨_, rfl⟩
  have c1 : ∀ q, (convert 22 9 (.slice (some ⟨g, 0, none⟩) (8 + t) (8 + t))).run Try.prog (w3.drewN q) = .ok (.string S) (w3.drewN q) := fun q => by
    rw [hS]; exact IsB.str (w := w3.drewN q) (show IsB w3 _ _ _ from hs3) _
  have c2 : ∀ q, (convert 22 9 (.slice (some ⟨b, off, none⟩) (8 + t) c)).run Try.prog (w3.drewN q) = .ok (.string S) (w3.drewN q) := fun q => by
    rw [hS]; exact IsB.str (w := w3.drewN q) (show IsB w3 _ _ _ from hu3) _
  clear hown3 hb3 hsb hs3 hu3 hS
  unfold maxLen at hcm
  have q3 : decide (8 + (t : Int) ≤ (n : Int)) = true := by simp; omega
  have q2 : ((8 + (t : Int)) == (t : Int) + 8) = true := by simp; omega
  have q1 : IntKind.i64.wrap ((t : Int) + 8) = (t : Int) + 8 := IntWalk.i64_in _ (by omega)
  go_wp2_with fail
  go_quiet (fail)
  clear q1 q2 q3
  go_wp2
  go_ret
  exact ⟨rfl, HB3.out.trans ⟨rfl, rfl, rfl, Nat.le_refl _, fun _ _ => rfl⟩⟩

theorem only_walk {a : Option Addr} {n c : Nat} {zs : List Int} (w : World) (h : IsRow .u8 w a n c zs) :
    Calls Try.prog 10 #[.slice a n c] w fun e w' => e = .returned (.bool true) ∧ Below w.heap.size w w' := by
  obtain ⟨hb, _, hnc, hcm⟩ := h.isB
  by_cases he : err (zs.take n) = 0
  · have := err_zero he
    obtain ⟨b, off, rfl, _⟩ := hb.2.2.resolve_left (by have := hb.1; omega)
    exact only_good b off n c _ w hb hnc hcm he
  · exact only_bad a n c _ w hb hnc hcm he
end Go.Proofs.Ytojkegnflbfloaa
