/- StoreApart: the walk. -/
import Derived.Test.YtlhilndgiabicaaE39
namespace Go.Proofs.Ytlhilndgiabicaa
open Go.RowKit
open Go.Maps (Keyed)

theorem Rep.same {lt : Tp → Tp → Bool} {M N : SM} {R : List Rw} (h : Rep lt M R) (hs : ∀ t, N.sp t = M.sp t) : Rep lt N R := ⟨h.so, fun t s u => by rw [hs]; exact h.mem t s u⟩
/-- How many spans, at most. -/
theorem SM.one_len (M : SM) (rev : Int) (d : Bool) (t x : Tp) : ((M.one rev d t).sp x).length ≤ (M.sp x).length + 1 := by
  by_cases h : x = t
  · rw [h, SM.one_same, oneSp_length]
    split <;> omega
  · rw [SM.one_other M rev d h]; omega
theorem SM.put_tot {M : SM} (h : SMOk M) (t : Tp) (l : List Sp) : (M.put t l).tot + (M.sp t).length = M.tot + l.length := by
  have hgo : ∀ K : List Tp, K.Nodup → (K.map fun x => ((M.put t l).sp x).length).sum + (if t ∈ K then (M.sp t).length else 0) = (K.map fun x => (M.sp x).length).sum + (if t ∈ K then l.length else 0) := by
    intro K
    induction K with
    | nil => intro _; simp
    | cons a K ih =>
      intro hn
      obtain ⟨h1, h2⟩ := List.nodup_cons.1 hn
      have := ih h2
      rw [List.map_cons, List.sum_cons, List.map_cons, List.sum_cons]
      by_cases hat : a = t
      · subst hat
        rw [SM.put_same]
        simp only [h1, if_false, List.mem_cons, true_or, if_true, Nat.add_zero] at this ⊢
        omega
      · rw [SM.put_other M l hat]
        have hm : (t ∈ a :: K) ↔ t ∈ K := by
          rw [List.mem_cons]
          exact ⟨fun e => e.elim (fun e => absurd e.symm hat) id, .inr⟩
        simp only [hm]
        omega
  unfold SM.tot
  by_cases ht : t ∈ M.K
  · have h1 := hgo M.K h.nd
    simp only [ht, if_true] at h1
    have h2 : (M.put t l).K = M.K := if_pos ht
    rw [h2]; exact h1
  · have h1 := hgo M.K h.nd
    simp only [ht, if_false, Nat.add_zero] at h1
    have h2 : (M.put t l).K = M.K ++ [t] := if_neg ht
    rw [h2, List.map_append, List.sum_append, h1, h.no t ht]
    simp [SM.put_same]
theorem SM.one_tot {M : SM} (h : SMOk M) (rev : Int) (d : Bool) (t : Tp) : (M.one rev d t).tot ≤ M.tot + 1 := by
  unfold SM.one
  cases d with
  | true =>
    simp only [if_true]
    split
    · next ho =>
      have := SM.put_tot h t (endB (M.sp t) rev)
      rw [endB_length ho] at this
      omega
    · omega
  | false =>
    simp only [if_false, Bool.false_eq_true]
    split
    · omega
    · have := SM.put_tot h t (M.sp t ++ [⟨rev, 0⟩])
      rw [List.length_append] at this
      simp at this
      omega
theorem SM.apply_tot {rev : Int} (h1 : 1 ≤ rev) (h2 : rev ≤ maxRev) : ∀ {l : List Mu} {M : SM}, SMOk M → MuOk M rev l → (M.apply rev l).tot ≤ M.tot + l.length := by
  intro l
  induction l with
  | nil => intro M _ _; exact Nat.le_refl _
  | cons m l ih =>
    intro M hm hl
    have h3 := ih (hm.one m.d m.t h1 h2 (hl.la m (by simp))) hl.tail
    have h4 := SM.one_tot hm rev m.d m.t
    show ((M.one rev m.d m.t).apply rev l).tot ≤ _
    rw [List.length_cons]
    omega
theorem SM.empty_tot : SM.empty.tot = 0 := rfl
/-- What is asked of the mutations from the last one on. -/
theorem apart_chk {rev : Int} {l : List Mu} (h : chkE SM.empty 0 rev l = 0) {i : Nat} {m : Mu} (hm : l[i]? = some m) : chkE (SM.empty.apply rev (l.drop (i + 1)).reverse) 0 rev [m] = 0 := by
  obtain ⟨h1, h2, h3, _⟩ := chkE_zero h
  have hgo : chkGo (SM.empty.lat 0) rev [] l = 0 := by
    unfold chkE at h
    rwa [if_neg (by omega)] at h
  have hme := ((chkGo_zero hgo).1 m (List.mem_of_getElem? hm)).1
  have hnd : ((l.drop (i + 1)).reverse.map Mu.t).Nodup := by
    rw [List.map_reverse]
    refine (List.reverse_perm _).nodup_iff.2 ?_
    rw [List.map_drop]
    exact (List.drop_sublist _ _).nodup h3.nd
  have hni : m.t ∉ (l.drop (i + 1)).reverse.map Mu.t := fun e => by
    rw [List.map_reverse, List.mem_reverse, List.map_drop] at e
    obtain ⟨j, hj, hjm⟩ := List.getElem_of_mem e
    rw [List.length_drop] at hj
    rw [List.getElem_drop] at hjm
    have hi := (List.getElem?_eq_some_iff.1 hm)
    have h5 : (l.map Mu.t)[i]'(by simpa using hi.1) = m.t := by simp [hi.2]
    have := (List.getElem_inj h3.nd).1 (hjm.trans h5.symm)
    omega
  have hsp : (SM.empty.apply rev (l.drop (i + 1)).reverse).sp m.t = [] := (SM.apply_sp (rev := rev) (M := SM.empty) hnd).2 _ hni
  unfold chkE chkGo
  rw [if_neg (by omega), if_neg (by simpa using hme), if_neg (by simp)]
  have : ¬ rev ≤ (SM.empty.apply rev (l.drop (i + 1)).reverse).lat 0 m.t := by
    unfold SM.lat
    rw [hsp]
    show ¬ rev ≤ max 0 0
    omega
  rw [if_neg this]; rfl
theorem MuOk.rev_drop {rev : Int} {l : List Mu} (h : MuOk SM.empty rev l) (h1 : 1 ≤ rev) (i : Nat) : MuOk SM.empty rev (l.drop i).reverse :=
  ⟨by rw [List.map_reverse]; refine (List.reverse_perm _).nodup_iff.2 ?_; rw [List.map_drop]; exact (List.drop_sublist _ _).nodup h.nd, fun m _ => by show (0 : Int) < rev; omega⟩
/-- Two stores in one memory. -/
theorem StC.keep2 {w w' : World} {H H' H2 : Gh} {wm : Int} {M2 : SM} {cb2 : Nat} (c : StC w w' H H') (h2 : StAt w wm M2 H2 cb2) (hd : ∀ b, H.own b → ¬ H2.own b) : StAt w' wm M2 H2 cb2 ∧ ∀ b, H'.own b → ¬ H2.own b := by
  refine ⟨h2.chg c.chg (fun b h3 h4 => hd b h4 h3), fun b h3 h4 => ?_⟩
  have hlt := h2.raw.own_lt h4
  exact hd b (c.new b hlt h3) h4
set_option maxRecDepth 100000 in
set_option maxHeartbeats 16000000 in
theorem apart_walk (a : Option Addr) (n c : Nat) (rev : Int) (w : World) (hB : ∃ l, MutsAt w a n l) (hn : n ≤ 1048576) :
    Calls Try.prog 7 #[.slice a n c, .int .i64 rev] w fun e w' => e = .returned (.bool true) ∧ Below w.heap.size w w' := by
  obtain ⟨l, hl⟩ := hB
  have HL := Lib.hid hl
  clear hl
  go_enter Try.func7, Try.ntmps7
  go_wp2_with fail
  refine (awake_any w).mono ?_
  rintro _ w1 ⟨rfl, hb1⟩
  have HB1 := Lib.hid hb1
  clear hb1
  go_wp2_with fail
  refine (new_st w1).mono ?_
  rintro _ w2 ⟨rfl, hs2, hb2⟩
  have HO2 := Lib.hid (fun b (hb : (Gh.new w1.heap.size).own b) => (Gh.new_own hb).1)
  obtain ⟨H1, hH1⟩ : ∃ H1, H1 = Gh.new w1.heap.size := ⟨_, rfl⟩
  rw [← hH1] at hs2 HO2 ⊢
  clear hH1
  have HS2 := Lib.hid hs2
  have HB2 := Lib.hid (bell_up HB1.out hb2)
  clear hs2 hb2
  go_wp2_with fail
  refine (new_st w2).mono ?_
  rintro _ w3 ⟨rfl, hs3, hb3⟩
  have HO3 := Lib.hid (fun b (hb : (Gh.new w2.heap.size).own b) => (Gh.new_own hb).1)
  obtain ⟨H2, hH2⟩ : ∃ H2, H2 = Gh.new w2.heap.size := ⟨_, rfl⟩
  rw [← hH2] at hs3 HO3 ⊢
  clear hH2
  have HT3 := Lib.hid hs3
  have HS3 := Lib.hid (HS2.out.below hb3)
  have HB3 := Lib.hid (bell_up HB2.out hb3)
  have HD3 := Lib.hid (show ∀ b, H1.own b → ¬ H2.own b from fun b h1 h2 => by have := HS2.out.raw.own_lt h1; have := HO3.out b h2; omega)
  have HS1W := Lib.hid (show w.heap.size ≤ w1.heap.size from HB1.out.size)
  have HS2W := Lib.hid (show w.heap.size ≤ w2.heap.size from HB2.out.size)
  have HAP := Lib.hid (apply_any HS3.out (HL.out.below HB3.out) (c := c) (fun hn0 ad ha ho => by
    rcases HL.out.at_ with h0 | ⟨b, off, he, hb, _⟩
    · omega
    · rw [ha] at he
      injection he with he
      have := HO2.out _ ho
      rw [he] at this
      simp only at this
      have := HS1W.out
      omega) (by omega) rev)
  clear hs3 hb3 HS2 HB2
  go_wp2_with fail
  refine HAP.out.mono ?_
  rintro _ w4 ⟨rfl, H3, hs4, hc4⟩
  obtain ⟨hb4, ho4⟩ := hc4.since (w0 := w) HB3.out (fun b hb => Nat.le_trans HS1W.out (HO2.out b hb))
  obtain ⟨ht4, hd4⟩ := hc4.keep2 HT3.out HD3.out
  have HB4 := Lib.hid hb4
  have HO4 := Lib.hid ho4
  have HT4 := Lib.hid ht4
  have HD4 := Lib.hid hd4
  have HG4 := Lib.hid hc4.g
  have HS4 := Lib.hid hs4
  clear hb4 ho4 ht4 hd4 hs4 hc4 HAP HB3 HS3 HT3 HD3
  generalize hce : chkE SM.empty 0 rev l = ce at *
  by_cases h0 : ce = 0
  · subst h0
    obtain ⟨k1, k2, k3, _⟩ := chkE_zero hce
    have HMU := Lib.hid k3
    have HK1 := Lib.hid k1
    have HK2 := Lib.hid k2
    have HCE := Lib.hid hce
    have HS5 := Lib.hid (show StAt w4 0 (SM.empty.apply rev l) H3 (0 + 5 * n) from by have := HS4.out; rwa [if_pos rfl] at this)
    clear k1 k2 k3 hce HS4
    have hwn : IntKind.i64.wrap ((n : Int) - 1) = (n : Int) - 1 := IntWalk.i64_in _ (by omega)
    go_wp2_with fail
    have HI0 := Lib.hid (show ∃ Hb : Gh, StAt w4 0 (SM.empty.apply rev (l.drop n).reverse) Hb (5 * (n - n)) ∧ Hb.g = H2.g ∧ StAt w4 0 (SM.empty.apply rev l) H3 (0 + 5 * n) ∧ (∀ b, Hb.own b → ¬ H3.own b) ∧ (∀ b, Hb.own b → w.heap.size ≤ b) ∧ Below w.heap.size w w4 from
      ⟨H2, by
        rw [List.drop_of_length_le (by rw [HL.out.len]; exact Nat.le_refl _), Nat.sub_self]
        exact HT4.out, rfl, HS5.out, fun b h1 h2 => HD4.out b h2 h1, fun b hb => Nat.le_trans HS2W.out (HO3.out b hb), HB4.out⟩)
    clear HS5 HT4 HD4 HB4 HO4
    go_loopw [8] (fun iv wr => ∃ (i : Nat), i ≤ n ∧ iv = .int .i64 ((i : Int) - 1) ∧ ∃ Hb : Gh, StAt wr 0 (SM.empty.apply rev (l.drop i).reverse) Hb (5 * (n - i)) ∧ Hb.g = H2.g ∧ StAt wr 0 (SM.empty.apply rev l) H3 (0 + 5 * n) ∧ (∀ b, Hb.own b → ¬ H3.own b) ∧ (∀ b, Hb.own b → w.heap.size ≤ b) ∧ Below w.heap.size w wr) (fun iv _ => (intOf iv + 1).toNat)
    case atStart => exact ⟨n, Nat.le_refl _, rfl, HI0.out⟩
    case round =>
      clear HI0
      obtain ⟨i, hin, rfl, Hb, hsb, hgb, hsa, hdd, hob, hbl⟩ := hrel
      cases i with
      | succ j =>
        have ej : (((j + 1 : Nat) : Int) - 1) = (j : Int) := by omega
        rw [ej]
        have hlr := HL.out.below hbl
        obtain ⟨b, off, rfl, hbB, hcc⟩ := hlr.at_.resolve_left (by omega)
        obtain ⟨m, hmi⟩ : ∃ m, l[j]? = some m := ⟨_, List.getElem?_eq_getElem (show j < l.length by rw [HL.out.len]; omega)⟩
        obtain ⟨y0, y1, y2, y3⟩ := hcc j m hmi
        have hfm := HL.out.fits m (List.mem_of_getElem? hmi)
        have hA1 := apply1_any hsb (by omega) m hfm rev
        have hdrop : (l.drop j).reverse = (l.drop (j + 1)).reverse ++ [m] := by rw [drop_get hmi, List.reverse_cons]
        rw [apart_chk HCE.out hmi, hgb, if_pos rfl, ← SM.apply_snoc, ← hdrop] at hA1
        have HA1 := Lib.hid hA1
        have HSA := Lib.hid hsa
        have HDD := Lib.hid hdd
        have HOB := Lib.hid hob
        have HBL := Lib.hid hbl
        have HGB := Lib.hid hgb
        have hjn : (j : Int) < (n : Int) := by omega
        have hj0 : (0 : Int) ≤ (j : Int) := by omega
        have hwj : IntKind.i64.wrap ((j : Int) - 1) = (j : Int) - 1 := IntWalk.i64_in _ (by omega)
        clear hlr hcc hmi hA1 hdrop hsb hsa hdd hob hbl hgb hbB ej
        go_wp2_with fail
        refine HA1.out.mono ?_
        rintro _ w5 ⟨rfl, H6, hs6, hc6⟩
        obtain ⟨hb6, ho6⟩ := hc6.since HBL.out HOB.out
        obtain ⟨hta6, hd6⟩ := hc6.keep2 HSA.out HDD.out
        have HN := Lib.hid (show ∃ Hb : Gh, StAt w5 0 (SM.empty.apply rev (l.drop j).reverse) Hb (5 * (n - j)) ∧ Hb.g = H2.g ∧ StAt w5 0 (SM.empty.apply rev l) H3 (0 + 5 * n) ∧ (∀ b, Hb.own b → ¬ H3.own b) ∧ (∀ b, Hb.own b → w.heap.size ≤ b) ∧ Below w.heap.size w w5 from
          ⟨H6, by rw [show 5 * (n - j) = 5 * (n - (j + 1)) + 5 by omega]; exact hs6, by rw [hc6.g, HGB.out], hta6, hd6, ho6, hb6⟩)
        clear hs6 hc6 hb6 ho6 hta6 hd6 HA1 y0 y1 y2 y3 HSA HDD HOB HBL HGB
        go_wp2
        go_roundw
        case rel => exact ⟨j, by omega, rfl, HN.out⟩
        case measure => simp [intOf]
      | zero =>
        have ez : (((0 : Nat) : Int) - 1) = -1 := rfl
        rw [ez]
        have HSB := Lib.hid (show StAt wr 0 (SM.empty.apply rev l.reverse) Hb (5 * (n - 0)) from hsb)
        have HSA := Lib.hid hsa
        have HBL := Lib.hid hbl
        have hta : (SM.empty.apply rev l).tot ≤ 1099511627776 := by
          have := SM.apply_tot HK1.out HK2.out SMOk.empty HMU.out
          rw [SM.empty_tot, HL.out.len] at this
          omega
        have htb : (SM.empty.apply rev l.reverse).tot ≤ 1099511627776 := by
          have := SM.apply_tot HK1.out HK2.out SMOk.empty (HMU.out.rev_drop HK1.out 0)
          rw [SM.empty_tot, List.drop_zero, List.length_reverse, HL.out.len] at this
          omega
        have HRA := Lib.hid (rows_any HSA.out (by omega) hta)
        have HRB := Lib.hid (fun W (hW : Below wr.heap.size wr W) => rows_any (HSB.out.below hW) (by omega) htb)
        rw [HG4.out] at HRA
        rw [hgb] at HRB
        have HTA := Lib.hid hta
        clear hsb hsa hdd hob hbl hgb ez hta htb
        go_wp2_with fail
        refine HRA.out.mono ?_
        rintro _ w5 ⟨va, Ra, rfl, hpa, hla, hra, hb5⟩
        have HB5 := Lib.hid hb5
        have HPA := Lib.hid hpa
        have HRO := Lib.hid hra
        have HRB2 := Lib.hid (HRB.out w5 hb5)
        have HLA := Lib.hid hla
        clear hb5 hpa hra hla HRA HRB
        go_wp2_with fail
        refine HRB2.out.mono ?_
        rintro _ w6 ⟨vb, Rb, rfl, hpb, _, hrb, hb6⟩
        have hR : Rb = Ra := Rep.unique ordT (hpb.same (N := SM.empty.apply rev l) (fun t => (SM.apply_reverse HMU.out.nd t).symm)) HPA.out
        rw [hR] at hrb
        have HSM := Lib.hid (rsame_any (owns_keptN HRO.out (fun k hk => hb6.block k (HRO.out.lt k hk).2)) hrb (by rw [HLA.out]; exact HTA.out))
        have HB6 := Lib.hid (bell_up HBL.out (bell_up HB5.out hb6))
        clear hpb hrb hb6 hR HRB2
        go_wp2_with fail
        refine HSM.out.mono ?_
        rintro _ w7 ⟨rfl, hb7⟩
        have HB7 := Lib.hid (bell_up HB6.out hb7)
        clear hb7 HSM
        go_wp2
        go_ret
        exact ⟨rfl, HB7.out⟩
  · have HS5 := Lib.hid (show StAt w4 0 SM.empty H3 (0 + 5 * n) from by have := HS4.out; rwa [if_neg h0] at this)
    have HRW := Lib.hid (rows_any HS5.out (by omega) (by rw [SM.empty_tot]; omega))
    rw [HG4.out] at HRW
    clear HS4
    go_wp2_with fail
    refine HRW.out.mono ?_
    rintro _ w5 ⟨rv, R, rfl, _, hRl, hrr, hb5⟩
    rw [hRl, SM.empty_tot] at hrr
    obtain ⟨ra, rc, rfl, _, _⟩ := owned_anyE hrr
    have HB5 := Lib.hid (bell_up HB4.out hb5)
    clear hb5 HRW hRl hrr
    go_wp2
    go_ret
    exact ⟨rfl, HB5.out⟩
end Go.Proofs.Ytlhilndgiabicaa
