/- The document's put, its Changes. -/
import Derived.Test.YteimgebfbnmdcaaHX
import Derived.Test.YteimgebfbnmdcaaHZ
namespace Go.Proofs.Yteimgebfbnmdcaa
open Go.RowKit Go.Shelf
open Go.Maps (Keyed)

theorem rowsAt_of {w : World} {a : Option Addr} {n c : Nat} {l : List Rw} (h : InL 49 5 rw1 Rw.t w a n c l) : RowsAt w a n l := by
  refine ⟨h.len, h.fits, ?_⟩
  rcases Nat.eq_zero_or_pos n with h0 | h0
  · exact .inl h0
  · obtain ⟨b, off, rfl, hb, _⟩ := h.lies.addr h0
    refine .inr ⟨b, off, rfl, hb, fun i r hi => ?_⟩
    obtain ⟨b', off', e, _, hc⟩ := lies_cells rw1_len (by decide) h.lies hi
    injection e with e
    injection e with e1 e2 _
    subst e1
    subst e2
    exact ⟨by simpa using hc 0 _ rfl, hc 1 _ rfl, hc 2 _ rfl, hc 3 _ rfl, hc 4 _ rfl⟩
theorem OutE.more {α : Type} {T : TypeId} {k : Nat} {enc : α → List Value} {w wr w' : World} {v v' : Value} {L : List α} (h : OutE T k enc w wr v L) (M : List α) (hg : wr.grownBy w' v.ownBlock) (hown : w'.ownsRow w.heap.size T k v' (L.length + M.length) (L.flatMap enc ++ M.flatMap enc)) : OutE T k enc w w' v' (L ++ M) := by
  refine ⟨h.below.grown hg h.below.size (fun k e => (h.row.lt k e).1), ?_⟩
  rw [List.length_append, List.flatMap_append]
  exact hown
theorem OutE.lower {α : Type} {T : TypeId} {k : Nat} {enc : α → List Value} {w w1 wr : World} {v : Value} {L : List α} (h : OutE T k enc w1 wr v L) (hb : Below w.heap.size w w1) : OutE T k enc w wr v L :=
  ⟨bell_up hb h.below, own_lower h.row hb.size⟩
theorem OutE.empty {α : Type} {T : TypeId} {k : Nat} {enc : α → List Value} {w wr : World} (hb : Below w.heap.size w wr) : OutE T k enc w (wr.alloc (.cells #[] T)) (.slice (some ⟨wr.heap.size, 0, none⟩) 0 0) [] :=
  ⟨bell_alloc hb _, own_new wr #[] T k 0 _ (by simp) hb.size (by decide)⟩
theorem clt_lt {x y : Ch} (h : x.rev < y.rev) : clt x y = true := by unfold clt; rw [if_neg (by omega)]; exact decide_eq_true h
theorem clt_gt {x y : Ch} (h : y.rev < x.rev) : clt x y = false := by unfold clt; rw [if_neg (by omega)]; exact decide_eq_false (by omega)
theorem clt_eq {x y : Ch} (h : x.rev = y.rev) : clt x y = ltT x.t y.t := by unfold clt; rw [if_pos h]
theorem cs_at {L : List Ch} {i : Nat} {x : Ch} (h1 : ∀ k (hk : k < L.length), i ≤ k → clt x L[k] = true) {k : Nat} {y : Ch} (hk : i = k + 1) (hy : L[k]? = some y) (hc : clt x y = true) : ∀ j (hj : j < L.length), k ≤ j → clt x L[j] = true := by
  intro j hj hkj
  by_cases he : j = k
  · subst he
    rw [List.getElem?_eq_getElem hj] at hy
    injection hy with hy
    rw [hy]; exact hc
  · exact h1 j hj (by omega)
set_option maxRecDepth 100000 in
set_option maxHeartbeats 8000000 in
theorem rput_any {w : World} {a : Option Addr} {n c B : Nat} {L : List Ch} (hl : Lies w 59 5 B a n c (L.flatMap chc)) (hln : L.length = n) (hn : n ≤ 1099511627776) (x : Ch) :
    Calls Try.prog 32 #[.slice a n c, .agg (chc x).toArray] w fun e w' => ∃ v, ∃ i : Nat, e = .returned v ∧ i ≤ L.length ∧ (∀ k (hk : k < L.length), i ≤ k → clt x L[k] = true) ∧ (∀ y, L[i - 1]? = some y → 0 < i → clt x y = false) ∧ OutE 59 5 chc w w' v ((L.take i ++ [x]) ++ L.drop i) := by
  obtain ⟨j0, hj0, jz0, jz1, jz2⟩ := info_parts infoRC
  obtain ⟨q, hq⟩ : ∃ q, q = w.heap.size := ⟨_, rfl⟩
  obtain ⟨w1, hw1⟩ : ∃ w1, w1 = w.alloc (.cells (chc x).toArray 59) := ⟨_, rfl⟩
  have hb1 : Below w.heap.size w w1 := by rw [hw1]; exact below_alloc _ _
  have hX : Whole w1 q 59 (chc x).toArray := by rw [hw1, hq]; exact heap_alloc_new _ _
  have HX := Lib.hid hX
  have HB1 := Lib.hid hb1
  have HL := Lib.hid (hl.below hb1)
  have HLN := Lib.hid hln
  have HRB := Lib.hid (fun x w => rless_any x w)
  have hsh : ∀ i : Nat, i ≤ n → ∀ w : World, (Instr.slice 27 (.slice a n c) none (some (.int .i64 (i : Int))) none).run Try.prog w = .ok (.slice a i c) w := fun i hi w =>
    slice_headK (k := 5) Try.underlying27 rfl a n c i (by have := hl.room; omega) w (by kernel_rfl)
  have hst : ∀ i : Nat, i ≤ n → ∀ w : World, (Instr.slice 27 (.slice a n c) (some (.int .i64 (i : Int))) none none).run Try.prog w = .ok (.slice (tailK 5 a c i) (n - i) (c - i)) w := fun i hi w =>
    slice_tailK (k := 5) Try.underlying27 rfl a n c i hi w (by kernel_rfl)
  have HSH := Lib.hid hsh
  have HST := Lib.hid hst
  unfold chc at hw1 ⊢
  clear hl hb1 hX hln hsh hst
  go_enter Try.func32, Try.ntmps32
  go_upto_region 1 with fail
  rw [← hw1, ← hq]
  clear hw1 hq
  go_wp2_with fail
  go_loopw [5] (fun iv wr => ∃ i : Nat, i ≤ n ∧ iv = .int .i64 (i : Int) ∧ Hid (∀ k (hk : k < L.length), i ≤ k → clt x L[k] = true) ∧ Below w1.heap.size w1 wr) (fun iv _ => (intOf iv).toNat)
  case atStart => exact ⟨n, Nat.le_refl _, rfl, Lib.hid (fun k hk hi => absurd hk (by rw [HLN.out]; omega)), Below.refl _ _⟩
  case round =>
    obtain ⟨i, hin, rfl, HI, hbr⟩ := hrel
    by_cases hi0 : i = 0
    · subst hi0
      have HEX := Lib.hid (show ∀ y, L[0 - 1]? = some y → 0 < 0 → clt x y = false from fun _ _ h => absurd h (Nat.lt_irrefl _))
      go_upto_region 2 with fail
      go_quiet (fail)
      have HBQ := Lib.hid (bell_up hbr (below_drewN wr nq))
      clear hbr
      generalize wr.drewN nq = wq at *
      obtain ⟨M, hM⟩ : ∃ M, M = L.take 0 := ⟨_, rfl⟩
      have hli : M.length = 0 := by rw [hM, List.length_take, HLN.out]; exact Nat.min_eq_left (by omega)
      have HM := Lib.hid hM
      have HLI := Lib.hid hli
      have HIN := Lib.hid hin
      have HE := Lib.hid (OutE.empty (T := 59) (k := 5) (enc := chc) HBQ.out)
      have HH := Lib.hid ((HL.out.below (bell_alloc HBQ.out (.cells #[] 59))).head (m := 0) hin)
      rw [fm_take chc_len, ← hM] at HH
      have HT := Lib.hid (HL.out.tail (m := 0) hin)
      rw [fm_drop chc_len] at HT
      have hsh : ∀ w : World, (Instr.slice 27 (.slice a n c) none (some (.int .i64 (0))) none).run Try.prog w = .ok (.slice a 0 c) w := HSH.out 0 hin
      have hst : ∀ w : World, (Instr.slice 27 (.slice a n c) (some (.int .i64 (0))) none none).run Try.prog w = .ok (.slice (tailK 5 a c 0) (n - 0) (c - 0)) w := HST.out 0 hin
      have HLD := Lib.hid (show (L.drop 0).length = n - 0 by rw [List.length_drop, HLN.out])
      have HNI := Lib.hid (show 0 + 1 + (n - 0) = n + 1 by omega)
      generalize tailK 5 a c 0 = ta at hst HT
      generalize n - 0 = tm at hst HT HLD HNI
      generalize c - 0 = tcc at hst HT
      have hn1 : M.length + 1 ≤ maxLen := by rw [hli]; unfold maxLen; omega
      have hn2 : (M.length + 1) * 64 ≤ 140737488355328 := by rw [hli]; omega
      have hn3 : (M ++ [x]).length + tm ≤ maxLen := by rw [List.length_append, hli]; have := HNI.out; simp; unfold maxLen; omega
      have hn4 : ((M ++ [x]).length + tm) * 64 ≤ 140737488355328 := by rw [List.length_append, hli]; have := HNI.out; simp; omega
      clear hli hM
      go_wp2_with (first
        | (at_builtin; refine wpList_append_at_any _ rfl (.tmp 46) (.tmp 49) 27 rfl w1.heap.size 59 j0 (.agg #[.int .i64 0, .bool false, .string ⟨#[]⟩, .string ⟨#[]⟩, .string ⟨#[]⟩]) 5 64 Try.underlying27 hj0 jz0 jz1 jz2 rfl (by decide) (.slice (some ⟨wq.heap.size, 0, none⟩) 0 0) 0 [] rfl HE.out.row a 0 c (M.flatMap chc) rfl HH.out.len HH.out.nil HH.out.news (fm_one chc_one _) (by unfold maxLen; have := HIN.out; omega) (by have := HIN.out; omega) (by have := HBQ.out.size; simp; omega) ?_; intro v4 w4 hown4 hgr4 _
           have HS4 := Lib.hid (show OutE 59 5 chc w1 w4 v4 M from HE.out.more M hgr4 (by rw [HLI.out]; exact hown4))
           obtain ⟨a4, c4, rfl, _, _⟩ := owned_anyE HS4.out.row
           have hx4 := HX.out.kept (HS4.out.below.block _ HX.out.lt)
           have z0 : w4.cell? ⟨q, 0, none⟩ = some (.int .i64 x.rev) := by rw [hx4.cell]; rfl
           have z1 : w4.cell? ⟨q, 1, none⟩ = some (.bool x.del) := by rw [hx4.cell]; rfl
           have z2 : w4.cell? ⟨q, 2, none⟩ = some (.string x.t.o) := by rw [hx4.cell]; rfl
           have z3 : w4.cell? ⟨q, 3, none⟩ = some (.string x.t.r) := by rw [hx4.cell]; rfl
           have z4 : w4.cell? ⟨q, 4, none⟩ = some (.string x.t.u) := by rw [hx4.cell]; rfl
           have HBS := Lib.hid (show w1.heap.size ≤ w4.heap.size from HS4.out.below.size)
           clear hown4 hgr4 hx4)
        | (at_builtin; refine wpList_append_own_at _ rfl (.tmp 51) (.tmp 53) 27 rfl w1.heap.size 59 j0 (.agg #[.int .i64 0, .bool false, .string ⟨#[]⟩, .string ⟨#[]⟩, .string ⟨#[]⟩]) 5 64 Try.underlying27 hj0 jz0 jz1 jz2 rfl (by decide) (.slice a4 M.length c4) M.length (M.flatMap chc) rfl (HS4.out.row.alloc _) ⟨w4.heap.size, 0, none⟩ 1 1 [.int .i64 x.rev, .bool x.del, .string x.t.o, .string x.t.r, .string x.t.u] rfl rfl (fiveE_new w4 _ _ _ _ _ 59) (by simp [Value.oneCell']) hn1 hn2 (by have := HBS.out; simp; omega) ?_; intro v5 w5 hown5 hgr5 _ _
           have HS5 := Lib.hid ((HS4.out.up (below_alloc _ _)).next x hgr5 hown5)
           obtain ⟨a5, c5, rfl, _, _⟩ := owned_anyE hown5
           have HT5 := Lib.hid (HT.out.below HS5.out.below)
           have HBS := Lib.hid (show w1.heap.size ≤ w5.heap.size from HS5.out.below.size)
           clear hown5 hgr5)
        | (at_builtin; refine wpList_append_at_any _ rfl (.tmp 55) (.tmp 58) 27 rfl w1.heap.size 59 j0 (.agg #[.int .i64 0, .bool false, .string ⟨#[]⟩, .string ⟨#[]⟩, .string ⟨#[]⟩]) 5 64 Try.underlying27 hj0 jz0 jz1 jz2 rfl (by decide) (.slice a5 (M.length + 1) c5) (M ++ [x]).length ((M ++ [x]).flatMap chc) rfl HS5.out.row ta tm tcc ((L.drop 0).flatMap chc) rfl HT5.out.len HT5.out.nil HT5.out.news (fm_one chc_one _) hn3 hn4 HBS.out ?_; intro v6 w6 hown6 hgr6 _
           have HS6 := Lib.hid (show OutE 59 5 chc w1 w6 v6 ((M ++ [x]) ++ L.drop 0) from HS5.out.more (L.drop 0) hgr6 (by rw [HLD.out]; exact hown6))
           clear hown6 hgr6))
      go_ret
      exact ⟨_, 0, rfl, by rw [HLN.out]; exact HIN.out, HI.out, HEX.out, by have h := HS6.out.lower HB1.out; rwa [HM.out] at h⟩
    · obtain ⟨k, rfl⟩ : ∃ k, i = k + 1 := ⟨i - 1, by omega⟩
      obtain ⟨y, hy⟩ : ∃ y, L[k]? = some y := ⟨_, List.getElem?_eq_getElem (by rw [HLN.out]; omega)⟩
      have HY := Lib.hid hy
      obtain ⟨b, off, rfl, hbb, hcc⟩ := lies_cells chc_len (by decide) HL.out hy
      have hF : ∀ W : World, Below w1.heap.size w1 W → ((W.cell? ⟨q, 0, none⟩ = some (.int .i64 x.rev) ∧ W.cell? ⟨q, 2, none⟩ = some (.string x.t.o) ∧ W.cell? ⟨q, 3, none⟩ = some (.string x.t.r) ∧ W.cell? ⟨q, 4, none⟩ = some (.string x.t.u)) ∧ (W.cell? ⟨b, off + k * 5, none⟩ = some (.int .i64 y.rev) ∧ W.cell? ⟨b, off + k * 5 + 2, none⟩ = some (.string y.t.o) ∧ W.cell? ⟨b, off + k * 5 + 2 + 1, none⟩ = some (.string y.t.r) ∧ W.cell? ⟨b, off + k * 5 + 2 + 2, none⟩ = some (.string y.t.u))) := fun W hW => by
        have hx1 := HX.out.kept (hW.block _ HX.out.lt)
        exact ⟨⟨by rw [hx1.cell]; rfl, by rw [hx1.cell]; rfl, by rw [hx1.cell]; rfl, by rw [hx1.cell]; rfl⟩, (hW.cell (p := ⟨b, off + k * 5, none⟩) hbb).trans (hcc 0 _ rfl), (hW.cell (p := ⟨b, off + k * 5 + 2, none⟩) hbb).trans (hcc 2 _ rfl), (hW.cell (p := ⟨b, off + k * 5 + 2 + 1, none⟩) hbb).trans (hcc 3 _ rfl), (hW.cell (p := ⟨b, off + k * 5 + 2 + 2, none⟩) hbb).trans (hcc 4 _ rfl)⟩
      have HKK := Lib.hid hF
      have hp1 := hF wr hbr
      have HBR := Lib.hid hbr
      have hi1 : ((k + 1 : Nat) : Int) = (k : Int) + 1 := rfl
      have hkn : (k : Int) < (n : Int) := by omega
      have hkn2 : (k : Int) ≤ (n : Int) := by omega
      have hk0 : (0 : Int) ≤ (k : Int) := by omega
      have hkw : IntKind.i64.wrap (k : Int) = (k : Int) := IntWalk.i64_in _ (by omega)
      have hkw2 : IntKind.i64.wrap ((k : Int) + 1 - 1) = (k : Int) := by rw [Int.add_sub_cancel]; exact hkw
      rw [hi1]
      clear hF hcc hy hbr hi1 hi0
      rcases Int.lt_trichotomy x.rev y.rev with hlt | heq | hgt
      · have HC := Lib.hid (cs_at HI.out rfl HY.out (clt_lt hlt))
        obtain ⟨⟨z0, z1, z2, z3⟩, y0, y1, y2, y3⟩ := hp1
        go_upto_region 2 with fail
        go_quiet (fail)
        have HBQ := Lib.hid (bell_up HBR.out (below_drewN wr nq))
        go_wp2
        go_roundw
        case rel => exact ⟨k, by omega, by first | (simp; done) | go_num, HC, HBQ.out⟩
        case measure => simp [intOf] <;> omega
      · have HCF := Lib.hid (clt_eq heq)
        rw [← heq] at hp1
        have HKK2 := Lib.hid (fun W hW => by
          have := HKK.out W hW
          rw [← heq] at this
          exact this)
        have hp2 := HKK2.out wr.drew (bell_up HBR.out (below_drew1 wr))
        have hbf := HRB.out x.t
        clear heq HKK
        cases hr : ltT x.t y.t with
        | true =>
          have HC := Lib.hid (cs_at HI.out rfl HY.out (HCF.out.trans hr))
          have HBF := Lib.hid (fun w => by have := hbf y.t w; rw [hr] at this; exact this)
          clear hbf hr
          go_upto_region 2 with fail
          go_region_held3 (fun W : World => ((W.cell? ⟨q, 0, none⟩ = some (.int .i64 x.rev) ∧ W.cell? ⟨q, 2, none⟩ = some (.string x.t.o) ∧ W.cell? ⟨q, 3, none⟩ = some (.string x.t.r) ∧ W.cell? ⟨q, 4, none⟩ = some (.string x.t.u)) ∧ (W.cell? ⟨b, off + k * 5, none⟩ = some (.int .i64 x.rev) ∧ W.cell? ⟨b, off + k * 5 + 2, none⟩ = some (.string y.t.o) ∧ W.cell? ⟨b, off + k * 5 + 2 + 1, none⟩ = some (.string y.t.r) ∧ W.cell? ⟨b, off + k * 5 + 2 + 2, none⟩ = some (.string y.t.u)))) (first | assumption | with_reducible exact HKK2.out _ (bell_up HBR.out (below_drewN _ 1)) | exact HKK2.out _ (bell_up HBR.out (below_drew1 _))) (first
            | (go_at_call 49; (with_reducible refine (HBF.out _).mono ?_); rintro e w5 ⟨rfl, hb5⟩
               have HBQ := Lib.hid (bell_up (bell_up HBR.out (below_drew1 wr)) hb5)
               have hk5 := HKK2.out w5 HBQ.out
               clear hb5))
          all_goals
            go_wp2
            go_roundw
            case rel => exact ⟨k, by omega, by first | (simp; done) | go_num, HC, HBQ.out⟩
            case measure => simp [intOf] <;> omega
        | false =>
          have HEX := Lib.hid (show ∀ y', L[k + 1 - 1]? = some y' → 0 < k + 1 → clt x y' = false from fun y' h _ => by
            rw [Nat.add_sub_cancel, HY.out] at h
            injection h with h
            rw [← h, HCF.out, hr])
          have HBF := Lib.hid (fun w => by have := hbf y.t w; rw [hr] at this; exact this)
          clear hbf hr
          go_upto_region 2 with fail
          go_region_held3 (fun W : World => ((W.cell? ⟨q, 0, none⟩ = some (.int .i64 x.rev) ∧ W.cell? ⟨q, 2, none⟩ = some (.string x.t.o) ∧ W.cell? ⟨q, 3, none⟩ = some (.string x.t.r) ∧ W.cell? ⟨q, 4, none⟩ = some (.string x.t.u)) ∧ (W.cell? ⟨b, off + k * 5, none⟩ = some (.int .i64 x.rev) ∧ W.cell? ⟨b, off + k * 5 + 2, none⟩ = some (.string y.t.o) ∧ W.cell? ⟨b, off + k * 5 + 2 + 1, none⟩ = some (.string y.t.r) ∧ W.cell? ⟨b, off + k * 5 + 2 + 2, none⟩ = some (.string y.t.u)))) (first | assumption | with_reducible exact HKK2.out _ (bell_up HBR.out (below_drewN _ 1)) | exact HKK2.out _ (bell_up HBR.out (below_drew1 _))) (first
            | (go_at_call 49; (with_reducible refine (HBF.out _).mono ?_); rintro e w5 ⟨rfl, hb5⟩
               have HBQ := Lib.hid (bell_up (bell_up HBR.out (below_drew1 wr)) hb5)
               have hk5 := HKK2.out w5 HBQ.out
               clear hb5))
          all_goals
            clear hp1 hp2 hk5
            generalize w5 = wq at *
            obtain ⟨M, hM⟩ : ∃ M, M = L.take (k + 1) := ⟨_, rfl⟩
            have hli : M.length = (k + 1) := by rw [hM, List.length_take, HLN.out]; exact Nat.min_eq_left (by omega)
            have HM := Lib.hid hM
            have HLI := Lib.hid hli
            have HIN := Lib.hid hin
            have HE := Lib.hid (OutE.empty (T := 59) (k := 5) (enc := chc) HBQ.out)
            have HH := Lib.hid ((HL.out.below (bell_alloc HBQ.out (.cells #[] 59))).head (m := (k + 1)) hin)
            rw [fm_take chc_len, ← hM] at HH
            have HT := Lib.hid (HL.out.tail (m := (k + 1)) hin)
            rw [fm_drop chc_len] at HT
            have hsh : ∀ w : World, (Instr.slice 27 (.slice (some ⟨b, off, none⟩) n c) none (some (.int .i64 ((k : Int) + 1))) none).run Try.prog w = .ok (.slice (some ⟨b, off, none⟩) (k + 1) c) w := HSH.out (k + 1) hin
            have hst : ∀ w : World, (Instr.slice 27 (.slice (some ⟨b, off, none⟩) n c) (some (.int .i64 ((k : Int) + 1))) none none).run Try.prog w = .ok (.slice (tailK 5 (some ⟨b, off, none⟩) c (k + 1)) (n - (k + 1)) (c - (k + 1))) w := HST.out (k + 1) hin
            have HLD := Lib.hid (show (L.drop (k + 1)).length = n - (k + 1) by rw [List.length_drop, HLN.out])
            have HNI := Lib.hid (show (k + 1) + 1 + (n - (k + 1)) = n + 1 by omega)
            generalize tailK 5 (some ⟨b, off, none⟩) c (k + 1) = ta at hst HT
            generalize n - (k + 1) = tm at hst HT HLD HNI
            generalize c - (k + 1) = tcc at hst HT
            have hn1 : M.length + 1 ≤ maxLen := by rw [hli]; unfold maxLen; omega
            have hn2 : (M.length + 1) * 64 ≤ 140737488355328 := by rw [hli]; omega
            have hn3 : (M ++ [x]).length + tm ≤ maxLen := by rw [List.length_append, hli]; have := HNI.out; simp; unfold maxLen; omega
            have hn4 : ((M ++ [x]).length + tm) * 64 ≤ 140737488355328 := by rw [List.length_append, hli]; have := HNI.out; simp; omega
            clear hli hM
            go_wp2_with (first
              | (at_builtin; refine wpList_append_at_any _ rfl (.tmp 46) (.tmp 49) 27 rfl w1.heap.size 59 j0 (.agg #[.int .i64 0, .bool false, .string ⟨#[]⟩, .string ⟨#[]⟩, .string ⟨#[]⟩]) 5 64 Try.underlying27 hj0 jz0 jz1 jz2 rfl (by decide) (.slice (some ⟨wq.heap.size, 0, none⟩) 0 0) 0 [] rfl HE.out.row (some ⟨b, off, none⟩) (k + 1) c (M.flatMap chc) rfl HH.out.len HH.out.nil HH.out.news (fm_one chc_one _) (by unfold maxLen; have := HIN.out; omega) (by have := HIN.out; omega) (by have := HBQ.out.size; simp; omega) ?_; intro v4 w4 hown4 hgr4 _
                 have HS4 := Lib.hid (show OutE 59 5 chc w1 w4 v4 M from HE.out.more M hgr4 (by rw [HLI.out]; exact hown4))
                 obtain ⟨a4, c4, rfl, _, _⟩ := owned_anyE HS4.out.row
                 have hx4 := HX.out.kept (HS4.out.below.block _ HX.out.lt)
                 have z0 : w4.cell? ⟨q, 0, none⟩ = some (.int .i64 x.rev) := by rw [hx4.cell]; rfl
                 have z1 : w4.cell? ⟨q, 1, none⟩ = some (.bool x.del) := by rw [hx4.cell]; rfl
                 have z2 : w4.cell? ⟨q, 2, none⟩ = some (.string x.t.o) := by rw [hx4.cell]; rfl
                 have z3 : w4.cell? ⟨q, 3, none⟩ = some (.string x.t.r) := by rw [hx4.cell]; rfl
                 have z4 : w4.cell? ⟨q, 4, none⟩ = some (.string x.t.u) := by rw [hx4.cell]; rfl
                 have HBS := Lib.hid (show w1.heap.size ≤ w4.heap.size from HS4.out.below.size)
                 clear hown4 hgr4 hx4)
              | (at_builtin; refine wpList_append_own_at _ rfl (.tmp 51) (.tmp 53) 27 rfl w1.heap.size 59 j0 (.agg #[.int .i64 0, .bool false, .string ⟨#[]⟩, .string ⟨#[]⟩, .string ⟨#[]⟩]) 5 64 Try.underlying27 hj0 jz0 jz1 jz2 rfl (by decide) (.slice a4 M.length c4) M.length (M.flatMap chc) rfl (HS4.out.row.alloc _) ⟨w4.heap.size, 0, none⟩ 1 1 [.int .i64 x.rev, .bool x.del, .string x.t.o, .string x.t.r, .string x.t.u] rfl rfl (fiveE_new w4 _ _ _ _ _ 59) (by simp [Value.oneCell']) hn1 hn2 (by have := HBS.out; simp; omega) ?_; intro v5 w5 hown5 hgr5 _ _
                 have HS5 := Lib.hid ((HS4.out.up (below_alloc _ _)).next x hgr5 hown5)
                 obtain ⟨a5, c5, rfl, _, _⟩ := owned_anyE hown5
                 have HT5 := Lib.hid (HT.out.below HS5.out.below)
                 have HBS := Lib.hid (show w1.heap.size ≤ w5.heap.size from HS5.out.below.size)
                 clear hown5 hgr5)
              | (at_builtin; refine wpList_append_at_any _ rfl (.tmp 55) (.tmp 58) 27 rfl w1.heap.size 59 j0 (.agg #[.int .i64 0, .bool false, .string ⟨#[]⟩, .string ⟨#[]⟩, .string ⟨#[]⟩]) 5 64 Try.underlying27 hj0 jz0 jz1 jz2 rfl (by decide) (.slice a5 (M.length + 1) c5) (M ++ [x]).length ((M ++ [x]).flatMap chc) rfl HS5.out.row ta tm tcc ((L.drop (k + 1)).flatMap chc) rfl HT5.out.len HT5.out.nil HT5.out.news (fm_one chc_one _) hn3 hn4 HBS.out ?_; intro v6 w6 hown6 hgr6 _
                 have HS6 := Lib.hid (show OutE 59 5 chc w1 w6 v6 ((M ++ [x]) ++ L.drop (k + 1)) from HS5.out.more (L.drop (k + 1)) hgr6 (by rw [HLD.out]; exact hown6))
                 clear hown6 hgr6))
            go_ret
            exact ⟨_, (k + 1), rfl, by rw [HLN.out]; exact HIN.out, HI.out, HEX.out, by have h := HS6.out.lower HB1.out; rwa [HM.out] at h⟩
      · have HCF := Lib.hid (clt_gt hgt)
        have HEX := Lib.hid (show ∀ y', L[k + 1 - 1]? = some y' → 0 < k + 1 → clt x y' = false from fun y' h _ => by
          rw [Nat.add_sub_cancel, HY.out] at h
          injection h with h
          rw [← h, HCF.out])
        have h1 : ¬ x.rev < y.rev := by omega
        have h2 : (x.rev == y.rev) = false := by simp; omega
        obtain ⟨⟨z0, z1, z2, z3⟩, y0, y1, y2, y3⟩ := hp1
        clear hgt
        go_upto_region 2 with fail
        go_quiet (fail)
        have HBQ := Lib.hid (bell_up HBR.out (below_drewN wr nq))
        clear z0 z1 z2 z3 y0 y1 y2 y3 h1 h2
        generalize wr.drewN nq = wq at *
        obtain ⟨M, hM⟩ : ∃ M, M = L.take (k + 1) := ⟨_, rfl⟩
        have hli : M.length = (k + 1) := by rw [hM, List.length_take, HLN.out]; exact Nat.min_eq_left (by omega)
        have HM := Lib.hid hM
        have HLI := Lib.hid hli
        have HIN := Lib.hid hin
        have HE := Lib.hid (OutE.empty (T := 59) (k := 5) (enc := chc) HBQ.out)
        have HH := Lib.hid ((HL.out.below (bell_alloc HBQ.out (.cells #[] 59))).head (m := (k + 1)) hin)
        rw [fm_take chc_len, ← hM] at HH
        have HT := Lib.hid (HL.out.tail (m := (k + 1)) hin)
        rw [fm_drop chc_len] at HT
        have hsh : ∀ w : World, (Instr.slice 27 (.slice (some ⟨b, off, none⟩) n c) none (some (.int .i64 ((k : Int) + 1))) none).run Try.prog w = .ok (.slice (some ⟨b, off, none⟩) (k + 1) c) w := HSH.out (k + 1) hin
        have hst : ∀ w : World, (Instr.slice 27 (.slice (some ⟨b, off, none⟩) n c) (some (.int .i64 ((k : Int) + 1))) none none).run Try.prog w = .ok (.slice (tailK 5 (some ⟨b, off, none⟩) c (k + 1)) (n - (k + 1)) (c - (k + 1))) w := HST.out (k + 1) hin
        have HLD := Lib.hid (show (L.drop (k + 1)).length = n - (k + 1) by rw [List.length_drop, HLN.out])
        have HNI := Lib.hid (show (k + 1) + 1 + (n - (k + 1)) = n + 1 by omega)
        generalize tailK 5 (some ⟨b, off, none⟩) c (k + 1) = ta at hst HT
        generalize n - (k + 1) = tm at hst HT HLD HNI
        generalize c - (k + 1) = tcc at hst HT
        have hn1 : M.length + 1 ≤ maxLen := by rw [hli]; unfold maxLen; omega
        have hn2 : (M.length + 1) * 64 ≤ 140737488355328 := by rw [hli]; omega
        have hn3 : (M ++ [x]).length + tm ≤ maxLen := by rw [List.length_append, hli]; have := HNI.out; simp; unfold maxLen; omega
        have hn4 : ((M ++ [x]).length + tm) * 64 ≤ 140737488355328 := by rw [List.length_append, hli]; have := HNI.out; simp; omega
        clear hli hM
        go_wp2_with (first
          | (at_builtin; refine wpList_append_at_any _ rfl (.tmp 46) (.tmp 49) 27 rfl w1.heap.size 59 j0 (.agg #[.int .i64 0, .bool false, .string ⟨#[]⟩, .string ⟨#[]⟩, .string ⟨#[]⟩]) 5 64 Try.underlying27 hj0 jz0 jz1 jz2 rfl (by decide) (.slice (some ⟨wq.heap.size, 0, none⟩) 0 0) 0 [] rfl HE.out.row (some ⟨b, off, none⟩) (k + 1) c (M.flatMap chc) rfl HH.out.len HH.out.nil HH.out.news (fm_one chc_one _) (by unfold maxLen; have := HIN.out; omega) (by have := HIN.out; omega) (by have := HBQ.out.size; simp; omega) ?_; intro v4 w4 hown4 hgr4 _
             have HS4 := Lib.hid (show OutE 59 5 chc w1 w4 v4 M from HE.out.more M hgr4 (by rw [HLI.out]; exact hown4))
             obtain ⟨a4, c4, rfl, _, _⟩ := owned_anyE HS4.out.row
             have hx4 := HX.out.kept (HS4.out.below.block _ HX.out.lt)
             have z0 : w4.cell? ⟨q, 0, none⟩ = some (.int .i64 x.rev) := by rw [hx4.cell]; rfl
             have z1 : w4.cell? ⟨q, 1, none⟩ = some (.bool x.del) := by rw [hx4.cell]; rfl
             have z2 : w4.cell? ⟨q, 2, none⟩ = some (.string x.t.o) := by rw [hx4.cell]; rfl
             have z3 : w4.cell? ⟨q, 3, none⟩ = some (.string x.t.r) := by rw [hx4.cell]; rfl
             have z4 : w4.cell? ⟨q, 4, none⟩ = some (.string x.t.u) := by rw [hx4.cell]; rfl
             have HBS := Lib.hid (show w1.heap.size ≤ w4.heap.size from HS4.out.below.size)
             clear hown4 hgr4 hx4)
          | (at_builtin; refine wpList_append_own_at _ rfl (.tmp 51) (.tmp 53) 27 rfl w1.heap.size 59 j0 (.agg #[.int .i64 0, .bool false, .string ⟨#[]⟩, .string ⟨#[]⟩, .string ⟨#[]⟩]) 5 64 Try.underlying27 hj0 jz0 jz1 jz2 rfl (by decide) (.slice a4 M.length c4) M.length (M.flatMap chc) rfl (HS4.out.row.alloc _) ⟨w4.heap.size, 0, none⟩ 1 1 [.int .i64 x.rev, .bool x.del, .string x.t.o, .string x.t.r, .string x.t.u] rfl rfl (fiveE_new w4 _ _ _ _ _ 59) (by simp [Value.oneCell']) hn1 hn2 (by have := HBS.out; simp; omega) ?_; intro v5 w5 hown5 hgr5 _ _
             have HS5 := Lib.hid ((HS4.out.up (below_alloc _ _)).next x hgr5 hown5)
             obtain ⟨a5, c5, rfl, _, _⟩ := owned_anyE hown5
             have HT5 := Lib.hid (HT.out.below HS5.out.below)
             have HBS := Lib.hid (show w1.heap.size ≤ w5.heap.size from HS5.out.below.size)
             clear hown5 hgr5)
          | (at_builtin; refine wpList_append_at_any _ rfl (.tmp 55) (.tmp 58) 27 rfl w1.heap.size 59 j0 (.agg #[.int .i64 0, .bool false, .string ⟨#[]⟩, .string ⟨#[]⟩, .string ⟨#[]⟩]) 5 64 Try.underlying27 hj0 jz0 jz1 jz2 rfl (by decide) (.slice a5 (M.length + 1) c5) (M ++ [x]).length ((M ++ [x]).flatMap chc) rfl HS5.out.row ta tm tcc ((L.drop (k + 1)).flatMap chc) rfl HT5.out.len HT5.out.nil HT5.out.news (fm_one chc_one _) hn3 hn4 HBS.out ?_; intro v6 w6 hown6 hgr6 _
             have HS6 := Lib.hid (show OutE 59 5 chc w1 w6 v6 ((M ++ [x]) ++ L.drop (k + 1)) from HS5.out.more (L.drop (k + 1)) hgr6 (by rw [HLD.out]; exact hown6))
             clear hown6 hgr6))
        go_ret
        exact ⟨_, (k + 1), rfl, by rw [HLN.out]; exact HIN.out, HI.out, HEX.out, by have h := HS6.out.lower HB1.out; rwa [HM.out] at h⟩
end Go.Proofs.Yteimgebfbnmdcaa
