/- The disk's calls: Append. -/
import Derived.Test.YteodldmbnghfcaaGreatD4
namespace Go.Proofs.YteodldmbnghfcaaGreat.Dk
open Go.RowKit

/-- append of a slice, nil or not, onto a row of the call's own; where the new row lies. -/
theorem wpList_append_at_any {P : Program} (w : World) {ops : Array Oper} {rest : List Oper} {o : Oper} {a : Act} {Q : Exit → Act → World → Prop} (hgd : o.guard = none) (s x : Operand) (t : TypeId)
    (ho : o.op = .call { callee := .builtin .append, args := #[s, x], argTypes := #[t, t] })
    (base : Nat) (e : TypeId) (i : TypeInfo) (z : Value) (size bytes : Nat) (ht : P.underlying t = some (.slice e)) (hi : P.info? e = some i) (hz : i.zero = some z)
    (hsize : i.size = size) (hby : i.bytes = bytes) (hzs : z.cells.size = size) (hsz : 0 < size)
    (v : Value) (n : Nat) (xs : List Value) (hs : a.eval s = v) (hown : w.ownsRow base e size v n xs)
    (ao : Option Addr) (m c : Nat) (news : List Value) (hx : a.eval x = .slice ao m c) (hl : news.length = m * size) (hnone : ao = none → m = 0 ∧ c = 0)
    (hnews : ∀ ad, ao = some ad → ∀ j u, news[j]? = some u → w.cell? (ad.add j) = some u) (h1 : ∀ u ∈ news, u.oneCell' = true)
    (h63 : n + m ≤ maxLen) (hbytes : (n + m) * bytes ≤ 140737488355328) (hbase : base ≤ w.heap.size)
    (h : ∀ v' w', w'.ownsRow base e size v' (n + m) (xs ++ news) → w.grownBy w' v.ownBlock → (v'.ownBlock = v.ownBlock ∨ v'.ownBlock = some w.heap.size) → wpList P ops Q rest (a.put o.dst v') w') : wpList P ops Q (o :: rest) a w := by
  cases ao with
  | some ad => exact wpList_append_own_at w hgd s x t ho base e i z size bytes ht hi hz hsize hby hzs hsz v n xs hs hown ad m c news hx hl (hnews ad rfl) h1 h63 hbytes hbase fun v' w' h2 h3 _ h4 => h v' w' h2 h3 h4
  | none =>
    obtain ⟨rfl, rfl⟩ := hnone rfl
    have hn : news = [] := List.eq_nil_of_length_eq_zero (by simpa using hl)
    subst hn
    exact wpList_append_own_none hgd s x t ho base e i size ht hi v n xs hs hown hx (h v w (by simpa using hown) (World.grownBy.refl _ _) (.inl rfl))

theorem whole_apart {w : World} {g : Nat} {t : TypeId} {cs : Array Value} (h : Whole w g t cs) {B : Nat} {e : TypeId} (he : e ≠ t) {u : Value} {m : Nat} {l : List Value} (hu : w.ownsRow B e 1 u m l) : u.ownBlock ≠ some g := by
  intro hb
  rcases hu.2 with ⟨rfl, _⟩ | ⟨k, cap, cur, rfl, _, hh, _⟩
  · cases hb
  · have : k = g := by simpa [Value.ownBlock] using hb
    subst this
    unfold Whole at h
    rw [hh] at h
    injection h with h1
    injection h1 with _ h1
    exact he h1

theorem owned_any {w : World} {base n : Nat} {v : Value} {e : TypeId} {l : List Value} (h : w.ownsRow base e 1 v n l) : ∃ a c, v = .slice a n c ∧ n ≤ c ∧ c ≤ maxLen := by
  rcases h.2 with ⟨rfl, h0⟩ | ⟨g, cap, cur, rfl, _, _, h3, h4, _⟩
  · subst h0
    exact ⟨none, 0, rfl, by omega, by simp [maxLen]⟩
  · exact ⟨_, _, rfl, h3, h4⟩

/-- The parts of a call: one cell a part, none of them in the blocks that 'no' names. -/
def PartsIn (w : World) (no : Nat → Prop) (a : Option Addr) (m : Nat) (xss : List (List Int)) : Prop :=
  xss.length = m ∧ m ≤ maxLen ∧ ∀ i, i < m → ∃ b off pa n c, a = some ⟨b, off, none⟩ ∧ ¬ no b ∧ w.cell? ⟨b, off + i, none⟩ = some (.slice pa n c) ∧ n ≤ maxLen ∧ (pa = none → n = 0 ∧ c = 0) ∧ IsB w pa n (xss.getD i []) ∧ (n = 0 ∨ ∀ ad, pa = some ad → ¬ no ad.block)

theorem flat_take (xss : List (List Int)) (k : Nat) (h : k < xss.length) : (xss.take (k + 1)).flatten = (xss.take k).flatten ++ xss.getD k [] := by
  rw [List.take_succ_eq_append_getElem h, List.flatten_append]
  simp [List.getD, h]
theorem flat_le (xss : List (List Int)) (k : Nat) : (xss.take k).flatten.length ≤ xss.flatten.length := by
  conv => rhs; rw [← List.take_append_drop k xss, List.flatten_append, List.length_append]
  omega

set_option maxRecDepth 100000 in
set_option maxHeartbeats 2000000 in
theorem append_full {B g d r : Nat} {v : Value} {xs : List Int} (a : Option Addr) (m c : Nat) (xss : List (List Int)) (w : World) (h : DAt w B g v xs d r) (hp : PartsIn w (fun k => k = g ∨ some k = v.ownBlock) a m xss) (hf : r < xs.length + xss.flatten.length) :
    Calls Tryz.prog 50 #[.pointer (some ⟨g, 0, none⟩), .slice a m c] w fun e w' => e = .returned (.int .i64 3) ∧ ∃ n, w' = w.drewN n := by
  obtain ⟨hl, hm, hc⟩ := hp
  have hr := h.hr
  have hrm := h.hm
  have H := Lib.hid h
  have HC := Lib.hid hc
  have HL := Lib.hid hl
  have HF := Lib.hid hf
  unfold maxLen at hm
  clear h hc hl hf
  go_enter Tryz.func50, Tryz.ntmps50
  go_wp2_with (go_at_call 67; refine (left_any _ H.out).mono ?_; rintro e w' ⟨rfl, q, rfl⟩)
  go_loop [5, 14] (fun x i => ∃ k : Nat, k ≤ m ∧ i = .int .i64 k ∧ (xss.take k).flatten.length ≤ r - xs.length ∧ x = .int .i64 ((r - xs.length - (xss.take k).flatten.length : Nat))) (fun _ i => m - (intOf i).toNat)
  case atStart => exact ⟨0, by omega, rfl, by simp, by simp⟩
  case round =>
    obtain ⟨k, hk, rfl, hle, rfl⟩ := hrel
    by_cases hkm : k < m
    · obtain ⟨b, off, pa, n, c', rfl, _, hcell, hn, _, hib, _⟩ := HC.out k hkm
      have hln := hib.1
      have hft := flat_take xss k (by rw [HL.out]; exact hkm)
      have hfl := congrArg List.length hft
      rw [List.length_append, hln] at hfl
      unfold maxLen at hn
      generalize (xss.take k).flatten.length = p at *
      obtain ⟨p1, hp1⟩ : ∃ p1, p1 = (xss.take (k + 1)).flatten.length := ⟨_, rfl⟩
      rw [← hp1] at hfl
      have HP1 := Lib.hid hp1
      clear hp1
      have HFL := Lib.hid hfl
      by_cases hfit : n ≤ r - xs.length - p
      · have hd : decide (((r - xs.length - p : Nat) : Int) < (n : Int)) = false := by simp; omega
        have hs : IntKind.i64.wrap (((r - xs.length - p : Nat) : Int) - (n : Int)) = ((r - xs.length - p1 : Nat) : Int) := by rw [IntWalk.i64_in _ (by omega)]; omega
        clear hft hfl hln hib
        go_wp2
        go_round
        case rel => exact ⟨k + 1, by omega, by go_num, by rw [← HP1.out]; have := HFL.out; omega, by rw [← HP1.out]⟩
        case measure => simp [intOf]; omega
      · have hd : decide (((r - xs.length - p : Nat) : Int) < (n : Int)) = true := by simp; omega
        clear hft hfl hln hib
        go_wp2
        go_ret
        exact ⟨rfl, _, rfl⟩
    · exfalso
      have : k = m := by omega
      rw [List.take_of_length_le (by rw [HL.out]; omega)] at hle
      have := HF.out
      omega

set_option maxRecDepth 100000 in
set_option maxHeartbeats 4000000 in
theorem append_fits {B g d r : Nat} {v : Value} {xs : List Int} (a : Option Addr) (m c : Nat) (xss : List (List Int)) (w : World) (h : DAt w B g v xs d r) (hp : PartsIn w (fun k => k = g ∨ some k = v.ownBlock) a m xss) (hf : xs.length + xss.flatten.length ≤ r) :
    Calls Tryz.prog 50 #[.pointer (some ⟨g, 0, none⟩), .slice a m c] w fun e w' => e = .returned (.int .i64 0) ∧ ∃ v', DAt w' B g v' (xs ++ xss.flatten) d r ∧ Turned w w' g v.ownBlock ∧ (v'.ownBlock = v.ownBlock ∨ ∃ q, v'.ownBlock = some q ∧ w.heap.size ≤ q) := by
  obtain ⟨i0, hi, hz0, hz1, hz2⟩ := info_parts Tryz.infoB
  obtain ⟨hl, hm, hc⟩ := hp
  have hr := h.hr
  have hrm := h.hm
  have hB := Nat.lt_of_le_of_lt h.ge h.blk.lt
  have hg := h.blk.lt
  have H := Lib.hid h
  have HC := Lib.hid hc
  have HL := Lib.hid hl
  have HF := Lib.hid hf
  unfold maxLen at hm
  clear h hc hl hf
  go_enter Tryz.func50, Tryz.ntmps50
  go_wp2_with (go_at_call 67; refine (left_any _ H.out).mono ?_; rintro e w' ⟨rfl, q, rfl⟩)
  go_loop [5, 14] (fun x i => ∃ k : Nat, k ≤ m ∧ i = .int .i64 k ∧ (xss.take k).flatten.length ≤ r - xs.length ∧ x = .int .i64 ((r - xs.length - (xss.take k).flatten.length : Nat))) (fun _ i => m - (intOf i).toNat)
  case atStart => exact ⟨0, by omega, rfl, by simp, by simp⟩
  case round =>
    obtain ⟨k, hk, rfl, hle, rfl⟩ := hrel
    by_cases hkm : k < m
    · obtain ⟨b, off, pa, n, c', rfl, _, hcell, hn, _, hib, _⟩ := HC.out k hkm
      have hln := hib.1
      have hft := flat_take xss k (by rw [HL.out]; exact hkm)
      have hfl := congrArg List.length hft
      have hfle := flat_le xss (k + 1)
      rw [List.length_append, hln] at hfl
      unfold maxLen at hn
      generalize (xss.take k).flatten.length = p at *
      obtain ⟨p1, hp1⟩ : ∃ p1, p1 = (xss.take (k + 1)).flatten.length := ⟨_, rfl⟩
      rw [← hp1] at hfl hfle
      have HP1 := Lib.hid hp1
      clear hp1
      have HFL := Lib.hid hfl
      have hfit : n ≤ r - xs.length - p := by have := HF.out; omega
      have hd : decide (((r - xs.length - p : Nat) : Int) < (n : Int)) = false := by simp; omega
      have hs : IntKind.i64.wrap (((r - xs.length - p : Nat) : Int) - (n : Int)) = ((r - xs.length - p1 : Nat) : Int) := by rw [IntWalk.i64_in _ (by omega)]; omega
      clear hft hfl hln hib hfle
      go_wp2
      go_round
      case rel => exact ⟨k + 1, by omega, by go_num, by rw [← HP1.out]; have := HFL.out; omega, by rw [← HP1.out]⟩
      case measure => simp [intOf]; omega
    · clear hle
      have h0 : Below w.heap.size w (w.drewN q) := ⟨rfl, rfl, rfl, Nat.le_refl _, fun _ _ => rfl⟩
      have H0 := Lib.hid h0
      have HD0 := Lib.hid (H.out.drewN q)
      clear h0
      generalize w.drewN q = w1 at *
      go_wp2_with fail
      go_loopw [29] (fun i wr => ∃ (j : Nat) (u : Value), j ≤ m ∧ i = .int .i64 j ∧ DAt wr B g u (xs ++ (xss.take j).flatten) d r ∧ Turned w wr g v.ownBlock ∧ (u.ownBlock = v.ownBlock ∨ ∃ q, u.ownBlock = some q ∧ w.heap.size ≤ q)) (fun i _ => m - (intOf i).toNat)
      case atStart => exact ⟨0, v, by omega, rfl, by simpa using HD0.out, Turned.ofBelow _ _ H0.out, .inl rfl⟩
      case round =>
        obtain ⟨j, u, hj, rfl, hd, ht, ho⟩ := hrel
        by_cases hjm : j < m
        · obtain ⟨b, off, pa, n, c', rfl, hno, hcell0, hn, hnn, hib, haw⟩ := HC.out j hjm
          have hbl : b < w.heap.size := World.block_lt_of_cell? w _ hcell0
          have hcell : wr.cell? ⟨b, off + j, none⟩ = some (.slice pa n c') := by
            rw [World.cell?_of_block (w := w) (ht.block b hbl (fun e => hno (.inl e)) (fun e => hno (.inr e)))]
            exact hcell0
          have hib2 : IsB wr pa n (xss.getD j []) := by
            obtain ⟨q1, q2, q3⟩ := hib
            refine ⟨q1, q2, ?_⟩
            rcases q3 with q3 | ⟨b2, off2, rfl, q4⟩
            · exact .inl q3
            · rcases haw with hz | haw
              · exact .inl hz
              · refine .inr ⟨b2, off2, rfl, fun i hi' => ?_⟩
                rw [World.cell?_of_block (w := w) (ht.block b2 (World.block_lt_of_cell? w _ (q4 i hi')) (fun e => haw _ rfl (.inl e)) (fun e => haw _ rfl (.inr e)))]
                exact q4 i hi'
          have hft := flat_take xss j (by rw [HL.out]; exact hjm)
          have hfle := flat_le xss (j + 1)
          have hap := hd.apart B (e := 5) (by decide) hd.own
          obtain ⟨c0, _, _, f0, _⟩ := hd.cells
          have hsz := ht.size
          have hlen : (xs ++ (xss.take j).flatten).length + n ≤ 1048576 := by
            have h1 := congrArg List.length hft
            rw [List.length_append, hib.1] at h1
            have := HF.out
            simp only [List.length_append]
            omega
          have HFT := Lib.hid hft
          have HFLE := Lib.hid hfle
          have HD := Lib.hid hd
          have HT := Lib.hid ht
          have HO := Lib.hid ho
          have HAP := Lib.hid hap
          have NW := Lib.hid hib2.news
          have LN := Lib.hid (show ((xss.getD j []).map (Value.int .u8)).length = n * 1 by simpa using hib2.1)
          have HIB := Lib.hid hib2
          have HNN := Lib.hid hnn
          clear hft hfle hd ht ho hap hib hib2 hnn haw hno hcell0
          generalize hys : xs ++ (xss.take j).flatten = ys at *
          have HYS := Lib.hid hys
          clear hys
          unfold maxLen at hn
          go_wp2_with (at_builtin; refine wpList_append_at_any _ rfl _ _ 68 rfl B 5 i0 (.int .u8 0) 1 1 Tryz.underlying68 hi hz0 hz1 hz2 rfl (by decide) _ ys.length _ rfl HD.out.own pa n c' ((xss.getD j []).map (Value.int .u8)) rfl LN.out HNN.out NW.out (oneCell_map _) (by unfold maxLen; omega) (by omega) (by omega) ?_; intro v2 w2 hown2 hgrow2 hat2; obtain ⟨a2, k2, rfl, _, _⟩ := owned_any hown2; have c2 : w2.cell? ⟨g, 0, none⟩ = some u := hgrow2.cell c0 (fun e => HAP.out e.symm); have f2 : w2.frozen? ⟨g, 0, none⟩ = false := (World.frozen?_of_block (hgrow2.block g (by omega) (fun e => HAP.out e.symm))).trans f0; have HO2 := Lib.hid hown2; have HG2 := Lib.hid hgrow2; have HA2 := Lib.hid hat2; clear hown2 hgrow2 hat2)
          have hwhole : Whole w2 g 73 #[u, .int .i64 d, .int .i64 r] := HD.out.blk.kept (HG2.out.block g (by omega) (fun e => HAP.out e.symm))
          obtain ⟨v2, hv2⟩ : ∃ v2, v2 = Value.slice a2 (ys.length + n) k2 := ⟨_, rfl⟩
          rw [← hv2] at HO2 HA2
          have HV2 := Lib.hid hv2
          clear hv2
          have hap2 := whole_apart hwhole (by decide) HO2.out
          have hnew : DAt (w2.setCell ⟨g, 0, none⟩ v2) B g v2 (ys ++ xss.getD j []) d r := by
            have hlp := HIB.out.1
            refine ⟨by simpa using hwhole.store 0 v2, HD.out.ge, ?_, ?_, ?_, ?_, HD.out.hm⟩
            · have := owns_far HO2.out g 0 hap2 v2
              rw [← List.map_append] at this
              rw [List.length_append, hlp]
              exact this
            · intro x hx
              rcases List.mem_append.1 hx with hx | hx
              · exact HD.out.byte x hx
              · exact HIB.out.2.1 x hx
            · have := HD.out.hd
              simp only [List.length_append]
              omega
            · have h1 := congrArg List.length HYS.out
              have h2 := congrArg List.length HFT.out
              have := HF.out
              have := HFLE.out
              simp only [List.length_append] at h1 h2 ⊢
              omega
          have htn : Turned w (w2.setCell ⟨g, 0, none⟩ v2) g v.ownBlock := by
            refine (HT.out.then_ (o2 := u.ownBlock) ⟨HG2.out.os, HG2.out.tape, HG2.out.output, HG2.out.size, fun k hk _ hne => HG2.out.block k hk hne⟩ ?_).setCell 0 v2
            rcases HO.out with h | ⟨q, h, h'⟩
            · exact .inl h
            · exact .inr (.inr ⟨q, h, h'⟩)
          have hon : v2.ownBlock = v.ownBlock ∨ ∃ q, v2.ownBlock = some q ∧ w.heap.size ≤ q := by
            rcases HA2.out with h | h
            · rcases HO.out with h' | ⟨q, h', h''⟩
              · exact .inl (h.trans h')
              · exact .inr ⟨q, h.trans h', h''⟩
            · exact .inr ⟨_, h, HT.out.size⟩
          have hyn : ys ++ xss.getD j [] = xs ++ (xss.take (j + 1)).flatten := by rw [HFT.out, ← HYS.out, List.append_assoc]
          rw [hyn] at hnew
          have HNEW := Lib.hid hnew
          have HTN := Lib.hid htn
          have HON := Lib.hid hon
          clear hwhole hap2 hnew htn hon hyn
          rw [HV2.out] at HNEW HTN HON
          go_wp2
          go_roundw
          case rel => exact ⟨j + 1, _, by omega, by go_num, HNEW.out, HTN.out, HON.out⟩
          case measure => simp [intOf]; omega
        · have hjm' : j = m := by omega
          rw [hjm', List.take_of_length_le (by rw [HL.out]; omega)] at hd
          have HD := Lib.hid hd
          have HT := Lib.hid ht
          have HO := Lib.hid ho
          clear hd ht ho hjm'
          go_wp2
          go_ret
          exact ⟨rfl, u, HD.out, HT.out, HO.out⟩
end Go.Proofs.YteodldmbnghfcaaGreat.Dk
