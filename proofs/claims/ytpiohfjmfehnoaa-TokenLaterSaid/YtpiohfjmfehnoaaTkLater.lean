/- TokenLater: the later of some tokens is one of them, and none is later. -/
import Derived.Test.YtpiohfjmfehnoaaTk10
import Derived.Test.YtpiohfjmfehnoaaNLie
import Derived.Deep.RegionLaw
import Derived.Deep.Cut
import Derived.Deep.DeepCutAuto
import Derived.Deep.CutBlock
namespace Go.Proofs.Ytpiohfjmfehnoaa
open Go.RowKit Go.ChangeShapes Go.WideShapes

theorem toks_opened {H : Type} {enc : TypeId × Value → H} {W : World} {fuel : Nat} {a : Option Addr} {len cap : Nat} {x : DataW H × List MemPlace}
    (h : DataW.trod enc Try.prog W 0 (fun _ => true) true fuel 37 (Value.slice a len cap).cells.toList = some x) (hw : ∀ k ∈ x.1.weights Try.prog 37, k ≤ 140737488351232) :
    (∃ ts, ToksAt W a len ts) ∧ len ≤ 8796093022000 := by
  have h' : DataW.trod enc Try.prog W 0 (fun _ => true) true fuel 37 [Value.slice a len cap] = some x := by simpa [Value.cells] using h
  rcases Go.Deep.open_slice Try.underlying37 h' with ⟨hcs, hx⟩ | ⟨ad, l, c, m, n, Dd, Pl, hcs, _, hl, hm, hmm, hx, hall⟩
  · simp at hcs
    obtain ⟨rfl, rfl, rfl⟩ := hcs
    exact ⟨⟨[], rfl, .inl rfl⟩, by omega⟩
  · simp at hcs
    obtain ⟨rfl, rfl, rfl⟩ := hcs
    have hcell : Try.prog.cellsOf 23 = 2 := by kernel_rfl
    have hbytes : Try.prog.bytesOf 23 = 16 := by kernel_rfl
    rw [hcell] at hall
    have hlen : len * 16 ≤ 140737488351232 := by
      have := hw ((((List.range len).map Dd).length + _) * 16) (by
        rw [hx]
        simp only [DataW.weights, Try.underlying37, List.mem_cons]
        left
        rw [hbytes])
      simp at this
      omega
    refine ⟨?_, by omega⟩
    rcases Nat.eq_zero_or_pos len with h0 | h0
    · exact ⟨[], by simp [h0], .inl h0⟩
    · simp only [if_true] at hmm
      obtain ⟨b, off, spot⟩ := ad
      have hs : spot = none := by
        obtain ⟨cs', hc, _⟩ := hall 0 (by omega)
        obtain ⟨_, hcl, hat⟩ := World.cells?_some hc
        have h1 := hat 0 (by omega)
        rw [List.getElem?_eq_getElem (by omega)] at h1
        simpa [Addr.add] using World.cell?_spot h1
      subst hs
      have key : ∀ i, i < len → ∃ t : Tk, W.cell? ⟨b, off + i * 2, none⟩ = some (.int .i64 t.1) ∧ W.cell? ⟨b, off + i * 2 + 1, none⟩ = some (.int .i64 t.2) := by
        intro i hi
        obtain ⟨cs', hc, ht⟩ := hall i (by omega)
        obtain ⟨_, hcl, hat⟩ := World.cells?_some hc
        match cs', hcl with
        | [v0, v1], _ =>
          have e0 := hat 0 (by omega)
          have e1 := hat 1 (by omega)
          simp only [add_plain, Nat.add_zero, List.getElem?_cons_zero, List.getElem?_cons_succ] at e0 e1
          obtain ⟨y0, y1, n', hd, _, t0, t1⟩ := trod_struct2 Try.underlying23 ht
          have k1 : Try.prog.cellsOf 3 = 1 := by kernel_rfl
          have k2 : Try.prog.cellsOf 2 = 1 := by kernel_rfl
          simp [k1, k2] at t0 t1
          obtain ⟨x, q0, rfl, w0⟩ := DataW.trod_int Try.underlying3 t0
          obtain ⟨y, q1, rfl, w1⟩ := DataW.trod_int Try.underlying2 t1
          simp at q0 q1
          subst q0 q1
          exact ⟨(x, y), e0, by rw [Nat.add_assoc]; exact e1⟩
      have hblt : b < W.heap.size := by
        obtain ⟨t, c0, _⟩ := key 0 h0
        exact World.block_lt_of_cell? W ⟨b, off + 0 * 2, none⟩ c0
      refine ⟨(List.range len).map fun i => if h : i < len then (key i h).choose else (0, 0), by simp, .inr ⟨b, off, rfl, hblt, ?_⟩⟩
      intro i t ht
      have hi : i < len := by
        have := (List.getElem?_eq_some_iff.1 ht).1
        simpa using this
      rw [List.getElem?_map, List.getElem?_range hi] at ht
      simp only [Option.map_some, Option.some.injEq, dif_pos hi] at ht
      subst ht
      exact (key i hi).choose_spec
theorem owned_block {w : World} {base n s k : Nat} {v : Value} {e : TypeId} {l : List Value} (h : w.ownsRow base e s v n l) (hk : v.ownBlock = some k) : base ≤ k ∧ ∃ cur, Whole w k e cur := by
  rcases h.2 with ⟨rfl, _⟩ | ⟨g, cap, cur, rfl, hb, hh, _⟩
  · cases hk
  · have : g = k := by simpa [Value.ownBlock] using hk
    subst this
    exact ⟨hb, cur, hh⟩
theorem owned_anyE {w : World} {base n s : Nat} {v : Value} {e : TypeId} {l : List Value} (h : w.ownsRow base e s v n l) : ∃ a c, v = .slice a n c ∧ n ≤ c ∧ c ≤ maxLen := by
  rcases h.2 with ⟨rfl, rfl⟩ | ⟨g, cap, cur, rfl, hb, hh, h1, h2, _⟩
  · exact ⟨none, 0, rfl, Nat.le_refl _, by simp [maxLen]⟩
  · exact ⟨_, _, rfl, h1, h2⟩
theorem step_append_any {P : Program} (w : World) {ops : Array Oper} {o : Oper} {a : Act} {K : Act → World → Prop} {Q : Exit → Act → World → Prop} {E : Prop} (hgd : o.guard = none) (s x : Operand) (t : TypeId)
    (ho : o.op = .call { callee := .builtin .append, args := #[s, x], argTypes := #[t, t] })
    (base : Nat) (e : TypeId) (i : TypeInfo) (z : Value) (size bytes : Nat) (ht : P.underlying t = some (.slice e)) (hi : P.info? e = some i) (hz : i.zero = some z)
    (hsize : i.size = size) (hby : i.bytes = bytes) (hzs : z.cells.size = size) (hsz : 0 < size)
    (v : Value) (n : Nat) (xs : List Value) (hs : a.eval s = v) (hown : w.ownsRow base e size v n xs)
    (ad : Addr) (m c : Nat) (news : List Value) (hx : a.eval x = .slice (some ad) m c) (hl : news.length = m * size)
    (hnews : ∀ j u, news[j]? = some u → w.cell? (ad.add j) = some u) (h1 : ∀ u ∈ news, u.oneCell' = true)
    (h63 : n + m ≤ maxLen) (hbytes : (n + m) * bytes ≤ 140737488355328) (hbase : base ≤ w.heap.size)
    (h : ∀ v' w', w'.ownsRow base e size v' (n + m) (xs ++ news) → w.grownBy w' v.ownBlock → (v'.ownBlock = v.ownBlock ∨ v'.ownBlock = some w.heap.size) → K (a.put o.dst v') w') :
    if Region.wanted o (yielded ops a.tmps) = true then Oper.wp P o a w K Q else E := by
  have hw : Region.wanted o (yielded ops a.tmps) = true := by simp [Region.wanted, hgd]
  rw [if_pos hw]
  obtain ⟨v', w', hr, h2, h3, _, h4⟩ := run_append_own_at (P := P) w base t o.type e i z size bytes ht hi hz hsize hby hzs hsz v n xs hown ad m c news hl hnews h1 h63 hbytes hbase
  unfold Oper.wp execOp
  simp only [ho, resolve, invoke, builtin, Sem.run_bind, Sem.run_pure, Result.andThen_ok, List.map_toArray, List.map_cons, List.map_nil, hs, hx, hr]
  exact h v' w' h2 h3 h4
/-- This operation alone. -/
theorem step_only {P : Program} {w : World} {ops : Array Oper} {o : Oper} {a : Act} {K : Act → World → Prop} {Q : Exit → Act → World → Prop} {E : Prop} (n : Nat) (_ : o.dst = some n) (h : if Region.wanted o (yielded ops a.tmps) = true then Oper.wp P o a w K Q else E) : if Region.wanted o (yielded ops a.tmps) = true then Oper.wp P o a w K Q else E := h
theorem info_parts {P : Program} {t : TypeId} {z : Value} {n m : Nat} (h : (P.info? t).map (fun i => (i.zero, i.size, i.bytes)) = some (some z, n, m)) : ∃ i, P.info? t = some i ∧ i.zero = some z ∧ i.size = n ∧ i.bytes = m := by
  cases hi : P.info? t with
  | none => rw [hi] at h; cases h
  | some i =>
    rw [hi] at h
    simp at h
    exact ⟨i, rfl, h.1, h.2.1, h.2.2⟩
theorem two_new (w : World) (x y : Value) (t : TypeId) : ∀ j u, [x, y][j]? = some u → (w.alloc (.cells #[x, y] t)).cell? ((⟨w.heap.size, 0, none⟩ : Addr).add j) = some u := by
  intro j u hj
  rw [add_plain, Nat.zero_add, new_cell]
  simpa using hj
theorem owns_keptN {w w' : World} {base n size : Nat} {e : TypeId} {v : Value} {l : List Value} (h : w.ownsRow base e size v n l) (hb : ∀ k, v.ownBlock = some k → w'.heap[k]? = w.heap[k]?) : w'.ownsRow base e size v n l := by
  refine ⟨h.1, ?_⟩
  rcases h.2 with h2 | ⟨g, cap, cur, rfl, h3, h4, r⟩
  · exact .inl h2
  · exact .inr ⟨g, cap, cur, rfl, h3, (hb g rfl).trans h4, r⟩

theorem wpList_append_k {P : Program} (w : World) {ops : Array Oper} {rest : List Oper} {o : Oper} {a : Act} {Q : Exit → Act → World → Prop} (hgd : o.guard = none) (s x : Operand) (t : TypeId)
    (ho : o.op = .call { callee := .builtin .append, args := #[s, x], argTypes := #[t, t] })
    (base : Nat) (e : TypeId) (i : TypeInfo) (z : Value) (size bytes : Nat) (ht : P.underlying t = some (.slice e)) (hi : P.info? e = some i) (hz : i.zero = some z)
    (hsize : i.size = size) (hby : i.bytes = bytes) (hzs : z.cells.size = size) (hsz : 0 < size)
    (v : Value) (n : Nat) (xs : List Value) (hs : a.eval s = v) (hown : w.ownsRow base e size v n xs)
    (ad : Addr) (m c : Nat) (news : List Value) (hx : a.eval x = .slice (some ad) m c) (hl : news.length = m * size)
    (hnews : ∀ j u, news[j]? = some u → w.cell? (ad.add j) = some u) (h1 : ∀ u ∈ news, u.oneCell' = true)
    (h63 : n + m ≤ maxLen) (hbytes : (n + m) * bytes ≤ 140737488355328) (hbase : base ≤ w.heap.size)
    (h : ∀ v' w', w'.ownsRow base e size v' (n + m) (xs ++ news) → w.grownBy w' v.ownBlock → (v'.ownBlock = v.ownBlock ∨ v'.ownBlock = some w.heap.size) → wpList P ops Q rest (a.put o.dst v') w') : wpList P ops Q (o :: rest) a w := by
  refine wpList_plain hgd fun K hK => ?_
  obtain ⟨v', w', hr, h2, h3, _, h4⟩ := run_append_own_at (P := P) w base t o.type e i z size bytes ht hi hz hsize hby hzs hsz v n xs hown ad m c news hl hnews h1 h63 hbytes hbase
  unfold Oper.wp execOp
  simp only [ho, resolve, invoke, builtin, Sem.run_bind, Sem.run_pure, Result.andThen_ok, List.map_toArray, List.map_cons, List.map_nil, hs, hx, hr]
  exact hK _ _ (h v' w' h2 h3 h4)
theorem infoTk : (Try.prog.info? 23).map (fun i => (i.zero, i.size, i.bytes)) = some (some (.agg #[.int .i64 0, .int .i64 0]), 2, 16) := by kernel_rfl

def tkc (t : Tk) : List Value := [.int .i64 t.1, .int .i64 t.2]
theorem tkc_len (t : Tk) : (tkc t).length = 2 := rfl
/-- A row of the call's own is a row of tokens. -/
theorem toks_own {W : World} {B : Nat} {a : Option Addr} {n c : Nat} {l : List Tk} (h : W.ownsRow B 23 2 (.slice a n c) n (l.flatMap tkc)) (hl : l.length = n) : ToksAt W a n l := by
  refine ⟨hl, ?_⟩
  obtain ⟨a', c', he, hL⟩ := Lies.owned h
  injection he with e1 e2 e3
  subst e1
  rcases Nat.eq_zero_or_pos n with h0 | h0
  · exact .inl h0
  · obtain ⟨b, off, rfl, hb, _⟩ := hL.addr h0
    refine .inr ⟨b, off, rfl, hb, fun i t ht => ?_⟩
    have k0 := fm_at tkc_len ht (j := 0) (by omega)
    have k1 := fm_at tkc_len ht (j := 1) (by omega)
    exact ⟨hL.cell k0, hL.cell k1⟩

set_option maxRecDepth 100000 in
set_option maxHeartbeats 4000000 in
theorem laterlaw_walk (f1 f2 : Int) (a : Option Addr) (n c : Nat) (w : World) (h : ∃ ts, ToksAt w a n ts) (hn : n ≤ 8796093022000) :
    Calls Try.prog 6 #[TokV f1 f2, .slice a n c] w fun e w' => e = .returned (.bool true) ∧ Below w.heap.size w w' := by
  obtain ⟨ts, ht⟩ := h
  have HA := Lib.hid (fun w => awake_any w)
  have HL := Lib.hid (fun w h => later_any (f1, f2) a n c ts w h (by omega))
  have HT := Lib.hid ht
  have HTL := Lib.hid ht.1
  have HB0 := Lib.hid (below_alloc w (.cells (TokC f1 f2) 23))
  have HX0 := Lib.hid (box_new w f1 f2 23 (0, 0))
  have hbest := later_best (f1, f2) ts
  have hsame : ∀ m : List Tk, (∀ t, (t = (f1, f2) ∨ t ∈ ts) ↔ (t = (f1, f2) ∨ t ∈ m)) → later (f1, f2) m = later (f1, f2) ts := fun m hm => (later_same _ _ _ _ hm).symm
  generalize hbb : later (f1, f2) ts = bt at *
  obtain ⟨b1, b2⟩ := bt
  have HBS := Lib.hid hbest
  have HSM := Lib.hid hsame
  clear ht hbest hsame hbb
  go_enter Try.func6, Try.ntmps6
  go_wp2_with fail
  refine (HA.out _).mono ?_
  rintro e w1 ⟨rfl, hb⟩
  have HX1 := Lib.hid (box_below HX0.out hb)
  have HB1 := Lib.hid (HB0.out.trans (hb.mono HB0.out.size))
  have HT1 := Lib.hid (HT.out.below HB1.out)
  obtain ⟨c0, c1⟩ := HX1.out
  clear hb HX0 HB0 HT
  go_wp2_with fail
  refine (HL.out _ HT1.out).mono ?_
  rintro e w2 ⟨rfl, hb⟩
  have HX2 := Lib.hid (box_below (box_below HX1.out hb) (below_alloc w2 (.cells (TokC b1 b2) 23)))
  have HY2 := Lib.hid (box_new w2 b1 b2 23 (0, 0))
  have HB2 := Lib.hid ((HB1.out.trans (hb.mono HB1.out.size)).alloc (Nat.le_trans HB1.out.size hb.size) (.cells (TokC b1 b2) 23))
  have HT2 := Lib.hid ((HT1.out.below hb).below (below_alloc w2 (.cells (TokC b1 b2) 23)))
  have hg : w.heap.size < w2.heap.size := World.block_lt_of_cell? w2 ⟨w.heap.size, 0, none⟩ (box_below HX1.out hb).1
  clear hb HX1 HB1 HT1 c0 c1
  obtain ⟨c0, c1⟩ := HX2.out
  obtain ⟨d0, d1⟩ := HY2.out
  have hx2 := HX2.out
  have hy2 := HY2.out
  have hb2 := HB2.out
  have ht2 := HT2.out
  clear HX2 HY2 HB2 HT2
  generalize hW : w2.alloc (.cells (TokC b1 b2) 23) = W at *
  have HX := Lib.hid hx2
  have HY := Lib.hid hy2
  have HB := Lib.hid hb2
  have HTW := Lib.hid ht2
  have hgW : w.heap.size < W.heap.size := World.block_lt_of_cell? W ⟨w.heap.size, 0, none⟩ hx2.1
  have hgW2 : w2.heap.size < W.heap.size := World.block_lt_of_cell? W ⟨w2.heap.size, 0, none⟩ hy2.1
  clear hx2 hy2 hb2 ht2
  obtain ⟨fd, hfd⟩ : ∃ fd : Bool, fd = decide ((b1, b2) = (f1, f2)) := ⟨_, rfl⟩
  have hcase : (b1 = f1 ∧ b2 = f2 ∧ fd = true) ∨ (b1 ≠ f1 ∧ fd = false) ∨ (b1 = f1 ∧ b2 ≠ f2 ∧ fd = false) := by
    by_cases h1 : b1 = f1
    · by_cases h2 : b2 = f2
      · exact .inl ⟨h1, h2, by rw [hfd, h1, h2]; simp⟩
      · exact .inr (.inr ⟨h1, h2, by rw [hfd]; simp [h2]⟩)
    · exact .inr (.inl ⟨h1, by rw [hfd]; simp [h1]⟩)
  have HFD := Lib.hid hfd
  clear hfd
  go_upto_region 4 with fail
  go_cut [6] (fun v6 wx => v6 = .bool fd ∧ wx = W)
  case first J KK hJR hMK =>
    obtain ⟨c0, c1⟩ := HX.out
    obtain ⟨d0, d1⟩ := HY.out
    rcases hcase with ⟨rfl, rfl, rfl⟩ | ⟨h1, rfl⟩ | ⟨rfl, h2, rfl⟩
    all_goals go_wp2_with fail
    all_goals (go_meet; exact ⟨rfl, rfl⟩)
  case rest =>
    obtain ⟨rfl, rfl⟩ := hcut
    clear hcase c0 c1 d0 d1 hW
    generalize w2.heap.size = g5 at *
    have HLN := Lib.hid (show ts.length = n from HTL.out)
    go_wp2_with fail
    go_loopw [6, 21] (fun fv iv wr => ∃ i : Nat, i ≤ n ∧ iv = .int .i64 i ∧ fv = .bool (fd || decide ((b1, b2) ∈ ts.take i)) ∧ Below wc.heap.size wc wr) (fun _ iv _ => n - (intOf iv).toNat)
    case atStart => exact ⟨0, by omega, rfl, by simp, Below.refl _ _⟩
    case round =>
      obtain ⟨i, hi, rfl, rfl, hbr⟩ := hrel
      by_cases hil : i < n
      · have hTr := HTW.out.below hbr
        obtain ⟨g, off, rfl, hbB, hcc⟩ := hTr.2.resolve_left (by omega)
        obtain ⟨⟨t1, t2⟩, hti⟩ : ∃ t, ts[i]? = some t := ⟨_, List.getElem?_eq_getElem (show i < ts.length by rw [HLN.out]; exact hil)⟩
        obtain ⟨k0, k1⟩ := hcc i _ hti
        simp only at k0 k1
        have hmem := HBS.out.2.2 (t1, t2) (List.mem_of_getElem? hti)
        have hxr := box_below (box_below HX.out hbr) (below_alloc wr (.cells (TokC t1 t2) 23))
        have hyr := box_below (box_below HY.out hbr) (below_alloc wr (.cells (TokC t1 t2) 23))
        obtain ⟨d0, d1⟩ := hyr
        have hbr2 := hbr.alloc hbr.size (.cells (TokC t1 t2) 23)
        have HBR := Lib.hid hbr2
        have htk : ts.take (i + 1) = ts.take i ++ [(t1, t2)] := by rw [List.take_add_one, hti]; rfl
        have hfd2 : ∀ f2, (f2 = ((fd || decide ((b1, b2) ∈ ts.take i)) || decide ((b1, b2) = (t1, t2)))) → f2 = (fd || decide ((b1, b2) ∈ ts.take (i + 1))) := by
          intro f2 h
          rw [h, htk, Bool.or_assoc]
          congr 1
          rw [← Bool.decide_or]
          exact decide_eq_decide.2 (by rw [List.mem_append, List.mem_singleton])
        have HF2 := Lib.hid hfd2
        have hrev : t2 < b2 ∨ (t2 = b2 ∧ b1 ≤ t1) := by unfold better at hmem; simp only at hmem; omega
        have hszr := hbr.size
        clear hcc hmem hbr hbr2 hti htk hfd2 hTr hxr
        generalize (fd || decide ((b1, b2) ∈ ts.take i)) = ff at *
        have hc3 : (ff = true) ∨ (ff = false ∧ t1 = b1 ∧ t2 = b2) ∨ (ff = false ∧ t1 ≠ b1) ∨ (ff = false ∧ t1 = b1 ∧ t2 ≠ b2) := by
          cases ff with
          | true => exact .inl rfl
          | false =>
            by_cases h1 : t1 = b1
            · by_cases h2 : t2 = b2
              · exact .inr (.inl ⟨rfl, h1, h2⟩)
              · exact .inr (.inr (.inr ⟨rfl, h1, h2⟩))
            · exact .inr (.inr (.inl ⟨rfl, h1⟩))
        rcases hrev with hr | ⟨rfl, hr2⟩
        all_goals rcases hc3 with rfl | ⟨rfl, rfl, h2⟩ | ⟨rfl, h1⟩ | ⟨rfl, rfl, h2⟩
        all_goals try (exfalso; omega)
        all_goals go_wp2
        all_goals go_roundw
        all_goals first
          | exact ⟨i + 1, by omega, by go_num, congrArg Value.bool (HF2.out _ (by first | (simp; done) | (simp [Ne.symm h1]; done) | (simp [Ne.symm h2]; done))), HBR.out⟩
          | (simp [intOf]; omega)
      · have hin : i = n := by omega
        subst hin
        have hfi : (fd || decide ((b1, b2) ∈ ts.take i)) = true := by
          rw [List.take_of_length_le (by rw [HLN.out]; exact Nat.le_refl _), HFD.out, ← Bool.decide_or]
          exact decide_eq_true HBS.out.1
        rw [hfi]
        have hnb := HBS.out.2.1
        have hrev : f2 < b2 ∨ (f2 = b2 ∧ b1 ≤ f1) := by unfold better at hnb; simp only at hnb; omega
        have HBR := Lib.hid hbr
        have HTR := Lib.hid (HTW.out.below hbr)
        have HXR := Lib.hid (box_below HX.out hbr)
        have HYR := Lib.hid (box_below HY.out hbr)
        have hszr := hbr.size
        obtain ⟨c0, c1⟩ := HXR.out
        obtain ⟨d0, d1⟩ := HYR.out
        clear hbr hfi hnb HX HY HTW HFD HL HA
        go_upto_region 12 with fail
        go_cut [73] (fun v73 wx => v73 = .bool false ∧ wx = wr)
        case first J KK hJR hMK =>
          rcases hrev with h | ⟨rfl, h⟩
          all_goals go_wp2_with fail
          all_goals (go_meet; exact ⟨congrArg Value.bool (by first | rfl | (simp; omega)), rfl⟩)
        case rest =>
          obtain ⟨rfl, rfl⟩ := hcut
          have HBW := Lib.hid (HB.out.trans (HBR.out.mono (Nat.le_of_lt (Nat.lt_of_le_of_lt (Nat.le_refl _) hgW))))
          have hgw : w.heap.size < wc.heap.size := Nat.lt_of_lt_of_le hgW hszr
          have hszq := hszr
          clear hrev c0 c1 d0 d1 HBR hszr HBS HB
          have HON := Lib.hid (World.ownsRow_nil wc wc.heap.size 23 2)
          obtain ⟨i0, hi0, hz0, hz1, hz2⟩ := info_parts infoTk
          go_wp2_with fail
          go_loopw [9, 10] (fun v9 v10 wr => ∃ k : Nat, k ≤ i ∧ v10 = .int .i64 ((k : Int) - 1) ∧ wr.ownsRow wc.heap.size 23 2 v9 (i - k) ((ts.drop k).reverse.flatMap tkc) ∧ Below wc.heap.size wc wr) (fun _ iv _ => (intOf iv + 1).toNat)
          case atStart => exact ⟨i, Nat.le_refl _, rfl, by rw [List.drop_of_length_le (by rw [HLN.out]; exact Nat.le_refl _), Nat.sub_self]; exact HON.out, Below.refl _ _⟩
          case round =>
            obtain ⟨k, hk, rfl, hown, hbr⟩ := hrel
            have hszr := hbr.size
            have HBR := Lib.hid hbr
            rcases Nat.eq_zero_or_pos k with rfl | hk0
            · rw [List.drop_zero, Nat.sub_zero] at hown
              obtain ⟨ra, rc, rfl, _, _⟩ := owned_anyE hown
              have HOW := Lib.hid hown
              have HXR2 := Lib.hid (box_below HXR.out hbr)
              have HYR2 := Lib.hid (box_below HYR.out hbr)
              have HBX := Lib.hid (fun (V : World) (hV : Below wc.heap.size wr V) => (show V.cell? ⟨w.heap.size, 0, none⟩ = some (.int .i64 f1) ∧ V.cell? ⟨w.heap.size, 1, none⟩ = some (.int .i64 f2) ∧ V.cell? ⟨g5, 0, none⟩ = some (.int .i64 b1) ∧ V.cell? ⟨g5, 1, none⟩ = some (.int .i64 b2) from
                ⟨(hV.cell (p := ⟨w.heap.size, 0, none⟩) hgw).trans HXR2.out.1, (hV.cell (p := ⟨w.heap.size, 1, none⟩) hgw).trans HXR2.out.2, (hV.cell (p := ⟨g5, 0, none⟩) (Nat.lt_of_lt_of_le hgW2 hszq)).trans HYR2.out.1, (hV.cell (p := ⟨g5, 1, none⟩) (Nat.lt_of_lt_of_le hgW2 hszq)).trans HYR2.out.2⟩))
              have HR3 := Lib.hid (show wr.drew.ownsRow wc.heap.size 23 2 (.slice ra i rc) i (ts.reverse.flatMap tkc) from owns_keptN HOW.out (fun _ _ => rfl))
              have HD1 := Lib.hid (show Below wc.heap.size wr wr.drew from (below_drewN wr 1).mono hszr)
              have HD2 := Lib.hid (show Below wc.heap.size wr (wr.drew.alloc (.cells (TokC f1 f2) 23)) from HD1.out.alloc hszr _)
              have hln : (ts.reverse ++ [(f1, f2)]).length = i + 1 := by rw [List.length_append, List.length_reverse, HLN.out]; rfl
              have hls : later (f1, f2) (ts.reverse ++ [(f1, f2)]) = (b1, b2) := HSM.out _ (fun t => by
                rw [List.mem_append, List.mem_reverse, List.mem_singleton]
                exact ⟨fun h => h.elim .inl (fun h => .inr (.inl h)), fun h => h.elim .inl (fun h => h.elim .inr .inl)⟩)
              have hfm : (ts.reverse ++ [(f1, f2)]).flatMap tkc = ts.reverse.flatMap tkc ++ [.int .i64 f1, .int .i64 f2] := by rw [List.flatMap_append]; rfl
              have HLNN := Lib.hid hln
              have HLS := Lib.hid hls
              have HFM := Lib.hid hfm
              obtain ⟨x0, x1, y0, y1⟩ := HBX.out wr.drew HD1.out
              have hX2 := HBX.out _ HD2.out
              have HHX2 := Lib.hid hX2
              clear hown hbr HXR HYR hln hls hfm hX2
              go_wp2_with fail
              go_region_held3 (fun V : World => V.cell? ⟨w.heap.size, 0, none⟩ = some (.int .i64 f1) ∧ V.cell? ⟨w.heap.size, 1, none⟩ = some (.int .i64 f2) ∧ V.cell? ⟨g5, 0, none⟩ = some (.int .i64 b1) ∧ V.cell? ⟨g5, 1, none⟩ = some (.int .i64 b2)) (first | assumption | with_reducible exact HBX.out wr.drew HD1.out | exact HHX2.out) (first
                | (refine step_only 92 rfl ?_; refine step_append_any _ rfl (.tmp 89) (.tmp 91) 37 rfl wc.heap.size 23 i0 (.agg #[.int .i64 0, .int .i64 0]) 2 16 Try.underlying37 hi0 hz0 hz1 hz2 rfl (by decide) (.slice ra i rc) i (ts.reverse.flatMap tkc) rfl (HR3.out.alloc _) ⟨wr.heap.size, 0, none⟩ 1 1 [.int .i64 f1, .int .i64 f2] rfl rfl (two_new wr.drew _ _ 23) (by simp [Value.oneCell']) (by unfold maxLen; omega) (by omega) (by simp; omega) ?_; intro v3 w3 hown3 hgr3 hat3
                   obtain ⟨a5, c5, rfl, _, _⟩ := owned_anyE hown3
                   have hb3 := HD2.out.grown hgr3 (by simp; omega) (fun q hq => (owned_block HR3.out hq).1)
                   have HB3 := Lib.hid hb3
                   have hk3 := HBX.out w3 hb3
                   have HL3 := Lib.hid (later_any (f1, f2) a5 (i + 1) c5 _ w3 (toks_own (by rw [HFM.out]; exact hown3) HLNN.out) (by omega))
                   clear hown3 hgr3 hat3 hb3)
                | (go_at_call 13; (with_reducible refine HL3.out.mono ?_); rintro e w4 ⟨rfl, hb4⟩; rw [HLS.out]
                   have hb5 := HB3.out.trans (hb4.mono (Nat.le_trans hszr HB3.out.size))
                   have HB5 := Lib.hid hb5
                   have hk4 := HBX.out w4 hb5
                   clear hb4 hb5))
              all_goals
                go_wp2
                go_ret
                exact ⟨rfl, HBW.out.trans ((HBR.out.trans HB5.out).mono (Nat.le_of_lt hgw))⟩
            · obtain ⟨ua, uc, rfl, _, _⟩ := owned_anyE hown
              have hTr := HTR.out.below hbr
              obtain ⟨g, off, rfl, hbB, hcc⟩ := hTr.2.resolve_left (by omega)
              obtain ⟨⟨t1, t2⟩, hti⟩ : ∃ t, ts[k - 1]? = some t := ⟨_, List.getElem?_eq_getElem (show k - 1 < ts.length by rw [HLN.out]; omega)⟩
              obtain ⟨k0, k1⟩ := hcc (k - 1) _ hti
              simp only at k0 k1
              have hdr : (ts.drop (k - 1)).reverse.flatMap tkc = (ts.drop k).reverse.flatMap tkc ++ [.int .i64 t1, .int .i64 t2] := by
                rw [drop_get hti, show k - 1 + 1 = k by omega, List.reverse_cons, List.flatMap_append]
                rfl
              obtain ⟨k2, hk2⟩ : ∃ k2, k = k2 + 1 := ⟨k - 1, by omega⟩
              subst hk2
              simp only [Nat.add_sub_cancel] at k0 k1 hdr
              have hcast : ((k2 + 1 : Nat) : Int) - 1 = (k2 : Int) := by omega
              rw [hcast]
              have HDR := Lib.hid hdr
              have HOW := Lib.hid hown
              have hklt : (k2 : Int) < (i : Int) := by omega
              clear hcc hti hTr hown hbr hdr hcast
              go_wp2_with (first
                | (at_builtin; (refine wpList_append_k _ rfl (.tmp 81) (.tmp 86) 37 rfl wc.heap.size 23 i0 (.agg #[.int .i64 0, .int .i64 0]) 2 16 Try.underlying37 hi0 hz0 hz1 hz2 rfl (by decide) (.slice ua (i - (k2 + 1)) uc) (i - (k2 + 1)) _ rfl (HOW.out.alloc _) ⟨wr.heap.size, 0, none⟩ 1 1 [.int .i64 t1, .int .i64 t2] rfl rfl (two_new wr _ _ 23) (by simp [Value.oneCell']) (by unfold maxLen; omega) (by omega) (by rw [alloc_size1]; omega) ?_); intro v5 w5 hown5 hgrow5 hv5
                   have HO5 := Lib.hid hown5
                   have HB5 := Lib.hid ((HBR.out.alloc hszr (.cells (TokC t1 t2) 23)).grown hgrow5 (by rw [alloc_size1]; omega) (fun q hq => (owned_block HOW.out hq).1))
                   clear hown5 hgrow5 hv5))
              go_roundw
              case rel => exact ⟨k2, by omega, by go_num, by rw [HDR.out, show i - k2 = i - (k2 + 1) + 1 by omega]; exact HO5.out, HB5.out⟩
              case measure => first | (simp [intOf]; done) | (simp [intOf]; omega)
end Go.Proofs.Ytpiohfjmfehnoaa
