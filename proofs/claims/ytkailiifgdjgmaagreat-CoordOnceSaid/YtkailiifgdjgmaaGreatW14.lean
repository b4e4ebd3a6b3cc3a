/- What is owed. -/
import Derived.Test.YtkailiifgdjgmaaGreatWd
namespace Go.Proofs.YtkailiifgdjgmaaGreat
open Go.RowKit
open Go.Maps (Keyed)

theorem step_append_any {P : Program} (w : World) {ops : Array Oper} {o : Oper} {a : Act} {K : Act → World → Prop} {Q : Exit → Act → World → Prop} {E : Prop} (hgd : o.guard = none) (s x : Operand) (t : TypeId)
    (ho : o.op = .call { callee := .builtin .append, args := #[s, x], argTypes := #[t, t] })
    (base : Nat) (e : TypeId) (i : TypeInfo) (z : Value) (size bytes : Nat) (ht : P.underlying t = some (.slice e)) (hi : P.info? e = some i) (hz : i.zero = some z)
    (hsize : i.size = size) (hby : i.bytes = bytes) (hzs : z.cells.size = size) (hsz : 0 < size)
    (v : Value) (n : Nat) (xs : List Value) (hs : a.eval s = v) (hown : w.ownsRow base e size v n xs)
    (ao : Option Addr) (m c : Nat) (news : List Value) (hx : a.eval x = .slice ao m c) (hl : news.length = m * size) (hnone : ao = none → m = 0 ∧ c = 0)
    (hnews : ∀ ad, ao = some ad → ∀ j u, news[j]? = some u → w.cell? (ad.add j) = some u) (h1 : ∀ u ∈ news, u.oneCell' = true)
    (h63 : n + m ≤ maxLen) (hbytes : (n + m) * bytes ≤ 140737488355328) (hbase : base ≤ w.heap.size)
    (h : ∀ v' w', w'.ownsRow base e size v' (n + m) (xs ++ news) → w.grownBy w' v.ownBlock → (v'.ownBlock = v.ownBlock ∨ v'.ownBlock = some w.heap.size) → K (a.put o.dst v') w') :
    if Region.wanted o (yielded ops a.tmps) = true then Oper.wp P o a w K Q else E := by
  have hw : Region.wanted o (yielded ops a.tmps) = true := by simp [Region.wanted, hgd]
  rw [if_pos hw]
  cases ao with
  | some ad =>
    obtain ⟨v', w', hr, h2, h3, _, h4⟩ := run_append_own_at (P := P) w base t o.type e i z size bytes ht hi hz hsize hby hzs hsz v n xs hown ad m c news hl (hnews ad rfl) h1 h63 hbytes hbase
    unfold Oper.wp execOp
    simp only [ho, resolve, invoke, builtin, Sem.run_bind, Sem.run_pure, Result.andThen_ok, List.map_toArray, List.map_cons, List.map_nil, hs, hx, hr]
    exact h v' w' h2 h3 h4
  | none =>
    obtain ⟨rfl, rfl⟩ := hnone rfl
    have hn : news = [] := List.eq_nil_of_length_eq_zero (by simpa using hl)
    subst hn
    have hrun := run_append_owned_none (P := P) (w := w) base t o.type e i size ht hi v n xs hown
    unfold Oper.wp
    simp [execOp, ho, resolve, invoke, builtin, hs, hx, hrun, Result.andThen]
    exact h v w (by simpa using hown) (World.grownBy.refl _ _) (.inl rfl)

/-- This operation alone. -/
theorem step_only {P : Program} {w : World} {ops : Array Oper} {o : Oper} {a : Act} {K : Act → World → Prop} {Q : Exit → Act → World → Prop} {E : Prop} (n : Nat) (_ : o.dst = some n) (h : if Region.wanted o (yielded ops a.tmps) = true then Oper.wp P o a w K Q else E) : if Region.wanted o (yielded ops a.tmps) = true then Oper.wp P o a w K Q else E := h
/-- A message that tells what is owed of a transaction. -/
def owdC (d : Debt) (q : Option Addr × Nat) : List Value := [.int .i64 6, .int .i64 0, .int .i64 0, .int .i64 d.id, .int .i64 d.rev, .int .i64 0, .int .i64 0, .bool false, .slice q.1 (slist d.lf).length q.2, .slice none 0 0, .slice none 0 0, .slice none 0 0]
theorem owdC_one (d : Debt) (q : Option Addr × Nat) : ∀ u ∈ owdC d q, u.oneCell' = true := by
  intro u hu
  simp only [owdC, List.mem_cons, List.not_mem_nil, or_false] at hu
  rcases hu with rfl | rfl | rfl | rfl | rfl | rfl | rfl | rfl | rfl | rfl | rfl | rfl <;> rfl
def owdL (L : List Debt) (qs : List (Option Addr × Nat)) : List Value := (L.zip qs).flatMap fun p => owdC p.1 p.2
/-- A row of such messages, in new memory. -/
def OwdRow (w : World) (B : Nat) (v : Value) (L : List Debt) : Prop := ∃ qs, qs.length = L.length ∧ w.ownsRow B 57 12 v L.length (owdL L qs)
theorem OwdRow.nil (w : World) (B : Nat) : OwdRow w B (.slice none 0 0) [] := ⟨[], rfl, ⟨rfl, .inl ⟨rfl, rfl⟩⟩⟩
theorem owdL_snoc (L : List Debt) (qs : List (Option Addr × Nat)) (d : Debt) (q : Option Addr × Nat) (h : qs.length = L.length) : owdL (L ++ [d]) (qs ++ [q]) = owdL L qs ++ owdC d q := by
  unfold owdL
  rw [List.zip_append h.symm, List.flatMap_append]
  simp
/-- How far what is owed is gathered. -/
structure OwS (w wr : World) (p0 gc : Nat) (idv v : Value) (L : List Debt) (i : Nat) : Prop where
  below : Below w.heap.size w wr
  box : Whole wr p0 28 #[.pointer (some ⟨gc, 0, none⟩)]
  ids : wr.ownsRow w.heap.size 2 1 idv L.length ((L.map (·.id)).map (Value.int .i64))
  row : OwdRow wr w.heap.size v (L.take i)
section
variable {w w' wr : World} {B gc gl b1 b2 b3 p0 : Nat} {c : Co} {idv v : Value} {L : List Debt} {i : Nat}
theorem OwS.up (h : OwS w wr p0 gc idv v L i) (hb : Below wr.heap.size wr w') : OwS w w' p0 gc idv v L i := by
  refine ⟨h.below.trans (hb.mono h.below.size), h.box.kept (hb.block _ h.box.lt), owns_keepk h.ids (fun k hk => hb.block k (h.ids.lt k hk).2), ?_⟩
  obtain ⟨qs, h1, h2⟩ := h.row
  exact ⟨qs, h1, owns_keepk h2 (fun k hk => hb.block k (h2.lt k hk).2)⟩
theorem OwS.grow (h : OwS w wr p0 gc idv v L i) {qs : List (Option Addr × Nat)} {n : Nat} (hq : qs.length = (L.take i).length) (hn : n = (L.take i).length) (hrow : wr.ownsRow w.heap.size 57 12 v n (owdL (L.take i) qs)) {d : Debt} (hd : L[i]? = some d) (q : Option Addr × Nat) {v' : Value} (hown : w'.ownsRow w.heap.size 57 12 v' (n + 1) (owdL (L.take i) qs ++ owdC d q)) (hg : wr.grownBy w' v.ownBlock) : OwS w w' p0 gc idv v' L (i + 1) := by
  subst hn
  have hx : ∀ k (T : TypeId) (cs : Array Value), Whole wr k T cs → T ≠ 57 → w'.heap[k]? = wr.heap[k]? := fun k T cs hW hT => hg.block k hW.lt (by
    intro e
    obtain ⟨_, cur, hW2⟩ := owned_block hrow e.symm
    exact whole_ne hW hW2 hT rfl)
  have ht : L.take (i + 1) = L.take i ++ [d] := take_snoc hd
  refine ⟨h.below.grown hg h.below.size (fun k hk => (hrow.lt k hk).1), h.box.kept (hx _ _ _ h.box (by decide)), owns_keepk h.ids (fun k hk => ?_), ⟨qs ++ [q], by rw [ht]; simp [hq], ?_⟩⟩
  · obtain ⟨_, cur, hW2⟩ := owned_block h.ids hk
    exact hx _ _ _ hW2 (by decide)
  · rw [ht, owdL_snoc _ _ _ _ hq, List.length_append, List.length_singleton]
    exact hown
set_option maxRecDepth 100000 in
set_option maxHeartbeats 16000000 in
theorem owed_any (w : World) (h : CoAt w B gc gl b1 b2 b3 c) :
    Calls Tryz.prog 19 #[.pointer (some ⟨gc, 0, none⟩)] w fun e w' => ∃ v, e = .returned v ∧ OwdRow w' w.heap.size v c.deb ∧ Below w.heap.size w w' := by
  obtain ⟨i0, hi0, hz0, hz1, hz2⟩ := info_parts Tryz.infoG
  obtain ⟨W0, hW0, hw0, hB0⟩ := box_new w 28 #[.pointer (some ⟨gc, 0, none⟩)]
  have hs0 : w.heap.size + 1 = W0.heap.size := by rw [hW0]; simp
  obtain ⟨W1, hW1, hw1, hB1⟩ := box_new W0 81 #[.map (some b2)]
  have h1 := h.below (hB0.trans (hB1.mono hB0.size))
  have hlen : c.deb.length ≤ 1048576 := by
    obtain ⟨_, n3, _, h2, _⟩ := h.don
    have := h.ok.com
    omega
  have cK : Calls Tryz.prog 36 #[.map (some b2)] W0 fun e w' => e = .returned (.func (.func 47) #[] #[.pointer (some ⟨W0.heap.size, 0, none⟩)]) ∧ w' = W1 := by
    rw [hW1]
    exact callsIn_wide.1 (AnyZI.keys_in Tryz.layKeys Fence.wide 5 trivial rfl (some b2) W0)
  have hbx := hw0.kept (hB1.block _ hw0.lt)
  obtain ⟨mm, hm, hf⟩ := h1.deb
  have HSO := Lib.hid (sorted_owed W1 W0.heap.size w.heap.size gc b2 _ c.deb hw1.lt (hw1.cell 0) hbx h1.own rfl hm hf (fun d hd => (h.ok.deb d hd).1) h.ok.nd h.ok.asc hlen)
  have q0 := hw0.cell 0
  have c5 := (h.below hB0).cells.2.2.2.2.2.1
  have HBX := Lib.hid hbx
  have HH := Lib.hid h
  have HB1 := Lib.hid (hB0.trans (hB1.mono hB0.size))
  have HLF := Lib.hid (fun d (hd : d ∈ c.deb) => (h.ok.deb d hd).2.2.1)
  have HIN := Lib.hid (fun d (hd : d ∈ c.deb) => (h.ok.deb d hd).1)
  have HND := Lib.hid h.ok.nd
  have HLN := Lib.hid hlen
  clear h h1 hm hf hw0 hw1 hbx hB0 hB1 hlen
  obtain ⟨L, hL⟩ : ∃ L, L = c.deb := ⟨_, rfl⟩
  have HDL := Lib.hid hL.symm
  rw [← hL] at HSO HLF HIN HND HLN
  clear hL
  go_enter Tryz.func19, Tryz.ntmps19
  go_upto_region 1 with fail
  rw [← hW0]
  clear hW0
  go_wp2_with fail
  refine cK.mono ?_
  rintro e w9 ⟨rfl, hw9⟩
  rw [hw9]
  clear hw9 w9 cK hW1
  go_wp2_with fail
  refine HSO.out.mono ?_
  rintro e w2 ⟨idv, rfl, hids, hb2⟩
  obtain ⟨ia, ic, rfl, _, _⟩ := owned_anyE hids
  have HS0 := Lib.hid (show OwS w w2 w.heap.size gc (.slice ia L.length ic) (.slice none 0 0) L 0 from ⟨HB1.out.trans (hb2.mono HB1.out.size), HBX.out.kept (hb2.block _ HBX.out.lt), owns_lower hids HB1.out.size, OwdRow.nil _ _⟩)
  clear hids hb2 q0 c5 hs0 HSO HBX HB1
  go_wp2_with fail
  have HP0 := Lib.hid (show Below w.heap.size w w from Below.refl _ _)
  go_loopw [4, 16] (fun v iv wr => ∃ i : Nat, i ≤ L.length ∧ iv = .int .i64 i ∧ OwS w wr w.heap.size gc (.slice ia L.length ic) v L i) (fun _ iv _ => L.length - (intOf iv).toNat)
  case atStart => exact ⟨0, by omega, rfl, HS0.out⟩
  case round =>
    obtain ⟨i, hin, rfl, hst⟩ := hrel
    have HST := Lib.hid hst
    clear hst
    by_cases hil : i < L.length
    · obtain ⟨d, hd⟩ : ∃ d, L[i]? = some d := ⟨_, List.getElem?_eq_getElem hil⟩
      have hmem := List.mem_of_getElem? hd
      have hdin := HIN.out d hmem
      have hdg : dget L d.id = some d := by
        cases hq : dget L d.id with
        | none => exact absurd (List.mem_map.2 ⟨d, hmem, rfl⟩) (dget_none hq)
        | some d' =>
          obtain ⟨hm', he'⟩ := dget_some hq
          obtain ⟨a, ha, rfl⟩ := List.getElem_of_mem hm'
          obtain ⟨b, hb, rfl⟩ := List.getElem_of_mem hmem
          rcases Nat.lt_trichotomy a b with h3 | h3 | h3
          · have := List.pairwise_iff_getElem.1 HND.out a b (by simpa using ha) (by simpa using hb) h3
            simp at this; exact absurd he' this
          · subst h3; rfl
          · have := List.pairwise_iff_getElem.1 HND.out b a (by simpa using hb) (by simpa using ha) h3
            simp at this; exact absurd he'.symm this
      obtain ⟨ab, aoff, rfl, hab, hac⟩ : ∃ b off, ia = some ⟨b, off, none⟩ ∧ b < wr.heap.size ∧ wr.cell? ⟨b, off + i, none⟩ = some (.int .i64 d.id) := by
        obtain ⟨a', c', hv, hL⟩ := Lies.owned HST.out.ids
        injection hv with e1 e2 e3
        subst e1 e3
        obtain ⟨b, off, rfl, hb1, _⟩ := hL.addr (by omega)
        exact ⟨b, off, rfl, hb1, hL.cell (by rw [List.getElem?_map, List.getElem?_map, hd]; rfl)⟩
      have hl9 := HLN.out
      have hij : (0:Int) ≤ (i:Int) ∧ (i:Int) < (L.length:Int) := by omega
      have hsl := slist_len d.lf
      have HSK5 := Lib.hid (fun W {vv} {j} (hW : OwS w W w.heap.size gc (.slice (some ⟨ab, aoff, none⟩) L.length ic) vv L j) => (show W.cell? ⟨w.heap.size, 0, none⟩ = some (.pointer (some ⟨gc, 0, none⟩)) ∧ W.cell? ⟨gc, 5, none⟩ = some (.map (some b2)) from ⟨hW.box.cell 0, (HH.out.below hW.below).cells.2.2.2.2.2.1⟩))
      have HSK := Lib.hid (fun W (hW : Below wr.heap.size wr W) => (show W.cell? ⟨w.heap.size, 0, none⟩ = some (.pointer (some ⟨gc, 0, none⟩)) ∧ W.cell? ⟨gc, 5, none⟩ = some (.map (some b2)) from
        ⟨(HST.out.up hW).box.cell 0, (HH.out.below ((HST.out.up hW).below)).cells.2.2.2.2.2.1⟩))
      have HLK := Lib.hid (fun W (hW : Below wr.heap.size wr W) => (show (Instr.lookup 81 (.map (some b2)) (.int .i64 d.id) false).run Tryz.prog W = .ok (debV d) W from by
        have := (HH.out.below ((HST.out.up hW).below)).lookDeb1 hdin
        rw [HDL.out, hdg] at this
        exact this))
      have HLI := Lib.hid (fun W => list_any W d.lf (HLF.out d hmem))
      have hfr := field_rev (d.ns : Int) (d.lf : Int) (d.ah : Int) d.rev
      have hfl := field_lf (d.ns : Int) (d.lf : Int) (d.ah : Int) d.rev
      obtain ⟨qs, hqs, hrow⟩ := HST.out.row
      have HQS := Lib.hid hqs
      have htl : (L.take i).length = i := by rw [List.length_take]; omega
      rw [htl] at hrow
      have HROW := Lib.hid hrow
      have HTL := Lib.hid htl
      clear htl
      have HD := Lib.hid hd
      have HLM := Lib.hid (show i ≤ 1048576 by have := HLN.out; omega)
      obtain ⟨ra, rc, rfl, _, _⟩ := owned_anyE hrow
      clear hmem hdin hdg hqs hrow hd
      go_upto_region 6 with fail
      clear hac
      have hlkd : (Instr.lookup 81 (.map (some b2)) (.int .i64 d.id) false).run Tryz.prog wr.drew = .ok (debV d) wr.drew := HLK.out _ (below_drewN wr 1)
      unfold debV at hlkd HLK
      go_region_held3 (fun W : World => W.cell? ⟨w.heap.size, 0, none⟩ = some (.pointer (some ⟨gc, 0, none⟩)) ∧ W.cell? ⟨gc, 5, none⟩ = some (.map (some b2))) (first | assumption | with_reducible exact HSK.out _ (below_drewN _ 1) | with_reducible exact HSK.out _ (bell_alloc HB5.out _)) (first
        | (refine step_only 39 rfl ?_; refine step_append_any _ rfl (.tmp 20) (.tmp 38) 51 rfl w.heap.size 57 i0 (.agg MsgZ) 12 160 Tryz.underlying51 hi0 hz0 hz1 hz2 rfl (by decide) (.slice ra i rc) i (owdL (L.take i) qs) rfl (HRW4.out.alloc _) (some ⟨w4.heap.size, 0, none⟩) 1 1 (owdC d (qa, qc)) rfl rfl (by intro e; cases e) (by rintro ad he; injection he with he; subst he; exact cells_new _ (owdC d (qa, qc)) _) (owdC_one d (qa, qc)) (by have := HLM.out; unfold maxLen; omega) (by have := HLM.out; omega) (by have := HU4.out.below.size; simp; omega) ?_; intro v5 w5 hown5 hgr5 hat5
           have hs5 := (HU4.out.up (below_alloc w4 (.cells (owdC d (qa, qc)).toArray 57))).grow HQS.out HTL.out.symm (HRW4.out.alloc _) HD.out (qa, qc) hown5 hgr5
           have hk5 := HSK5.out w5 hs5
           have HS5 := Lib.hid hs5
           clear hown5 hgr5 hat5 hs5)
        | (go_at_call 31; refine (HLI.out _).mono ?_; rintro e w4 ⟨qv, rfl, hro4, hb4⟩
           have hb5 := bell_up (below_drewN wr 1) hb4
           have hs4 := HSK.out w4 hb5
           have hlk4 := HLK.out w4 hb5
           obtain ⟨qa, qc, rfl, _, _⟩ := owned_anyE hro4
           have HU4 := Lib.hid (HST.out.up hb5)
           have HRW4 := Lib.hid (owns_keepk HROW.out (fun k hk => hb5.block k (HROW.out.lt k hk).2))
           have HB5 := Lib.hid hb5
           clear hb4 hb5 hro4))
      all_goals
        go_wp2_with fail
        go_roundw
        case rel => exact ⟨i + 1, by omega, by go_num, HS5.out⟩
        case measure => simp [intOf]; omega
    · obtain rfl : i = L.length := by omega
      have HE := Lib.hid (show OwdRow wr w.heap.size _ L ∧ Below w.heap.size w wr from ⟨by have := HST.out.row; rwa [List.take_length] at this, HST.out.below⟩)
      go_wp2
      go_ret
      exact ⟨_, rfl, by rw [← HDL.out] at HE; exact HE.out⟩
end
end Go.Proofs.YtkailiifgdjgmaaGreat
