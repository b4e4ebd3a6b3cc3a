/- The document's network: Without. -/
import Derived.Test.YtmmjgpdclodlfaaNR1
import Derived.Deep.RegionLaw
import Derived.Maps.AppendAt
namespace Go.Proofs.Ytmmjgpdclodlfaa
open Go.RowKit

theorem step_append_any {P : Program} (w : World) {ops : Array Oper} {o : Oper} {a : Act} {K : Act → World → Prop} {Q : Exit → Act → World → Prop} {E : Prop} (hgd : o.guard = none) (s x : Operand) (t : TypeId)
    (ho : o.op = .call { callee := .builtin .append, args := #[s, x], argTypes := #[t, t] })
    (base : Nat) (e : TypeId) (i : TypeInfo) (z : Value) (size bytes : Nat) (ht : P.underlying t = some (.slice e)) (hi : P.info? e = some i) (hz : i.zero = some z)
    (hsize : i.size = size) (hby : i.bytes = bytes) (hzs : z.cells.size = size) (hsz : 0 < size)
    (v : Value) (n : Nat) (xs : List Value) (hs : a.eval s = v) (hown : w.ownsRow base e size v n xs)
    (ao : Option Addr) (m c : Nat) (news : List Value) (hx : a.eval x = .slice ao m c) (hl : news.length = m * size) (hnone : ao = none → m = 0 ∧ c = 0)
    (hnews : ∀ ad, ao = some ad → ∀ j u, news[j]? = some u → w.cell? (ad.add j) = some u) (h1 : ∀ u ∈ news, u.oneCell' = true)
    (h63 : n + m ≤ maxLen) (hbytes : (n + m) * bytes ≤ 140737488355328) (hbase : base ≤ w.heap.size)
    (h : ∀ v' w', w'.ownsRow base e size v' (n + m) (xs ++ news) → w.grownBy w' v.ownBlock → K (a.put o.dst v') w') :
    if Region.wanted o (yielded ops a.tmps) = true then Oper.wp P o a w K Q else E := by
  have hw : Region.wanted o (yielded ops a.tmps) = true := by simp [Region.wanted, hgd]
  rw [if_pos hw]
  cases ao with
  | some ad =>
    obtain ⟨v', w', hr, h2, h3, _, _⟩ := run_append_own_at (P := P) w base t o.type e i z size bytes ht hi hz hsize hby hzs hsz v n xs hown ad m c news hl (hnews ad rfl) h1 h63 hbytes hbase
    unfold Oper.wp execOp
    simp only [ho, resolve, invoke, builtin, Sem.run_bind, Sem.run_pure, Result.andThen_ok, List.map_toArray, List.map_cons, List.map_nil, hs, hx, hr]
    exact h v' w' h2 h3
  | none =>
    obtain ⟨rfl, rfl⟩ := hnone rfl
    have hn : news = [] := List.eq_nil_of_length_eq_zero (by simpa using hl)
    subst hn
    have hrun := run_append_owned_none (P := P) (w := w) base t o.type e i size ht hi v n xs hown
    unfold Oper.wp
    simp [execOp, ho, resolve, invoke, builtin, hs, hx, hrun, Result.andThen]
    exact h v w (by simpa using hown) (World.grownBy.refl _ _)
theorem ds_at {w : World} {B c i : Nat} {a : Option Addr} {l : List Dp} {p : Dp} (h : Ds w B a c l) (hi : l[i]? = some p) : ∃ b off, a = some ⟨b, off, none⟩ ∧ b < w.heap.size ∧ i < l.length ∧ w.cell? ⟨b, off + i * 3, none⟩ = some (.int .i64 p.1) ∧ w.cell? ⟨b, off + i * 3 + 1, none⟩ = some (.int .i64 p.2.1) ∧ w.cell? ⟨b, off + i * 3 + 2, none⟩ = some (.string p.2.2) := by
  obtain ⟨hlt, _⟩ := List.getElem?_eq_some_iff.1 hi
  obtain ⟨b, off, rfl, hb, _⟩ := h.row.addr (by omega)
  obtain ⟨e0, e1, e2⟩ := dcs_at hi
  exact ⟨b, off, rfl, hb, hlt, h.row.cell e0, h.row.cell e1, h.row.cell e2⟩
theorem far3 {W : World} {b o k : Nat} {v x y z : Value} (h : W.cell? ⟨b, o, none⟩ = some v) (hb : b < k) : (((W.setCell ⟨k, 0, none⟩ x).setCell ⟨k, 1, none⟩ y).setCell ⟨k, 2, none⟩ z).cell? ⟨b, o, none⟩ = some v := by
  rw [← h]
  apply World.cell?_of_block
  rw [Below.heap_setCell _ _ _ _ (by simp; omega), Below.heap_setCell _ _ _ _ (by simp; omega), Below.heap_setCell _ _ _ _ (by simp; omega)]
theorem ds_far3 {W : World} {B c k : Nat} {a : Option Addr} {l : List Dp} {x y z : Value} (h : Ds W B a c l) (hb : k < B) : Ds (((W.setCell ⟨k, 0, none⟩ x).setCell ⟨k, 1, none⟩ y).setCell ⟨k, 2, none⟩ z) B a c l :=
  ⟨h.row.keep (by simp [World.setCell]) (fun ad ha => by
    have := (h.row.at_ ad ha).2.2.1
    rw [Below.heap_setCell _ _ _ _ (by simp; omega), Below.heap_setCell _ _ _ _ (by simp; omega), Below.heap_setCell _ _ _ _ (by simp; omega)])⟩
section
variable {B c : Nat} {a : Option Addr} {l : List Dp}
set_option maxRecDepth 100000 in
set_option maxHeartbeats 4000000 in
theorem rwithout_none (x : Int) (w : World) (hx : x < 0 ∨ (l.length : Int) ≤ x) :
    Calls Try.prog 11 #[.slice a l.length c, .int .i64 x] w fun e w' => e = .returned (.tuple #[.slice a l.length c, .agg #[.int .i64 0, .int .i64 0, .string ⟨#[]⟩], .int .i64 4]) ∧ Below w.heap.size w w' := by
  have h0 : x < 0 ∨ (0 ≤ x ∧ (l.length : Int) ≤ x) := by omega
  have HB := Lib.hid (below_alloc w (.cells #[.int .i64 0, .int .i64 0, .string ⟨#[]⟩] 39))
  clear hx
  rcases h0 with h1 | ⟨h1, h2⟩
  all_goals
    go_enter Try.func11, Try.ntmps11
    go_wp2
    refine bodyPost_ret (v := .tuple #[.slice a l.length c, .agg #[.int .i64 0, .int .i64 0, .string ⟨#[]⟩], .int .i64 4]) (by simp [results, Try.results11, go_sem]) rfl ⟨rfl, HB.out⟩
set_option maxRecDepth 100000 in
set_option maxHeartbeats 8000000 in
theorem rwithout_ok {i : Nat} {p : Dp} (w : World) (h : Ds w B a c l) (hi : l[i]? = some p) (hn : l.length ≤ 4096) :
    Calls Try.prog 11 #[.slice a l.length c, .int .i64 (i : Int)] w fun e w' => (∃ a' c', e = .returned (.tuple #[.slice a' (l.length - 1) c', .agg #[.int .i64 p.1, .int .i64 p.2.1, .string p.2.2], .int .i64 0]) ∧ Ds w' w.heap.size a' c' (l.eraseIdx i)) ∧ Below w.heap.size w w' := by
  obtain ⟨i0, hi0, hz0, hz1, hz2⟩ := info_of Try.infoD
  have hbs := empty_ds
  have hroom := h.row.room
  have hil : i < l.length := (List.getElem?_eq_some_iff.1 hi).1
  obtain ⟨w0, hw0⟩ : ∃ w0, w0 = w.alloc (.cells #[.int .i64 0, .int .i64 0, .string ⟨#[]⟩] 39) := ⟨_, rfl⟩
  have hb0 : Below w.heap.size w w0 := by rw [hw0]; exact below_alloc _ _
  have hx0 : Whole w0 w.heap.size 39 #[.int .i64 0, .int .i64 0, .string ⟨#[]⟩] := by rw [hw0]; exact heap_alloc_new _ _
  have hs0 : w0.heap.size = w.heap.size + 1 := by rw [hw0]; simp
  have hba := below_alloc w0 (.cells #[] 39)
  have hR := (h.below hb0).below hba
  have HR := Lib.hid hR
  have HE := Lib.hid (show (w0.alloc (.cells #[] 39)).ownsRow (w.heap.size + 1) 39 3 (.slice (some ⟨w.heap.size + 1, 0, none⟩) 0 0) 0 [] by
    have h := World.ownsRow_made (base := w.heap.size + 1) (size := 3) (e := 39) w0 #[] 0 (by omega) (by simp [maxLen]) rfl
    rwa [hs0] at h)
  have HX := Lib.hid (hx0.kept (hba.block _ hx0.lt))
  have HBA := Lib.hid (hb0.trans (hba.mono hb0.size))
  have HH := Lib.hid ((hR.row.head (m := i) (by omega)))
  have hsh : ∀ w : World, (Instr.slice 29 (.slice a l.length c) none (some (.int .i64 (i : Int))) none).run Try.prog w = .ok (.slice a i c) w := fun w =>
    slice_headK (k := 3) Try.underlying29 rfl a l.length c i (by omega) w (by kernel_rfl)
  have hst : ∀ w : World, (Instr.slice 29 (.slice a l.length c) (some (.int .i64 ((i : Int) + 1))) none none).run Try.prog w = .ok (.slice (tailK 3 a c (i + 1)) (l.length - (i + 1)) (c - (i + 1))) w := fun w =>
    slice_tailK (k := 3) Try.underlying29 rfl a l.length c (i + 1) (by omega) w (by kernel_rfl)
  have HT := Lib.hid (h.row.tail (m := i + 1) (by omega))
  have hwr : IntKind.i64.wrap ((i : Int) + 1) = (i : Int) + 1 := IntWalk.i64_in _ (by omega)
  have happ : dcs (l.take i) ++ dcs (l.drop (i + 1)) = dcs (l.eraseIdx i) := by rw [← dcs_append, ← List.eraseIdx_eq_take_drop_succ]
  have hlen : (l.eraseIdx i).length = l.length - 1 := by rw [List.length_eraseIdx, if_pos hil]
  have HAPP := Lib.hid happ
  have HLEN := Lib.hid hlen
  obtain ⟨b, off, rfl, hbl, _, e0, e1, e2⟩ := ds_at h hi
  obtain ⟨fr, dst, S⟩ := p
  simp only at e0 e1 e2 ⊢
  have HE0 := Lib.hid e0
  have HE1 := Lib.hid e1
  have HE2 := Lib.hid e2
  rw [dcs_take] at HH
  rw [dcs_drop] at HT
  clear h hi hb0 hba hx0 hR happ hlen
  generalize tailK 3 (some ⟨b, off, none⟩) c (i + 1) = ta at *
  generalize c - (i + 1) = tc at *
  go_enter Try.func11, Try.ntmps11
  go_wp2_with (first
    | (at_builtin; rw [← hw0]; clear hw0; (refine wpList_append_at_any _ rfl (.tmp 18) (.tmp 21) 29 rfl (w.heap.size + 1) 39 i0 (.agg #[.int .i64 0, .int .i64 0, .string ⟨#[]⟩]) 3 32 Try.underlying29 hi0 hz0 hz1 hz2 rfl (by decide) _ 0 [] rfl HE.out (some ⟨b, off, none⟩) i c (dcs (l.take i)) rfl HH.out.len HH.out.nil HH.out.news (dcs_one _) (by unfold maxLen; omega) (by omega) (by simp [hs0]) ?_); intro v2 w2 hown2 hgrow2 hat2
       have hown : w2.ownsRow (w.heap.size + 1) 39 3 v2 i (dcs (l.take i)) := by simpa using hown2
       have hb2 : Below w.heap.size w w2 := HBA.out.grown hgrow2 (by simp [hs0]; omega) (by rintro q hq; injection hq with hq; rw [← hq]; exact Nat.le_succ _)
       have hx2 : Whole w2 w.heap.size 39 #[.int .i64 0, .int .i64 0, .string ⟨#[]⟩] := HX.out.kept (hgrow2.block _ HX.out.lt (by intro e; injection e with e; have : w.heap.size = w.heap.size + 1 := e; omega))
       have d0 := (hb2.cell (p := ⟨b, off + i * 3, none⟩) hbl).trans e0
       have d1 := (hb2.cell (p := ⟨b, off + i * 3 + 1, none⟩) hbl).trans e1
       have d2 := (hb2.cell (p := ⟨b, off + i * 3 + 2, none⟩) hbl).trans e2
       obtain ⟨oa, oc, rfl, _⟩ := Lies.owned hown
       have HO := Lib.hid hown; have HB2 := Lib.hid hb2; have HX2 := Lib.hid hx2
       have hz2' := (hgrow2.size); simp [hs0] at hz2'
       clear hown2 hgrow2 hat2 hown hb2 hx2 e0 e1 e2))
  go_region_held3 (fun W : World => W.cell? ⟨b, off + i * 3, none⟩ = some (.int .i64 fr) ∧ W.cell? ⟨b, off + i * 3 + 1, none⟩ = some (.int .i64 dst) ∧ W.cell? ⟨b, off + i * 3 + 2, none⟩ = some (.string S)) (first | exact ⟨d0, d1, d2⟩ | exact ⟨k0, k1, k2⟩ | exact ⟨far3 k0 hbl, far3 k1 hbl, far3 k2 hbl⟩) (first
    | (refine step_append_any _ rfl (.tmp 23) (.tmp 27) 29 rfl (w.heap.size + 1) 39 i0 (.agg #[.int .i64 0, .int .i64 0, .string ⟨#[]⟩]) 3 32 Try.underlying29 hi0 hz0 hz1 hz2 rfl (by decide) (.slice oa i oc) i (dcs (l.take i)) rfl (by first | exact HO.out | exact HO.out.drew) ta (l.length - (i + 1)) tc (dcs (l.drop (i + 1))) rfl HT.out.len HT.out.nil (by first | exact (HT.out.below HB2.out).news | exact (HT.out.below (show Below w.heap.size w w2.drew from ⟨HB2.out.os, HB2.out.tape, HB2.out.output, HB2.out.size, HB2.out.block⟩)).news) (dcs_one _) (by unfold maxLen; omega) (by omega) (by first | omega | (simp; omega)) ?_
       intro v5 w5 hown5 hgrow5
       rw [HAPP.out, show i + (l.length - (i + 1)) = (l.eraseIdx i).length by rw [HLEN.out]; omega] at hown5
       have hb5 : Below w.heap.size w w5 := HB2.out.trans ⟨hgrow5.os, hgrow5.tape, hgrow5.output, hgrow5.size, fun k hk => hgrow5.block k (by have := HB2.out.size; have h : k < w2.heap.size := (by omega); exact h) (by intro e; have := (HO.out.lt k e.symm).1; omega)⟩
       have hx5 : Whole w5 w.heap.size 39 #[.int .i64 0, .int .i64 0, .string ⟨#[]⟩] := HX2.out.kept (hgrow5.block _ HX2.out.lt (by intro e; have := (HO.out.lt _ e.symm).1; omega))
       obtain ⟨⟨x0, x1, x2⟩, y0, y1, y2⟩ := three_of hx5
       have k0 : w5.cell? ⟨b, off + i * 3, none⟩ = some (.int .i64 fr) := (hb5.cell (p := ⟨b, off + i * 3, none⟩) hbl).trans HE0.out
       have k1 : w5.cell? ⟨b, off + i * 3 + 1, none⟩ = some (.int .i64 dst) := (hb5.cell (p := ⟨b, off + i * 3 + 1, none⟩) hbl).trans HE1.out
       have k2 : w5.cell? ⟨b, off + i * 3 + 2, none⟩ = some (.string S) := (hb5.cell (p := ⟨b, off + i * 3 + 2, none⟩) hbl).trans HE2.out
       obtain ⟨a5, c5, rfl, hD⟩ := Ds.owned hown5
       have HD := Lib.hid hD; have HB5 := Lib.hid hb5; have HX5 := Lib.hid hx5
       clear hown5 hgrow5 hb5 hx5 hD))
  all_goals
    go_wp2
    have hz3 : Whole _ w.heap.size 39 #[.int .i64 fr, .int .i64 dst, .string S] := ((HX5.out.store 0 (.int .i64 fr)).store 1 (.int .i64 dst)).store 2 (.string S)
    obtain ⟨⟨p0, p1, p2⟩, _⟩ := three_of hz3
    refine bodyPost_ret (v := .tuple #[.slice a5 (l.eraseIdx i).length c5, .agg #[.int .i64 fr, .int .i64 dst, .string S], .int .i64 0]) (by simp [results, Try.results11, go_sem, p0, p1, p2]) rfl ⟨⟨a5, c5, by rw [HLEN.out], (ds_far3 HD.out (Nat.lt_succ_self _)).mono (Nat.le_succ _)⟩, ?_⟩
    exact ((HB5.out.setCell (p := ⟨w.heap.size, 0, none⟩) (Nat.le_refl _) _).setCell (p := ⟨w.heap.size, 1, none⟩) (Nat.le_refl _) _).setCell (p := ⟨w.heap.size, 2, none⟩) (Nat.le_refl _) _
end
end Go.Proofs.Ytmmjgpdclodlfaa
