/- watch.Rows. -/
import Derived.Test.YteimgebfbnmdcaaHS
namespace Go.Proofs.Yteimgebfbnmdcaa
open Go.RowKit Go.Shelf
open Go.Maps (Keyed)

/-- Rows under way: the rows, the open ones' places. -/
structure RowsG (w wr : World) (b : Nat) (v : Value) (R : List Rw) : Prop where
  out : OutE 49 5 rw1 w wr v R
  opn_ : OpenAt wr b R
  uq : Uq R
  base : w.heap.size ≤ b
theorem RowsG.up {w wr w' : World} {b : Nat} {v : Value} {R : List Rw} (h : RowsG w wr b v R) (hb : Below wr.heap.size wr w') : RowsG w w' b v R := ⟨h.out.up hb, h.opn_.kept (hb.block _ h.opn_.lt), h.uq, h.base⟩
theorem OpenAt.not_row {w : World} {b : Nat} {R : List Rw} (h : OpenAt w b R) {base m size : Nat} {e : TypeId} {v : Value} {xs : List Value} (hr : w.ownsRow base e size v m xs) : some b ≠ v.ownBlock := fun e2 => by
  obtain ⟨m, _, _, h1, _⟩ := h.at_
  obtain ⟨_, cur, hW⟩ := owned_block hr e2.symm
  exact h1.ne hW rfl
theorem rowsF_len (l : List Ch) : (rowsF l).length ≤ l.length := by
  have : ∀ (l : List Ch) (R : List Rw), (l.foldl rowO R).length ≤ R.length + l.length := by
    intro l
    induction l with
    | nil => intro R; simp
    | cons c l ih =>
      intro R
      rw [List.foldl_cons, List.length_cons]
      have := ih (rowO R c)
      have := rowO_len R c
      omega
  have := this l []
  simpa [rowsF] using this
theorem own_cells' {w : World} {B k n : Nat} {e : TypeId} {v : Value} {xs : List Value} (h : w.ownsRow B e k v n xs) (hn : 0 < n) : ∃ b c, v = .slice (some ⟨b, 0, none⟩) n c ∧ b < w.heap.size ∧ ∀ (j : Nat) u, xs[j]? = some u → w.cell? ⟨b, j, none⟩ = some u := by
  rcases h.2 with ⟨_, h0⟩ | ⟨b, cap, cur, rfl, _, hh, _, _, _, ht⟩
  · omega
  · refine ⟨b, cap, rfl, (Array.getElem?_eq_some_iff.1 hh).1, fun j u hu => ?_⟩
    rw [← ht, List.getElem?_take] at hu
    split at hu
    · simp only [World.cell?, hh]
      simpa using hu
    · cases hu
set_option maxRecDepth 100000 in
set_option maxHeartbeats 16000000 in
theorem rows_ch_any {w : World} {a : Option Addr} {n c : Nat} {l : List Ch} (hl : Lies w 53 5 0 a n c (l.flatMap chc)) (hln : l.length = n) (hf : ∀ r ∈ l, r.t.fits) (hn : n ≤ 1099511000000) :
    Calls Try.prog 19 #[.slice a n c] w fun e w' => ∃ v, ∃ out : List Rw, e = .returned v ∧ Stb (rlt ltT) (rowsF l) out ∧ OutE 49 5 rw1 w w' v out := by
  obtain ⟨j0, hj0, jz0, jz1, jz2⟩ := info_parts infoR
  have hmm := @run_makeMap Try.prog
  obtain ⟨b, hb⟩ : ∃ b, b = w.heap.size := ⟨_, rfl⟩
  have HG0 := Lib.hid (show RowsG w (w.alloc (.map #[] 0)) b (.slice none 0 0) (rowsF (l.take 0)) from
    ⟨⟨below_alloc _ _, World.ownsRow_nil _ _ _ _⟩, ⟨_, 0, Nat.zero_le _, by rw [hb]; exact MapAt.made w _ _, fun t _ => rfl⟩, Uq.nil, by omega⟩)
  have HL := Lib.hid hl
  have HF := Lib.hid hf
  have HLN := Lib.hid hln
  clear hl hf hln
  go_enter Try.func19, Try.ntmps19
  go_wp2_with fail
  rw [← hb]
  clear hb
  go_loopw [3, 12] (fun v iv wr => ∃ i : Nat, i ≤ n ∧ iv = .int .i64 i ∧ RowsG w wr b v (rowsF (l.take i))) (fun _ iv _ => n - (intOf iv).toNat)
  case atStart => exact ⟨0, by omega, rfl, HG0.out⟩
  case round =>
    clear HG0
    obtain ⟨i, hin, rfl, hS⟩ := hrel
    have hlen := rowsF_len (l.take i)
    rw [List.length_take] at hlen
    obtain ⟨va, vc, rfl, _, _⟩ := owned_anyE hS.out.row
    by_cases hil : i < n
    · obtain ⟨r, hti⟩ : ∃ r, l[i]? = some r := ⟨_, List.getElem?_eq_getElem (show i < l.length by rw [HLN.out]; exact hil)⟩
      obtain ⟨bb, off, rfl, hbb, hcc⟩ := lies_cells chc_len (by decide) HL.out hti
      have c0 := (hS.out.below.cell (p := ⟨bb, off + i * 5, none⟩) hbb).trans (hcc 0 _ rfl)
      have c1 := (hS.out.below.cell (p := ⟨bb, off + i * 5 + 1, none⟩) hbb).trans (hcc 1 _ rfl)
      have c2 := (hS.out.below.cell (p := ⟨bb, off + i * 5 + 2, none⟩) hbb).trans (hcc 2 _ rfl)
      have c3 := (hS.out.below.cell (p := ⟨bb, off + i * 5 + 3, none⟩) hbb).trans (hcc 3 _ rfl)
      have c4 := (hS.out.below.cell (p := ⟨bb, off + i * 5 + 4, none⟩) hbb).trans (hcc 4 _ rfl)
      have hil2 : (i : Int) < (n : Int) := by omega
      have hfit := HF.out r (List.mem_of_getElem? hti)
      have HFO := Lib.hid (show rowsF (l.take (i + 1)) = rowO (rowsF (l.take i)) r from foldl_take rowO [] hti)
      obtain ⟨q, hq⟩ : ∃ q, q = wr.heap.size := ⟨_, rfl⟩
      obtain ⟨W3, hW3⟩ : ∃ W3, W3 = wr.alloc (.cells (chc r).toArray 53) := ⟨_, rfl⟩
      have hb3 : Below wr.heap.size wr W3 := by rw [hW3]; exact below_alloc _ _
      have hX : Whole W3 q 53 (chc r).toArray := by rw [hW3, hq]; exact heap_alloc_new _ _
      have e0 : W3.cell? ⟨q, 0, none⟩ = some (.int .i64 r.rev) := hX.cell 0
      have e1 : W3.cell? ⟨q, 1, none⟩ = some (.bool r.del) := hX.cell 1
      have e2 : W3.cell? ⟨q, 2, none⟩ = some (.string r.t.o) := hX.cell 2
      have e3 : W3.cell? ⟨q, 3, none⟩ = some (.string r.t.r) := hX.cell 3
      have e4 : W3.cell? ⟨q, 4, none⟩ = some (.string r.t.u) := hX.cell 4
      have HX := Lib.hid hX
      generalize rowsF (l.take i) = R at *
      have HS3 := Lib.hid (hS.up hb3)
      have hlk := HS3.out.opn_.look hfit
      have hn1 : R.length + 1 ≤ maxLen := by unfold maxLen; omega
      have hn2 : (R.length + 1) * 64 ≤ 140737488355328 := by omega
      unfold chc at hW3
      clear hcc hbb hb3 hX hS hti
      go_upto_region 6 with fail
      rw [← hq, ← hW3]
      clear hq hW3 c0 c1 c2 c3 c4
      cases hop : opn R r.t with
      | none =>
        have hlk2 : (Instr.lookup 74 (.map (some b)) (.agg #[.string r.t.o, .string r.t.r, .string r.t.u]) true).run Try.prog W3 = .ok (.tuple #[.int .i64 0, .bool false]) W3 := by rw [hop] at hlk; exact hlk
        clear hlk
        cases hd : r.del with
        | true =>
          rw [hd] at e1
          have HN := Lib.hid (show RowsG w W3 b (.slice va R.length vc) (rowsF (l.take (i + 1))) from by
            rw [HFO.out, show rowO R r = R from by unfold rowO; rw [hop]; simp [hd]]
            exact HS3.out)
          clear hop
          go_wp2
          go_roundw
          case rel => exact ⟨i + 1, by omega, by go_num, HN.out⟩
          case measure => simp [intOf]; omega
        | false =>
          rw [hd] at e1
          obtain ⟨W4, k1, k2, k3, k4⟩ := HS3.out.opn_.add HS3.out.uq (by omega) hfit hop r.rev
          have k1 : (Instr.mapUpdate 74 (.map (some b)) (.agg #[.string r.t.o, .string r.t.r, .string r.t.u]) (.int .i64 (R.length : Int))).run Try.prog W3 = .ok () W4 := k1
          have hX4 := HX.out.kept (k3.block q HX.out.lt (fun e => by
            injection e with e
            obtain ⟨m, _, _, h1, _⟩ := HS3.out.opn_.at_
            exact h1.ne HX.out e))
          have f0 : W4.cell? ⟨q, 0, none⟩ = some (.int .i64 r.rev) := hX4.cell 0
          have f2 : W4.cell? ⟨q, 2, none⟩ = some (.string r.t.o) := hX4.cell 2
          have f3 : W4.cell? ⟨q, 3, none⟩ = some (.string r.t.r) := hX4.cell 3
          have f4 : W4.cell? ⟨q, 4, none⟩ = some (.string r.t.u) := hX4.cell 4
          have HO4 := Lib.hid (show OutE 49 5 rw1 w W4 (.slice va R.length vc) R from ⟨HS3.out.out.below.grown k3 HS3.out.out.below.size (fun k e => by injection e with e; rw [← e]; exact HS3.out.base), owns_keptN HS3.out.out.row (fun k hk => k3.block k (HS3.out.out.row.lt k hk).2 (fun e => HS3.out.opn_.not_row HS3.out.out.row (by rw [hk, ← e])))⟩)
          have HP4 := Lib.hid k2
          have HBS := Lib.hid (show w.heap.size ≤ W4.heap.size from HO4.out.below.size)
          have HU4 := Lib.hid (show rowO R r = R ++ [⟨r.t, r.rev, 0⟩] from by unfold rowO; rw [hop]; simp [hd])
          have HUq := Lib.hid (HS3.out.uq.add hop r.rev)
          clear k2 k3 k4 hX4 hop
          go_wp2_with (at_builtin; refine wpList_append_own_at _ rfl (.tmp 39) (.tmp 46) 22 rfl w.heap.size 49 j0 (.agg #[.string ⟨#[]⟩, .string ⟨#[]⟩, .string ⟨#[]⟩, .int .i64 0, .int .i64 0]) 5 64 Try.underlying22 hj0 jz0 jz1 jz2 rfl (by decide) (.slice va R.length vc) R.length (R.flatMap rw1) rfl (HO4.out.row.alloc _) ⟨W4.heap.size, 0, none⟩ 1 1 [.string r.t.o, .string r.t.r, .string r.t.u, .int .i64 r.rev, .int .i64 0] rfl rfl (fiveE_new W4 _ _ _ _ _ 49) (by simp [Value.oneCell']) hn1 hn2 (by have := HBS.out; simp; omega) ?_; intro v' w6 hown6 hgr6 _ _
                       have HN := Lib.hid (show RowsG w w6 b v' (rowsF (l.take (i + 1))) from by
                         rw [HFO.out, HU4.out]
                         exact ⟨(HO4.out.up (below_alloc _ _)).next ⟨r.t, r.rev, 0⟩ hgr6 hown6, HP4.out.kept ((hgr6.block _ (by have := HP4.out.lt; simp; omega) (HP4.out.not_row HO4.out.row)).trans (Below.heap_alloc _ _ _ HP4.out.lt)), HUq.out, HS3.out.base⟩)
                       clear hown6 hgr6)
          go_roundw
          case rel => exact ⟨i + 1, by omega, by go_num, HN.out⟩
          case measure => simp [intOf]; omega
      | some p =>
        have hlk2 : (Instr.lookup 74 (.map (some b)) (.agg #[.string r.t.o, .string r.t.r, .string r.t.u]) true).run Try.prog W3 = .ok (.tuple #[.int .i64 (p : Int), .bool true]) W3 := by rw [hop] at hlk; exact hlk
        clear hlk
        cases hd : r.del with
        | false =>
          rw [hd] at e1
          have HN := Lib.hid (show RowsG w W3 b (.slice va R.length vc) (rowsF (l.take (i + 1))) from by
            rw [HFO.out, show rowO R r = R from by unfold rowO; rw [hop]; simp [hd]]
            exact HS3.out)
          clear hop
          go_wp2
          go_roundw
          case rel => exact ⟨i + 1, by omega, by go_num, HN.out⟩
          case measure => simp [intOf]; omega
        | true =>
          rw [hd] at e1
          cases hz : r.rev != 0 with
          | false =>
            have HN := Lib.hid (show RowsG w W3 b (.slice va R.length vc) (rowsF (l.take (i + 1))) from by
              rw [HFO.out, show rowO R r = R from by unfold rowO; rw [hop]; simp only [hd, hz]; rfl]
              exact HS3.out)
            clear hop
            go_wp2
            go_roundw
            case rel => exact ⟨i + 1, by omega, by go_num, HN.out⟩
            case measure => simp [intOf]; omega
          | true =>
            have hr0 : r.rev ≠ 0 := by simpa using hz
            obtain ⟨x, hx, _, _⟩ := opn_some hop
            have hp := (List.getElem?_eq_some_iff.1 hx).1
            have hp2 : (p : Int) < (R.length : Int) := by omega
            obtain ⟨g, gc, he, _, _⟩ := own_cells' HS3.out.out.row (by omega)
            injection he with he1 _ he2
            subst he1
            subst he2
            obtain ⟨s1, ⟨ov, s2⟩, s3⟩ := own_set HS3.out.out.row (j := p * 5 + 4) (by omega) (.int .i64 r.rev)
            obtain ⟨W4, hW4⟩ : ∃ W4, W4 = W3.setCell ⟨g, p * 5 + 4, none⟩ (.int .i64 r.rev) := ⟨_, rfl⟩
            have hgq : g ≠ q := fun e => by
              subst e
              obtain ⟨_, cur, hW⟩ := owned_block HS3.out.out.row rfl
              exact whole_ne HX.out hW (by decide) rfl
            have hgb : some b ≠ some g := HS3.out.opn_.not_row HS3.out.out.row
            have hX4 : Whole W4 q 53 (chc r).toArray := by
              rw [hW4]
              exact HX.out.kept (Below.heap_setCell _ _ _ q (Ne.symm hgq))
            have f0 : W4.cell? ⟨q, 0, none⟩ = some (.int .i64 r.rev) := hX4.cell 0
            have f2 : W4.cell? ⟨q, 2, none⟩ = some (.string r.t.o) := hX4.cell 2
            have f3 : W4.cell? ⟨q, 3, none⟩ = some (.string r.t.r) := hX4.cell 3
            have f4 : W4.cell? ⟨q, 4, none⟩ = some (.string r.t.u) := hX4.cell 4
            have hop4 : OpenAt W4 b R := HS3.out.opn_.kept (by rw [hW4]; exact Below.heap_setCell _ _ _ b (fun e => hgb (by rw [e])))
            obtain ⟨W5, k1, k2, k3, k4⟩ := hop4.cut HS3.out.uq hfit hop hr0 0
            have k1 : (Builtin.delete_ #[74, 47] 0 #[.map (some b), .agg #[.string r.t.o, .string r.t.r, .string r.t.u]]).run Try.prog W4 = .ok (.tuple #[]) W5 := k1
            have hu4 : rowO R r = R.modify p (fun y => ⟨y.t, y.s, r.rev⟩) := by unfold rowO; rw [hop]; simp only [hd, hz]; rfl
            have hrow4 : W4.ownsRow w.heap.size 49 5 (.slice (some ⟨g, 0, none⟩) R.length vc) (rowO R r).length ((rowO R r).flatMap rw1) := by
              rw [hu4, List.length_modify, fm_modify R p r.rev hp, hW4]
              exact s1
            have hb4 : Below w.heap.size w W4 := by
              rw [hW4]
              exact HS3.out.out.below.setCell (p := ⟨g, p * 5 + 4, none⟩) (HS3.out.out.row.lt g rfl).1 _
            have HN := Lib.hid (show RowsG w W5 b (.slice (some ⟨g, 0, none⟩) R.length vc) (rowsF (l.take (i + 1))) from by
              rw [HFO.out]
              refine ⟨⟨hb4.grown k3 hb4.size (fun k e => by injection e with e; rw [← e]; exact HS3.out.base), owns_keptN hrow4 (fun k hk => k3.block k (hrow4.lt k hk).2 (fun e => hgb (by rw [← e, ← hk]; rfl)))⟩, by rw [hu4]; exact k2, by rw [hu4]; exact HS3.out.uq.cut p hr0, HS3.out.base⟩)
            have HRL := Lib.hid (show (rowO R r).length = R.length from by rw [hu4, List.length_modify])
            clear hop s1 hX4 hop4 k2 k3 k4 hu4 hrow4 hb4 hgb hgq hx
            go_upto_region 12 with fail
            rw [← hW4]
            clear hW4 s2 s3
            go_wp2
            go_roundw
            case rel => exact ⟨i + 1, by omega, by go_num, HN.out⟩
            case measure => simp [intOf]; omega
    · obtain rfl : i = n := by omega
      rw [List.take_of_length_le (by rw [HLN.out]; exact Nat.le_refl _)] at hS
      have HSR := Lib.hid (sortR hS.out.row (by have := rowsF_len l; have := HLN.out; omega))
      have HO := Lib.hid hS.out
      clear hS hlen
      rw [List.take_of_length_le (by rw [HLN.out]; exact Nat.le_refl _)]
      go_wp2_with fail
      refine HSR.out.mono ?_
      rintro _ w3 ⟨rfl, out, q1, q2, q3⟩
      have HE := Lib.hid (show Stb (rlt ltT) (rowsF l) out ∧ OutE 49 5 rw1 w w3 (.slice va (rowsF l).length vc) out from ⟨q1, HO.out.below.grown q3 HO.out.below.size (fun k e => (HO.out.row.lt k e).1), q2⟩)
      clear q1 q2 q3
      go_wp2
      go_ret
      exact ⟨_, out, rfl, HE.out⟩
end Go.Proofs.Yteimgebfbnmdcaa
