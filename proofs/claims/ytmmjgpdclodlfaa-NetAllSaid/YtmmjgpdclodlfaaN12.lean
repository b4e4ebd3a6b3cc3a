/- The network: Packets. -/
import Derived.Test.YtmmjgpdclodlfaaN11
namespace Go.Proofs.Ytmmjgpdclodlfaa
open Go.RowKit

theorem wpList_append_row {P : Program} (w : World) {ops : Array Oper} {rest : List Oper} {o : Oper} {a : Act} {Q : Exit → Act → World → Prop} (hgd : o.guard = none) (s x : Operand) (t : TypeId)
    (ho : o.op = .call { callee := .builtin .append, args := #[s, x], argTypes := #[t, t] })
    (B : Nat) (i : TypeInfo) (z : Value) (ht : P.underlying t = some (.slice 32)) (hi : P.info? 32 = some i) (hz : i.zero = some z)
    (hsize : i.size = 3) (hby : i.bytes = 40) (hzs : z.cells.size = 3)
    (v : Value) (n : Nat) (xs : List Value) (hs : a.eval s = v) (hown : FRow w B v n xs)
    (ad : Addr) (m c : Nat) (news : List Value) (hx : a.eval x = .slice (some ad) m c) (hl : news.length = m * 3)
    (hnews : ∀ j u, news[j]? = some u → w.cell? (ad.add j) = some u) (h1 : ∀ u ∈ news, u.oneCell' = true)
    (h63 : n + m ≤ maxLen) (hbytes : (n + m) * 40 ≤ 140737488355328) (hbase : B ≤ w.heap.size)
    (h : ∀ v' w', FRow w' B v' (n + m) (xs ++ news) → w.grownBy w' v.ownBlock → (∀ q, v'.ownBlock = some q → v.ownBlock = some q ∨ w.heap.size ≤ q) → wpList P ops Q rest (a.put o.dst v') w') : wpList P ops Q (o :: rest) a w := by
  refine wpList_plain hgd fun K hK => ?_
  obtain ⟨v', w', hr, h2, h3, h4⟩ := run_append_row (P := P) w t o.type B i z ht hi hz hsize hby hzs v n xs hown ad m c news hl hnews h1 h63 hbytes hbase
  unfold Oper.wp execOp
  simp only [ho, resolve, invoke, builtin, Sem.run_bind, Sem.run_pure, Result.andThen_ok, List.map_toArray, List.map_cons, List.map_nil, hs, hx, hr]
  exact hK _ _ (h v' w' h2 h3 h4)
def pkey (p : Pk) : Int × Int × List Int := (p.fr, p.dst, p.xs)
/-- Packets of a call's own. -/
structure Own (w : World) (B : Nat) (v : Value) (qs : List Pk) : Prop where
  row : FRow w B v qs.length (pcs qs)
  pks : ∀ p ∈ qs, PkAt w B p
theorem Own.grow {w w3 w5 : World} {B : Nat} {v v5 : Value} {qs : List Pk} {p : Pk} (h : Own w B v qs) (hb : Below w.heap.size w w3) (hu : PkAt w3 B p) (hgr : w3.grownBy w5 v.ownBlock) (hrow : FRow w5 B v5 (qs.length + 1) (pcs qs ++ pc p)) : Own w5 B v5 (qs ++ [p]) := by
  have h3 : FRow w3 B v qs.length (pcs qs) := h.row.below hb
  have key : ∀ p, PkAt w3 B p → PkAt w5 B p := fun p hp => hp.keep fun q hq => by
    obtain ⟨_, cur, hW⟩ := hp.block hq
    refine hgr.block _ hW.lt ?_
    intro e
    obtain ⟨_, cur2, hW2⟩ := h3.block e.symm
    exact whole_ne hW hW2 (by decide) rfl
  refine ⟨by rw [List.length_append, pcs_append]; exact hrow, fun p' hp' => ?_⟩
  rw [List.mem_append, List.mem_singleton] at hp'
  rcases hp' with hp' | rfl
  · refine key p' ((h.pks p' hp').keep fun q hq => ?_)
    obtain ⟨_, cur, hW⟩ := (h.pks p' hp').block hq
    exact hb.block _ hW.lt
  · exact key _ hu
set_option maxRecDepth 100000 in
set_option maxHeartbeats 8000000 in
theorem packets_any {B g : Nat} {nodes : Int} {v : Value} {ps : List Pk} (w : World) (h : NAt w B g nodes v ps) (hn : ps.length ≤ 4096) :
    Calls Try.prog 19 #[.pointer (some ⟨g, 0, none⟩)] w fun e w' => (∃ v2 qs, e = .returned v2 ∧ Own w' w.heap.size v2 qs ∧ qs.map pkey = ps.map pkey) ∧ Below w.heap.size w w' := by
  obtain ⟨i0, hi0, hz0, hz1, hz2⟩ := info_of Try.infoP
  obtain ⟨_, c1, _, f1⟩ := h.cells
  obtain ⟨a, c, rfl, hL⟩ := h.row.lies
  obtain ⟨cs, hmk, hcs⟩ := made_row (P := Try.prog) w 45 32 i0 _ 3 40 Try.underlying45 hi0 hz0 hz1 hz2 0 ps.length (Nat.zero_le _) (by omega) (by unfold maxLen; omega)
  have hmk : (Instr.makeSlice 45 (.int .i64 0) (.int .i64 (ps.length : Int))).run Try.prog w = .ok (.slice (some ⟨w.heap.size, 0, none⟩) 0 ps.length) (w.alloc (.cells cs 32)) := hmk
  obtain ⟨w0, hw0⟩ : ∃ w0, w0 = w.alloc (.cells cs 32) := ⟨_, rfl⟩
  have hb0 : Below w.heap.size w w0 := by rw [hw0]; exact below_alloc _ _
  have hx0 : Whole w0 w.heap.size 32 cs := by rw [hw0]; exact heap_alloc_new _ _
  have HO := Lib.hid (show Own w0 w.heap.size (.slice (some ⟨w.heap.size, 0, none⟩) 0 ps.length) [] from ⟨⟨rfl, .inr ⟨_, ps.length, cs, rfl, Nat.le_refl _, hx0, Nat.zero_le _, by unfold maxLen; omega, by omega, rfl⟩⟩, fun p hp => by cases hp⟩)
  have HH := Lib.hid h
  have HL := Lib.hid hL
  have HB0 := Lib.hid hb0
  have hgl : g < w.heap.size := h.net.lt
  clear h hL hcs hx0
  go_enter Try.func19, Try.ntmps19
  have q1 : w0.cell? ⟨g, 1, none⟩ = some (.slice a ps.length c) := (hb0.cell (p := ⟨g, 1, none⟩) hgl).trans c1
  rw [hw0] at q1
  go_wp2_with fail
  rw [← hw0]
  clear hw0 hmk q1 c1 f1
  go_loopw [3, 17] (fun lv iv wr => ∃ (i : Nat) (qs : List Pk), i ≤ ps.length ∧ qs.length = i ∧ iv = .int .i64 i ∧ qs.map pkey = (ps.take i).map pkey ∧ Own wr w.heap.size lv qs ∧ Below w.heap.size w wr) (fun _ iv _ => ps.length - (intOf iv).toNat)
  case atStart => exact ⟨0, [], by omega, rfl, rfl, rfl, HO.out, HB0.out⟩
  case round =>
    clear HO HB0
    obtain ⟨i, qs, hi, hqs, rfl, hk, hO, hb⟩ := hrel
    by_cases hil : i < ps.length
    · obtain ⟨p, hp⟩ : ∃ p, ps[i]? = some p := ⟨_, List.getElem?_eq_getElem hil⟩
      have hPk := HH.out.pks p (List.mem_of_getElem? hp)
      obtain ⟨b, off, rfl, hbl, _⟩ := HL.out.addr (by omega)
      obtain ⟨e0, e1, e2⟩ := pcs_at hp
      obtain ⟨fr, dst, pv, xs⟩ := p
      obtain ⟨pa, pk, hpv, hin⟩ := hPk.in_
      simp only at hpv hin e0 e1 e2
      subst hpv
      have d0 := (hb.cell (p := ⟨b, off + i * 3, none⟩) hbl).trans (HL.out.cell e0)
      have d1 := (hb.cell (p := ⟨b, off + i * 3 + 1, none⟩) hbl).trans (HL.out.cell e1)
      have d2 := (hb.cell (p := ⟨b, off + i * 3 + 2, none⟩) hbl).trans (HL.out.cell e2)
      have hws := hb.size
      have hinr : PkIn wr pa pk xs := ⟨hin.isb.ext (fun b o v hb' hc => (hb.cell (p := ⟨b, o, none⟩) hb').trans hc), hin.nil, hin.room, hin.big, hin.small⟩
      obtain ⟨wA, hwA⟩ : ∃ wA, wA = wr.alloc (.cells #[.int .i64 fr, .int .i64 dst, .slice pa xs.length pk] 32) := ⟨_, rfl⟩
      have hbA : Below wr.heap.size wr wA := by rw [hwA]; exact below_alloc _ _
      have HC := Lib.hid (clone_at fr dst (w2 := wr) (W := wA) hinr hbA)
      have HK := Lib.hid (fun u : Value => show (qs ++ [(⟨fr, dst, u, xs⟩ : Pk)]).map pkey = (ps.take (i + 1)).map pkey by rw [take_snoc hp, List.map_append, List.map_append, hk]; rfl)
      have HO := Lib.hid hO
      have HB := Lib.hid hb
      obtain ⟨la, lc, hlv, _⟩ := hO.row.lies
      subst hqs
      subst hlv
      clear hk hO hb e0 e1 e2 hPk hin hinr hbA hp
      go_wp2_with fail
      rw [← hwA]
      clear hwA
      refine HC.out.mono ?_
      rintro e w3 ⟨⟨ua, uc, rfl, hu⟩, hb3, hb4⟩
      have HU := Lib.hid hu
      have HB3 := Lib.hid hb3
      have hz3 := hb3.size
      clear hu hb3 hb4 HC d0 d1 d2
      go_wp2_with (first
        | (at_builtin; (refine wpList_append_row _ rfl (.tmp 21) (.tmp 24) 45 rfl w.heap.size i0 (.agg #[.int .i64 0, .int .i64 0, .slice none 0 0]) Try.underlying45 hi0 hz0 hz1 hz2 rfl (.slice la qs.length lc) qs.length (pcs qs) rfl ((HO.out.row.below HB3.out).below (below_alloc _ _)) ⟨w3.heap.size, 0, none⟩ 1 1 [.int .i64 fr, .int .i64 dst, .slice ua xs.length uc] rfl rfl (one_packet w3 _ _ _ _ rfl) (HU.out.one) (by unfold maxLen; omega) (by omega) (by simp; omega) ?_); intro v5 w5 hown5 hgrow5 hv5
           have HO5 := Lib.hid (HO.out.grow (HB3.out.trans ((below_alloc w3 _).mono (by omega))) ⟨owns_kept (HU.out.own.mono (by omega)) (fun q hq => (below_alloc w3 _).block q (HU.out.own.lt q hq).2), HU.out.byte, HU.out.small⟩ hgrow5 hown5)
           have HB5 := Lib.hid ((HB.out.trans ((HB3.out.mono (by omega)).trans ((below_alloc w3 _).mono (by omega)))).grown hgrow5 (by simp; omega) (fun q hq => (HO.out.row.block hq).1))
           clear hown5 hgrow5 hv5))
      go_roundw
      case rel => exact ⟨qs.length + 1, _, by omega, by rw [List.length_append]; rfl, by go_num, HK.out _, HO5.out, HB5.out⟩
      case measure => simp [intOf]; omega
    · obtain rfl : i = ps.length := by omega
      have HB := Lib.hid hb
      have HO := Lib.hid hO
      rw [List.take_of_length_le (Nat.le_refl _)] at hk
      have HK := Lib.hid hk
      clear hb hO hk
      go_wp2
      go_ret
      exact ⟨⟨_, qs, rfl, HO.out, HK.out⟩, HB.out⟩
end Go.Proofs.Ytmmjgpdclodlfaa
