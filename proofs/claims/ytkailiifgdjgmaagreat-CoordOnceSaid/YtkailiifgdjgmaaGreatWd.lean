/- The keys of the debts, in the order of the commits. slices.SortedFunc over the keys of the debts. -/
import Derived.Test.YtkailiifgdjgmaaGreatWL
namespace Go.Proofs.YtkailiifgdjgmaaGreat
open Go.RowKit Go.Shelf Go.Lib Go.Sort
open Go.Maps (Keyed)

/-- How many commits were ahead of a transaction. -/
def ahOf (L : List Debt) (x : Int) : Int := match dget L x with
  | some d => (d.ah : Int)
  | none => 0
theorem ahOf_in {L : List Debt} (h : ∀ d ∈ L, d.ah ≤ 1048576) (x : Int) : 0 ≤ ahOf L x ∧ ahOf L x ≤ 1048576 := by
  unfold ahOf
  cases hd : dget L x with
  | none => exact ⟨Int.le_refl _, by decide⟩
  | some d =>
    have := h d (dget_some hd).1
    exact ⟨by show (0 : Int) ≤ (d.ah : Int); omega, by show (d.ah : Int) ≤ 1048576; omega⟩
/-- A key, clipped. -/
def clip (x : Int) : Int := if -9223372036854775808 ≤ x ∧ x ≤ 9223372036854775807 then x else 0
theorem clip_in (x : Int) : InI (clip x) := by
  unfold clip
  split
  · next h => exact h
  · exact ⟨by omega, by omega⟩
theorem clip_self {x : Int} (h : InI x) : clip x = x := by unfold clip; exact if_pos h
abbrev encC (x : Int) : Value := .int .i64 (clip x)
def cfO (L : List Debt) (x y : Int) : Int := Lib.compareInt (ahOf L (clip x)) (ahOf L (clip y))
theorem ltO (L : List Debt) (x y : Int) : ltOf (cfO L) x y = decide (ahOf L (clip x) < ahOf L (clip y)) := by
  unfold ltOf cfO Lib.compareInt
  by_cases h1 : ahOf L (clip x) < ahOf L (clip y)
  · simp [h1]
  · by_cases h2 : ahOf L (clip y) < ahOf L (clip x) <;> simp [h1, h2]
theorem swoO (L : List Debt) : SWO (ltOf (cfO L)) where
  irrefl x := by rw [ltO]; simp
  trans x y z h1 h2 := by rw [ltO] at *; simp at *; omega
  ntrans x y z h1 h2 := by rw [ltO] at *; simp at *; omega
theorem grownBy_sorted_any {w : World} {g n : Nat} {os : Array Obj} (enc : Int → Value) (d : Array Int) : w.grownBy (sortWorld enc w g 0 n d os) (some g) := by
  unfold sortWorld
  refine ⟨rfl, rfl, rfl, by simp, fun k hk hne => ?_⟩
  rw [heap_grow_old _ _ (by simpa using hk)]
  have : g ≠ k := fun e => hne (by rw [e])
  simp [putRow, mapBlock, Sort.ahead, Array.getElem?_modify, this]
theorem putRow_congr (w : World) (g : Nat) (d : Array Int) (h : ∀ x ∈ d.toList, InI x) : putRow encC w g 0 d = putRow encZ w g 0 d := by
  unfold putRow
  congr 1
  funext c
  unfold putCells
  congr 1
  funext k x
  split
  · next hk =>
    have hlt : k - 0 < d.size := by omega
    rw [getElem!_pos d _ hlt]
    show Value.int .i64 (clip _) = Value.int .i64 _
    rw [clip_self (h _ (by simp))]
  · rfl
theorem field_ah (x y u z : Int) (w : World) : (Instr.field 95 (.agg #[.int .u8 x, .int .u8 y, .int .i64 u, .int .i64 z]) 2).run Tryz.prog w = .ok (.int .i64 u) w := by kernel_rfl
theorem field_rev (x y u z : Int) (w : World) : (Instr.field 95 (.agg #[.int .u8 x, .int .u8 y, .int .i64 u, .int .i64 z]) 3).run Tryz.prog w = .ok (.int .i64 z) w := by kernel_rfl
theorem field_lf (x y u z : Int) (w : World) : (Instr.field 95 (.agg #[.int .u8 x, .int .u8 y, .int .i64 u, .int .i64 z]) 1).run Tryz.prog w = .ok (.int .u8 y) w := by kernel_rfl
set_option maxRecDepth 100000 in
set_option maxHeartbeats 2000000 in
theorem cmp_any (W : World) (p0 gc b2 : Nat) (L : List Debt) (hp : W.cell? ⟨p0, 0, none⟩ = some (.pointer (some ⟨gc, 0, none⟩))) (hg : W.cell? ⟨gc, 5, none⟩ = some (.map (some b2))) {mm : Lit → Option Value} {N : Nat} (hm : MapAt W Tryz.prog 2 b2 mm N) (hf : ∀ k, InI k → mm (.int .i64 k) = (dget L k).map debV) (x y : Int) :
    Calls Tryz.prog 37 (#[encC x, encC y] ++ #[.pointer (some ⟨p0, 0, none⟩)]) W fun e w' => e = .returned (.int .i64 (cfO L x y)) ∧ ∃ q, w' = W.drewN q := by
  have hx := clip_in x
  have hy := clip_in y
  unfold cfO encC
  generalize clip x = a at *
  generalize clip y = b at *
  have hlk : ∀ (k : Int), InI k → ∀ n, (Instr.lookup 81 (.map (some b2)) (.int .i64 k) false).run Tryz.prog (W.drewN n) = .ok (((dget L k).map debV).getD (.agg #[.int .u8 0, .int .u8 0, .int .i64 0, .int .i64 0])) (W.drewN n) := fun k hk n => by
    have := (hm.below (below_drewN W n)).look Tryz.keyL Tryz.underlying81 (Tryz.zeroDeb _) false (key_long k hk)
    rw [hf k hk] at this
    simpa using this
  have hv : ∀ k : Int, ∃ v0 v1 v3 : Int, ((dget L k).map debV).getD (.agg #[.int .u8 0, .int .u8 0, .int .i64 0, .int .i64 0]) = .agg #[.int .u8 v0, .int .u8 v1, .int .i64 (ahOf L k), .int .i64 v3] := fun k => by
    unfold ahOf
    cases dget L k with
    | none => exact ⟨_, _, _, rfl⟩
    | some d => exact ⟨_, _, _, rfl⟩
  obtain ⟨a0, a1, a3, ha⟩ := hv a
  obtain ⟨c0, c1, c3, hb⟩ := hv b
  have hla := hlk a hx
  have hlb := hlk b hy
  rw [ha] at hla
  rw [hb] at hlb
  have hcmp := fun W => AnyG.cmp_Compare_int Tryz.layCmp (ahOf L a) (ahOf L b) W
  change ∀ W, Calls Tryz.prog 38 _ _ _ at hcmp
  generalize Lib.compareInt (ahOf L a) (ahOf L b) = r at *
  generalize ahOf L a = u at *
  generalize ahOf L b = v at *
  have hfl := field_ah
  clear hlk hv hm hf ha hb
  go_enter Tryz.func37, Tryz.ntmps37
  go_upto_region 1 with fail
  go_quiet ((go_at_call 38; exact Calls.quiet_of ((hcmp _).mono fun _ _ h => ⟨h.1, 0, h.2⟩)))
  go_wp2
  go_ret
  exact ⟨rfl, _, rfl⟩
theorem perm_sorted {L : List Debt} (hnd : (L.map (·.id)).Nodup) (hasc : (L.map (·.ah)).Pairwise (· < ·)) {l : List Int} (hp : l.Perm (L.map (·.id))) (hs : l.Pairwise fun a b => ¬ ahOf L b < ahOf L a) : l = L.map (·.id) := by
  have hget : ∀ d ∈ L, ahOf L d.id = (d.ah : Int) := by
    intro d hd
    unfold ahOf
    have : dget L d.id = some d := by
      clear hp hs hasc
      induction L with
      | nil => cases hd
      | cons x L ih =>
        rw [List.map_cons, List.nodup_cons] at hnd
        rcases List.mem_cons.1 hd with h1 | h1
        · subst h1; simp [dget]
        · have hne : ¬ x.id = d.id := fun e => hnd.1 (by rw [e]; exact List.mem_map.2 ⟨d, h1, rfl⟩)
          have := ih hnd.2 h1
          unfold dget at this ⊢
          rw [List.find?_cons_of_neg (by simpa using hne)]
          exact this
    rw [this]
  refine List.Perm.eq_of_pairwise (le := fun a b => ¬ ahOf L b < ahOf L a) (fun a b ha hb h1 h2 => ?_) hs ?_ hp
  · have ha2 := hp.mem_iff.1 ha
    obtain ⟨da, hda, rfl⟩ := List.mem_map.1 ha2
    obtain ⟨db, hdb, rfl⟩ := List.mem_map.1 hb
    rw [hget _ hda, hget _ hdb] at h1 h2
    have hah : da.ah = db.ah := by omega
    obtain ⟨i, hi, rfl⟩ := List.getElem_of_mem hda
    obtain ⟨j, hj, rfl⟩ := List.getElem_of_mem hdb
    rcases Nat.lt_trichotomy i j with h3 | h3 | h3
    · have := List.pairwise_iff_getElem.1 hasc i j (by simpa using hi) (by simpa using hj) h3
      simp at this
      omega
    · subst h3; rfl
    · have := List.pairwise_iff_getElem.1 hasc j i (by simpa using hj) (by simpa using hi) h3
      simp at this
      omega
  · rw [List.pairwise_map]
    rw [List.pairwise_map] at hasc
    refine hasc.imp_of_mem fun {a b} ha hb h => ?_
    rw [hget _ ha, hget _ hb]
    omega
/-- What slices.SortedFunc does with the keys of the debts. -/
theorem sorted_list {L : List Debt} (hnd : (L.map (·.id)).Nodup) (hasc : (L.map (·.ah)).Pairwise (· < ·)) (hin : ∀ d ∈ L, InI d.id) {ss : List Int} (hp : ss.Perm (L.map (·.id))) {d' : Array Int} (hpm : PermIn 0 ss.toArray.size ss.toArray d') (hs : SortedIn (ltOf (cfO L)) 0 ss.toArray.size d') : d'.toList = L.map (·.id) := by
  obtain ⟨h1, _, h2⟩ := hpm
  have h3 : d'.toList.Perm ss := by
    have e1 : d'.extract 0 ss.toArray.size = d' := by rw [← h1]; simp
    have e2 : ss.toArray.extract 0 ss.toArray.size = ss.toArray := by simp
    rw [e1, e2] at h2
    simpa using h2
  have h4 := h3.trans hp
  refine perm_sorted hnd hasc h4 ?_
  rw [List.pairwise_iff_getElem]
  intro i j hi hj hij
  have := hs i j (Nat.zero_le _) hij (by rw [← h1]; simpa using hj)
  rw [ltO, getElem!_pos d' j (by simpa using hj), getElem!_pos d' i (by simpa using hi)] at this
  have mi : ∀ x ∈ d'.toList, InI x := by
    intro x hx
    obtain ⟨d, hd, rfl⟩ := List.mem_map.1 (h4.mem_iff.1 hx)
    exact hin d hd
  rw [clip_self (mi _ (by simp)), clip_self (mi _ (by simp))] at this
  simpa using this
end Go.Proofs.YtkailiifgdjgmaaGreat

namespace Go.Proofs.YtkailiifgdjgmaaGreat
open Go.RowKit Go.Shelf Go.Lib Go.Sort
open Go.Maps (Keyed)

theorem intKeys_perm {w : World} {b : Nat} {D : DataW Value} {L : List Debt} (hown : w.ownsMap Tryz.prog 2 heldR b L.length D) (hin : ∀ d ∈ L, InI d.id) (hnd : (L.map (·.id)).Nodup) (hv : ∀ k, InI k → mview D (.int .i64 k) = (dget L k).map debV) : (intKeys D).Perm (L.map (·.id)) := by
  have hwf := intKeys_wf hown Tryz.underlying2
  have hz := Tryz.zeroDeb w
  have hhas : ∀ k, InI k → (Maps.has D (.int .i64 k) = true ↔ k ∈ L.map (·.id)) := by
    intro k hk
    rw [(mview_eq hown Tryz.keyL Tryz.underlying81 hz false (key_long k hk)).2, hv k hk]
    cases hd : dget L k with
    | none =>
      simp only [Option.map_none, Option.isSome_none, Bool.false_eq_true, false_iff]
      exact dget_none hd
    | some d =>
      simp only [Option.map_some, Option.isSome_some, true_iff]
      exact List.mem_map.2 ⟨d, (dget_some hd).1, (dget_some hd).2⟩
  obtain ⟨es, hD, hpw, _⟩ := hown.entries Tryz.keyL
  obtain ⟨es', hD', hko⟩ := hown.keysOf
  obtain rfl : es = es' := by rw [hD] at hD'; simpa using hD'
  subst hD
  refine (perm_intKeys hpw (fun p hp => by obtain ⟨v, hv2⟩ := hko p hp; obtain ⟨x, _, hx, _⟩ := Maps.keyOf_i64 Tryz.underlying2 hv2; exact ⟨x, hx⟩) hnd fun x => ?_).symm
  constructor
  · intro hx
    obtain ⟨d, hd, rfl⟩ := List.mem_map.1 hx
    exact (hhas _ (hin d hd)).2 hx
  · intro hx
    have hmem : x ∈ intKeys (.map es) := by
      have h1 := hx
      rw [Maps.has_eq, List.any_eq_true] at h1
      obtain ⟨p, hp, hs⟩ := h1
      obtain ⟨v, hv2⟩ := hko p hp
      obtain ⟨y, _, hy, _⟩ := Maps.keyOf_i64 Tryz.underlying2 hv2
      rw [hy] at hs
      have : x = y := by simpa [Lit.sameKey, intOf, eq_comm] using hs
      exact List.mem_map.2 ⟨p, hp, by rw [hy, this]; rfl⟩
    have h2 := hwf x hmem
    simp [Lit.wf, IntKind.min, IntKind.max, IntKind.signed, IntKind.bits] at h2
    exact (hhas x ⟨by omega, by omega⟩).1 hx
set_option maxRecDepth 100000 in
set_option maxHeartbeats 8000000 in
theorem sorted_owed (W : World) (Bm p0 gc b2 : Nat) (cs : Array Value) (L : List Debt) (hBm : Bm < W.heap.size) (hbm : W.cell? ⟨Bm, 0, none⟩ = some (.map (some b2))) (hp : Whole W p0 28 #[.pointer (some ⟨gc, 0, none⟩)]) (hg : Whole W gc 83 cs) (hc5 : cs[5]? = some (.map (some b2))) {mm : Lit → Option Value} (hm : MapAt W Tryz.prog 2 b2 mm L.length) (hf : ∀ k, InI k → mm (.int .i64 k) = (dget L k).map debV)
    (hin : ∀ d ∈ L, InI d.id) (hnd : (L.map (·.id)).Nodup) (hasc : (L.map (·.ah)).Pairwise (· < ·)) (hlen : L.length ≤ 1048576) :
    Calls Tryz.prog 35 #[.func (.func 47) #[] #[.pointer (some ⟨Bm, 0, none⟩)], .func (.func 37) #[] #[.pointer (some ⟨p0, 0, none⟩)]] W fun e w' => ∃ v, e = .returned v ∧ w'.ownsRow W.heap.size 2 1 v L.length ((L.map (·.id)).map (Value.int .i64)) ∧ Below W.heap.size W w' := by
  obtain ⟨D, hown, hsz, hv⟩ := hm
  have hperm := intKeys_perm hown hin hnd (fun k hk => by rw [hv, hf k hk])
  have hseq : SeqGives Fence.wide 3 Tryz.prog 47 #[.pointer (some ⟨Bm, 0, none⟩)] encZ (fun ss => ss.Perm (intKeys D)) (Maps.size D) W :=
    AnyZI.keys_gives (ρ := Tryz.layKeys_ren) { Tryz.layKeys with } Fence.wide 3 trivial rfl (by omega) Bm b2 L.length D W hBm hbm hown
  have cC := callsIn_wide.1 (AnyZI.collect_in Tryz.layCollect Fence.wide 5 trivial trivial rfl (by omega) 47 #[.pointer (some ⟨Bm, 0, none⟩)] trivial (enters_of Tryz.func47 (by kernel_rfl) rfl) _ (Maps.size D) (by unfold maxLen; omega) (by omega) W hseq)
  change Calls Tryz.prog 45 _ _ _ at cC
  have HC := Lib.hid cC
  have HP := Lib.hid hperm
  have HOWN := Lib.hid (show MapAt W Tryz.prog 2 b2 mm L.length from ⟨D, hown, hsz, hv⟩)
  have HPP := Lib.hid hp
  have HGG := Lib.hid hg
  clear cC hseq hown hsz hv hperm hp hg hbm
  go_enter Tryz.func35, Tryz.ntmps35
  go_wp2_with fail
  refine HC.out.mono ?_
  rintro e w1 ⟨v, ss, rfl, hS, hrow, hnil, hb⟩
  have hpp := hS.trans HP.out
  rcases hrow.2 with ⟨rfl, hz⟩ | ⟨gb, cap, cur, rfl, hbase, hgb, r1, r2, r3, r4⟩
  · have hss : ss = [] := List.eq_nil_of_length_eq_zero hz
    subst hss
    have hL : L = [] := by have := hpp.length_eq; simp at this; exact List.eq_nil_of_length_eq_zero this.symm
    have hcon := AnyF.slices_SortFunc_none (P := Tryz.prog) (ρ := Tryz.laySort_ren) { Tryz.laySort with } none 0 (.func (.func 37) #[] #[.pointer (some ⟨p0, 0, none⟩)]) w1
    change Calls Tryz.prog 46 _ _ _ at hcon
    have HE := Lib.hid (show w1.ownsRow W.heap.size 2 1 (.slice none 0 0) L.length ((L.map (·.id)).map (Value.int .i64)) ∧ Below W.heap.size W w1 from ⟨by rw [hL]; exact hrow, hb⟩)
    clear hrow hnil hb hS hpp hL hf hin hnd hasc
    go_wp2_with (go_at_call 46; refine hcon.mono ?_; rintro e w9 ⟨rfl, hw9⟩; rw [hw9]; clear hw9 w9)
    go_ret
    exact ⟨_, rfl, HE.out⟩
  · have hmi : ∀ x ∈ ss, InI x := by
      intro x hx
      obtain ⟨d, hd, rfl⟩ := List.mem_map.1 (hpp.mem_iff.1 hx)
      exact hin d hd
    have hwb : Whole w1 gb 2 cur := hgb
    have hH0 : Holds encZ w1 gb 0 ss.toArray := holds_of_block_i hgb (by simpa using r4)
    have hH : Holds encC w1 gb 0 ss.toArray := by
      intro j hj
      have h2 := hH0 j hj
      have hmem : ss.toArray[j]! ∈ ss := by rw [getElem!_pos ss.toArray j hj]; simp
      refine ⟨?_, h2.2⟩
      rw [h2.1]
      show some (Value.int .i64 _) = some (Value.int .i64 (clip _))
      rw [clip_self (hmi _ hmem)]
    have hmap1 := HOWN.out.below hb
    have hp1 := HPP.out.kept (hb.block _ HPP.out.lt)
    have hg1 := HGG.out.kept (hb.block _ HGG.out.lt)
    have n1 : gb ≠ b2 := hmap1.ne hwb
    have n2 : p0 ≠ gb := whole_ne hp1 hwb (by decide)
    have n3 : gc ≠ gb := whole_ne hg1 hwb (by decide)
    have hcmp : CmpLays1 Tryz.prog 37 #[.pointer (some ⟨p0, 0, none⟩)] encC (cfO L) gb 0 ss.toArray.size w1 := by
      intro m os dk _ x y
      have hgr := grownBy_sorted_any (w := w1) (g := gb) (n := m) (os := os) encC dk
      have hp2 := hp1.kept (hgr.block p0 hp1.lt (by intro e; injection e with e; exact n2 e))
      have hg2 := hg1.kept (hgr.block gc hg1.lt (by intro e; injection e with e; exact n3 e))
      have hm2 := hmap1.kept (hgr.block b2 hmap1.lt (by intro e; injection e with e; exact n1 e.symm))
      refine (cmp_any _ p0 gc b2 L (hp2.cell 0) ((hg2.cell 5).trans hc5) hm2 hf x y).mono ?_
      rintro e w' ⟨rfl, q, rfl⟩
      exact ⟨rfl, q, #[], by rw [grow_empty]⟩
    have hcon := Any.slices_SortFunc (P := Tryz.prog) (ρ := Tryz.laySort_ren) Tryz.laySort encC (fun _ => rfl) (cfO L) (swoO L) 37 #[.pointer (some ⟨p0, 0, none⟩)] gb 0 cap ss.toArray w1 (enters_of Tryz.func37 (by kernel_rfl) rfl) hcmp hH hwb.lt (by have := hpp.length_eq; simp at this; simp; omega)
    change Calls Tryz.prog 46 _ _ _ at hcon
    simp only [List.size_toArray] at hcon
    have HEND := Lib.hid (fun (d' : Array Int) (n : Nat) (os : Array Obj) (h1 : PermIn 0 ss.toArray.size ss.toArray d') (h2 : SortedIn (ltOf (cfO L)) 0 ss.toArray.size d') => (show (sortWorld encC w1 gb 0 n d' os).ownsRow W.heap.size 2 1 (.slice (some ⟨gb, 0, none⟩) ss.length cap) L.length ((L.map (·.id)).map (Value.int .i64)) ∧ Below W.heap.size W (sortWorld encC w1 gb 0 n d' os) from by
      have hd := sorted_list hnd hasc hin hpp h1 h2
      have hpl := hpp.length_eq
      simp at hpl
      refine ⟨?_, hb.grown (grownBy_sorted_any encC d') hb.size (fun j hj => by cases hj; exact hbase)⟩
      have e1 : sortWorld encC w1 gb 0 n d' os = grow (putRow encZ (Sort.ahead w1 n) gb 0 (L.map (·.id)).toArray) os := by
        unfold sortWorld
        rw [putRow_congr _ _ _ (by rw [hd]; intro x hx; obtain ⟨d, hd2, rfl⟩ := List.mem_map.1 hx; exact hin d hd2), ← hd]
      rw [e1, ← hpl]
      exact ownsRow_sorted_i (by rw [List.length_map, hpl]) hbase hgb r1 r2 r3))
    clear hrow hnil hb hS hf hin hnd hasc hcmp hH hH0 hmap1 hp1 hg1 n1 n2 n3 hmi hwb hgb r1 r2 r3 r4 hbase hpp
    go_wp2_with fail
    refine hcon.mono ?_
    rintro e w2 ⟨rfl, d', n, os, h1, h2, rfl⟩
    have HE := Lib.hid (HEND.out d' n os (by simpa using h1) (by simpa using h2))
    clear h1 h2
    go_wp2
    go_ret
    exact ⟨_, rfl, HE.out⟩
end Go.Proofs.YtkailiifgdjgmaaGreat
