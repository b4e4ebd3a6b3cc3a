/- StoreKeeps: the walk. -/
import Derived.Test.YtilmpkmojfmlkaaE40
namespace Go.Proofs.Ytilmpkmojfmlkaa
open Go.RowKit
open Go.Maps (Keyed)

theorem infoM : (Try.prog.info? 51).map (fun i => (i.zero, i.size, i.bytes)) = some (some (.agg #[.bool false, .string ⟨#[]⟩, .string ⟨#[]⟩, .string ⟨#[]⟩]), 4, 56) := by kernel_rfl
/-- Mutations, cell by cell. -/
def mutc (l : List Mu) : List Value := l.flatMap fun m => [.bool m.d, .string m.t.o, .string m.t.r, .string m.t.u]
theorem mutc_cons (m : Mu) (l : List Mu) : mutc (m :: l) = .bool m.d :: .string m.t.o :: .string m.t.r :: .string m.t.u :: mutc l := rfl
theorem mutc_append (l m : List Mu) : mutc (l ++ m) = mutc l ++ mutc m := by unfold mutc; rw [List.flatMap_append]
theorem mutc_length (l : List Mu) : (mutc l).length = l.length * 4 := by
  induction l with
  | nil => rfl
  | cons p l ih => rw [mutc_cons, List.length_cons, List.length_cons, List.length_cons, List.length_cons, List.length_cons, ih]; omega
theorem mutc_at {l : List Mu} {i : Nat} {m : Mu} (h : l[i]? = some m) : (mutc l)[i * 4]? = some (.bool m.d) ∧ (mutc l)[i * 4 + 1]? = some (.string m.t.o) ∧ (mutc l)[i * 4 + 2]? = some (.string m.t.r) ∧ (mutc l)[i * 4 + 3]? = some (.string m.t.u) := by
  induction l generalizing i with
  | nil => simp at h
  | cons q l ih =>
    cases i with
    | zero =>
      simp at h
      subst h
      exact ⟨rfl, rfl, rfl, rfl⟩
    | succ i =>
      have h2 : l[i]? = some m := by simpa using h
      rw [mutc_cons, show (i + 1) * 4 = i * 4 + 1 + 1 + 1 + 1 by omega]
      simpa using ih h2
theorem mutc_one (l : List Mu) : ∀ u ∈ mutc l, u.oneCell' = true := by
  intro u hu
  obtain ⟨p, _, hp⟩ := List.mem_flatMap.1 hu
  simp at hp
  rcases hp with rfl | rfl | rfl | rfl <;> rfl
theorem mutc_set {l : List Mu} {i : Nat} (hi : i < l.length) (m : Mu) : mutc (l.set i m) = ((((mutc l).set (i * 4) (.bool m.d)).set (i * 4 + 1) (.string m.t.o)).set (i * 4 + 2) (.string m.t.r)).set (i * 4 + 3) (.string m.t.u) := by
  induction l generalizing i with
  | nil => simp at hi
  | cons q l ih =>
    cases i with
    | zero => rfl
    | succ i =>
      have h2 := ih (i := i) (by simpa using hi)
      rw [List.set_cons_succ, mutc_cons, mutc_cons, h2, show (i + 1) * 4 = i * 4 + 1 + 1 + 1 + 1 by omega]
      rfl
theorem MutsAt.news {w : World} {a : Option Addr} {n : Nat} {l : List Mu} (h : MutsAt w a n l) : ∀ ad, a = some ad → ∀ j u, (mutc l)[j]? = some u → w.cell? (ad.add j) = some u := by
  intro ad ha j u hu
  rcases h.at_ with h0 | ⟨b, off, he, _, hc⟩
  · have := h.len
    rw [h0] at this
    rw [List.eq_nil_of_length_eq_zero this] at hu
    simp [mutc] at hu
  · rw [ha] at he
    injection he with he
    subst he
    have hj : j < (mutc l).length := (List.getElem?_eq_some_iff.1 hu).1
    rw [mutc_length] at hj
    have hi : j / 4 < l.length := by omega
    obtain ⟨m, hm⟩ : ∃ m, l[j / 4]? = some m := ⟨_, List.getElem?_eq_getElem hi⟩
    obtain ⟨k0, k1, k2, k3⟩ := mutc_at hm
    obtain ⟨c0, c1, c2, c3⟩ := hc _ _ hm
    rw [add_plain]
    have hr : j = j / 4 * 4 ∨ j = j / 4 * 4 + 1 ∨ j = j / 4 * 4 + 2 ∨ j = j / 4 * 4 + 3 := by omega
    generalize j / 4 = q at *
    rcases hr with rfl | rfl | rfl | rfl
    · rw [k0] at hu; rw [c0]; exact hu
    · rw [k1] at hu; rw [← Nat.add_assoc, c1]; exact hu
    · rw [k2] at hu; rw [← Nat.add_assoc, c2]; exact hu
    · rw [k3] at hu; rw [← Nat.add_assoc, c3]; exact hu
def muZ : Mu := ⟨false, ⟨⟨#[]⟩, ⟨#[]⟩, ⟨#[]⟩⟩⟩
def txX : ByteArray := ⟨#[120, 58, 120]⟩
def muX : Mu := ⟨false, tpU txX⟩
/-- The law's own row, in the midst of being cleared. -/
def mine (l : List Mu) (i : Nat) : List Mu := List.replicate i muZ ++ (l.drop i ++ [muX])
theorem mine_zero (l : List Mu) : mine l 0 = l ++ [muX] := rfl
theorem mine_length {l : List Mu} {i : Nat} (hi : i ≤ l.length) : (mine l i).length = l.length + 1 := by
  unfold mine
  simp
  omega
theorem mine_at {l : List Mu} {i : Nat} {m : Mu} (hm : l[i]? = some m) : (mine l i)[i]? = some m := by
  unfold mine
  rw [List.getElem?_append_right (by simp), List.length_replicate, Nat.sub_self, drop_get hm]
  rfl
theorem mine_last (l : List Mu) : (mine l l.length)[l.length]? = some muX := by
  unfold mine
  rw [List.getElem?_append_right (by simp), List.length_replicate, Nat.sub_self]
  simp
theorem mine_next {l : List Mu} {i : Nat} {m : Mu} (hm : l[i]? = some m) : (mine l i).set i muZ = mine l (i + 1) := by
  unfold mine
  rw [drop_get hm, List.set_append_right _ _ (by simp), List.length_replicate, Nat.sub_self]
  show List.replicate i muZ ++ (muZ :: (l.drop (i + 1) ++ [muX])) = _
  rw [List.replicate_succ']
  simp
/-- Four cells stored at one place of a row of the call's own. -/
theorem owns_store4 {w : World} {B q n cap : Nat} {L : List Mu} (h : w.ownsRow B 51 4 (.slice (some ⟨q, 0, none⟩) n cap) n (mutc L)) {i : Nat} (hi : i < L.length) (m : Mu) :
    ((((w.setCell ⟨q, i * 4, none⟩ (.bool m.d)).setCell ⟨q, i * 4 + 1, none⟩ (.string m.t.o)).setCell ⟨q, i * 4 + 2, none⟩ (.string m.t.r)).setCell ⟨q, i * 4 + 3, none⟩ (.string m.t.u)).ownsRow B 51 4 (.slice (some ⟨q, 0, none⟩) n cap) n (mutc (L.set i m)) := by
  rw [mutc_set hi]
  exact ((((h.stored _ _).1.stored _ _).1.stored _ _).1.stored _ _).1
theorem own_muts {w : World} {B q N cap n : Nat} {L l : List Mu} (h : w.ownsRow B 51 4 (.slice (some ⟨q, 0, none⟩) N cap) N (mutc L)) (hN : 0 < N) (hn : l.length = n) (hL : ∀ (i : Nat) (m : Mu), l[i]? = some m → L[i]? = some m) (hf : ∀ m ∈ l, m.t.fits) : MutsAt w (some ⟨q, 0, none⟩) n l := by
  obtain ⟨b, c, he, hb, hc⟩ := own_cells h hN
  injection he with he _ _
  injection he with he
  injection he with he
  subst he
  refine ⟨hn, hf, .inr ⟨q, 0, rfl, hb, fun i m hm => ?_⟩⟩
  obtain ⟨k0, k1, k2, k3⟩ := mutc_at (hL i m hm)
  rw [Nat.zero_add]
  exact ⟨hc _ _ k0, hc _ _ k1, hc _ _ k2, hc _ _ k3⟩
theorem row_news {w : World} {B n c : Nat} {e : TypeId} {k : Nat} {a : Option Addr} {xs : List Value} (h : w.ownsRow B e k (.slice a n c) n xs) : (a = none → n = 0 ∧ c = 0) ∧ ∀ ad, a = some ad → ∀ j u, xs[j]? = some u → w.cell? (ad.add j) = some u := by
  rcases h.2 with ⟨he, h0⟩ | ⟨b, cap, cur, he, _, hh, _, _, _, ht⟩
  · injection he with e1 _ e3
    refine ⟨fun _ => ⟨h0, e3⟩, fun ad ha => ?_⟩
    rw [e1] at ha; cases ha
  · injection he with e1 _ e3
    refine ⟨fun e => (by rw [e1] at e; cases e), fun ad ha j u hu => ?_⟩
    rw [e1] at ha
    injection ha with ha
    subst ha
    rw [add_plain, Nat.zero_add]
    rw [← ht, List.getElem?_take] at hu
    split at hu
    · simp only [World.cell?, hh]
      simpa using hu
    · cases hu
theorem four_new (w : World) (x y z a : Value) (t : TypeId) : ∀ j u, [x, y, z, a][j]? = some u → (w.alloc (.cells #[x, y, z, a] t)).cell? ((⟨w.heap.size, 0, none⟩ : Addr).add j) = some u := by
  intro j u hj
  rw [add_plain, Nat.zero_add, new_cell]
  simpa using hj
set_option maxRecDepth 100000 in
set_option maxHeartbeats 16000000 in
theorem keeps_walk (a : Option Addr) (n c : Nat) (w : World) (hB : (∃ l, MutsAt w a n l) ∧ (a = none → n = 0 ∧ c = 0)) (hn : n ≤ 1048576) :
    Calls Try.prog 6 #[.slice a n c] w fun e w' => e = .returned (.bool true) ∧ Below w.heap.size w w' := by
  obtain ⟨⟨l, hl⟩, hnone⟩ := hB
  have HL := Lib.hid hl
  have hlen : l.length = n := hl.len
  clear hl
  obtain ⟨i0, hi0, hz0, hz1, hz2⟩ := info_parts infoM
  go_enter Try.func6, Try.ntmps6
  go_wp2_with fail
  refine (awake_any w).mono ?_
  rintro _ w1 ⟨rfl, hb1⟩
  have HB1 := Lib.hid hb1
  clear hb1
  go_wp2_with fail
  refine (new_st w1).mono ?_
  rintro _ w2 ⟨rfl, hs2, hb2⟩
  have HO2 := Lib.hid (fun b (hb : (Gh.new w1.heap.size).own b) => (Gh.new_own hb).1)
  obtain ⟨H1, hH1⟩ : ∃ H1, H1 = Gh.new w1.heap.size := ⟨_, rfl⟩
  rw [← hH1] at hs2 HO2 ⊢
  clear hH1
  have HS2 := Lib.hid hs2
  have HB2 := Lib.hid (bell_up HB1.out hb2)
  clear hs2 hb2
  have HR2 := Lib.hid (show (w2.alloc (.cells #[] 51)).ownsRow w2.heap.size 51 4 (.slice (some ⟨w2.heap.size, 0, none⟩) 0 0) 0 [] from World.ownsRow_made w2 #[] 0 (Nat.le_refl _) (by simp [maxLen]) (by simp))
  have HN2 := Lib.hid (HL.out.below (bell_alloc HB2.out (.cells #[] 51))).news
  have hn1 : 0 + n ≤ maxLen := by unfold maxLen; omega
  have hn2 : (0 + n) * 56 ≤ 140737488355328 := by omega
  go_wp2_with (at_builtin; refine wpList_append_at_any _ rfl (.tmp 12) (.tmp 13) 30 rfl w2.heap.size 51 i0 (.agg #[.bool false, .string ⟨#[]⟩, .string ⟨#[]⟩, .string ⟨#[]⟩]) 4 56 Try.underlying30 hi0 hz0 hz1 hz2 rfl (by decide) (.slice (some ⟨w2.heap.size, 0, none⟩) 0 0) 0 [] rfl HR2.out a n c (mutc l) rfl (by rw [mutc_length, hlen]) hnone HN2.out (mutc_one l) hn1 hn2 (by simp) ?_; intro v3 w3 hown3 hgr3 hat3
               have HO3 := Lib.hid (show w3.ownsRow w2.heap.size 51 4 v3 n (mutc l) from by simpa using hown3)
               have HB3 := Lib.hid (show Below w2.heap.size w2 w3 from (below_alloc w2 (.cells #[] 51)).grown hgr3 (by simp) (fun k e => by simp [Value.ownBlock] at e; omega))
               clear hown3 hgr3 hat3)
  refine (viewer_any w3 txX).mono ?_
  rintro _ w4 ⟨rfl, hb4⟩
  have HO4 := Lib.hid (show (w4.alloc (.cells #[.bool false, .string (tpU txX).o, .string (tpU txX).r, .string (tpU txX).u] 51)).ownsRow w2.heap.size 51 4 v3 n (mutc l) from owns_keptN HO3.out (fun k hk => (bell_alloc hb4 _).block k (HO3.out.lt k hk).2))
  have HB4 := Lib.hid (bell_up HB3.out hb4)
  clear hb4 HR2 HN2 HO3 HB3 hn1 hn2
  have hn1 : n + 1 ≤ maxLen := by unfold maxLen; omega
  have hn2 : (n + 1) * 56 ≤ 140737488355328 := by omega
  have HBS := Lib.hid (show w2.heap.size ≤ w4.heap.size from HB4.out.size)
  have hnn : (n : Int) ≤ (n : Int) + 1 := by omega
  go_wp2_with (at_builtin; refine wpList_append_own_at _ rfl (.tmp 14) (.tmp 17) 30 rfl w2.heap.size 51 i0 (.agg #[.bool false, .string ⟨#[]⟩, .string ⟨#[]⟩, .string ⟨#[]⟩]) 4 56 Try.underlying30 hi0 hz0 hz1 hz2 rfl (by decide) v3 n (mutc l) rfl HO4.out ⟨w4.heap.size, 0, none⟩ 1 1 [.bool false, .string (tpU txX).o, .string (tpU txX).r, .string (tpU txX).u] rfl rfl (four_new w4 _ _ _ _ 51) (by simp [Value.oneCell']) hn1 hn2 (by have := HBS.out; simp; omega) ?_; intro v5 w5 hown5 hgr5 _ _
               obtain ⟨q, cap, he5, hncap, hq2⟩ : ∃ q cap, v5 = .slice (some ⟨q, 0, none⟩) (n + 1) cap ∧ n + 1 ≤ cap ∧ w2.heap.size ≤ q := by
                 rcases hown5.2 with ⟨_, h0⟩ | ⟨q, cap, cur, he, hbq, _, hnc, _⟩
                 · omega
                 · exact ⟨q, cap, he, hnc, hbq⟩
               subst he5
               have HO5 := Lib.hid (show w5.ownsRow w2.heap.size 51 4 (.slice (some ⟨q, 0, none⟩) (n + 1) cap) (n + 1) (mutc (mine l 0)) from by rw [mine_zero, mutc_append]; exact hown5)
               have HB5 := Lib.hid (show Below w2.heap.size w2 w5 from (bell_alloc HB4.out (.cells #[.bool false, .string (tpU txX).o, .string (tpU txX).r, .string (tpU txX).u] 51)).grown hgr5 (by have := HBS.out; simp; omega) (fun k e => (HO4.out.lt k e).1))
               have hc0 : (0 : Int) ≤ (n : Int) ∧ (n : Int) ≤ (cap : Int) := by omega
               have hc1 : n ≤ cap := by omega
               clear hown5 hgr5 HO4 HB4)
  have hs5 := HS2.out.below HB5.out
  have hnq : ¬ H1.own q := fun ho => by have := HS2.out.raw.own_lt ho; omega
  have hm5 : MutsAt w5 (some ⟨q, 0, none⟩) n l := own_muts HO5.out (by omega) hlen (fun i m hm => by rw [mine_zero, List.getElem?_append_left (List.getElem?_eq_some_iff.1 hm).1]; exact hm) HL.out.fits
  have HAP := Lib.hid (apply_any hs5 hm5 (c := cap) (fun _ ad ha ho => by injection ha with ha; rw [← ha] at ho; exact hnq ho) (by omega) 1)
  have HBW5 := Lib.hid (show Below w.heap.size w w5 from HB2.out.trans (HB5.out.mono HB2.out.size))
  have HNQ := Lib.hid hnq
  have HS1W := Lib.hid (show w.heap.size ≤ w1.heap.size from HB1.out.size)
  have HS2W := Lib.hid (show w.heap.size ≤ w2.heap.size from HB2.out.size)
  clear hs5 hm5 hnq HS2 HB2 HB5
  refine HAP.out.mono ?_
  rintro _ w6 ⟨rfl, H3, hs6, hc6⟩
  obtain ⟨hb6, ho6⟩ := hc6.since (w0 := w) HBW5.out (fun b hb => Nat.le_trans HS1W.out (HO2.out b hb))
  obtain ⟨M', hs6', htot⟩ : ∃ M', StAt w6 0 M' H3 (0 + 5 * n) ∧ M'.tot ≤ n := by
    refine ⟨_, hs6, ?_⟩
    split
    · next h0 =>
      obtain ⟨k1, k2, k3, _⟩ := chkE_zero h0
      have := SM.apply_tot k1 k2 SMOk.empty k3
      rw [SM.empty_tot, hlen] at this
      omega
    · rw [SM.empty_tot]; omega
  have hq5 : q < w5.heap.size := by
    obtain ⟨_, _, he, hb, _⟩ := own_cells HO5.out (by omega)
    injection he with he _ _
    injection he with he
    injection he with he
    rw [he]; exact hb
  have HNQ3 := Lib.hid (show ¬ H3.own q from fun ho => HNQ.out (hc6.new q hq5 ho))
  have HO6 := Lib.hid (show w6.ownsRow w2.heap.size 51 4 (.slice (some ⟨q, 0, none⟩) (n + 1) cap) (n + 1) (mutc (mine l 0)) from owns_keptN HO5.out (fun k hk => by
    simp [Value.ownBlock] at hk
    subst hk
    exact hc6.chg.block _ hq5 HNQ.out))
  have HS6 := Lib.hid hs6'
  have HB6 := Lib.hid hb6
  have HG6 := Lib.hid hc6.g
  have HTO := Lib.hid htot
  clear hs6 hs6' hc6 hb6 ho6 hq5 htot HAP HBW5 HNQ HO5 HO2
  go_wp2_with fail
  go_loopw [27] (fun iv wr => ∃ i : Nat, i ≤ n ∧ iv = .int .i64 i ∧ StAt wr 0 M' H3 (0 + 5 * n) ∧ wr.ownsRow w2.heap.size 51 4 (.slice (some ⟨q, 0, none⟩) (n + 1) cap) (n + 1) (mutc (mine l i)) ∧ Below w.heap.size w wr) (fun iv _ => n - (intOf iv).toNat)
  case atStart => exact ⟨0, by omega, rfl, HS6.out, HO6.out, HB6.out⟩
  case round =>
    clear HS6 HO6 HB6
    obtain ⟨i, hin, rfl, hst, hrow, hbl⟩ := hrel
    by_cases hil : i < n
    · obtain ⟨m, hmi⟩ : ∃ m, l[i]? = some m := ⟨_, List.getElem?_eq_getElem (by omega)⟩
      have hlr := HL.out.below hbl
      obtain ⟨b, off, rfl, hbB, hcc⟩ := hlr.at_.resolve_left (by omega)
      obtain ⟨y0, y1, y2, y3⟩ := hcc i m hmi
      obtain ⟨k0, k1, k2, k3⟩ := mutc_at (mine_at hmi)
      obtain ⟨_, _, he, hqB, hqc⟩ := own_cells hrow (by omega)
      injection he with he _ _
      injection he with he
      injection he with he
      subst he
      have y0 : wr.drew.cell? ⟨b, off + i * 4, none⟩ = some (.bool m.d) := y0
      have y1 : wr.drew.cell? ⟨b, off + i * 4 + 1, none⟩ = some (.string m.t.o) := y1
      have y2 : wr.drew.cell? ⟨b, off + i * 4 + 2, none⟩ = some (.string m.t.r) := y2
      have y3 : wr.drew.cell? ⟨b, off + i * 4 + 3, none⟩ = some (.string m.t.u) := y3
      have x0 : wr.drew.cell? ⟨q, i * 4, none⟩ = some (.bool m.d) := hqc _ _ k0
      have x1 : wr.drew.cell? ⟨q, i * 4 + 1, none⟩ = some (.string m.t.o) := hqc _ _ k1
      have x2 : wr.drew.cell? ⟨q, i * 4 + 2, none⟩ = some (.string m.t.r) := hqc _ _ k2
      have x3 : wr.drew.cell? ⟨q, i * 4 + 3, none⟩ = some (.string m.t.u) := hqc _ _ k3
      have w0' : wr.cell? ⟨q, i * 4, none⟩ = some (.bool m.d) := x0
      have w1' : wr.cell? ⟨q, i * 4 + 1, none⟩ = some (.string m.t.o) := x1
      have w2' : wr.cell? ⟨q, i * 4 + 2, none⟩ = some (.string m.t.r) := x2
      have w3' : wr.cell? ⟨q, i * 4 + 3, none⟩ = some (.string m.t.u) := x3
      have g0 : wr.frozen? ⟨q, i * 4, none⟩ = false := hrow.frozenAt _
      have g1 : wr.frozen? ⟨q, i * 4 + 1, none⟩ = false := hrow.frozenAt _
      have g2 : wr.frozen? ⟨q, i * 4 + 2, none⟩ = false := hrow.frozenAt _
      have g3 : wr.frozen? ⟨q, i * 4 + 3, none⟩ = false := hrow.frozenAt _
      have f0 : wr.drew.frozen? ⟨q, i * 4, none⟩ = false := hrow.frozenAt _
      have f1 : wr.drew.frozen? ⟨q, i * 4 + 1, none⟩ = false := hrow.frozenAt _
      have f2 : wr.drew.frozen? ⟨q, i * 4 + 2, none⟩ = false := hrow.frozenAt _
      have f3 : wr.drew.frozen? ⟨q, i * 4 + 3, none⟩ = false := hrow.frozenAt _
      have hst4 := owns_store4 (w := wr) hrow (i := i) (by rw [mine_length (by omega)]; omega) muZ
      rw [mine_next hmi] at hst4
      have hq2' := hq2
      have HST := Lib.hid hst
      have HN := Lib.hid hst4
      have HBL := Lib.hid hbl
      have hil2 : (i : Int) < (n : Int) := by omega
      have hi5 : i ≤ 1048576 := by omega
      have hcp : (i : Int) < ((n + 1 : Nat) : Int) := by omega
      have HQ2 := Lib.hid (show w.heap.size ≤ q by have := HS2W.out; omega)
      clear hlr hcc hmi k0 k1 k2 k3 hqB hqc hrow hst4 hst hbl hbB
      go_upto_region 9 with fail
      go_region
      clear y0 y1 y2 y3
      go_wp2_with fail
      clear x0 x1 x2 x3 f0 f1 f2 f3 w0' w1' w2' w3' g0 g1 g2 g3
      go_roundw
      case rel =>
        refine ⟨i + 1, by omega, by go_num, HST.out.chg (P := fun b => b = q) ((((((Chg.refl wr (fun b => b = q)).set rfl _ _).set rfl _ _).set rfl _ _).set rfl _ _).drew) (fun b hb e => HNQ3.out (e ▸ hb)), owns_keptN HN.out (fun _ _ => rfl), ?_⟩
        exact bell_up ((((HBL.out.setCell (p := ⟨q, i * 4, none⟩) HQ2.out _).setCell (p := ⟨q, i * 4 + 1, none⟩) HQ2.out _).setCell (p := ⟨q, i * 4 + 2, none⟩) HQ2.out _).setCell (p := ⟨q, i * 4 + 3, none⟩) HQ2.out _) (below_drew1 _)
      case measure => simp [intOf]; omega
    · obtain rfl : i = n := by omega
      have HST := Lib.hid hst
      have HBL := Lib.hid hbl
      obtain ⟨_, _, he, hqB, hqc⟩ := own_cells hrow (by omega)
      injection he with he e2 e3
      clear e2 e3
      injection he with he
      injection he with he
      subst he
      obtain ⟨_, k1, k2, k3⟩ := mutc_at (show (mine l i)[i]? = some muX by rw [← hlen]; exact mine_last l)
      have HHD := Lib.hid (fun W (hW : Below wr.heap.size wr W) => (show W.cell? ⟨q, i * 4 + 1, none⟩ = some (.string (tpU txX).o) ∧ W.cell? ⟨q, i * 4 + 2, none⟩ = some (.string (tpU txX).r) ∧ W.cell? ⟨q, i * 4 + 3, none⟩ = some (.string (tpU txX).u) from
        ⟨(hW.cell (p := ⟨q, i * 4 + 1, none⟩) hqB).trans (hqc _ _ k1), (hW.cell (p := ⟨q, i * 4 + 2, none⟩) hqB).trans (hqc _ _ k2), (hW.cell (p := ⟨q, i * 4 + 3, none⟩) hqB).trans (hqc _ _ k3)⟩))
      have hi5 : i ≤ 1048576 := hn
      have hcp1 : (0 : Int) ≤ (i : Int) + 1 ∧ (i : Int) + 1 ≤ (cap : Int) := by omega
      have hwi : IntKind.i64.wrap ((i : Int) + 1) = (i : Int) + 1 := IntWalk.i64_in _ (by omega)
      have htn : ((i : Int) + 1).toNat = i + 1 := by omega
      have hix : (i : Int) < ((i + 1 : Nat) : Int) := by omega
      have hix2 : (i : Int) < (i : Int) + 1 := by omega
      have HTP := Lib.hid (fun W => viewer_any W txX)
      clear hst hrow hbl hqB hqc k1 k2 k3
      go_upto_region 13 with fail
      go_region_held3 (fun W : World => W.cell? ⟨q, i * 4 + 1, none⟩ = some (.string (tpU txX).o) ∧ W.cell? ⟨q, i * 4 + 2, none⟩ = some (.string (tpU txX).r) ∧ W.cell? ⟨q, i * 4 + 3, none⟩ = some (.string (tpU txX).u)) (first | assumption | with_reducible exact HHD.out _ (below_drewN _ 1)) (first
        | (go_at_call 21; refine (HTP.out _).mono ?_; rintro e w7 ⟨rfl, hb7⟩
           have hb8 := bell_up (below_drewN wr 1) hb7
           have hc8 := HHD.out w7 hb8
           have HB7 := Lib.hid hb8
           clear hb7 hb8))
      all_goals
        have HS7 := Lib.hid (HST.out.below HB7.out)
        have HBW := Lib.hid (bell_up HBL.out HB7.out)
        have hr7 := rows_any HS7.out (by omega) (by have := HTO.out; omega)
        rw [HG6.out] at hr7
        have HR7 := Lib.hid hr7
        have HOW := Lib.hid (fun b (hb : H3.own b) => HS7.out.raw.own_lt hb)
        clear hr7 hc8 HST HBL HB7
        go_wp2_with fail
        refine HR7.out.mono ?_
        rintro _ w8 ⟨v6, R, rfl, hpr, hRl, hrr, hb8⟩
        obtain ⟨ra, rc, rfl, _, _⟩ := owned_anyE hrr
        have hRn : R.length ≤ 1048576 := by rw [hRl]; have := HTO.out; omega
        have HPR := Lib.hid hpr
        have HS8 := Lib.hid (HS7.out.below hb8)
        have HB8 := Lib.hid (bell_up HBW.out hb8)
        have HRR := Lib.hid hrr
        have hsz8 : w7.heap.size ≤ w8.heap.size := hb8.size
        obtain ⟨hnr, hnw⟩ := row_news (owns_keptN hrr (fun k hk => (below_alloc w8 (.cells #[] 46)).block k (hrr.lt k hk).2))
        have HNW := Lib.hid hnw
        have HW0 := Lib.hid (show (w8.alloc (.cells #[] 46)).ownsRow w8.heap.size 46 5 (.slice (some ⟨w8.heap.size, 0, none⟩) 0 0) 0 [] from World.ownsRow_made w8 #[] 0 (Nat.le_refl _) (by simp [maxLen]) (by simp))
        obtain ⟨r0, hr0, rz0, rz1, rz2⟩ := info_parts infoR
        have hm1 : 0 + R.length ≤ maxLen := by unfold maxLen; omega
        have hm2 : (0 + R.length) * 64 ≤ 140737488355328 := by omega
        have hone : ∀ u ∈ rwc R, u.oneCell' = true := by
          intro u hu
          obtain ⟨p, _, hp⟩ := List.mem_flatMap.1 hu
          simp at hp
          rcases hp with rfl | rfl | rfl | rfl | rfl <;> rfl
        clear hpr hrr hb8 hnw HR7 hRl
        go_wp2_with (at_builtin; refine wpList_append_at_any _ rfl (.tmp 58) (.tmp 59) 31 rfl w8.heap.size 46 r0 (.agg #[.string ⟨#[]⟩, .string ⟨#[]⟩, .string ⟨#[]⟩, .int .i64 0, .int .i64 0]) 5 64 Try.underlying31 hr0 rz0 rz1 rz2 rfl (by decide) (.slice (some ⟨w8.heap.size, 0, none⟩) 0 0) 0 [] rfl HW0.out ra R.length rc (rwc R) rfl (by rw [rwc_length]) hnr HNW.out hone hm1 hm2 (by simp) ?_; intro vw w9 hown9 hgr9 hat9
                     have HW9 := Lib.hid (show w9.ownsRow w8.heap.size 46 5 vw R.length (rwc R) from by simpa using hown9)
                     have HB9 := Lib.hid (show Below w8.heap.size w8 w9 from (below_alloc w8 (.cells #[] 46)).grown hgr9 (by simp) (fun k e => by simp [Value.ownBlock] at e; omega))
                     clear hown9 hgr9 hat9)
        have HI9 := Lib.hid (show ∃ xs, w9.ownsRow w7.heap.size 46 5 (.slice ra R.length rc) R.length xs ∧ w9.ownsRow w8.heap.size 46 5 vw R.length (rwc R) ∧ StAt w9 0 M' H3 (0 + 5 * i) ∧ Below w.heap.size w w9 from
          ⟨_, owns_keptN HRR.out (fun k hk => HB9.out.block k (HRR.out.lt k hk).2), HW9.out, HS8.out.below HB9.out, bell_up HB8.out HB9.out⟩)
        have HBB := Lib.hid (fun k (hk : (Value.slice ra R.length rc).ownBlock = some k) => HRR.out.lt k hk)
        clear HW0 HNW HW9 HB9 HRR HS8 HB8 hnr hone hm1 hm2
        go_loopw [63] (fun iv wr => ∃ k : Nat, k ≤ R.length ∧ iv = .int .i64 k ∧ ∃ xs, wr.ownsRow w7.heap.size 46 5 (.slice ra R.length rc) R.length xs ∧ wr.ownsRow w8.heap.size 46 5 vw R.length (rwc R) ∧ StAt wr 0 M' H3 (0 + 5 * i) ∧ Below w.heap.size w wr) (fun iv _ => R.length - (intOf iv).toNat)
        case atStart => exact ⟨0, by omega, rfl, HI9.out⟩
        case round =>
          clear HI9
          obtain ⟨k, hkn, rfl, xs, hxr, hwr, hst, hbl⟩ := hrel
          by_cases hkl : k < R.length
          · have hxl : xs.length = R.length * 5 := hxr.1
            obtain ⟨r1, c1, he, hrB, hrc⟩ := own_cells hxr (by omega)
            injection he with he e2 e3
            clear e2
            subst he e3
            have hxk : ∀ j, j < 5 → ∃ u, xs[k * 5 + j]? = some u := fun j hj => ⟨_, List.getElem?_eq_getElem (by omega)⟩
            obtain ⟨u0, hu0⟩ := hxk 0 (by omega)
            obtain ⟨u1, hu1⟩ := hxk 1 (by omega)
            obtain ⟨u2, hu2⟩ := hxk 2 (by omega)
            obtain ⟨u3, hu3⟩ := hxk 3 (by omega)
            obtain ⟨u4, hu4⟩ := hxk 4 (by omega)
            have x0 : wr.cell? ⟨r1, k * 5, none⟩ = some u0 := hrc _ _ hu0
            have x1 : wr.cell? ⟨r1, k * 5 + 1, none⟩ = some u1 := hrc _ _ hu1
            have x2 : wr.cell? ⟨r1, k * 5 + 2, none⟩ = some u2 := hrc _ _ hu2
            have x3 : wr.cell? ⟨r1, k * 5 + 3, none⟩ = some u3 := hrc _ _ hu3
            have x4 : wr.cell? ⟨r1, k * 5 + 4, none⟩ = some u4 := hrc _ _ hu4
            have f0 : wr.frozen? ⟨r1, k * 5, none⟩ = false := hxr.frozenAt _
            have f1 : wr.frozen? ⟨r1, k * 5 + 1, none⟩ = false := hxr.frozenAt _
            have f2 : wr.frozen? ⟨r1, k * 5 + 2, none⟩ = false := hxr.frozenAt _
            have f3 : wr.frozen? ⟨r1, k * 5 + 3, none⟩ = false := hxr.frozenAt _
            have f4 : wr.frozen? ⟨r1, k * 5 + 4, none⟩ = false := hxr.frozenAt _
            have hlr := HBB.out r1 rfl
            have HQ := Lib.hid (show w.heap.size ≤ r1 by have := HBW.out.size; omega)
            have HNO := Lib.hid (show ¬ H3.own r1 from fun ho => by have := HOW.out _ ho; omega)
            have HXR := Lib.hid hxr
            have HWR := Lib.hid hwr
            have HST := Lib.hid hst
            have HBL := Lib.hid hbl
            have HNE := Lib.hid (show ∀ b, vw.ownBlock = some b → b ≠ r1 from fun b hb e => by have := (hwr.lt b hb).1; omega)
            have hkl2 : (k : Int) < (R.length : Int) := by omega
            clear hxr hwr hst hbl hrB hrc hxk hu0 hu1 hu2 hu3 hu4 hlr hxl
            go_wp2_with fail
            clear x0 x1 x2 x3 x4 f0 f1 f2 f3 f4
            go_roundw
            case rel =>
              refine ⟨k + 1, by omega, by go_num, _, (((((HXR.out.stored _ _).1.stored _ _).1.stored _ _).1.stored _ _).1.stored _ _).1, owns_keptN HWR.out (fun b hb => ?_), HST.out.chg (P := fun b => b = r1) (((((((Chg.refl wr (fun b => b = r1)).set rfl _ _).set rfl _ _).set rfl _ _).set rfl _ _).set rfl _ _)) (fun b hb e => HNO.out (e ▸ hb)), ?_⟩
              · have hne := HNE.out b hb
                rw [Below.heap_setCell _ ⟨r1, _, none⟩ _ b hne, Below.heap_setCell _ ⟨r1, _, none⟩ _ b hne, Below.heap_setCell _ ⟨r1, _, none⟩ _ b hne, Below.heap_setCell _ ⟨r1, _, none⟩ _ b hne, Below.heap_setCell _ ⟨r1, _, none⟩ _ b hne]
              · exact (((((HBL.out.setCell (p := ⟨r1, k * 5, none⟩) HQ.out _).setCell (p := ⟨r1, k * 5 + 1, none⟩) HQ.out _).setCell (p := ⟨r1, k * 5 + 2, none⟩) HQ.out _).setCell (p := ⟨r1, k * 5 + 3, none⟩) HQ.out _).setCell (p := ⟨r1, k * 5 + 4, none⟩) HQ.out _)
            case measure => simp [intOf]; omega
          · obtain rfl : k = R.length := by omega
            have HWR := Lib.hid hwr
            have HBL := Lib.hid hbl
            have hr9 := rows_any hst (by omega) (by have := HTO.out; omega)
            rw [HG6.out] at hr9
            have HR9 := Lib.hid hr9
            clear hr9 hxr hwr hst hbl
            go_wp2_with fail
            refine HR9.out.mono ?_
            rintro _ w10 ⟨v10, R2, rfl, hp2, _, hr2, hb10⟩
            have hR : R2 = R := Rep.unique ordT hp2 HPR.out
            rw [hR] at hr2
            have HSM := Lib.hid (rsame_any hr2 (owns_keptN HWR.out (fun b hb => hb10.block b (HWR.out.lt b hb).2)) (by omega))
            have HB10 := Lib.hid (bell_up HBL.out hb10)
            clear hp2 hr2 hb10 hR HR9
            go_wp2_with fail
            refine HSM.out.mono ?_
            rintro _ w11 ⟨rfl, hb11⟩
            have HB11 := Lib.hid (bell_up HB10.out hb11)
            clear hb11 HSM
            go_wp2
            go_ret
            exact ⟨rfl, HB11.out⟩
end Go.Proofs.Ytilmpkmojfmlkaa
