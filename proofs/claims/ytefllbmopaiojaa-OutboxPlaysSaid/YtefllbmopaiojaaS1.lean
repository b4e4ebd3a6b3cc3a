/- Seen: NewSeen, First, Times. -/
import Derived.Test.YtefllbmopaiojaaKo10II
import Derived.Test.YtefllbmopaiojaaOMru
namespace Go.Proofs.Ytefllbmopaiojaa.KI
open Go.RowKit Go.Proofs.Ytefllbmopaiojaa
open Go.Maps (Keyed)

/-- Keys and values, without the blocks. -/
def kv (es : List En) : List (Int × Int) := es.map fun t => (t.2.1, t.2.2)
def less (L : List (Int × Int)) (k : Int) : List (Int × Int) := L.filter fun t => decide (t.1 ≠ k)
theorem kv_keys (es : List En) : (kv es).map (·.1) = es.map (·.2.1) := by simp [kv]
theorem less_split {e1 e2 : List En} {e : Nat} {k v : Int} (h : ((e1 ++ (e, k, v) :: e2).map (·.2.1)).Nodup) : less (kv (e1 ++ (e, k, v) :: e2)) k = kv (e1 ++ e2) := by
  rw [List.map_append, List.map_cons] at h
  have h1 := List.nodup_append.1 h
  unfold less kv
  rw [List.map_append, List.map_cons, List.filter_append, List.filter_cons, List.map_append]
  rw [List.filter_eq_self.2 (fun x hx => by
    obtain ⟨t, ht, rfl⟩ := List.mem_map.1 hx
    simp
    intro e
    exact h1.2.2 t.2.1 (List.mem_map.2 ⟨t, ht, rfl⟩) k (by simp) e), List.filter_eq_self.2 (fun x hx => by
    obtain ⟨t, ht, rfl⟩ := List.mem_map.1 hx
    simp
    intro e
    exact (List.nodup_cons.1 h1.2.1).1 (List.mem_map.2 ⟨t, ht, e⟩))]
  simp
theorem less_none {L : List (Int × Int)} {k : Int} (h : k ∉ L.map (·.1)) : less L k = L := by
  unfold less
  rw [List.filter_eq_self]
  intro x hx
  simp
  rintro rfl
  exact h (List.mem_map.2 ⟨x, hx, rfl⟩)
theorem kv_split {es : List En} {k v : Int} (h : (k, v) ∈ kv es) : ∃ e1 e e2, es = e1 ++ (e, k, v) :: e2 := by
  obtain ⟨⟨e, k', v'⟩, ht, he⟩ := List.mem_map.1 h
  injection he with h1 h2
  subst h1 h2
  obtain ⟨e1, e2, rfl⟩ := List.append_of_mem ht
  exact ⟨e1, e, e2, rfl⟩
theorem kv_len (es : List En) : (kv es).length = es.length := by simp [kv]
/-- Seen lies in block s, its cache in g and b. -/
structure SAt (w : World) (B s g b size : Nat) (es : List En) (f m : Int) : Prop where
  own : Whole w s 78 #[.pointer (some ⟨g, 0, none⟩)]
  cat : CAt w B g b size es f m
  ges : B ≤ s
def SB (s g b : Nat) (es : List En) (k : Nat) : Prop := k = s ∨ CB g b es k
theorem SAt.apart {w : World} {B s g b size : Nat} {es : List En} {f m : Int} (h : SAt w B s g b size es f m) : ¬ CB g b es s := by
  obtain ⟨N, hN, _⟩ := h.cat.ring.ex
  obtain ⟨kk, vv, hkn⟩ := hN.knot
  obtain ⟨mm, hm, _⟩ := h.cat.map
  rintro (h1 | h1 | h1)
  · exact whole_ne h.own hkn (by decide) h1
  · exact hm.ne h.own h1
  · obtain ⟨⟨p, k', v'⟩, hp, h2⟩ := List.mem_map.1 h1
    exact whole_ne (hN.ent p k' v' hp) h.own (by decide) h2
theorem SAt.step {w w' : World} {B s g b size : Nat} {es es' : List En} {f m f' m' : Int} (h : SAt w B s g b size es f m) (hc : CAt w' B g b size es' f' m') (hg : Chg w w' (CB g b es)) : SAt w' B s g b size es' f' m' :=
  ⟨h.own.kept (hg.block s h.own.lt h.apart), hc, h.ges⟩
theorem CAt.geCB {w : World} {B g b size : Nat} {es : List En} {f m : Int} (h : CAt w B g b size es f m) {k : Nat} (hk : CB g b es k) : B ≤ k := by
  rcases hk with h1 | h1 | h1
  · rw [h1]; exact h.geg
  · rw [h1]; exact h.geb
  · exact h.gep k h1
theorem SAt.below {w w' : World} {B s g b size : Nat} {es : List En} {f m : Int} (h : SAt w B s g b size es f m) (hb : Below w.heap.size w w') : SAt w' B s g b size es f m :=
  ⟨h.own.kept (hb.block _ h.own.lt), h.cat.below hb, h.ges⟩
set_option maxHeartbeats 1000000 in
theorem newseen_bad (r : Int) (w : World) (h : r < 1 ∨ 4096 < r) :
    Calls Try.prog 18 #[.int .i64 r] w fun e w' => e = .returned (.tuple #[.pointer none, .int .i64 1]) ∧ w = w' := by
  have H := Lib.hid h
  clear h
  go_enter Try.func18, Try.ntmps18
  go_wp2_with fail
  refine (new_bad r w H.out).mono ?_
  rintro e w1 ⟨rfl, rfl⟩
  go_wp2
  go_ret2
  exact ⟨rfl, rfl⟩
set_option maxHeartbeats 1000000 in
theorem newseen_good (B n : Nat) (w : World) (h1 : 1 ≤ n) (h2 : n ≤ 4096) (hB : B ≤ w.heap.size) :
    Calls Try.prog 18 #[.int .i64 (n : Int)] w fun e w' => ∃ s g b, e = .returned (.tuple #[.pointer (some ⟨s, 0, none⟩), .int .i64 0]) ∧ SAt w' B s g b n [] 0 0 ∧ Below w.heap.size w w' ∧ w.heap.size ≤ b := by
  have HN := Lib.hid (new_good B n w h1 h2 hB)
  go_enter Try.func18, Try.ntmps18
  go_wp2_with fail
  refine HN.out.mono ?_
  rintro e w1 ⟨g, b, rfl, hc, hg, hb, hbl⟩
  have HC := Lib.hid hc
  have HB := Lib.hid hbl
  have HG := Lib.hid hb
  have hz := hbl.size
  clear hc hg hb hbl
  go_wp2
  go_ret2
  exact ⟨_, g, b, rfl, ⟨heap_alloc_new _ _, HC.out.below (below_alloc _ _), by omega⟩, HB.out.trans ((below_alloc _ _).mono hz), HG.out⟩
set_option maxHeartbeats 1000000 in
theorem times_there {B s g b size : Nat} {es : List En} {k v f m : Int} (w : World) (h : SAt w B s g b size es f m) (hk : (k, v) ∈ kv es) (hf : 0 ≤ f ∧ f ≤ 4611686018427387904) :
    Calls Try.prog 20 #[.pointer (some ⟨s, 0, none⟩), .int .i64 k] w fun x w' => x = .returned (.int .i64 v) ∧ (∃ es', SAt w' B s g b size es' (f + 1) m ∧ kv es' = (k, v) :: less (kv es) k) ∧ Chg w w' (CB g b es) := by
  obtain ⟨e1, e, e2, rfl⟩ := kv_split hk
  have HG := Lib.hid (Get_there w h.cat hf)
  have c0 : w.cell? ⟨s, 0, none⟩ = some (.pointer (some ⟨g, 0, none⟩)) := by rw [h.own.cell]; rfl
  have H := Lib.hid h
  have HL := Lib.hid (less_split h.cat.keys)
  clear h hk
  go_enter Try.func20, Try.ntmps20
  go_wp2_with fail
  refine HG.out.mono ?_
  rintro x w1 ⟨rfl, hc, hg⟩
  have HS := Lib.hid (H.out.step hc hg)
  have HC := Lib.hid hg
  clear hc hg c0
  go_wp2
  go_ret
  exact ⟨rfl, ⟨_, HS.out, by rw [HL.out]; rfl⟩, HC.out⟩
def FirstPost (w : World) (B s g b size : Nat) (es : List En) (k v : Int) (old : Bool) (f m : Int) (x : Ending) (w' : World) : Prop :=
  x = .returned (.bool !old) ∧ (∃ es', SAt w' B s g b size es' (if old then f + 1 else f) (if old then m else m + 1) ∧ kv es' = (k, v) :: (if old then less (kv es) k else if es.length = size then (kv es).dropLast else kv es)) ∧ Chg w w' (fun q => CB g b es q)
set_option maxHeartbeats 1000000 in
theorem first_there {B s g b size : Nat} {es : List En} {k v f m : Int} (w : World) (h : SAt w B s g b size es f m) (hk : (k, v) ∈ kv es) (hv : 0 ≤ v ∧ v ≤ 4611686018427387904) (hf : 0 ≤ f ∧ f ≤ 4611686018427387904) (hB : B ≤ w.heap.size) :
    Calls Try.prog 19 #[.pointer (some ⟨s, 0, none⟩), .int .i64 k] w fun x w' => FirstPost w B s g b size es k (v + 1) true f m x w' := by
  obtain ⟨e1, e, e2, rfl⟩ := kv_split hk
  have hkr := h.cat.kr e k v (by simp)
  have HG := Lib.hid (Get_there w h.cat hf)
  have c0 : w.cell? ⟨s, 0, none⟩ = some (.pointer (some ⟨g, 0, none⟩)) := by rw [h.own.cell]; rfl
  have H := Lib.hid h
  have HL := Lib.hid (less_split h.cat.keys)
  have hadd : IntKind.i64.wrap (v + 1) = v + 1 := IntWalk.i64_in _ (by omega)
  clear h hk
  go_enter Try.func19, Try.ntmps19
  go_wp2_with fail
  refine HG.out.mono ?_
  rintro x w1 ⟨rfl, hc, hg⟩
  have HS := Lib.hid (H.out.step hc hg)
  have HC := Lib.hid hg
  have HP := Lib.hid (Put_any k (v + 1) w1 hc hkr (Nat.le_trans hB hg.size))
  have c1 : w1.cell? ⟨s, 0, none⟩ = some (.pointer (some ⟨g, 0, none⟩)) := by rw [HS.out.own.cell]; rfl
  clear hc hg c0
  go_wp2_with fail
  refine HP.out.mono ?_
  rintro x w2 ⟨rfl, es', hc, hp, hg⟩
  have HS2 := Lib.hid (HS.out.step hc hg)
  have hkv : kv es' = (k, v + 1) :: kv (e1 ++ e2) := by
    rcases hp with ⟨a1, a, a2, v0, he, rfl⟩ | ⟨hn, _⟩
    · have h2 := less_split (e1 := []) (e := e) (k := k) (v := v) (e2 := e1 ++ e2) HS.out.cat.keys
      have hks : ((a1 ++ (a, k, v0) :: a2).map (·.2.1)).Nodup := by rw [← he]; exact HS.out.cat.keys
      have h3 := less_split hks
      rw [← he] at h3
      rw [List.nil_append, List.nil_append] at h2
      rw [h2] at h3
      rw [h3]
      rfl
    · exact absurd (by simp) hn
  have HC2 := Lib.hid (HC.out.trans (hg.mono (Q := CB g b (e1 ++ (e, k, v) :: e2)) (fun q _ hq => by
    rcases hq with h1 | h1 | h1
    · exact .inl h1
    · exact .inr (.inl h1)
    · refine .inr (.inr ?_)
      rw [List.map_append, List.map_cons, List.mem_append, List.mem_cons]
      rw [List.map_cons, List.map_append, List.mem_cons, List.mem_append] at h1
      rcases h1 with h1 | h1 | h1
      · exact .inr (.inl h1)
      · exact .inl h1
      · exact .inr (.inr h1))))
  have HKV := Lib.hid hkv
  have HQ := Lib.hid (show FirstPost w B s g b size (e1 ++ (e, k, v) :: e2) k (v + 1) true f m (.returned (.bool false)) w2 from ⟨rfl, ⟨es', HS2.out, by rw [HKV.out, if_pos rfl, HL.out]⟩, HC2.out⟩)
  clear hc hp hg hkv c1
  go_wp2
  go_ret
  exact HQ.out
theorem kv_dropLast (es : List En) : (kv es).dropLast = kv es.dropLast := by
  unfold kv
  rw [List.dropLast_eq_take, List.dropLast_eq_take, List.map_take, List.length_map]
set_option maxHeartbeats 1000000 in
theorem first_none {B s g b size : Nat} {es : List En} {k f m : Int} (w : World) (h : SAt w B s g b size es f m) (hkr : -9223372036854775808 ≤ k ∧ k ≤ 9223372036854775807) (hk : k ∉ (kv es).map (·.1)) (hm : 0 ≤ m ∧ m ≤ 4611686018427387904) (hB : B ≤ w.heap.size) :
    Calls Try.prog 19 #[.pointer (some ⟨s, 0, none⟩), .int .i64 k] w fun x w' => FirstPost w B s g b size es k 1 false f m x w' := by
  rw [kv_keys] at hk
  have HG := Lib.hid (Get_none k w h.cat hkr hk hm)
  have c0 : w.cell? ⟨s, 0, none⟩ = some (.pointer (some ⟨g, 0, none⟩)) := by rw [h.own.cell]; rfl
  have H := Lib.hid h
  have HK := Lib.hid hk
  clear h hk
  go_enter Try.func19, Try.ntmps19
  go_wp2_with fail
  refine HG.out.mono ?_
  rintro x w1 ⟨rfl, hc, hg⟩
  have HS := Lib.hid (H.out.step hc hg)
  have HC := Lib.hid hg
  have HP := Lib.hid (Put_any k 1 w1 hc hkr (Nat.le_trans hB hg.size))
  have c1 : w1.cell? ⟨s, 0, none⟩ = some (.pointer (some ⟨g, 0, none⟩)) := by rw [HS.out.own.cell]; rfl
  clear hc hg c0
  go_wp2_with fail
  refine HP.out.mono ?_
  rintro x w2 ⟨rfl, es', hc, hp, hg⟩
  have HS2 := Lib.hid (HS.out.step hc hg)
  have hkv : kv es' = (k, 1) :: (if es.length = size then (kv es).dropLast else kv es) := by
    rcases hp with ⟨a1, a, a2, v0, rfl, _⟩ | ⟨_, e, _, rfl⟩
    · exact absurd (by simp) HK.out
    · rw [kv_dropLast]
      show (k, 1) :: kv _ = _
      split <;> rfl
  have HC2 := Lib.hid (HC.out.trans hg)
  have HKV := Lib.hid hkv
  have HQ := Lib.hid (show FirstPost w B s g b size es k 1 false f m (.returned (.bool true)) w2 from ⟨rfl, ⟨es', HS2.out, HKV.out⟩, HC2.out⟩)
  clear hc hp hg hkv c1
  go_wp2
  go_ret
  exact HQ.out
end Go.Proofs.Ytefllbmopaiojaa.KI
