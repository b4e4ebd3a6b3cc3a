/- OutboxPlays: the outbox beside the document's; each pair of calls. -/
import Derived.Test.YtefllbmopaiojaaOP2
import Derived.Test.YtefllbmopaiojaaOpsIn
namespace Go.Proofs.Ytefllbmopaiojaa
open Go.RowKit

/-- A thing is the document's item. -/
def Rel1 (p now : Nat) (x : OI.En) (y : It) : Prop := x.k = y.1 ∧ x.v = y.2.1 ∧ 0 ≤ y.2.2 ∧ y.2.2 ≤ now ∧ ((x.t : Int) + ((now : Int) - y.2.2)) % (p : Int) = 0
def Mt (p now : Nat) : List OI.En → List It → Prop
  | [], [] => True
  | x :: es, y :: l => Rel1 p now x y ∧ Mt p now es l
  | _, _ => False
theorem Mt.len {p now : Nat} : ∀ {es : List OI.En} {l : List It}, Mt p now es l → es.length = l.length
  | [], [], _ => rfl
  | _ :: _, _ :: _, h => congrArg (· + 1) (Mt.len h.2)
theorem Mt.keys {p now : Nat} : ∀ {es : List OI.En} {l : List It}, Mt p now es l → es.map (·.k) = l.map (·.1)
  | [], [], _ => rfl
  | _ :: _, _ :: _, h => by rw [List.map_cons, List.map_cons, h.1.1, Mt.keys h.2]
theorem Mt.since {p now : Nat} : ∀ {es : List OI.En} {l : List It}, Mt p now es l → ∀ y ∈ l, 0 ≤ y.2.2 ∧ y.2.2 ≤ now
  | [], [], _, _, hy => by cases hy
  | _ :: _, _ :: _, h, y, hy => by
    rcases List.mem_cons.1 hy with rfl | hy
    · exact ⟨h.1.2.2.1, h.1.2.2.2.1⟩
    · exact Mt.since h.2 y hy
theorem Mt.split {p now : Nat} : ∀ {e1 : List OI.En} {x : OI.En} {e2 : List OI.En} {l : List It}, Mt p now (e1 ++ x :: e2) l → ∃ l1 y l2, l = l1 ++ y :: l2 ∧ Mt p now e1 l1 ∧ Rel1 p now x y ∧ Mt p now e2 l2
  | [], _, _, y :: l, h => ⟨[], y, l, rfl, trivial, h.1, h.2⟩
  | z :: e1, x, e2, y :: l, h => by
    obtain ⟨l1, y', l2, rfl, h1, h2, h3⟩ := Mt.split (e1 := e1) h.2
    exact ⟨y :: l1, y', l2, rfl, ⟨h.1, h1⟩, h2, h3⟩
theorem Mt.append {p now : Nat} : ∀ {e1 e2 : List OI.En} {l1 l2 : List It}, Mt p now e1 l1 → Mt p now e2 l2 → Mt p now (e1 ++ e2) (l1 ++ l2)
  | [], _, [], _, _, h => h
  | _ :: _, _, _ :: _, _, h, h2 => ⟨h.1, Mt.append h.2 h2⟩
theorem Mt.filter {p now : Nat} (k : ByteArray) : ∀ {es : List OI.En} {l : List It}, Mt p now es l → Mt p now (es.filter (fun x => !decide (x.k = k))) (keepK k l)
  | [], [], _ => trivial
  | x :: es, y :: l, h => by
    have ih := Mt.filter k h.2
    have e := h.1.1
    unfold keepK at ih ⊢
    rw [List.filter_cons, List.filter_cons, e]
    by_cases hk : y.1 = k
    · simp only [hk, decide_true, Bool.not_true, Bool.false_eq_true, if_false]
      exact ih
    · simp only [hk, decide_false, Bool.not_false, if_true]
      exact ⟨h.1, ih⟩
theorem Mt.tick {p now : Nat} (hp : 1 ≤ p) : ∀ {es : List OI.En} {l : List It}, Mt p now es l → Mt p (now + 1) (es.map (OI.tk p)) l
  | [], [], _ => trivial
  | x :: es, y :: l, h => by
    refine ⟨⟨h.1.1, h.1.2.1, h.1.2.2.1, by have := h.1.2.2.2.1; omega, ?_⟩, Mt.tick hp h.2⟩
    have h5 := h.1.2.2.2.2
    show (((if x.t = 0 then p - 1 else x.t - 1 : Nat) : Int) + (((now + 1 : Nat) : Int) - y.2.2)) % (p : Int) = 0
    split
    · rename_i h0
      rw [show ((p - 1 : Nat) : Int) + (((now + 1 : Nat) : Int) - y.2.2) = ((x.t : Int) + ((now : Int) - y.2.2)) + (p : Int) by omega, Int.add_emod_right]
      exact h5
    · rw [show ((x.t - 1 : Nat) : Int) + (((now + 1 : Nat) : Int) - y.2.2) = (x.t : Int) + ((now : Int) - y.2.2) by omega]
      exact h5
theorem Mt.due {p now : Nat} : ∀ {es : List OI.En} {l : List It}, Mt p now es l → (∀ x ∈ es, x.t < p) → OI.due es = dueR now p l
  | [], [], _, _ => rfl
  | x :: es, y :: l, h, ht => by
    have ih := Mt.due h.2 (fun z hz => ht z (List.mem_cons_of_mem _ hz))
    have hx := ht x (by simp)
    obtain ⟨_, hv, h0, h1, h5⟩ := h.1
    have hiff : x.t = 0 ↔ ((now : Int) - y.2.2) % (p : Int) = 0 := by
      constructor
      · intro e
        rw [e] at h5
        simpa using h5
      · intro e
        have h6 := Int.add_emod (x.t : Int) ((now : Int) - y.2.2) (p : Int)
        rw [h5, e, Int.add_zero, Int.emod_emod_of_dvd _ (Int.dvd_refl _), Int.emod_eq_of_lt (by omega) (by omega)] at h6
        omega
    unfold OI.due dueR at ih ⊢
    rw [List.filter_cons, List.filter_cons]
    by_cases h0 : x.t = 0
    · rw [if_pos (by simp [h0]), if_pos (by simp [hiff.1 h0]), List.map_cons, List.map_cons, hv, ih]
    · rw [if_neg (by simp [h0]), if_neg (by simp; exact fun e => h0 (hiff.2 e)), ih]
theorem split_unique {k : ByteArray} : ∀ {l1 l1' : List It} {x x' : It} {l2 l2' : List It}, l1 ++ x :: l2 = l1' ++ x' :: l2' → k ∉ l1.map (·.1) → k ∉ l1'.map (·.1) → x.1 = k → x'.1 = k → l1 = l1' ∧ x = x' ∧ l2 = l2'
  | [], [], _, _, _, _, h, _, _, _, _ => by injection h with h1 h2; exact ⟨rfl, h1, h2⟩
  | [], y :: l1', x, _, _, _, h, _, h3, h4, _ => by
    injection h with h1 h2
    exact absurd (by rw [← h4, h1]; simp) h3
  | y :: l1, [], _, x', _, _, h, h2, _, _, h5 => by
    injection h with h1 h3
    exact absurd (by rw [← h5, ← h1]; simp) h2
  | y :: l1, z :: l1', _, _, _, _, h, h2, h3, h4, h5 => by
    injection h with h1 h6
    obtain ⟨e1, e2, e3⟩ := split_unique h6 (fun hm => h2 (List.mem_cons_of_mem _ hm)) (fun hm => h3 (List.mem_cons_of_mem _ hm)) h4 h5
    exact ⟨by rw [h1, e1], e2, e3⟩
theorem put_match {w : World} {p now size : Nat} {k : ByteArray} {v code code' : Int} {es es' : List OI.En} {l l' : List It} (h : Mt p now es l) (hn : (es.map (·.k)).Nodup) (h1 : OI.PutTo w size k v es es' code) (h2 : RPut (size : Int) k v now l l' code') : code = code' ∧ Mt p now es' l' := by
  have hk := h.keys
  have hl := h.len
  have hnew : ∀ q, Rel1 p now ⟨q, k, v, 0⟩ (k, v, (now : Int)) := fun q => ⟨rfl, rfl, by simp, by simp, by simp⟩
  rcases h1 with ⟨e1, y, e2, rfl, hyk, rfl, rfl⟩ | ⟨hni, hf, rfl, rfl⟩ | ⟨hni, hf, rfl, q, _, rfl⟩
  · obtain ⟨l1, z, l2, rfl, m1, m2, m3⟩ := h.split
    have hz : z.1 = k := by rw [← m2.1, hyk]
    have hn1 : k ∉ l1.map (·.1) := by
      rw [← m1.keys, ← hyk]
      rw [List.map_append, List.map_cons] at hn
      exact fun hm => (List.nodup_append.1 hn).2.2 _ hm _ (by simp) rfl
    rcases h2 with ⟨a1, x, a2, he, hxk, hna, rfl, rfl⟩ | ⟨hna, _⟩ | ⟨hna, _⟩
    · obtain ⟨rfl, _, rfl⟩ := split_unique he hn1 hna hz hxk
      exact ⟨rfl, m1.append (show Mt p now (_ :: e2) (_ :: l2) from ⟨by rw [hyk]; exact hnew _, m3⟩)⟩
    · exact absurd (List.mem_map.2 ⟨z, by simp, hz⟩) hna
    · exact absurd (List.mem_map.2 ⟨z, by simp, hz⟩) hna
  · rw [hk] at hni
    rcases h2 with ⟨a1, x, a2, rfl, hxk, _⟩ | ⟨_, _, rfl, rfl⟩ | ⟨_, hlt, _⟩
    · exact absurd (List.mem_map.2 ⟨x, by simp, hxk⟩) hni
    · exact ⟨rfl, h⟩
    · omega
  · rw [hk] at hni
    rcases h2 with ⟨a1, x, a2, rfl, hxk, _⟩ | ⟨_, hge, _⟩ | ⟨_, _, rfl, rfl⟩
    · exact absurd (List.mem_map.2 ⟨x, by simp, hxk⟩) hni
    · omega
    · exact ⟨rfl, h.append ⟨hnew _, trivial⟩⟩
theorem ack_match {p now : Nat} {es : List OI.En} {l : List It} (h : Mt p now es l) (k : ByteArray) : OI.hasK es k = decide ((keepK k l).length < l.length) := by
  have hk := h.keys
  rw [Bool.eq_iff_iff, OI.hasK_mem, hk, decide_eq_true_iff]
  unfold keepK
  constructor
  · intro hm
    obtain ⟨y, hy, rfl⟩ := List.mem_map.1 hm
    rcases Nat.lt_or_ge (l.filter (fun x => !decide (x.1 = y.1))).length l.length with h1 | h1
    · exact h1
    · have h2 := List.length_filter_eq_length_iff.1 (Nat.le_antisymm (List.length_filter_le _ _) h1) y hy
      simp at h2
  · intro hlt
    by_cases hm : k ∈ l.map (·.1)
    · exact hm
    · have : l.filter (fun x => !decide (x.1 = k)) = l := by
        rw [List.filter_eq_self]
        intro x hx
        simp
        rintro rfl
        exact hm (List.mem_map.2 ⟨x, hx, rfl⟩)
      rw [this] at hlt
      omega
/-- Both outboxes as they lie. -/
structure OJ (w W : World) (g b x p s : Nat) (row : Value) (es : List OI.En) (a : Option Addr) (c : Nat) (l : List It) (now : Nat) : Prop where
  box : OI.OAt W w.heap.size g b p s row es
  doc : Is W w.heap.size a c l
  own : Whole W x 31 #[.slice a l.length c, .int .i64 (now : Int), .int .i64 (p : Int), .int .i64 (s : Int)]
  mt : Mt p now es l
  gex : w.heap.size ≤ x
  up : Below w.heap.size w W
section
variable {w W W' : World} {g b x p s c now : Nat} {row row' : Value} {es es' : List OI.En} {a : Option Addr} {l l' : List It}
theorem OJ.below (h : OJ w W g b x p s row es a c l now) (hb : Below W.heap.size W W') : OJ w W' g b x p s row es a c l now :=
  ⟨h.box.below hb, h.doc.below hb, h.own.kept (hb.block _ h.own.lt), h.mt, h.gex, bell_up h.up hb⟩
theorem doc_far (h : OI.OAt W w.heap.size g b p s row es) (hd : Is W w.heap.size a c l) (hc : Chg W W' (OI.Blk g b row es)) : Is W' w.heap.size a c l :=
  hd.keep hc.size fun ad ha => by
    obtain ⟨cur, hW⟩ := hd.typ ad ha
    exact hc.block _ hW.lt (h.other hW (by decide) (by decide) (by decide))
theorem whole_far {q : Nat} {cs : Array Value} (h : OI.OAt W w.heap.size g b p s row es) (hq : Whole W q 31 cs) (hc : Chg W W' (OI.Blk g b row es)) : Whole W' q 31 cs :=
  hq.kept (hc.block q hq.lt (h.other hq (by decide) (by decide) (by decide)))
theorem op_far {q : Nat} {cs : Array Value} (h : OI.OAt W w.heap.size g b p s row es) (hq : Whole W q 33 cs) (hc : Chg W W' (OI.Blk g b row es)) : Whole W' q 33 cs :=
  hq.kept (hc.block q hq.lt (h.other hq (by decide) (by decide) (by decide)))
/-- The law's own box gets another outbox of the document. -/
theorem OI.OAt.set4 (h : OI.OAt W w.heap.size g b p s row es) (hx : Whole W x 31 #[.slice a l.length c, .int .i64 (now : Int), .int .i64 (p : Int), .int .i64 (s : Int)]) (u0 u1 u2 u3 : Value) : OI.OAt ((((W.setCell ⟨x, 0, none⟩ u0).setCell ⟨x, 1, none⟩ u1).setCell ⟨x, 2, none⟩ u2).setCell ⟨x, 3, none⟩ u3) w.heap.size g b p s row es :=
  h.kept fun k hk => by
    have hkx : k ≠ x := by rintro rfl; exact h.other hx (by decide) (by decide) (by decide) hk
    exact (((Below.heap_setCell _ ⟨x, 3, none⟩ _ k hkx).trans (Below.heap_setCell _ ⟨x, 2, none⟩ _ k hkx)).trans (Below.heap_setCell _ ⟨x, 1, none⟩ _ k hkx)).trans (Below.heap_setCell _ ⟨x, 0, none⟩ _ k hkx)
theorem Is.set4 {B c' : Nat} {a' : Option Addr} {l2 : List It} {cs : Array Value} (h : Is W B a' c' l2) (hx : Whole W x 31 cs) (u0 u1 u2 u3 : Value) : Is ((((W.setCell ⟨x, 0, Option.none⟩ u0).setCell ⟨x, 1, Option.none⟩ u1).setCell ⟨x, 2, Option.none⟩ u2).setCell ⟨x, 3, Option.none⟩ u3) B a' c' l2 :=
  h.keep (by simp [World.setCell]) fun ad ha => by
    obtain ⟨cur, hW⟩ := h.typ ad ha
    have hkx : ad.block ≠ x := whole_ne hW hx (by decide)
    exact (((Below.heap_setCell _ ⟨x, 3, Option.none⟩ _ _ hkx).trans (Below.heap_setCell _ ⟨x, 2, Option.none⟩ _ _ hkx)).trans (Below.heap_setCell _ ⟨x, 1, Option.none⟩ _ _ hkx)).trans (Below.heap_setCell _ ⟨x, 0, Option.none⟩ _ _ hkx)
end
end Go.Proofs.Ytefllbmopaiojaa
