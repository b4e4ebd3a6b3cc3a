/- CachePlays: the program's cache and the document's hold the same. -/
import Derived.Test.YtfhflijlgejknaaKR4
namespace Go.Proofs.Ytfhflijlgejknaa
open Go.RowKit

/-- The pairs of a cache's entries. -/
def prs (es : List KS.En) : List Pr := es.map (·.2)
theorem prs_len (es : List KS.En) : (prs es).length = es.length := by simp [prs]
theorem prs_app (x y : List KS.En) : prs (x ++ y) = prs x ++ prs y := by simp [prs]
theorem prs_keys (es : List KS.En) : (prs es).map (·.1) = es.map (·.2.1) := by simp [prs]
/-- A key stands once. -/
theorem once {x1 x2 y1 y2 : List Pr} {k : ByteArray} {v v' : Int} (h : x1 ++ (k, v) :: x2 = y1 ++ (k, v') :: y2) (h1 : k ∉ x1.map (·.1)) (h2 : k ∉ y1.map (·.1)) : x1 = y1 ∧ v = v' ∧ x2 = y2 := by
  have hl := first_same h h1 h2
  obtain ⟨e1, e2⟩ := List.append_inj h hl.symm
  injection e2 with e2 e3
  injection e2 with _ e2
  exact ⟨e1, e2, e3⟩
theorem key_out {e1 e2 : List KS.En} {e : Nat} {k : ByteArray} {v : Int} (h : ((e1 ++ (e, k, v) :: e2).map (·.2.1)).Nodup) : k ∉ (prs e1).map (·.1) := by
  rw [prs_keys]
  rw [List.map_append, List.map_cons] at h
  intro hk
  exact (List.nodup_append.1 h).2.2 _ hk _ (by simp) rfl
theorem put_alike {w : World} {s : Nat} {k : ByteArray} {v : Int} {es es' : List KS.En} {l' : List Pr} (hp : KS.PutTo w s k v es es') (hr : PutL s k v (prs es) l') (hn : (es.map (·.2.1)).Nodup) : l' = prs es' := by
  rcases hp with ⟨e1, e, e2, v0, rfl, rfl⟩ | ⟨hk, e, _, rfl⟩
  · have hk := key_out hn
    rcases hr with ⟨l1, v1, l2, hl, hnot, rfl⟩ | ⟨hnot, rfl⟩
    · rw [prs_app] at hl
      obtain ⟨rfl, _, rfl⟩ := once (show prs e1 ++ (k, v0) :: prs e2 = l1 ++ (k, v1) :: l2 from hl) hk hnot
      simp [prs]
    · exact absurd (by simp [prs]) hnot
  · rcases hr with ⟨l1, v1, l2, hl, hnot, rfl⟩ | ⟨hnot, rfl⟩
    · rw [← prs_keys, hl] at hk
      exact absurd (by simp) hk
    · rw [prs_len]
      by_cases hf : es.length = s
      · simp [hf, prs, List.map_dropLast]
      · simp [hf, prs]
theorem cut_alike (k : ByteArray) (es : List KS.En) : keepL k (prs es) = prs (es.filter (fun t => !pre t.2.1 k)) := by
  unfold keepL prs
  rw [List.filter_map]
  rfl
theorem cut_count (k : ByteArray) (es : List KS.En) : ((es.filter (fun t => pre t.2.1 k)).length : Int) = (es.length : Int) - ((prs (es.filter (fun t => !pre t.2.1 k))).length : Int) := by
  rw [prs_len]
  have h : ∀ (l : List KS.En) (p : KS.En → Bool), (l.filter p).length + (l.filter (fun t => !p t)).length = l.length := by
    intro l p
    induction l with
    | nil => rfl
    | cons t l ih => by_cases h : p t <;> simp [h] <;> omega
  have := h es (fun t => pre t.2.1 k)
  omega
/-- What lies in a block of a cache is of the cache's own kinds. -/
theorem KS.CAt.kinds {w : World} {B g b size : Nat} {es : List KS.En} {f m : Int} (h : KS.CAt w B g b size es f m) {q : Nat} {t : TypeId} {cs : Array Value} (hq : Whole w q t cs) (h1 : t ≠ 107) (h2 : t ≠ 103) : ¬ KS.CB g b es q := by
  obtain ⟨N, hN, _⟩ := h.ring.ex
  obtain ⟨mm, hm, _⟩ := h.map
  rintro (rfl | rfl | hk)
  · obtain ⟨k0, v0, hk⟩ := hN.knot
    exact whole_ne hk hq (Ne.symm h1) rfl
  · exact hm.ne hq rfl
  · obtain ⟨⟨p, k, v⟩, hp, rfl⟩ := List.mem_map.1 hk
    exact whole_ne (hN.ent p k v hp) hq (Ne.symm h2) rfl
/-- Both as they lie: the program's cache with entries es, the document's in block wb with pairs l. -/
structure JP (wr : World) (B wb g b s : Nat) (es : List KS.En) (f m : Int) (a : Option Addr) (n c : Nat) (l : List Pr) (f' m' : Int) : Prop where
  cat : KS.CAt wr B g b s es f m
  box : Whole wr wb 31 #[.slice a n c, .int .i64 (s : Int), .int .i64 f', .int .i64 m']
  row : Pairs wr B a n c l
theorem JP.below {w w' : World} {B wb g b s n c : Nat} {es : List KS.En} {f m f' m' : Int} {a : Option Addr} {l : List Pr} (h : JP w B wb g b s es f m a n c l f' m') (hb : Below w.heap.size w w') : JP w' B wb g b s es f m a n c l f' m' :=
  ⟨h.cat.below hb, h.box.kept (hb.block _ h.box.lt), h.row.below hb⟩
/-- The program's cache was worked on. -/
theorem JP.chg {w w' : World} {B wb g b s n c : Nat} {es es2 : List KS.En} {f m f2 m2 f' m' : Int} {a : Option Addr} {l : List Pr} (h : JP w B wb g b s es f m a n c l f' m') (hc : KS.Chg w w' (KS.CB g b es)) (h2 : KS.CAt w' B g b s es2 f2 m2) : JP w' B wb g b s es2 f2 m2 a n c l f' m' := by
  refine ⟨h2, h.box.kept (hc.block _ h.box.lt (h.cat.kinds h.box (by decide) (by decide))), h.row.keep hc.size (fun ad ha => ?_)⟩
  obtain ⟨_, h3, _, ⟨cs, fr, h4⟩, _⟩ := h.row.at_ ad ha
  refine hc.block _ h3 (fun hq => ?_)
  obtain ⟨N, hN, _⟩ := h.cat.ring.ex
  obtain ⟨mm, hm, _⟩ := h.cat.map
  rcases hq with hq | hq | hq
  · obtain ⟨k0, v0, hk⟩ := hN.knot
    unfold Whole at hk
    rw [hq, hk] at h4
    injection h4 with h4
    injection h4 with _ h4
    exact absurd h4 (by decide)
  · obtain ⟨D, ⟨es0, clock, hmm, _⟩, _⟩ := hm
    rw [hq, hmm] at h4
    cases h4
  · obtain ⟨⟨p, k, v⟩, hp, he⟩ := List.mem_map.1 hq
    have hk := hN.ent p k v hp
    unfold Whole at hk
    rw [← he, hk] at h4
    injection h4 with h4
    injection h4 with _ h4
    exact absurd h4 (by decide)
/-- The document's cache was set anew. -/
theorem JP.set {w w' : World} {B wb g b s n c n2 c2 : Nat} {es : List KS.En} {f m f' m' f2 m2 : Int} {a a2 : Option Addr} {l l2 : List Pr} (h : JP w B wb g b s es f m a n c l f' m') (hc : KS.Chg w w' (fun q => q = wb)) (hb : Whole w' wb 31 #[.slice a2 n2 c2, .int .i64 (s : Int), .int .i64 f2, .int .i64 m2]) (hr : Pairs w' B a2 n2 c2 l2) : JP w' B wb g b s es f m a2 n2 c2 l2 f2 m2 :=
  ⟨h.cat.chg hc (fun q hq e => h.cat.kinds h.box (by decide) (by decide) (by rw [← e]; exact hq)), hb, hr⟩
end Go.Proofs.Ytfhflijlgejknaa
