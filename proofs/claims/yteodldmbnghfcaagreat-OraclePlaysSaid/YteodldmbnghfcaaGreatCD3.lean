/- The document's reading of a message: what is known between two readings. -/
import Derived.Test.YteodldmbnghfcaaGreatCD2
namespace Go.Proofs.YteodldmbnghfcaaGreat
open Go.RowKit

theorem own_blk {w : World} {base n s k : Nat} {v : Value} {e : TypeId} {l : List Value} (h : w.ownsRow base e s v n l) (hk : v.ownBlock = some k) : base ≤ k ∧ ∃ cur, Whole w k e cur := by
  rcases h.2 with ⟨rfl, _⟩ | ⟨g, cap, cur, rfl, hb, hh, _⟩
  · cases hk
  · have : g = k := by simpa [Value.ownBlock] using hk
    subst this
    exact ⟨hb, cur, hh⟩
theorem wne {w : World} {g k : Nat} {t u : TypeId} {cs ds : Array Value} (h : Whole w g t cs) (h2 : Whole w k u ds) (hn : t ≠ u) : g ≠ k := by
  rintro rfl
  unfold Whole at h h2
  rw [h] at h2
  injection h2 with h2
  injection h2 with _ h2
  exact hn h2
theorem own_kept {w w' : World} {base n s : Nat} {v : Value} {e : TypeId} {l : List Value} (h : w.ownsRow base e s v n l) (hk : ∀ k cur, Whole w k e cur → w'.heap[k]? = w.heap[k]?) : w'.ownsRow base e s v n l := by
  refine ⟨h.1, ?_⟩
  rcases h.2 with h4 | ⟨q, cap, cur, h5, h6, h7, h8⟩
  · exact .inl h4
  · exact .inr ⟨q, cap, cur, h5, h6, (hk q cur h7).trans h7, h8⟩
theorem MOwn.kept {w w' : World} {base : Nat} {m : MsgR} {v8 v9 v10 v11 : Value} (h : MOwn w base m v8 v9 v10 v11) (hk : ∀ k T cur, Whole w k T cur → (T = 3 ∨ T = 116 ∨ T = 119 ∨ T = 121) → w'.heap[k]? = w.heap[k]?) : MOwn w' base m v8 v9 v10 v11 :=
  ⟨own_kept h.nodes fun k cur hW => hk k _ cur hW (.inl rfl), own_kept h.muts fun k cur hW => hk k _ cur hW (.inr (.inl rfl)), own_kept h.pre fun k cur hW => hk k _ cur hW (.inr (.inr (.inl rfl))), own_kept h.rows fun k cur hW => hk k _ cur hW (.inr (.inr (.inr rfl)))⟩
/-- Between two readings. -/
structure DP (w W : World) (gm : Nat) (s : St) (m : MsgR) (v8 v9 v10 v11 : Value) : Prop where
  res : Whole W w.heap.size 43 MsgZ
  src : Whole W (w.heap.size + 1) 126 #[.string (strOfNums s.1), .int .i64 s.2]
  msg : Whole W gm 43 (msgC m v8 v9 v10 v11)
  own : MOwn W w.heap.size m v8 v9 v10 v11
  bel : Below w.heap.size w W
  ok : StOk s
  hg : w.heap.size + 1 < gm
section
variable {w W W' : World} {gm : Nat} {s : St} {m : MsgR} {v8 v9 v10 v11 : Value}
theorem DP.below (h : DP w W gm s m v8 v9 v10 v11) (hb : Below W.heap.size W W') : DP w W' gm s m v8 v9 v10 v11 :=
  ⟨h.res.kept (hb.block _ h.res.lt), h.src.kept (hb.block _ h.src.lt), h.msg.kept (hb.block _ h.msg.lt), h.own.kept fun k _ _ hW _ => hb.block k hW.lt, h.bel.trans (hb.mono h.bel.size), h.ok, h.hg⟩
theorem DP.set_src (h : DP w W gm s m v8 v9 v10 v11) (s' : St) (hs : StOk s') : DP w ((W.setCell ⟨w.heap.size + 1, 0, none⟩ (.string (strOfNums s'.1))).setCell ⟨w.heap.size + 1, 1, none⟩ (.int .i64 s'.2)) gm s' m v8 v9 v10 v11 :=
  ⟨keep2 h.res (Nat.ne_of_lt (Nat.lt_succ_self _)) _ _, src_put h.src _ _, keep2 h.msg (Nat.ne_of_gt h.hg) _ _, h.own.kept fun k T cur hW hT => by
    have hn : k ≠ w.heap.size + 1 := wne hW h.src (by rcases hT with e | e | e | e <;> rw [e] <;> decide)
    rw [Below.heap_setCell _ ⟨w.heap.size + 1, 1, none⟩ _ k hn, Below.heap_setCell _ ⟨w.heap.size + 1, 0, none⟩ _ k hn], src_below h.bel (Nat.le_succ _) _ _, hs, h.hg⟩
theorem DP.not_msg (h : DP w W gm s m v8 v9 v10 v11) {k : Nat} {T : TypeId} {cur : Array Value} (hW : Whole W k T cur) (hT : T = 3 ∨ T = 116 ∨ T = 119 ∨ T = 121) : k ≠ gm := wne hW h.msg (by rcases hT with e | e | e | e <;> rw [e] <;> decide)
theorem DP.set_flag (h : DP w W gm s m v8 v9 v10 v11) (d : Bool) : DP w (W.setCell ⟨gm, 7, none⟩ (.bool d)) gm s { m with flag := d } v8 v9 v10 v11 :=
  ⟨keep1 h.res (by have := h.hg; omega) _ _, keep1 h.src (Nat.ne_of_lt h.hg) _ _, h.msg.store 7 _, ⟨(h.own.kept fun k T cur hW hT => Below.heap_setCell W ⟨gm, 7, none⟩ _ k (h.not_msg hW hT)).nodes, (h.own.kept fun k T cur hW hT => Below.heap_setCell W ⟨gm, 7, none⟩ _ k (h.not_msg hW hT)).muts, (h.own.kept fun k T cur hW hT => Below.heap_setCell W ⟨gm, 7, none⟩ _ k (h.not_msg hW hT)).pre, (h.own.kept fun k T cur hW hT => Below.heap_setCell W ⟨gm, 7, none⟩ _ k (h.not_msg hW hT)).rows⟩, h.bel.setCell (p := ⟨gm, 7, none⟩) (by have := h.hg; show w.heap.size ≤ gm; omega) _, h.ok, h.hg⟩
/-- One item more. -/
theorem DP.add_nodes (h : DP w W gm s m v8 v9 v10 v11) (l : List Int) (u : Value) (hg : W.grownBy W' v8.ownBlock) (hu : W'.ownsRow w.heap.size 3 1 u l.length (l.map (Value.int .i64))) : DP w (W'.setCell ⟨gm, 8, none⟩ u) gm s { m with nodes := l } u v9 v10 v11 := by
  have hk : ∀ k T cur, Whole W k T cur → T ≠ 3 → W'.heap[k]? = W.heap[k]? := fun k T cur hW hT => hg.block k hW.lt (fun e => by
    obtain ⟨_, cs, hc⟩ := own_blk h.own.nodes e.symm
    exact wne hW hc hT rfl)
  have hmsg := h.msg.kept (hk gm _ _ h.msg (by decide))
  have hne : gm ≠ w.heap.size := by have := h.hg; omega
  exact ⟨keep1 (h.res.kept (hk _ _ _ h.res (by decide))) (Ne.symm hne) _ _, keep1 (h.src.kept (hk _ _ _ h.src (by decide))) (Nat.ne_of_lt h.hg) _ _, hmsg.store 8 u,
    ⟨own_kept hu fun k cur hW => Below.heap_setCell W' ⟨gm, 8, none⟩ u k (wne hW hmsg (by decide)), own_kept h.own.muts fun k cur hW => (Below.heap_setCell W' ⟨gm, 8, none⟩ u k (h.not_msg hW (by simp))).trans (hk k _ cur hW (by decide)), own_kept h.own.pre fun k cur hW => (Below.heap_setCell W' ⟨gm, 8, none⟩ u k (h.not_msg hW (by simp))).trans (hk k _ cur hW (by decide)), own_kept h.own.rows fun k cur hW => (Below.heap_setCell W' ⟨gm, 8, none⟩ u k (h.not_msg hW (by simp))).trans (hk k _ cur hW (by decide))⟩, Below.setCell (p := ⟨gm, 8, none⟩) ⟨hg.os.trans h.bel.os, hg.tape.trans h.bel.tape, hg.output.trans h.bel.output, Nat.le_trans h.bel.size hg.size, fun k hk2 => (hg.block k (Nat.lt_of_lt_of_le hk2 h.bel.size) (fun e => by have := (own_blk h.own.nodes e.symm).1; omega)).trans (h.bel.block k hk2)⟩ (by have := h.hg; show w.heap.size ≤ gm; omega) _, h.ok, h.hg⟩
/-- One item more. -/
theorem DP.add_muts (h : DP w W gm s m v8 v9 v10 v11) (l : List (Bool × Tx)) (u : Value) (hg : W.grownBy W' v9.ownBlock) (hu : W'.ownsRow w.heap.size 116 4 u l.length (l.flatMap flagC)) : DP w (W'.setCell ⟨gm, 9, none⟩ u) gm s { m with muts := l } v8 u v10 v11 := by
  have hk : ∀ k T cur, Whole W k T cur → T ≠ 116 → W'.heap[k]? = W.heap[k]? := fun k T cur hW hT => hg.block k hW.lt (fun e => by
    obtain ⟨_, cs, hc⟩ := own_blk h.own.muts e.symm
    exact wne hW hc hT rfl)
  have hmsg := h.msg.kept (hk gm _ _ h.msg (by decide))
  have hne : gm ≠ w.heap.size := by have := h.hg; omega
  exact ⟨keep1 (h.res.kept (hk _ _ _ h.res (by decide))) (Ne.symm hne) _ _, keep1 (h.src.kept (hk _ _ _ h.src (by decide))) (Nat.ne_of_lt h.hg) _ _, hmsg.store 9 u,
    ⟨own_kept h.own.nodes fun k cur hW => (Below.heap_setCell W' ⟨gm, 9, none⟩ u k (h.not_msg hW (by simp))).trans (hk k _ cur hW (by decide)), own_kept hu fun k cur hW => Below.heap_setCell W' ⟨gm, 9, none⟩ u k (wne hW hmsg (by decide)), own_kept h.own.pre fun k cur hW => (Below.heap_setCell W' ⟨gm, 9, none⟩ u k (h.not_msg hW (by simp))).trans (hk k _ cur hW (by decide)), own_kept h.own.rows fun k cur hW => (Below.heap_setCell W' ⟨gm, 9, none⟩ u k (h.not_msg hW (by simp))).trans (hk k _ cur hW (by decide))⟩, Below.setCell (p := ⟨gm, 9, none⟩) ⟨hg.os.trans h.bel.os, hg.tape.trans h.bel.tape, hg.output.trans h.bel.output, Nat.le_trans h.bel.size hg.size, fun k hk2 => (hg.block k (Nat.lt_of_lt_of_le hk2 h.bel.size) (fun e => by have := (own_blk h.own.muts e.symm).1; omega)).trans (h.bel.block k hk2)⟩ (by have := h.hg; show w.heap.size ≤ gm; omega) _, h.ok, h.hg⟩
/-- One item more. -/
theorem DP.add_pre (h : DP w W gm s m v8 v9 v10 v11) (l : List (Bool × Tx)) (u : Value) (hg : W.grownBy W' v10.ownBlock) (hu : W'.ownsRow w.heap.size 119 4 u l.length (l.flatMap flagC)) : DP w (W'.setCell ⟨gm, 10, none⟩ u) gm s { m with pre := l } v8 v9 u v11 := by
  have hk : ∀ k T cur, Whole W k T cur → T ≠ 119 → W'.heap[k]? = W.heap[k]? := fun k T cur hW hT => hg.block k hW.lt (fun e => by
    obtain ⟨_, cs, hc⟩ := own_blk h.own.pre e.symm
    exact wne hW hc hT rfl)
  have hmsg := h.msg.kept (hk gm _ _ h.msg (by decide))
  have hne : gm ≠ w.heap.size := by have := h.hg; omega
  exact ⟨keep1 (h.res.kept (hk _ _ _ h.res (by decide))) (Ne.symm hne) _ _, keep1 (h.src.kept (hk _ _ _ h.src (by decide))) (Nat.ne_of_lt h.hg) _ _, hmsg.store 10 u,
    ⟨own_kept h.own.nodes fun k cur hW => (Below.heap_setCell W' ⟨gm, 10, none⟩ u k (h.not_msg hW (by simp))).trans (hk k _ cur hW (by decide)), own_kept h.own.muts fun k cur hW => (Below.heap_setCell W' ⟨gm, 10, none⟩ u k (h.not_msg hW (by simp))).trans (hk k _ cur hW (by decide)), own_kept hu fun k cur hW => Below.heap_setCell W' ⟨gm, 10, none⟩ u k (wne hW hmsg (by decide)), own_kept h.own.rows fun k cur hW => (Below.heap_setCell W' ⟨gm, 10, none⟩ u k (h.not_msg hW (by simp))).trans (hk k _ cur hW (by decide))⟩, Below.setCell (p := ⟨gm, 10, none⟩) ⟨hg.os.trans h.bel.os, hg.tape.trans h.bel.tape, hg.output.trans h.bel.output, Nat.le_trans h.bel.size hg.size, fun k hk2 => (hg.block k (Nat.lt_of_lt_of_le hk2 h.bel.size) (fun e => by have := (own_blk h.own.pre e.symm).1; omega)).trans (h.bel.block k hk2)⟩ (by have := h.hg; show w.heap.size ≤ gm; omega) _, h.ok, h.hg⟩
/-- One item more. -/
theorem DP.add_rows (h : DP w W gm s m v8 v9 v10 v11) (l : List (Tx × Int × Int)) (u : Value) (hg : W.grownBy W' v11.ownBlock) (hu : W'.ownsRow w.heap.size 121 5 u l.length (l.flatMap rowC)) : DP w (W'.setCell ⟨gm, 11, none⟩ u) gm s { m with rows := l } v8 v9 v10 u := by
  have hk : ∀ k T cur, Whole W k T cur → T ≠ 121 → W'.heap[k]? = W.heap[k]? := fun k T cur hW hT => hg.block k hW.lt (fun e => by
    obtain ⟨_, cs, hc⟩ := own_blk h.own.rows e.symm
    exact wne hW hc hT rfl)
  have hmsg := h.msg.kept (hk gm _ _ h.msg (by decide))
  have hne : gm ≠ w.heap.size := by have := h.hg; omega
  exact ⟨keep1 (h.res.kept (hk _ _ _ h.res (by decide))) (Ne.symm hne) _ _, keep1 (h.src.kept (hk _ _ _ h.src (by decide))) (Nat.ne_of_lt h.hg) _ _, hmsg.store 11 u,
    ⟨own_kept h.own.nodes fun k cur hW => (Below.heap_setCell W' ⟨gm, 11, none⟩ u k (h.not_msg hW (by simp))).trans (hk k _ cur hW (by decide)), own_kept h.own.muts fun k cur hW => (Below.heap_setCell W' ⟨gm, 11, none⟩ u k (h.not_msg hW (by simp))).trans (hk k _ cur hW (by decide)), own_kept h.own.pre fun k cur hW => (Below.heap_setCell W' ⟨gm, 11, none⟩ u k (h.not_msg hW (by simp))).trans (hk k _ cur hW (by decide)), own_kept hu fun k cur hW => Below.heap_setCell W' ⟨gm, 11, none⟩ u k (wne hW hmsg (by decide))⟩, Below.setCell (p := ⟨gm, 11, none⟩) ⟨hg.os.trans h.bel.os, hg.tape.trans h.bel.tape, hg.output.trans h.bel.output, Nat.le_trans h.bel.size hg.size, fun k hk2 => (hg.block k (Nat.lt_of_lt_of_le hk2 h.bel.size) (fun e => by have := (own_blk h.own.rows e.symm).1; omega)).trans (h.bel.block k hk2)⟩ (by have := h.hg; show w.heap.size ≤ gm; omega) _, h.ok, h.hg⟩
/-- The lists' own blocks. -/
def Own4 (v8 v9 v10 v11 : Value) (k : Nat) : Prop := v8.ownBlock = some k ∨ v9.ownBlock = some k ∨ v10.ownBlock = some k ∨ v11.ownBlock = some k
theorem DP.lt4 (h : DP w W gm s m v8 v9 v10 v11) {k : Nat} (hk : Own4 v8 v9 v10 v11 k) : k < W.heap.size := by
  rcases hk with e | e | e | e
  · exact (own_blk h.own.nodes e).2.elim fun _ hW => hW.lt
  · exact (own_blk h.own.muts e).2.elim fun _ hW => hW.lt
  · exact (own_blk h.own.pre e).2.elim fun _ hW => hW.lt
  · exact (own_blk h.own.rows e).2.elim fun _ hW => hW.lt
theorem own_keptb {w w' : World} {base n s : Nat} {v : Value} {e : TypeId} {l : List Value} (h : w.ownsRow base e s v n l) (hk : ∀ k, v.ownBlock = some k → w'.heap[k]? = w.heap[k]?) : w'.ownsRow base e s v n l := by
  refine ⟨h.1, ?_⟩
  rcases h.2 with h4 | ⟨q, cap, cur, h5, h6, h7, h8⟩
  · exact .inl h4
  · exact .inr ⟨q, cap, cur, h5, h6, (hk q (by rw [h5]; rfl)).trans h7, h8⟩
theorem own_slice {w : World} {base n s : Nat} {v : Value} {e : TypeId} {l : List Value} (h : w.ownsRow base e s v n l) : ∃ a c, v = .slice a n c := by
  rcases h.2 with ⟨rfl, rfl⟩ | ⟨q, cap, cur, rfl, _⟩
  · exact ⟨none, 0, rfl⟩
  · exact ⟨_, _, rfl⟩
/-- A cell of a block of its own is stored. -/
theorem DP.set_item (h : DP w W gm s m v8 v9 v10 v11) {q : Nat} (hq : gm < q) (hn : ∀ k, Own4 v8 v9 v10 v11 k → k ≠ q) (i : Nat) (u : Value) : DP w (W.setCell ⟨q, i, none⟩ u) gm s m v8 v9 v10 v11 :=
  ⟨keep1 h.res (by have := h.hg; omega) _ _, keep1 h.src (by have := h.hg; omega) _ _, keep1 h.msg (Nat.ne_of_lt hq) _ _,
    ⟨own_keptb h.own.nodes fun k e => Below.heap_setCell W ⟨q, i, none⟩ u k (hn k (.inl e)), own_keptb h.own.muts fun k e => Below.heap_setCell W ⟨q, i, none⟩ u k (hn k (.inr (.inl e))), own_keptb h.own.pre fun k e => Below.heap_setCell W ⟨q, i, none⟩ u k (hn k (.inr (.inr (.inl e)))), own_keptb h.own.rows fun k e => Below.heap_setCell W ⟨q, i, none⟩ u k (hn k (.inr (.inr (.inr e))))⟩,
    h.bel.setCell (p := ⟨q, i, none⟩) (by have := h.hg; show w.heap.size ≤ q; omega) _, h.ok, h.hg⟩
theorem DP.msg_nodes (h : DP w W gm s m v8 v9 v10 v11) (hg : W.grownBy W' v8.ownBlock) : Whole W' gm 43 (msgC m v8 v9 v10 v11) :=
  h.msg.kept (hg.block gm h.msg.lt (fun e => by
    obtain ⟨_, cs, hc⟩ := own_blk h.own.nodes e.symm
    exact wne h.msg hc (by decide) rfl))
theorem DP.msg_muts (h : DP w W gm s m v8 v9 v10 v11) (hg : W.grownBy W' v9.ownBlock) : Whole W' gm 43 (msgC m v8 v9 v10 v11) :=
  h.msg.kept (hg.block gm h.msg.lt (fun e => by
    obtain ⟨_, cs, hc⟩ := own_blk h.own.muts e.symm
    exact wne h.msg hc (by decide) rfl))
theorem DP.msg_pre (h : DP w W gm s m v8 v9 v10 v11) (hg : W.grownBy W' v10.ownBlock) : Whole W' gm 43 (msgC m v8 v9 v10 v11) :=
  h.msg.kept (hg.block gm h.msg.lt (fun e => by
    obtain ⟨_, cs, hc⟩ := own_blk h.own.pre e.symm
    exact wne h.msg hc (by decide) rfl))
theorem DP.msg_rows (h : DP w W gm s m v8 v9 v10 v11) (hg : W.grownBy W' v11.ownBlock) : Whole W' gm 43 (msgC m v8 v9 v10 v11) :=
  h.msg.kept (hg.block gm h.msg.lt (fun e => by
    obtain ⟨_, cs, hc⟩ := own_blk h.own.rows e.symm
    exact wne h.msg hc (by decide) rfl))
end
theorem put_list {g : Nat} {t : TypeId} : ∀ (Y X A : List Value) {w : World}, Whole w g t (A ++ X).toArray → Y.length = X.length → Whole (w.setCells g A.length Y) g t (A ++ Y).toArray
  | [], X, A, w, h, hl => by
    have : X = [] := List.eq_nil_of_length_eq_zero hl.symm
    subst this
    exact h
  | y :: Y, [], A, w, h, hl => by simp at hl
  | y :: Y, x :: X, A, w, h, hl => by
    rw [World.setCells]
    have h1 := h.store A.length y
    have e : (A ++ x :: X).toArray.setIfInBounds A.length y = ((A ++ [y]) ++ X).toArray := by simp
    rw [e] at h1
    have h2 := put_list Y X (A ++ [y]) h1 (by simpa using hl)
    have e2 : (A ++ [y]).length = A.length + 1 := by simp
    rw [e2] at h2
    have e3 : (A ++ [y]) ++ Y = A ++ y :: Y := by simp
    rw [e3] at h2
    exact h2
theorem put_all {w : World} {g : Nat} {t : TypeId} {cs ds : Array Value} (h : Whole w g t cs) (hl : ds.size = cs.size) : Whole (w.setCells g 0 ds.toList) g t ds := by
  have h1 : Whole w g t ([] ++ cs.toList).toArray := by rw [List.nil_append]; exact h
  have h2 := put_list ds.toList cs.toList [] h1 (by simpa using hl)
  rw [List.nil_append] at h2
  exact h2
theorem bel_sets {B b : Nat} {w : World} (hb : B ≤ b) : ∀ (l : List Value) (o : Nat) {w' : World}, Below B w w' → Below B w (w'.setCells b o l)
  | [], _, _, h => h
  | v :: l, o, _, h => by
    rw [World.setCells]
    exact bel_sets hb l (o + 1) (h.setCell (p := ⟨b, o, none⟩) hb v)
theorem kept_sets {b k : Nat} (hk : k ≠ b) : ∀ (l : List Value) (o : Nat) {w : World}, (w.setCells b o l).heap[k]? = w.heap[k]?
  | [], _, _ => rfl
  | v :: l, o, w => by
    rw [World.setCells, kept_sets hk l (o + 1)]
    exact Below.heap_setCell _ _ _ _ hk
theorem dec_err2 {xs : List Int} {c : Int} (h : ¬ 16384 < xs.length) (hr : rmsg xs = .error c) : dec xs = .error c := by unfold dec; rw [if_neg h, hr]
theorem dec_ok2 {xs : List Int} {m : MsgR} (h : ¬ 16384 < xs.length) (hr : rmsg xs = .ok (m, [])) : dec xs = .ok m := by unfold dec; rw [if_neg h, hr]; rfl
theorem dec_trail {xs l : List Int} {m : MsgR} (h : ¬ 16384 < xs.length) (hr : rmsg xs = .ok (m, l)) (hl : l ≠ []) : dec xs = .error 21 := by
  unfold dec
  rw [if_neg h, hr]
  show (if l = [] then _ else _) = _
  rw [if_neg hl]
/-- The zero message, by a name. -/
def mZ : Array Value := MsgZ
theorem mZ_one : mZ.all (·.oneCell') = true := by simp [mZ, Value.oneCell']
/-- The array of the first seven numbers. -/
def numC (i : Nat) (s : St) : Array Value := (((nst i s).1.map (Value.int .i64)) ++ List.replicate (7 - i) (Value.int .i64 0)).toArray
theorem numC_at (i : Nat) (s : St) (hi : i < 7) : (numC i s)[i]? = some (.int .i64 0) := by
  have hl : ((nst i s).1.map (Value.int .i64)).length = i := by rw [List.length_map, nst_len]
  unfold numC
  rw [List.getElem?_toArray, List.getElem?_append_right (by rw [hl]; exact Nat.le_refl _), hl, Nat.sub_self, List.getElem?_replicate, if_pos (by omega)]
theorem numC_set (i : Nat) (s : St) (hi : i < 7) : (numC i s).setIfInBounds i (.int .i64 (rst rnum 0 (nst i s).2).1) = numC (i + 1) s := by
  have hl : ((nst i s).1.map (Value.int .i64)).length = i := by rw [List.length_map, nst_len]
  obtain ⟨k, hk⟩ : ∃ k, 7 - i = k + 1 := ⟨7 - i - 1, by omega⟩
  have hk2 : 7 - (i + 1) = k := by omega
  unfold numC
  rw [hk, hk2, nst, List.map_append, List.replicate_succ]
  simp [hl]
theorem numC_seven {s : St} {a0 a1 a2 a3 a4 a5 a6 : Int} (h : (nst 7 s).1 = [a0, a1, a2, a3, a4, a5, a6]) : numC 7 s = #[.int .i64 a0, .int .i64 a1, .int .i64 a2, .int .i64 a3, .int .i64 a4, .int .i64 a5, .int .i64 a6] := by
  unfold numC
  rw [h]
  rfl
theorem res_ct {P : Program} {fn : Func} {p u : Tmp} {ty : TypeId} (h : fn.results = #[.cell p ty, .tmp u]) (tmps : Array Value) (w : World) (g : Nat) (t : TypeId) (cs : Array Value) (d : TypeDesc) (v : Value)
    (hp : tmps.getD p undef = .pointer (some ⟨g, 0, none⟩)) (hq : tmps.getD u undef = v) (hg : Whole w g t cs)
    (hu : P.underlying ty = some d) (hd : (match d with | .struct _ | .array _ _ => true | _ => false) = true) (hi : (P.info? ty).map (·.size) = some cs.size) :
    (results fn tmps).run P w = .ok (.tuple #[.agg cs, v]) w := by
  have hp' : tmps[p]?.getD undef = .pointer (some ⟨g, 0, none⟩) := by simpa using hp
  have hq' : tmps[u]?.getD undef = v := by simpa using hq
  simp [results, h, hp', hq', asAddr, run_loadVar_row w g t ty cs (0, 0) d hg hu hd hi]
theorem Tryz.infoMsg : (Tryz.prog.info? 43).map (·.size) = some 12 := by kernel_rfl
theorem range_all {w : World} {g : Nat} {t : TypeId} {cs : Array Value} (h : Whole w g t cs) : w.rangeAt g 0 cs.toList := fun j v hv => by
  rw [Nat.zero_add, h.cell, ← Array.getElem?_toList]
  exact hv
end Go.Proofs.YteodldmbnghfcaaGreat
