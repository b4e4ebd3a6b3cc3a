/- A message that came in, with how many nodes it has; an append in a region that draws its order. -/
import Derived.Test.YtbckccgcjmanlaaCErr
import Derived.Test.YtbckccgcjmanlaaCInts
import Derived.Laws.AppendOwnNone
import Derived.Deep.RegionHeld
import Derived.ProofKit
namespace Go.Proofs.Ytbckccgcjmanlaa
open Go.RowKit Go.ChangeShapes Go.WideShapes

theorem step_append_any {P : Program} (w : World) {ops : Array Oper} {o : Oper} {a : Act} {K : Act → World → Prop} {Q : Exit → Act → World → Prop} {E : Prop} (hgd : o.guard = none) (s x : Operand) (t : TypeId)
    (ho : o.op = .call { callee := .builtin .append, args := #[s, x], argTypes := #[t, t] })
    (base : Nat) (e : TypeId) (i : TypeInfo) (z : Value) (size bytes : Nat) (ht : P.underlying t = some (.slice e)) (hi : P.info? e = some i) (hz : i.zero = some z)
    (hsize : i.size = size) (hby : i.bytes = bytes) (hzs : z.cells.size = size) (hsz : 0 < size)
    (v : Value) (n : Nat) (xs : List Value) (hs : a.eval s = v) (hown : w.ownsRow base e size v n xs)
    (ao : Option Addr) (m c : Nat) (news : List Value) (hx : a.eval x = .slice ao m c) (hl : news.length = m * size) (hnone : ao = none → m = 0 ∧ c = 0)
    (hnews : ∀ ad, ao = some ad → ∀ j u, news[j]? = some u → w.cell? (ad.add j) = some u) (h1 : ∀ u ∈ news, u.oneCell' = true)
    (h63 : n + m ≤ maxLen) (hbytes : (n + m) * bytes ≤ 140737488355328) (hbase : base ≤ w.heap.size)
    (h : ∀ v' w', w'.ownsRow base e size v' (n + m) (xs ++ news) → w.grownBy w' v.ownBlock → K (a.put o.dst v') w') :
    if Region.wanted o (yielded ops a.tmps) = true then Oper.wp P o a w K Q else E := by
  have hw : Region.wanted o (yielded ops a.tmps) = true := by simp [Region.wanted, hgd]
  rw [if_pos hw]
  cases ao with
  | some ad =>
    obtain ⟨v', w', hr, h2, h3, _, _⟩ := run_append_own_at (P := P) w base t o.type e i z size bytes ht hi hz hsize hby hzs hsz v n xs hown ad m c news hl (hnews ad rfl) h1 h63 hbytes hbase
    unfold Oper.wp execOp
    simp only [ho, resolve, invoke, builtin, Sem.run_bind, Sem.run_pure, Result.andThen_ok, List.map_toArray, List.map_cons, List.map_nil, hs, hx, hr]
    exact h v' w' h2 h3
  | none =>
    obtain ⟨rfl, rfl⟩ := hnone rfl
    have hn : news = [] := List.eq_nil_of_length_eq_zero (by simpa using hl)
    subst hn
    have hrun := run_append_owned_none (P := P) (w := w) base t o.type e i size ht hi v n xs hown
    unfold Oper.wp
    simp [execOp, ho, resolve, invoke, builtin, hs, hx, hrun, Result.andThen]
    exact h v w (by simpa using hown) (World.grownBy.refl _ _)
theorem slice_headI (a : Option Addr) (n c m : Nat) (hm : m ≤ c) (w : World) :
    (Instr.slice 32 (.slice a n c) none (some (.int .i64 (m : Int))) none).run Try.prog w = .ok (.slice a m c) w := by
  rw [run_slice_h w _ _ _ _ (by kernel_rfl) .i64 (m : Int) (by omega) (by omega), show Try.prog.elem 32 = 3 by kernel_rfl, show (sizeOf 3).run Try.prog w = .ok 1 w by kernel_rfl]
  simp [Result.andThen, sliced]
  intro _
  cases a <;> simp [addr_add_zero]
theorem IntsAt.news {w : World} {B : Nat} {a : Option Addr} {n : Nat} {zs : List Int} (h : IntsAt w B a n zs) : ∀ ad, a = some ad → ∀ j u, (zs.map (Value.int .i64))[j]? = some u → w.cell? (ad.add j) = some u := by
  rintro ad rfl j u hj
  rw [List.getElem?_map] at hj
  obtain ⟨z, hz, rfl⟩ := Option.map_eq_some_iff.1 hj
  have hjl := (List.getElem?_eq_some_iff.1 hz).1
  obtain ⟨b, off, e, _, hc⟩ := h.2.resolve_left (by have := h.1; omega)
  injection e with e
  subst e
  rw [add_plain]
  exact (hc j z hz).1
theorem oneCell_ints (xs : List Int) : ∀ u ∈ xs.map (Value.int .i64), u.oneCell' = true := by
  intro u hu
  obtain ⟨z, _, rfl⟩ := List.mem_map.1 hu
  rfl
theorem nodes_weight {H : Type} {enc : TypeId × Value → H} {W : World} {fuel : Nat} {a : Option Addr} {n c : Nat} {x : DataW H × List MemPlace}
    (h : DataW.trod enc Try.prog W 0 (fun _ => true) true fuel 32 [.slice a n c] = some x) (hw : ∀ k ∈ x.1.weights Try.prog 32, k ≤ 140737488351232) : n * 8 ≤ 140737488351232 ∧ (a = none → n = 0 ∧ c = 0) := by
  rcases open_ints Try.underlying32 Try.underlying3 (by kernel_rfl) h with ⟨hcs, _⟩ | ⟨ad, l, c', zs, hcs, _, hl, hm, hz, hx, hcell, hwz⟩
  · simp at hcs
    obtain ⟨rfl, rfl, rfl⟩ := hcs
    exact ⟨by omega, fun _ => ⟨rfl, rfl⟩⟩
  · simp at hcs
    obtain ⟨rfl, rfl, rfl⟩ := hcs
    simp only [if_true] at hz
    refine ⟨?_, fun h => by cases h⟩
    have hd := congrArg Prod.fst hx
    simp only at hd
    have h1 := hw (zs.length * 8) (by
      rw [hd]
      simp only [DataW.weights, Try.underlying32, List.mem_cons]
      left
      rw [show Try.prog.bytesOf 3 = 8 by kernel_rfl]
      simp [lits]
      omega)
    omega
set_option maxRecDepth 100000 in
set_option maxHeartbeats 1000000 in
theorem msg_weight {H : Type} {enc : TypeId × Value → H} {W : World} {r : Reach} {b0 : Nat} {v : Value} {d : DataW H} {p : List MemPlace}
    (hv : Value.okWide Try.prog W r b0 37 v) (h : DataW.Trod enc Try.prog W 0 (fun _ => true) true 37 v d p) (hw : ∀ k ∈ d.weights Try.prog 37, k ≤ 140737488351232) :
    ∃ cs : Array Value, v = .agg cs ∧ ∀ a n c, cs[8]? = some (.slice a n c) → n * 8 ≤ 140737488351232 ∧ (a = none → n = 0 ∧ c = 0) := by
  have hu := Try.underlying37
  obtain ⟨cs, rfl, hsz⟩ := okWide_struct hu hv
  refine ⟨cs, rfl, ?_⟩
  obtain ⟨fuel, hf⟩ := h
  obtain ⟨xs, n', _, hd, hl, hlen, hf⟩ := DataW.trod_struct hu hf
  have k12 : Try.prog.cellsOf 37 = 12 := by kernel_rfl
  have kn : Try.prog.cellsOf 32 = 1 := by kernel_rfl
  rw [k12] at hsz
  obtain ⟨l⟩ := cs
  match l, hsz with
  | [c0, c1, c2, c3, c4, c5, c6, c7, c8, c9, c10, c11], _ =>
    match xs, hlen with
    | [y0, y1, y2, y3, y4, y5, y6, y7, y8, y9, y10, y11], _ =>
      intro a n c he
      have he : c8 = .slice a n c := by simpa using he
      subst he
      have t8 := hf 8 _ rfl
      simp [kn, Value.cells] at t8
      refine nodes_weight t8 fun k hk => hw k ?_
      have hd1 := congrArg Prod.fst hd
      simp only at hd1
      rw [hd1]
      simp only [DataW.weights, hu]
      exact DataW.weights_mem_each (j := 8) rfl rfl k hk
/-- The row that the law makes of a message's nodes. -/
def NR (w1 wx : World) (B : Nat) (zs : List Int) (nn : Nat) (s5 : Value) : Prop := ∃ q cap, s5 = .slice (some ⟨q, 0, none⟩) nn cap ∧ nn + 1 ≤ cap ∧ cap ≤ maxLen ∧ wx.ownsRow B 3 1 (.slice (some ⟨q, 0, none⟩) (nn + 1) cap) (nn + 1) ((zs ++ [77]).map (Value.int .i64)) ∧ Below w1.heap.size w1 wx ∧ w1.heap.size ≤ q
end Go.Proofs.Ytbckccgcjmanlaa
