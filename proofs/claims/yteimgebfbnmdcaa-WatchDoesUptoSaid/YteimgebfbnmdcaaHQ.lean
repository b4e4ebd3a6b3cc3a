/- watch.Changes. -/
import Derived.Test.YteimgebfbnmdcaaHP
namespace Go.Proofs.Yteimgebfbnmdcaa
open Go.RowKit Go.Shelf
open Go.Maps (Keyed)

/-- Is a change behind a revision, up to another one? -/
def inB (f t : Int) (c : Ch) : Bool := decide (f < c.rev) && decide (c.rev ≤ t)
def chF (f t : Int) (l : List Rw) : List Ch := (l.flatMap endsL).filter (inB f t)
def chG (f t : Int) (L m : List Ch) : List Ch := L ++ m.filter (inB f t)
theorem chG_no {f t : Int} {L m : List Ch} {j : Nat} {c : Ch} (h : m[j]? = some c) (hc : inB f t c = false) : chG f t L (m.take (j + 1)) = chG f t L (m.take j) := by
  unfold chG
  rw [List.take_add_one, h, List.filter_append]
  simp [hc]
theorem chG_yes {f t : Int} {L m : List Ch} {j : Nat} {c : Ch} (h : m[j]? = some c) (hc : inB f t c = true) : chG f t L (m.take (j + 1)) = chG f t L (m.take j) ++ [c] := by
  unfold chG
  rw [List.take_add_one, h, List.filter_append]
  simp [hc]
theorem chF_next {f t : Int} {l : List Rw} {i : Nat} {r : Rw} (h : l[i]? = some r) : chF f t (l.take (i + 1)) = chG f t (chF f t (l.take i)) (endsL r) := by
  unfold chF chG
  rw [List.take_add_one, h, List.flatMap_append, List.filter_append]
  simp
theorem chF_len (f t : Int) (l : List Rw) : (chF f t l).length ≤ 2 * l.length := by
  unfold chF
  refine Nat.le_trans (List.length_filter_le _ _) ?_
  induction l with
  | nil => simp
  | cons r l ih =>
    rw [List.flatMap_cons, List.length_append, List.length_cons]
    have := endsL_len r
    omega
/-- A row elsewhere is as it was, and is not the one that is written. -/
def KE (W2 : World) (ea : Option Addr) (W : World) (v : Value) : Prop := ∀ eb off s, ea = some ⟨eb, off, s⟩ → eb < W2.heap.size ∧ W.heap[eb]? = W2.heap[eb]? ∧ v.ownBlock ≠ some eb
theorem KE.up {W2 W W' : World} {ea : Option Addr} {v : Value} (h : KE W2 ea W v) (hs : W2.heap.size ≤ W.heap.size) (hb : Below W.heap.size W W') : KE W2 ea W' v := fun eb off s e => by
  obtain ⟨h1, h2, h3⟩ := h eb off s e
  exact ⟨h1, (hb.block _ (by omega)).trans h2, h3⟩
theorem KE.next {W2 W W' : World} {ea : Option Addr} {v v' : Value} (h : KE W2 ea W v) (hs : W2.heap.size ≤ W.heap.size) (hg : W.grownBy W' v.ownBlock) (ho : v'.ownBlock = v.ownBlock ∨ v'.ownBlock = some W.heap.size) : KE W2 ea W' v' := fun eb off s e => by
  obtain ⟨h1, h2, h3⟩ := h eb off s e
  refine ⟨h1, (hg.block _ (by omega) (fun e => h3 e.symm)).trans h2, ?_⟩
  rcases ho with ho | ho
  · rw [ho]; exact h3
  · rw [ho]; intro e2; injection e2 with e2; omega
set_option maxRecDepth 100000 in
set_option maxHeartbeats 16000000 in
theorem changes_any {w : World} {a : Option Addr} {n c : Nat} {l : List Rw} (hl : Lies w 49 5 0 a n c (l.flatMap rw1)) (hln : l.length = n) (hn : n ≤ 549755800000) (from_ to_ : Int) :
    Calls Try.prog 10 #[.slice a n c, .int .i64 from_, .int .i64 to_] w fun e w' => ∃ v, ∃ out : List Ch, e = .returned v ∧ Stb clt (chF from_ to_ l) out ∧ OutE 53 5 chc w w' v out := by
  obtain ⟨j0, hj0, jz0, jz1, jz2⟩ := info_parts infoCh
  have HL := Lib.hid hl
  have HLN := Lib.hid hln
  have HU1 := Lib.hid (show OutE 53 5 chc w w (.slice none 0 0) (chF from_ to_ (l.take 0)) from ⟨Below.refl _ _, World.ownsRow_nil _ _ _ _⟩)
  clear hl hln
  go_enter Try.func10, Try.ntmps10
  go_wp2_with fail
  go_loopw [7, 14] (fun v iv wr => ∃ i : Nat, i ≤ n ∧ iv = .int .i64 i ∧ OutE 53 5 chc w wr v (chF from_ to_ (l.take i))) (fun _ iv _ => n - (intOf iv).toNat)
  case atStart => exact ⟨0, by omega, rfl, HU1.out⟩
  case round =>
    clear HU1
    obtain ⟨i, hin, rfl, hS⟩ := hrel
    have hlen := chF_len from_ to_ (l.take i)
    rw [List.length_take] at hlen
    by_cases hil : i < n
    · obtain ⟨r, hti⟩ : ∃ r, l[i]? = some r := ⟨_, List.getElem?_eq_getElem (show i < l.length by rw [HLN.out]; exact hil)⟩
      obtain ⟨bb, off, rfl, hbb, hcc⟩ := lies_cells rw1_len (by decide) HL.out hti
      have c0 := (hS.below.cell (p := ⟨bb, off + i * 5, none⟩) hbb).trans (hcc 0 _ rfl)
      have c1 := (hS.below.cell (p := ⟨bb, off + i * 5 + 1, none⟩) hbb).trans (hcc 1 _ rfl)
      have c2 := (hS.below.cell (p := ⟨bb, off + i * 5 + 2, none⟩) hbb).trans (hcc 2 _ rfl)
      have c3 := (hS.below.cell (p := ⟨bb, off + i * 5 + 3, none⟩) hbb).trans (hcc 3 _ rfl)
      have c4 := (hS.below.cell (p := ⟨bb, off + i * 5 + 4, none⟩) hbb).trans (hcc 4 _ rfl)
      have hil2 : (i : Int) < (n : Int) := by omega
      have HNX := Lib.hid (chF_next (f := from_) (t := to_) hti)
      generalize chF from_ to_ (l.take i) = L at *
      have hEC := ends_any (wr.alloc (.cells (rw1 r).toArray 49)) r
      have hb1 := below_alloc wr (.cells (rw1 r).toArray 49)
      have HEC := Lib.hid hEC
      have HB1 := Lib.hid hb1
      have HS := Lib.hid hS
      obtain ⟨va, vc, rfl, _, _⟩ := owned_anyE hS.row
      unfold rw1 at HEC HB1
      clear hcc hbb hS hEC hb1 hti
      go_wp2_with fail
      refine HEC.out.mono ?_
      rintro _ W2 ⟨ev, rfl, hE⟩
      have hcl := endsL_len r
      obtain ⟨ea, ec, rfl, _, _⟩ := owned_anyE hE.row
      have HS2 := Lib.hid ((HS.out.up HB1.out).up hE.below)
      have HE := Lib.hid hE
      have HKE := Lib.hid (show KE W2 ea W2 (.slice va L.length vc) from fun eb o s e => by
        have h2 : (Value.slice ea (endsL r).length ec).ownBlock = some eb := by rw [e]; rfl
        have h3 := hE.row.lt eb h2
        refine ⟨h3.2, rfl, fun e3 => ?_⟩
        have h4 := HS.out.row.lt eb e3
        have h5 := HB1.out.size
        have h6 := h3.1
        simp at h6
        omega)
      clear hE c0 c1 c2 c3 c4 HEC HB1 HS
      go_wp2_with fail
      go_loopw [7, 21] (fun v2 jv W3 => ∃ j : Nat, j ≤ (endsL r).length ∧ jv = .int .i64 j ∧ OutE 53 5 chc w W3 v2 (chG from_ to_ L ((endsL r).take j)) ∧ KE W2 ea W3 v2 ∧ W2.heap.size ≤ W3.heap.size) (fun _ jv _ => (endsL r).length - (intOf jv).toNat)
      case atStart => exact ⟨0, by omega, rfl, by unfold chG; simp; exact HS2.out, HKE.out, Nat.le_refl _⟩
      case round =>
        clear HS2 HKE
        obtain ⟨j, hjm, rfl, hS2, hK2, hsz⟩ := hrel
        obtain ⟨va2, vc2, rfl, _, _⟩ := owned_anyE hS2.row
        by_cases hjl : j < (endsL r).length
        · obtain ⟨cj, hcj⟩ : ∃ cj, (endsL r)[j]? = some cj := ⟨_, List.getElem?_eq_getElem hjl⟩
          obtain ⟨a', c', he', hLI⟩ := Lies.owned HE.out.row
          injection he' with he1 _ he2
          subst he1
          subst he2
          obtain ⟨eb, eo, rfl, heb, hec⟩ := lies_cells chc_len (by decide) hLI hcj
          obtain ⟨_, hk2, _⟩ := hK2 eb eo none rfl
          have hcell : ∀ (q : Nat) (u : Value), (chc cj)[q]? = some u → wr.cell? ⟨eb, eo + j * 5 + q, none⟩ = some u := fun q u hq => by
            have := hec q u hq
            simp only [World.cell?] at this ⊢
            rw [hk2]; exact this
          have d0 : wr.cell? ⟨eb, eo + j * 5, none⟩ = some (.int .i64 cj.rev) := hcell 0 _ rfl
          have d1 : wr.cell? ⟨eb, eo + j * 5 + 1, none⟩ = some (.bool cj.del) := hcell 1 _ rfl
          have d2 : wr.cell? ⟨eb, eo + j * 5 + 2, none⟩ = some (.string cj.t.o) := hcell 2 _ rfl
          have d3 : wr.cell? ⟨eb, eo + j * 5 + 3, none⟩ = some (.string cj.t.r) := hcell 3 _ rfl
          have d4 : wr.cell? ⟨eb, eo + j * 5 + 4, none⟩ = some (.string cj.t.u) := hcell 4 _ rfl
          have hjl2 : (j : Int) < ((endsL r).length : Int) := by omega
          have hGl : (chG from_ to_ L ((endsL r).take j)).length ≤ 1099511600002 := by
            have h1 := List.length_filter_le (inB from_ to_) ((endsL r).take j)
            rw [List.length_take] at h1
            unfold chG
            rw [List.length_append]
            omega
          have HCJ := Lib.hid hcj
          obtain ⟨Gl, hG⟩ : ∃ Gl, Gl = chG from_ to_ L ((endsL r).take j) := ⟨_, rfl⟩
          rw [← hG] at hS2 hK2 hGl ⊢
          have HGE := Lib.hid hG
          obtain ⟨q, hq⟩ : ∃ q, q = wr.heap.size := ⟨_, rfl⟩
          obtain ⟨W3, hW3⟩ : ∃ W3, W3 = wr.alloc (.cells (chc cj).toArray 53) := ⟨_, rfl⟩
          have hb3 : Below wr.heap.size wr W3 := by rw [hW3]; exact below_alloc _ _
          have hX : Whole W3 q 53 (chc cj).toArray := by rw [hW3, hq]; exact heap_alloc_new _ _
          have e0 : W3.cell? ⟨q, 0, none⟩ = some (.int .i64 cj.rev) := hX.cell 0
          have e1 : W3.cell? ⟨q, 1, none⟩ = some (.bool cj.del) := hX.cell 1
          have e2 : W3.cell? ⟨q, 2, none⟩ = some (.string cj.t.o) := hX.cell 2
          have e3 : W3.cell? ⟨q, 3, none⟩ = some (.string cj.t.r) := hX.cell 3
          have e4 : W3.cell? ⟨q, 4, none⟩ = some (.string cj.t.u) := hX.cell 4
          have HS3 := Lib.hid (hS2.up hb3)
          have HK3 := Lib.hid (hK2.up hsz hb3)
          have HZ3 := Lib.hid (show W2.heap.size ≤ W3.heap.size from Nat.le_trans hsz hb3.size)
          have HBS := Lib.hid (show w.heap.size ≤ W3.heap.size from Nat.le_trans hS2.below.size hb3.size)
          have hn1 : Gl.length + 1 ≤ maxLen := by unfold maxLen; omega
          have hn2 : (Gl.length + 1) * 64 ≤ 140737488355328 := by omega
          unfold chc at hW3
          clear hcell hec heb hLI hX hb3 hS2 hK2 hk2 hG hcj
          go_upto_region 8 with fail
          rw [← hq, ← hW3]
          clear hq hW3 d0 d1 d2 d3 d4 hsz
          by_cases g1 : from_ < cj.rev
          · by_cases g2 : cj.rev ≤ to_
            · have hin : inB from_ to_ cj = true := by unfold inB; simp [g1, g2]
              have HY := Lib.hid (chG_yes (L := L) HCJ.out hin)
              clear hin
              go_wp2_with (at_builtin; refine wpList_append_own_at _ rfl (.tmp 35) (.tmp 37) 25 rfl w.heap.size 53 j0 (.agg #[.int .i64 0, .bool false, .string ⟨#[]⟩, .string ⟨#[]⟩, .string ⟨#[]⟩]) 5 64 Try.underlying25 hj0 jz0 jz1 jz2 rfl (by decide) (.slice va2 Gl.length vc2) Gl.length (Gl.flatMap chc) rfl (HS3.out.row.alloc _) ⟨W3.heap.size, 0, none⟩ 1 1 [.int .i64 cj.rev, .bool cj.del, .string cj.t.o, .string cj.t.r, .string cj.t.u] rfl rfl (fiveE_new W3 _ _ _ _ _ 53) (by simp [Value.oneCell']) hn1 hn2 (by have := HBS.out; simp; omega) ?_; intro v' w6 hown6 hgr6 _ hat6
                           have HN := Lib.hid (show OutE 53 5 chc w w6 v' (chG from_ to_ L ((endsL r).take (j + 1))) ∧ KE W2 (some ⟨eb, eo, none⟩) w6 v' ∧ W2.heap.size ≤ w6.heap.size from by
                             rw [HY.out, ← HGE.out]
                             exact ⟨(HS3.out.up (below_alloc _ _)).next cj hgr6 hown6, (HK3.out.up HZ3.out (below_alloc _ _)).next (by have := HZ3.out; simp; omega) hgr6 hat6, by have := HZ3.out; have := hgr6.size; simp at this; omega⟩)
                           clear hown6 hgr6 hat6)
              go_roundw
              case rel => exact ⟨j + 1, by omega, by go_num, HN.out⟩
              case measure => simp [intOf]; omega
            · have hin : inB from_ to_ cj = false := by unfold inB; simp [g2]
              have HN := Lib.hid (show OutE 53 5 chc w W3 (.slice va2 Gl.length vc2) (chG from_ to_ L ((endsL r).take (j + 1))) ∧ KE W2 (some ⟨eb, eo, none⟩) W3 (.slice va2 Gl.length vc2) ∧ W2.heap.size ≤ W3.heap.size from by
                rw [chG_no HCJ.out hin, ← HGE.out]
                exact ⟨HS3.out, HK3.out, HZ3.out⟩)
              clear hin
              go_wp2
              go_roundw
              case rel => exact ⟨j + 1, by omega, by go_num, HN.out⟩
              case measure => simp [intOf]; omega
          · have hin : inB from_ to_ cj = false := by unfold inB; simp [g1]
            have HN := Lib.hid (show OutE 53 5 chc w W3 (.slice va2 Gl.length vc2) (chG from_ to_ L ((endsL r).take (j + 1))) ∧ KE W2 (some ⟨eb, eo, none⟩) W3 (.slice va2 Gl.length vc2) ∧ W2.heap.size ≤ W3.heap.size from by
              rw [chG_no HCJ.out hin, ← HGE.out]
              exact ⟨HS3.out, HK3.out, HZ3.out⟩)
            clear hin
            go_wp2
            go_roundw
            case rel => exact ⟨j + 1, by omega, by go_num, HN.out⟩
            case measure => simp [intOf]; omega
        · obtain rfl : j = (endsL r).length := by omega
          rw [List.take_length] at hS2 hK2 ⊢
          rw [← HNX.out] at hS2 hK2 ⊢
          have HN := Lib.hid hS2
          clear hS2 hK2
          go_wp2
          go_roundw
          case rel => exact ⟨i + 1, by omega, by go_num, HN.out⟩
          case measure => simp [intOf]; omega
    · obtain rfl : i = n := by omega
      rw [List.take_of_length_le (by rw [HLN.out]; exact Nat.le_refl _)] at hS
      have hS2 := hS
      have HSC := Lib.hid (sortC hS2.row (by have := chF_len from_ to_ l; have := HLN.out; omega))
      obtain ⟨va, vc, rfl, _, _⟩ := owned_anyE hS2.row
      have HS2 := Lib.hid hS2
      clear hS hS2 hlen
      go_wp2_with fail
      refine HSC.out.mono ?_
      rintro _ w3 ⟨rfl, out, q1, q2, q3⟩
      have HE := Lib.hid (show Stb clt (chF from_ to_ l) out ∧ OutE 53 5 chc w w3 (.slice va (chF from_ to_ l).length vc) out from ⟨q1, HS2.out.below.grown q3 HS2.out.below.size (fun k e => (HS2.out.row.lt k e).1), q2⟩)
      clear q1 q2 q3
      go_wp2
      go_ret
      exact ⟨_, out, rfl, HE.out⟩
end Go.Proofs.Yteimgebfbnmdcaa
