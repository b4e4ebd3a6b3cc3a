/- MovePlays: the document's controller in memory. MovePlays: the document's end, write. MovePlays: the document's write. MovePlays: the document's Undo, Open. MovePlays: the document's Fenced, Installed. MovePlays: the document's Start. -/
import Derived.Test.YtbmmgmdjhhnkfaaVf
import Derived.Test.YtbmmgmdjhhnkfaaVb
import Derived.Test.YtbmmgmdjhhnkfaaVc
namespace Go.Proofs.Ytbmmgmdjhhnkfaa
open Go.RowKit

/-- The document's controller as a row of 34 cells: its disk, and a controller's table, version, move, stage. -/
def rmL (S : ByteArray) (d r : Int) (M : Mv) : List Value := [Value.string S, .int .i64 d, .int .i64 r] ++ (tL M.e M.o ++ ([Value.int .i64 M.ver] ++ (mcs M ++ ([Value.int .i64 M.st] ++ []))))
def rmC (S : ByteArray) (d r : Int) (M : Mv) : Array Value := (rmL S d r M).toArray
theorem rmL_len (S : ByteArray) (d r : Int) {M : Mv} (h : M.o.length = 16) : (rmL S d r M).length = 34 := by simp [rmL, tL, h, mcs]
theorem rmC_size (S : ByteArray) (d r : Int) {M : Mv} (h : M.o.length = 16) : (rmC S d r M).size = 34 := rmL_len S d r h
theorem rmC_one (S : ByteArray) (d r : Int) (M : Mv) : (rmC S d r M).all (·.oneCell') = true := by
  simp [rmC, rmL, tL, mcs, Value.oneCell']
theorem Try.infoRM : (Try.prog.info? 47).map (·.size) = some 34 := by kernel_rfl
theorem rmC_info (S : ByteArray) (d r : Int) {M : Mv} (h : M.o.length = 16) : (Try.prog.info? 47).map (·.size) = some (rmC S d r M).size := by rw [rmC_size S d r h]; exact Try.infoRM
/-- It lies in block b. -/
def RmAt (w : World) (b : Nat) (S : ByteArray) (d r : Int) (M : Mv) : Prop := Whole w b 47 (rmC S d r M)
section
variable {w w' : World} {b : Nat} {S : ByteArray} {d r : Int} {M : Mv}
theorem RmAt.kept (h : RmAt w b S d r M) (hb : w'.heap[b]? = w.heap[b]?) : RmAt w' b S d r M := Whole.kept h hb
theorem RmAt.below (h : RmAt w b S d r M) (hb : Below w.heap.size w w') : RmAt w' b S d r M := h.kept (hb.block _ (Whole.lt h))
theorem RmAt.all (h : RmAt w b S d r M) : w.rangeAt b 0 (rmL S d r M) := whole_all_range h
theorem rmL_n1 (S : ByteArray) (d r : Int) : [Value.string S, .int .i64 d, .int .i64 r].length = 3 := rfl
theorem RmAt.disk (h : RmAt w b S d r M) : w.rangeAt b 0 [Value.string S, .int .i64 d, .int .i64 r] ∧ w.there b 0 3 := by
  have h0 : Whole w b 47 ([] ++ ([Value.string S, .int .i64 d, .int .i64 r] ++ (tL M.e M.o ++ ([Value.int .i64 M.ver] ++ (mcs M ++ ([Value.int .i64 M.st] ++ [])))))).toArray := h
  exact ⟨whole_range h0, whole_there h0⟩
theorem RmAt.tab (h : RmAt w b S d r M) (h1 : M.o.length = 16) : w.rangeAt b 3 (tL M.e M.o) ∧ w.there b 3 17 := by
  have h0 : Whole w b 47 (rmL S d r M).toArray := h
  rw [rmL] at h0
  exact ⟨whole_range h0, by have := whole_there h0; rwa [tL_len _ h1] at this⟩
theorem rmL_cur (S : ByteArray) (d r : Int) (M : Mv) : rmL S d r M = ([Value.string S, .int .i64 d, .int .i64 r] ++ tL M.e M.o ++ [Value.int .i64 M.ver]) ++ (mcs M ++ ([Value.int .i64 M.st] ++ [])) := by simp [rmL]
theorem rmL_c21 {S : ByteArray} {d r : Int} {M : Mv} (h1 : M.o.length = 16) : ([Value.string S, .int .i64 d, .int .i64 r] ++ tL M.e M.o ++ [Value.int .i64 M.ver]).length = 21 := by simp [tL, h1]
theorem RmAt.cur (h : RmAt w b S d r M) (h1 : M.o.length = 16) : w.rangeAt b 21 (mcs M) ∧ w.there b 21 12 := by
  have h0 : Whole w b 47 (rmL S d r M).toArray := h
  rw [rmL_cur] at h0
  have h2 := whole_range h0
  have h3 := whole_there h0
  rw [rmL_c21 h1] at h2 h3
  exact ⟨h2, h3⟩
theorem rmL_ver (S : ByteArray) (d r : Int) (M : Mv) : rmL S d r M = ([Value.string S, .int .i64 d, .int .i64 r] ++ tL M.e M.o) ++ ([Value.int .i64 M.ver] ++ (mcs M ++ ([Value.int .i64 M.st] ++ []))) := by simp [rmL]
theorem rmL_c20 {S : ByteArray} {d r : Int} {M : Mv} (h1 : M.o.length = 16) : ([Value.string S, .int .i64 d, .int .i64 r] ++ tL M.e M.o).length = 20 := by simp [tL, h1]
theorem rmL_st (S : ByteArray) (d r : Int) (M : Mv) : rmL S d r M = ([Value.string S, .int .i64 d, .int .i64 r] ++ tL M.e M.o ++ [Value.int .i64 M.ver] ++ mcs M) ++ ([Value.int .i64 M.st] ++ []) := by simp [rmL]
theorem rmL_c33 {S : ByteArray} {d r : Int} {M : Mv} (h1 : M.o.length = 16) : ([Value.string S, .int .i64 d, .int .i64 r] ++ tL M.e M.o ++ [Value.int .i64 M.ver] ++ mcs M).length = 33 := by simp [tL, h1, mcs]
theorem RmAt.ver (h : RmAt w b S d r M) (h1 : M.o.length = 16) : w.cell? ⟨b, 20, none⟩ = some (.int .i64 M.ver) := by
  have h0 : Whole w b 47 (rmL S d r M).toArray := h
  rw [rmL_ver] at h0
  have h2 := whole_range h0
  rw [rmL_c20 h1] at h2
  exact h2 0 _ rfl
theorem RmAt.st (h : RmAt w b S d r M) (h1 : M.o.length = 16) : w.cell? ⟨b, 33, none⟩ = some (.int .i64 M.st) := by
  have h0 : Whole w b 47 (rmL S d r M).toArray := h
  rw [rmL_st] at h0
  have h2 := whole_range h0
  rw [rmL_c33 h1] at h2
  exact h2 0 _ rfl
theorem RmAt.free (h : RmAt w b S d r M) (i : Nat) : w.frozen? ⟨b, i, none⟩ = false := Whole.free h i
theorem RmAt.mcell (h : RmAt w b S d r M) (h1 : M.o.length = 16) (j : Nat) (hj : j < 12) : w.cell? ⟨b, 21 + j, none⟩ = (mcs M)[j]? := by
  have hl : (mcs M).length = 12 := rfl
  rw [List.getElem?_eq_getElem (by omega)]
  exact (h.cur h1).1 j _ (List.getElem?_eq_getElem (by omega))
theorem RmAt.c24 (h : RmAt w b S d r M) (h1 : M.o.length = 16) : w.cell? ⟨b, 24, none⟩ = some (.int .i64 M.id) := h.mcell h1 3 (by omega)
theorem RmAt.c27 (h : RmAt w b S d r M) (h1 : M.o.length = 16) : w.cell? ⟨b, 27, none⟩ = some (.int .i64 M.sl) := h.mcell h1 6 (by omega)
theorem RmAt.c22 (h : RmAt w b S d r M) (h1 : M.o.length = 16) : w.cell? ⟨b, 22, none⟩ = some (.int .i64 M.fr) := h.mcell h1 1 (by omega)
theorem RmAt.c23 (h : RmAt w b S d r M) (h1 : M.o.length = 16) : w.cell? ⟨b, 23, none⟩ = some (.int .i64 M.tw) := h.mcell h1 2 (by omega)
theorem RmAt.c32 (h : RmAt w b S d r M) (h1 : M.o.length = 16) : w.cell? ⟨b, 32, none⟩ = some (.slice M.ra M.rn M.rc) := h.mcell h1 11 (by omega)
theorem RmAt.own_at (h : RmAt w b S d r M) (h1 : M.o.length = 16) (s : Nat) (hs : s < 16) : w.cell? ⟨b, 4 + s, none⟩ = some (.int .i64 (M.o.getD s 0)) := by
  have := (h.tab h1).1 (1 + s) (.int .i64 (M.o.getD s 0)) (by
    rw [tL, Nat.add_comm, List.getElem?_cons_succ, List.getElem?_map, List.getD_eq_getElem?_getD, List.getElem?_eq_getElem (by rw [h1]; exact hs)]
    rfl)
  rwa [← Nat.add_assoc] at this
/-- What is stored. -/
theorem RmAt.setDisk (h : RmAt w b S d r M) (S' : ByteArray) (d' r' : Int) : RmAt (w.setCells b 0 [Value.string S', .int .i64 d', .int .i64 r']) b S' d' r' M := by
  have h0 : Whole w b 47 (rmL S d r M).toArray := h
  rw [rmL, ← List.nil_append ([Value.string S, .int .i64 d, .int .i64 r] ++ _)] at h0
  have h2 := whole_put [Value.string S', .int .i64 d', .int .i64 r'] _ _ h0 rfl
  rw [List.nil_append, List.length_nil] at h2
  show Whole _ b 47 (rmL S' d' r' M).toArray
  rw [rmL]
  exact h2
theorem RmAt.setTab (h : RmAt w b S d r M) (h1 : M.o.length = 16) {e : Int} {o : List Int} (ho : o.length = 16) : RmAt (w.setCells b 3 (tL e o)) b S d r { M with e := e, o := o } := by
  have h0 : Whole w b 47 (rmL S d r M).toArray := h
  rw [rmL] at h0
  exact whole_put (tL e o) _ _ h0 (by rw [tL_len _ ho, tL_len _ h1])
theorem RmAt.setCur (h : RmAt w b S d r M) (h1 : M.o.length = 16) (kd fr tw id sl : Int) (ra : Option Addr) (rn rc : Nat) : RmAt (w.setCells b 21 (mcs { M with kd := kd, fr := fr, tw := tw, id := id, sl := sl, ra := ra, rn := rn, rc := rc })) b S d r { M with kd := kd, fr := fr, tw := tw, id := id, sl := sl, ra := ra, rn := rn, rc := rc } := by
  have h0 : Whole w b 47 (rmL S d r M).toArray := h
  rw [rmL_cur] at h0
  have h2 := whole_put (mcs { M with kd := kd, fr := fr, tw := tw, id := id, sl := sl, ra := ra, rn := rn, rc := rc }) _ _ h0 rfl
  rw [rmL_c21 h1] at h2
  show Whole _ b 47 (rmL S d r _).toArray
  rw [rmL_cur]
  exact h2
theorem RmAt.setVer (h : RmAt w b S d r M) (h1 : M.o.length = 16) (x : Int) : RmAt (w.setCell ⟨b, 20, none⟩ (.int .i64 x)) b S d r { M with ver := x } := by
  have h0 : Whole w b 47 (rmL S d r M).toArray := h
  rw [rmL_ver] at h0
  have h2 := whole_put [Value.int .i64 x] _ _ h0 rfl
  rw [rmL_c20 h1] at h2
  show Whole _ b 47 (rmL S d r _).toArray
  rw [rmL_ver]
  exact h2
theorem RmAt.setSt (h : RmAt w b S d r M) (h1 : M.o.length = 16) (x : Int) : RmAt (w.setCell ⟨b, 33, none⟩ (.int .i64 x)) b S d r { M with st := x } := by
  have h0 : Whole w b 47 (rmL S d r M).toArray := h
  rw [rmL_st] at h0
  have h2 := whole_put [Value.int .i64 x] _ _ h0 rfl
  rw [rmL_c33 h1] at h2
  show Whole _ b 47 (rmL S d r _).toArray
  rw [rmL_st]
  exact h2
/-- Any controller stored over it. -/
theorem RmAt.put (h : RmAt w b S d r M) (h1 : M.o.length = 16) (S' : ByteArray) (d' r' : Int) {M' : Mv} (h2 : M'.o.length = 16) : RmAt (w.setCells b 0 (rmC S' d' r' M').toList) b S' d' r' M' := by
  have h0 : Whole w b 47 ([] ++ (rmL S d r M ++ [])).toArray := by rw [List.nil_append, List.append_nil]; exact h
  have h3 := whole_put (rmL S' d' r' M') _ _ h0 (by rw [rmL_len _ _ _ h1, rmL_len _ _ _ h2])
  rw [List.nil_append, List.append_nil] at h3
  exact h3
theorem RmAt.room (h : RmAt w b S d r M) (h1 : M.o.length = 16) (S' : ByteArray) (d' r' : Int) {M' : Mv} (h2 : M'.o.length = 16) : w.there b 0 (rmC S' d' r' M').size := by
  have := whole_all h
  rw [rmC_size _ _ _ h1] at this
  rw [rmC_size _ _ _ h2]
  exact this
theorem RmAt.sets (h : RmAt w b S d r M) {c : Nat} (hc : b ≠ c) (l : List Value) (o : Nat) : RmAt (w.setCells c o l) b S d r M := h.kept (heap_setCells b hc l o)
theorem RmAt.set (h : RmAt w b S d r M) {c : Nat} (hc : b ≠ c) (i : Nat) (v : Value) : RmAt (w.setCell ⟨c, i, none⟩ v) b S d r M := h.kept (Below.heap_setCell _ _ _ _ hc)
theorem below_sets {B b : Nat} {w : World} (hb : B ≤ b) : ∀ (l : List Value) (o : Nat) {w' : World}, Below B w w' → Below B w (w'.setCells b o l)
  | [], _, _, h => h
  | v :: l, o, _, h => by
    rw [World.setCells]
    exact below_sets hb l (o + 1) (h.setCell (p := ⟨b, o, none⟩) hb v)
/-- The zero controller. -/
def mvZ : Mv := { e := 0, o := noOwn, ver := 0, st := 0, kd := 0, fr := 0, tw := 0, id := 0, sl := 0, ra := none, rn := 0, rc := 0, e2 := 0, o2 := noOwn }
theorem zero_rm : rmC ⟨#[]⟩ 0 0 mvZ = #[.string ⟨#[]⟩, .int .i64 0, .int .i64 0, .int .i64 0, .int .i64 0, .int .i64 0, .int .i64 0, .int .i64 0, .int .i64 0, .int .i64 0, .int .i64 0, .int .i64 0, .int .i64 0, .int .i64 0, .int .i64 0, .int .i64 0, .int .i64 0, .int .i64 0, .int .i64 0, .int .i64 0, .int .i64 0, .int .i64 0, .int .i64 0, .int .i64 0, .int .i64 0, .int .i64 0, .int .i64 0, .int .i64 0, .bool false, .slice none 0 0, .slice none 0 0, .slice none 0 0, .slice none 0 0, .int .i64 0] := rfl
/-- The parameter's block and the result's. -/
theorem rm_two (w : World) (S : ByteArray) (d r : Int) (M : Mv) : ∃ X Z, X = w.alloc (.cells (rmC S d r M) 47) ∧ Z = X.alloc (.cells (rmC ⟨#[]⟩ 0 0 mvZ) 47) ∧ RmAt Z w.heap.size S d r M ∧ RmAt Z (w.heap.size + 1) ⟨#[]⟩ 0 0 mvZ ∧ Below w.heap.size w Z ∧ Z.heap.size = w.heap.size + 1 + 1 := by
  obtain ⟨X, hX, hwX, hbX⟩ := box_new w 47 (rmC S d r M)
  obtain ⟨Z, hZ, hwZ, hbZ⟩ := box_new X 47 (rmC ⟨#[]⟩ 0 0 mvZ)
  have hsX : X.heap.size = w.heap.size + 1 := by rw [hX]; exact Array.size_push _
  rw [hsX] at hwZ
  exact ⟨X, Z, hX, hZ, Whole.kept hwX (hbZ.block _ (Whole.lt hwX)), hwZ, bell_up hbX hbZ, by rw [hZ, ← hsX]; exact Array.size_push _⟩
theorem rmL_rows (S : ByteArray) (d r : Int) (M : Mv) : rmL S d r M = ([Value.string S, .int .i64 d, .int .i64 r] ++ tL M.e M.o ++ [Value.int .i64 M.ver] ++ (mcs M).take 11) ++ ([Value.slice M.ra M.rn M.rc] ++ ([Value.int .i64 M.st] ++ [])) := by simp [rmL, mcs]
theorem RmAt.setRows (h : RmAt w b S d r M) (h1 : M.o.length = 16) (a : Option Addr) (n c : Nat) : RmAt (w.setCell ⟨b, 32, none⟩ (.slice a n c)) b S d r { M with ra := a, rn := n, rc := c } := by
  have h0 : Whole w b 47 (rmL S d r M).toArray := h
  rw [rmL_rows] at h0
  have h2 := whole_put [Value.slice a n c] _ _ h0 rfl
  have hl : ([Value.string S, .int .i64 d, .int .i64 r] ++ tL M.e M.o ++ [Value.int .i64 M.ver] ++ (mcs M).take 11).length = 32 := by simp [tL, h1, mcs]
  rw [hl] at h2
  show Whole _ b 47 (rmL S d r _).toArray
  rw [rmL_rows]
  exact h2
end
end Go.Proofs.Ytbmmgmdjhhnkfaa

namespace Go.Proofs.Ytbmmgmdjhhnkfaa
open Go.RowKit

theorem res_three {P : Program} {fn : Func} {p u u2 : Tmp} {ty : TypeId} (h : fn.results = #[.cell p ty, .tmp u, .tmp u2]) (tmps : Array Value) (w : World) (g : Nat) (t : TypeId) (cs : Array Value) (d : TypeDesc) (v v2 : Value)
    (hp : tmps.getD p undef = .pointer (some ⟨g, 0, none⟩)) (hq : tmps.getD u undef = v) (hq2 : tmps.getD u2 undef = v2) (hg : Whole w g t cs)
    (hu : P.underlying ty = some d) (hd : (match d with | .struct _ | .array _ _ => true | _ => false) = true) (hi : (P.info? ty).map (·.size) = some cs.size) :
    (results fn tmps).run P w = .ok (.tuple #[.agg cs, v, v2]) w := by
  have hp' : tmps[p]?.getD undef = .pointer (some ⟨g, 0, none⟩) := by simpa using hp
  have hq' : tmps[u]?.getD undef = v := by simpa using hq
  have hq2' : tmps[u2]?.getD undef = v2 := by simpa using hq2
  simp [results, h, hp', hq', hq2', asAddr, run_loadVar_row w g t ty cs (0, 0) d hg hu hd hi]
set_option maxRecDepth 100000 in
set_option maxHeartbeats 4000000 in
theorem rend_any (w : World) (S : ByteArray) (d r : Int) (M : Mv) (h1 : M.o.length = 16) :
    Calls Try.prog 36 #[.agg (rmC S d r M)] w fun e w' => e = .returned (.agg (rmC S d r (mend M M.e M.o))) ∧ Below w.heap.size w w' := by
  obtain ⟨X, Z, hX, hZ, h2, h3, hb, hs⟩ := rm_two w S d r M
  rw [zero_rm] at hZ
  have HX := Lib.hid h2
  have HZ := Lib.hid h3
  have HB := Lib.hid hb
  have c24 := h2.c24 h1
  have c20 := h2.ver h1
  have z20 := h2.free 20
  have H1 := Lib.hid h1
  clear h2 h3 hb hs h1
  go_enter Try.func36, Try.ntmps36
  go_upto_region 1 with fail
  rw [← hX, ← hZ]
  clear hX hZ
  have HX2 := Lib.hid (HX.out.setVer H1.out M.id)
  have HZ2 := Lib.hid (HZ.out.set (c := w.heap.size) (by omega) 20 (.int .i64 M.id))
  have HB2 := Lib.hid (show Below w.heap.size w (Z.setCell ⟨w.heap.size, 20, none⟩ (.int .i64 M.id)) from HB.out.setCell (p := ⟨w.heap.size, 20, none⟩) (Nat.le_refl _) (.int .i64 M.id))
  go_upto_region 2 with fail
  generalize World.setCell Z _ _ = w2 at *
  have hth : w2.there w.heap.size 21 (mcs mvZ).toArray.size := (HX2.out.cur H1.out).2
  have him : (Try.prog.info? 45).map (·.size) = some (mcs mvZ).toArray.size := Try.infoMs
  have HX3 := Lib.hid (HX2.out.setCur H1.out 0 0 0 0 0 none 0 0)
  have HZ3 := Lib.hid (HZ2.out.sets (c := w.heap.size) (by omega) (mcs mvZ) 21)
  have HB3 := Lib.hid (below_sets (b := w.heap.size) (Nat.le_refl _) (mcs mvZ) 21 HB2.out)
  clear c24 c20 z20
  go_upto_region 4 with (refine wpList_store_mid rfl 45 (.tmp 8) (.tmp 7) rfl w.heap.size 21 (mcs mvZ).toArray rfl rfl hth him (mcs_one _) ?_; clear hth him; have HX4 := Lib.hid (show RmAt (w2.setCells w.heap.size 21 (mcs mvZ).toArray.toList) w.heap.size S d r { M with ver := M.id, kd := 0, fr := 0, tw := 0, id := 0, sl := 0, ra := none, rn := 0, rc := 0 } from HX3.out); have HZ4 := Lib.hid (show RmAt (w2.setCells w.heap.size 21 (mcs mvZ).toArray.toList) (w.heap.size + 1) ⟨#[]⟩ 0 0 mvZ from HZ3.out); have HB4 := Lib.hid (show Below w.heap.size w (w2.setCells w.heap.size 21 (mcs mvZ).toArray.toList) from HB3.out); clear HX3 HZ3 HB3; generalize World.setCells w2 _ _ _ = w3 at *; have z33 := HX4.out.free 33; have c33 := HX4.out.st H1.out; have HX5 := Lib.hid (show RmAt (w3.setCell ⟨w.heap.size, 33, none⟩ (.int .i64 0)) w.heap.size S d r (mend M M.e M.o) from HX4.out.setSt H1.out 0); have HZ5 := Lib.hid (HZ4.out.set (c := w.heap.size) (by omega) 33 (.int .i64 0)); have HB5 := Lib.hid (show Below w.heap.size w (w3.setCell ⟨w.heap.size, 33, none⟩ (.int .i64 0)) from HB4.out.setCell (p := ⟨w.heap.size, 33, none⟩) (Nat.le_refl _) (.int .i64 0)))
  generalize World.setCell w3 _ _ = w4 at *
  clear z33 c33
  go_wp2_with (first
    | (refine wpList_load_mid rfl 47 (.tmp 1) rfl w.heap.size 0 rfl (rmL S d r (mend M M.e M.o)) _ HX5.out.all Try.underlying47 rfl (rmC_info S d r (M := mend M M.e M.o) H1.out) ?_)
    | (refine wpList_store_mid rfl 47 (.tmp 2) (.tmp 10) rfl (w.heap.size + 1) 0 (rmC S d r (mend M M.e M.o)) rfl rfl (HZ5.out.room rfl S d r (M' := mend M M.e M.o) H1.out) (rmC_info S d r (M := mend M M.e M.o) H1.out) (rmC_one _ _ _ _) ?_))
  refine bodyPost_ret (v := .agg (rmC S d r (mend M M.e M.o))) (results_cell_row Try.results36 _ _ (w.heap.size + 1) 47 _ (0, 0) _ rfl (HZ5.out.put rfl S d r (M' := mend M M.e M.o) H1.out) Try.underlying47 rfl (rmC_info S d r (M := mend M M.e M.o) H1.out)) rfl ⟨rfl, below_sets (Nat.le_succ _) _ _ HB5.out⟩
end Go.Proofs.Ytbmmgmdjhhnkfaa

namespace Go.Proofs.Ytbmmgmdjhhnkfaa
open Go.RowKit

theorem Try.infoRD : (Try.prog.info? 39).map (·.size) = some 3 := by kernel_rfl
/-- What a record written by the document comes to. -/
def RwrR (w : World) (S : ByteArray) (d : Int) (r : Nat) (M : Mv) (m : MsgD) (e : Ending) (w' : World) : Prop :=
  (S.size + (Fr.sealed (enc m)).length ≤ r ∧ e = .returned (.tuple #[.agg (rmC (S ++ strOfNums (Fr.sealed (enc m))) ((S ++ strOfNums (Fr.sealed (enc m))).size : Nat) r M), .int .i64 0]) ∨ r < S.size + (Fr.sealed (enc m)).length ∧ e = .returned (.tuple #[.agg (rmC S d r M), .int .i64 3])) ∧ Below w.heap.size w w'
section
variable {k f t i s : Int}
theorem mm_small (k f t i s : Int) : (mM k f t i s).small := ⟨by simp [mM], by simp [mM], by simp [mM]⟩
theorem mm_add (w : World) (S : ByteArray) (d : Int) (r : Nat) (hS : S.size ≤ 1048576) (h1 : InI k) (h2 : InI f) (h3 : InI t) (h4 : InI i) (h5 : InI s) :
    Calls Try.prog 45 #[RD S d r, mV k f t i s] w fun e w' =>
      (S.size + (Fr.sealed (enc (mM k f t i s))).length ≤ r ∧ e = .returned (.tuple #[RD (S ++ strOfNums (Fr.sealed (enc (mM k f t i s)))) d r, .int .i64 0]) ∨ r < S.size + (Fr.sealed (enc (mM k f t i s))).length ∧ e = .returned (.tuple #[RD S d r, .int .i64 3])) ∧ Below w.heap.size w w' :=
  radd_any w (mM k f t i s) none none none none 0 0 0 0 0 0 0 0 (mm_msg w h1 h2 h3 h4 h5) (mm_small _ _ _ _ _) (mm_good h1 h2 h3 h4 h5) (enc_byte _) S d r hS
set_option maxRecDepth 100000 in
set_option maxHeartbeats 8000000 in
theorem rwrite_any (w : World) (S : ByteArray) (d : Int) (r : Nat) (M : Mv) (hM : M.o.length = 16) (hS : S.size ≤ 1048576) (h1 : InI k) (h2 : InI f) (h3 : InI t) (h4 : InI i) (h5 : InI s) :
    Calls Try.prog 33 #[.agg (rmC S d r M), mV k f t i s] w (RwrR w S d r M (mM k f t i s)) := by
  obtain ⟨X, hX, hwX, hbX⟩ := box_new w 47 (rmC S d r M)
  obtain ⟨Y, hY, hwY, hbY⟩ := box_new X 45 #[.int .i64 k, .int .i64 f, .int .i64 t, .int .i64 i, .int .i64 0, .int .i64 0, .int .i64 s, .bool false, .slice none 0 0, .slice none 0 0, .slice none 0 0, .slice none 0 0]
  obtain ⟨Z, hZ, hwZ, hbZ⟩ := box_new Y 47 (rmC ⟨#[]⟩ 0 0 mvZ)
  have hsX : X.heap.size = w.heap.size + 1 := by rw [hX]; exact Array.size_push _
  have hsY : Y.heap.size = w.heap.size + 1 + 1 := by rw [hY, ← hsX]; exact Array.size_push _
  rw [hsX] at hwY
  rw [hsY] at hwZ
  rw [zero_rm] at hZ
  have hb3 : Below w.heap.size w Z := bell_up (bell_up hbX hbY) hbZ
  have HX := Lib.hid (show RmAt Z w.heap.size S d r M from (Whole.kept hwX (hbY.block _ (Whole.lt hwX))).kept (hbZ.block _ (Nat.lt_of_lt_of_le (Whole.lt hwX) hbY.size)))
  have hyz := hwY.kept (hbZ.block _ hwY.lt)
  have HZ := Lib.hid (show RmAt Z (w.heap.size + 1 + 1) ⟨#[]⟩ 0 0 mvZ from hwZ)
  have HB := Lib.hid hb3
  have HAD := Lib.hid (mm_add Z S d r hS h1 h2 h3 h4 h5)
  have k0 := hyz.cell 0
  have k1 := hyz.cell 1
  have k2 := hyz.cell 2
  have k3 := hyz.cell 3
  have k4 := hyz.cell 4
  have k5 := hyz.cell 5
  have k6 := hyz.cell 6
  have k7 := hyz.cell 7
  have k8 := hyz.cell 8
  have k9 := hyz.cell 9
  have k10 := hyz.cell 10
  have k11 := hyz.cell 11
  have d0 := HX.out.disk.1 0 _ rfl
  have d1 := HX.out.disk.1 1 _ rfl
  have d2 := HX.out.disk.1 2 _ rfl
  have HM := Lib.hid hM
  clear hsX hsY hS hwX hwY hwZ hbX hbY hbZ hb3 hyz h1 h2 h3 h4 h5 hM
  unfold RD at HAD
  go_enter Try.func33, Try.ntmps33
  go_upto_region 1 with fail
  rw [← hX, ← hY, ← hZ]
  clear hX hY hZ
  go_wp2_with fail
  refine HAD.out.mono ?_
  rintro e w1 ⟨⟨hfit, rfl⟩ | ⟨hno, rfl⟩, hb1⟩
  · generalize hT : S ++ strOfNums (Fr.sealed (enc (mM k f t i s))) = T at *
    have HX1 := Lib.hid (HX.out.below hb1)
    have HZ1 := Lib.hid (HZ.out.below hb1)
    have HB1 := Lib.hid (bell_up HB.out hb1)
    obtain ⟨W2, hW2, hw2, hb2⟩ := box_new w1 39 #[.string T, .int .i64 d, .int .i64 (r : Int)]
    have HX2 := Lib.hid (HX1.out.below hb2)
    have HZ2 := Lib.hid (HZ1.out.below hb2)
    have HB2 := Lib.hid (bell_up HB1.out hb2)
    have HF := Lib.hid hfit
    have HT := Lib.hid hT
    have e0 := hw2.cell 0
    have e1 := hw2.cell 1
    have e2 := hw2.cell 2
    clear k0 k1 k2 k3 k4 k5 k6 k7 k8 k9 k10 k11 d0 d1 d2 hb1 hb2 hw2 HAD hfit hT HX1 HZ1 HB1 HX HZ HB
    go_upto_region 2 with fail
    rw [← hW2]
    clear hW2
    go_wp2_with fail
    refine (rsync_any T d r W2).mono ?_
    rintro e w3 ⟨rfl, hb3⟩
    unfold RD
    have HX3 := Lib.hid (HX2.out.below hb3)
    have HZ3 := Lib.hid (HZ2.out.below hb3)
    have HB3 := Lib.hid (bell_up HB2.out hb3)
    have HONE := Lib.hid (show #[Value.string T, .int .i64 T.size, .int .i64 (r : Int)].all (·.oneCell') = true by simp [Value.oneCell'])
    have hth : w3.there w.heap.size 0 #[Value.string T, .int .i64 T.size, .int .i64 (r : Int)].size := HX3.out.disk.2
    have him : (Try.prog.info? 39).map (·.size) = some #[Value.string T, .int .i64 T.size, .int .i64 (r : Int)].size := Try.infoRD
    have HX4 := Lib.hid (show RmAt (w3.setCells w.heap.size 0 #[Value.string T, .int .i64 T.size, .int .i64 (r : Int)].toList) w.heap.size T T.size r M from HX3.out.setDisk _ _ _)
    have HZ4 := Lib.hid (HZ3.out.sets (c := w.heap.size) (by omega) #[Value.string T, .int .i64 T.size, .int .i64 (r : Int)].toList 0)
    have HB4 := Lib.hid (below_sets (b := w.heap.size) (Nat.le_refl _) #[Value.string T, .int .i64 T.size, .int .i64 (r : Int)].toList 0 HB3.out)
    clear hb3 e0 e1 e2
    go_wp2_with (first
      | (refine wpList_store_mid rfl 39 (.tmp 19) (.tmp 18) rfl w.heap.size 0 #[Value.string T, .int .i64 T.size, .int .i64 (r : Int)] rfl rfl hth him HONE.out ?_; clear hth him; generalize World.setCells w3 _ _ _ = w4 at *)
      | (refine wpList_load_mid rfl 47 (.tmp 2) rfl w.heap.size 0 rfl (rmL T T.size r M) _ HX4.out.all Try.underlying47 rfl (rmC_info T T.size r HM.out) ?_)
      | (refine wpList_store_mid rfl 47 (.tmp 4) (.tmp 20) rfl (w.heap.size + 1 + 1) 0 (rmC T T.size r M) rfl rfl (HZ4.out.room rfl T T.size r HM.out) (rmC_info T T.size r HM.out) (rmC_one _ _ _ _) ?_))
    refine bodyPost_ret (v := .tuple #[.agg (rmC T T.size r M), .int .i64 0]) (res_two Try.results33 _ _ (w.heap.size + 1 + 1) 47 (rmC T T.size r M) _ _ rfl rfl (HZ4.out.put rfl T T.size r HM.out) Try.underlying47 rfl (rmC_info T T.size r HM.out)) rfl ⟨.inl ⟨HF.out, by rw [HT.out]⟩, below_sets (Nat.le_trans (Nat.le_succ _) (Nat.le_succ _)) _ _ HB4.out⟩
  · have HX1 := Lib.hid (HX.out.below hb1)
    have HZ1 := Lib.hid (HZ.out.below hb1)
    have HB1 := Lib.hid (bell_up HB.out hb1)
    obtain ⟨W2, hW2, hw2, hb2⟩ := box_new w1 39 #[.string S, .int .i64 d, .int .i64 (r : Int)]
    have HX2 := Lib.hid (HX1.out.below hb2)
    have HZ2 := Lib.hid (HZ1.out.below hb2)
    have HB2 := Lib.hid (bell_up HB1.out hb2)
    have HF := Lib.hid hno
    clear k0 k1 k2 k3 k4 k5 k6 k7 k8 k9 k10 k11 d0 d1 d2 hb1 hb2 hw2 HAD hno HX1 HZ1 HB1 HX HZ HB
    go_upto_region 2 with fail
    rw [← hW2]
    clear hW2
    go_wp2_with (first
      | (refine wpList_load_mid rfl 47 (.tmp 2) rfl w.heap.size 0 rfl (rmL S d r M) _ HX2.out.all Try.underlying47 rfl (rmC_info S d r HM.out) ?_)
      | (refine wpList_store_mid rfl 47 (.tmp 4) (.tmp 20) rfl (w.heap.size + 1 + 1) 0 (rmC S d r M) rfl rfl (HZ2.out.room rfl S d r HM.out) (rmC_info S d r HM.out) (rmC_one _ _ _ _) ?_))
    refine bodyPost_ret (v := .tuple #[.agg (rmC S d r M), .int .i64 3]) (res_two Try.results33 _ _ (w.heap.size + 1 + 1) 47 (rmC S d r M) _ _ rfl rfl (HZ2.out.put rfl S d r HM.out) Try.underlying47 rfl (rmC_info S d r HM.out)) rfl ⟨.inr ⟨HF.out, rfl⟩, below_sets (Nat.le_trans (Nat.le_succ _) (Nat.le_succ _)) _ _ HB2.out⟩
end
end Go.Proofs.Ytbmmgmdjhhnkfaa

namespace Go.Proofs.Ytbmmgmdjhhnkfaa
open Go.RowKit

/-- What an undoing comes to. -/
def RunR (w : World) (S : ByteArray) (d : Int) (r : Nat) (M : Mv) (e : Ending) (w' : World) : Prop :=
  (S.size + (Fr.sealed (enc (mM 13 0 0 M.id 0))).length ≤ r ∧ e = .returned (.tuple #[.agg (rmC (S ++ strOfNums (Fr.sealed (enc (mM 13 0 0 M.id 0)))) ((S ++ strOfNums (Fr.sealed (enc (mM 13 0 0 M.id 0)))).size : Nat) r (mend M M.e M.o)), .int .i64 0]) ∨ r < S.size + (Fr.sealed (enc (mM 13 0 0 M.id 0))).length ∧ e = .returned (.tuple #[.agg (rmC S d r M), .int .i64 3])) ∧ Below w.heap.size w w'
set_option maxRecDepth 100000 in
set_option maxHeartbeats 8000000 in
theorem rundo_none (w : World) (S : ByteArray) (d : Int) (r : Nat) (M : Mv) (hM : M.o.length = 16) (h0 : M.st = 0) :
    Calls Try.prog 19 #[.agg (rmC S d r M)] w fun e w' => e = .returned (.tuple #[.agg (rmC S d r M), .int .i64 4]) ∧ Below w.heap.size w w' := by
  obtain ⟨X, Z, hX, hZ, h2, h3, hb, hs⟩ := rm_two w S d r M
  rw [zero_rm] at hZ
  have HX := Lib.hid h2
  have HZ := Lib.hid h3
  have HB := Lib.hid hb
  have HM := Lib.hid hM
  have c33 := h2.st hM
  rw [h0] at c33
  clear h2 h3 hb hs hM h0
  go_enter Try.func19, Try.ntmps19
  go_upto_region 1 with fail
  rw [← hX, ← hZ]
  clear hX hZ
  go_wp2_with (first
    | (refine wpList_load_mid rfl 47 (.tmp 1) rfl w.heap.size 0 rfl (rmL S d r M) _ HX.out.all Try.underlying47 rfl (rmC_info S d r (M := M) HM.out) ?_)
    | (refine wpList_store_mid rfl 47 (.tmp 2) (.tmp 8) rfl (w.heap.size + 1) 0 (rmC S d r M) rfl rfl (HZ.out.room rfl S d r (M' := M) HM.out) (rmC_info S d r (M := M) HM.out) (rmC_one _ _ _ _) ?_))
  refine bodyPost_ret (v := .tuple #[.agg (rmC S d r M), .int .i64 4]) (res_two Try.results19 _ _ (w.heap.size + 1) 47 (rmC S d r M) _ _ rfl rfl (HZ.out.put rfl S d r (M' := M) HM.out) Try.underlying47 rfl (rmC_info S d r (M := M) HM.out)) rfl ⟨rfl, below_sets (Nat.le_succ _) _ _ HB.out⟩
set_option maxRecDepth 100000 in
set_option maxHeartbeats 8000000 in
theorem rundo_any (w : World) (S : ByteArray) (d : Int) (r : Nat) (M : Mv) (hM : M.o.length = 16) (h0 : M.st ≠ 0) (hS : S.size ≤ 1048576) (hi : InI M.id) :
    Calls Try.prog 19 #[.agg (rmC S d r M)] w (RunR w S d r M) := by
  obtain ⟨X, Z, hX, hZ, h2, h3, hb, hs⟩ := rm_two w S d r M
  rw [zero_rm] at hZ
  have HX := Lib.hid h2
  have HZ := Lib.hid h3
  have HB := Lib.hid hb
  have HM := Lib.hid hM
  have c33 := h2.st hM
  have f0 : (M.st == 0) = false := by simpa using h0
  have c24 := h2.c24 hM
  have HWR := Lib.hid (rwrite_any (k := 13) (f := 0) (t := 0) (i := M.id) (s := 0) Z S d r M hM hS ⟨by omega, by omega⟩ ini0 ini0 hi ini0)
  clear h2 h3 hb hs hM h0 hS hi
  go_enter Try.func19, Try.ntmps19
  go_upto_region 1 with fail
  rw [← hX, ← hZ]
  clear hX hZ
  go_wp2_with (refine wpList_load_mid rfl 47 (.tmp 1) rfl w.heap.size 0 rfl (rmL S d r M) _ HX.out.all Try.underlying47 rfl (rmC_info S d r (M := M) HM.out) ?_)
  refine HWR.out.mono ?_
  rintro e w1 ⟨hw, hb1⟩
  have HX1 := Lib.hid (HX.out.below hb1)
  have HZ1 := Lib.hid (HZ.out.below hb1)
  have HB1 := Lib.hid (bell_up HB.out hb1)
  clear hb1 HWR c33 c24
  rcases hw with ⟨hfit, rfl⟩ | ⟨hno, rfl⟩
  · generalize hT : S ++ strOfNums (Fr.sealed (enc (mM 13 0 0 M.id 0))) = T at *
    have HF := Lib.hid (And.intro hfit hT)
    clear hfit hT
    have HX2 := Lib.hid (HX1.out.put HM.out T T.size r HM.out)
    have HZ2 := Lib.hid (HZ1.out.sets (c := w.heap.size) (by omega) (rmC T T.size r M).toList 0)
    have HB2 := Lib.hid (below_sets (b := w.heap.size) (Nat.le_refl _) (rmC T T.size r M).toList 0 HB1.out)
    go_wp2_with (first
      | (refine wpList_store_mid rfl 47 (.tmp 1) (.tmp 16) rfl w.heap.size 0 (rmC T T.size r M) rfl rfl (HX1.out.room HM.out T T.size r HM.out) (rmC_info T T.size r HM.out) (rmC_one _ _ _ _) ?_; generalize World.setCells w1 _ _ _ = w2 at *)
      | (refine wpList_load_mid rfl 47 (.tmp 1) rfl w.heap.size 0 rfl (rmL T T.size r M) _ HX2.out.all Try.underlying47 rfl (rmC_info T T.size r (M := M) HM.out) ?_))
    refine (rend_any w2 T T.size r M HM.out).mono ?_
    rintro e w3 ⟨rfl, hb3⟩
    have HZ3 := Lib.hid (HZ2.out.below hb3)
    have HB3 := Lib.hid (bell_up HB2.out hb3)
    clear hb3
    go_wp2_with (refine wpList_store_mid rfl 47 (.tmp 2) (.tmp 23) rfl (w.heap.size + 1) 0 (rmC T T.size r (mend M M.e M.o)) rfl rfl (HZ3.out.room rfl T T.size r (M' := (mend M M.e M.o)) HM.out) (rmC_info T T.size r (M := (mend M M.e M.o)) HM.out) (rmC_one _ _ _ _) ?_)
    refine bodyPost_ret (v := .tuple #[.agg (rmC T T.size r (mend M M.e M.o)), .int .i64 0]) (res_two Try.results19 _ _ (w.heap.size + 1) 47 (rmC T T.size r (mend M M.e M.o)) _ _ rfl rfl (HZ3.out.put rfl T T.size r (M' := (mend M M.e M.o)) HM.out) Try.underlying47 rfl (rmC_info T T.size r (M := (mend M M.e M.o)) HM.out)) rfl ⟨.inl ⟨HF.out.1, by rw [HF.out.2]⟩, below_sets (Nat.le_succ _) _ _ HB3.out⟩
  · have HF := Lib.hid hno
    clear hno
    have HX2 := Lib.hid (HX1.out.put HM.out S d r HM.out)
    have HZ2 := Lib.hid (HZ1.out.sets (c := w.heap.size) (by omega) (rmC S d r M).toList 0)
    have HB2 := Lib.hid (below_sets (b := w.heap.size) (Nat.le_refl _) (rmC S d r M).toList 0 HB1.out)
    go_wp2_with (first
      | (refine wpList_store_mid rfl 47 (.tmp 1) (.tmp 16) rfl w.heap.size 0 (rmC S d r M) rfl rfl (HX1.out.room HM.out S d r HM.out) (rmC_info S d r HM.out) (rmC_one _ _ _ _) ?_; generalize World.setCells w1 _ _ _ = w2 at *)
      | (refine wpList_load_mid rfl 47 (.tmp 1) rfl w.heap.size 0 rfl (rmL S d r M) _ HX2.out.all Try.underlying47 rfl (rmC_info S d r (M := M) HM.out) ?_)
      | (refine wpList_store_mid rfl 47 (.tmp 2) (.tmp 20) rfl (w.heap.size + 1) 0 (rmC S d r M) rfl rfl (HZ2.out.room rfl S d r (M' := M) HM.out) (rmC_info S d r (M := M) HM.out) (rmC_one _ _ _ _) ?_))
    refine bodyPost_ret (v := .tuple #[.agg (rmC S d r M), .int .i64 3]) (res_two Try.results19 _ _ (w.heap.size + 1) 47 (rmC S d r M) _ _ rfl rfl (HZ2.out.put rfl S d r (M' := M) HM.out) Try.underlying47 rfl (rmC_info S d r (M := M) HM.out)) rfl ⟨.inr ⟨HF.out, rfl⟩, below_sets (Nat.le_succ _) _ _ HB2.out⟩
set_option maxRecDepth 100000 in
set_option maxHeartbeats 8000000 in
theorem ropen_none (w : World) (S : ByteArray) (d : Int) (r : Nat) (M : Mv) (hM : M.o.length = 16) (h0 : M.st = 0) :
    Calls Try.prog 21 #[.agg (rmC S d r M)] w fun e w' => e = .returned (.tuple #[.agg (rmC S d r M), .int .i64 0]) ∧ Below w.heap.size w w' := by
  obtain ⟨X, Z, hX, hZ, h2, h3, hb, hs⟩ := rm_two w S d r M
  rw [zero_rm] at hZ
  have HX := Lib.hid h2
  have HZ := Lib.hid h3
  have HB := Lib.hid hb
  have HM := Lib.hid hM
  have c33 := h2.st hM
  rw [h0] at c33
  clear h2 h3 hb hs hM h0
  go_enter Try.func21, Try.ntmps21
  go_upto_region 1 with fail
  rw [← hX, ← hZ]
  clear hX hZ
  go_wp2_with (first
    | (refine wpList_load_mid rfl 47 (.tmp 1) rfl w.heap.size 0 rfl (rmL S d r M) _ HX.out.all Try.underlying47 rfl (rmC_info S d r (M := M) HM.out) ?_)
    | (refine wpList_store_mid rfl 47 (.tmp 2) (.tmp 7) rfl (w.heap.size + 1) 0 (rmC S d r M) rfl rfl (HZ.out.room rfl S d r (M' := M) HM.out) (rmC_info S d r (M := M) HM.out) (rmC_one _ _ _ _) ?_))
  refine bodyPost_ret (v := .tuple #[.agg (rmC S d r M), .int .i64 0]) (res_two Try.results21 _ _ (w.heap.size + 1) 47 (rmC S d r M) _ _ rfl rfl (HZ.out.put rfl S d r (M' := M) HM.out) Try.underlying47 rfl (rmC_info S d r (M := M) HM.out)) rfl ⟨rfl, below_sets (Nat.le_succ _) _ _ HB.out⟩
set_option maxRecDepth 100000 in
set_option maxHeartbeats 8000000 in
theorem ropen_any (w : World) (S : ByteArray) (d : Int) (r : Nat) (M : Mv) (hM : M.o.length = 16) (h0 : M.st ≠ 0) (hS : S.size ≤ 1048576) (hi : InI M.id) :
    Calls Try.prog 21 #[.agg (rmC S d r M)] w (RunR w S d r M) := by
  obtain ⟨X, Z, hX, hZ, h2, h3, hb, hs⟩ := rm_two w S d r M
  rw [zero_rm] at hZ
  have HX := Lib.hid h2
  have HZ := Lib.hid h3
  have HB := Lib.hid hb
  have HM := Lib.hid hM
  have c33 := h2.st hM
  have f0 : (M.st == 0) = false := by simpa using h0
  have HUN := Lib.hid (rundo_any Z S d r M hM h0 hS hi)
  clear h2 h3 hb hs hM h0 hS hi
  go_enter Try.func21, Try.ntmps21
  go_upto_region 1 with fail
  rw [← hX, ← hZ]
  clear hX hZ
  go_wp2_with (refine wpList_load_mid rfl 47 (.tmp 1) rfl w.heap.size 0 rfl (rmL S d r M) _ HX.out.all Try.underlying47 rfl (rmC_info S d r (M := M) HM.out) ?_)
  refine HUN.out.mono ?_
  rintro e w1 ⟨hw, hb1⟩
  have HZ1 := Lib.hid (HZ.out.below hb1)
  have HB1 := Lib.hid (bell_up HB.out hb1)
  clear hb1 HUN c33
  rcases hw with ⟨hfit, rfl⟩ | ⟨hno, rfl⟩
  · generalize hT : S ++ strOfNums (Fr.sealed (enc (mM 13 0 0 M.id 0))) = T at *
    have HF := Lib.hid (And.intro hfit hT)
    clear hfit hT
    go_wp2_with (refine wpList_store_mid rfl 47 (.tmp 2) (.tmp 10) rfl (w.heap.size + 1) 0 (rmC T T.size r (mend M M.e M.o)) rfl rfl (HZ1.out.room rfl T T.size r (M' := (mend M M.e M.o)) HM.out) (rmC_info T T.size r (M := (mend M M.e M.o)) HM.out) (rmC_one _ _ _ _) ?_)
    refine bodyPost_ret (v := .tuple #[.agg (rmC T T.size r (mend M M.e M.o)), .int .i64 0]) (res_two Try.results21 _ _ (w.heap.size + 1) 47 (rmC T T.size r (mend M M.e M.o)) _ _ rfl rfl (HZ1.out.put rfl T T.size r (M' := (mend M M.e M.o)) HM.out) Try.underlying47 rfl (rmC_info T T.size r (M := (mend M M.e M.o)) HM.out)) rfl ⟨.inl ⟨HF.out.1, by rw [HF.out.2]⟩, below_sets (Nat.le_succ _) _ _ HB1.out⟩
  · have HF := Lib.hid hno
    clear hno
    go_wp2_with (refine wpList_store_mid rfl 47 (.tmp 2) (.tmp 10) rfl (w.heap.size + 1) 0 (rmC S d r M) rfl rfl (HZ1.out.room rfl S d r (M' := M) HM.out) (rmC_info S d r (M := M) HM.out) (rmC_one _ _ _ _) ?_)
    refine bodyPost_ret (v := .tuple #[.agg (rmC S d r M), .int .i64 3]) (res_two Try.results21 _ _ (w.heap.size + 1) 47 (rmC S d r M) _ _ rfl rfl (HZ1.out.put rfl S d r (M' := M) HM.out) Try.underlying47 rfl (rmC_info S d r (M := M) HM.out)) rfl ⟨.inr ⟨HF.out, rfl⟩, below_sets (Nat.le_succ _) _ _ HB1.out⟩
end Go.Proofs.Ytbmmgmdjhhnkfaa

namespace Go.Proofs.Ytbmmgmdjhhnkfaa
open Go.RowKit

set_option maxRecDepth 100000 in
set_option maxHeartbeats 8000000 in
theorem rfenced_no (w : World) (S : ByteArray) (d : Int) (r : Nat) (M : Mv) (hM : M.o.length = 16) (i : Int) (a : Option Addr) (n c : Nat) (hs2 : ¬ (M.st = 1 ∧ M.id = i)) :
    Calls Try.prog 15 #[.agg (rmC S d r M), .int .i64 i, .slice a n c] w fun e w' => e = .returned (.tuple #[.agg (rmC S d r M), .int .i64 154]) ∧ Below w.heap.size w w' := by
  obtain ⟨X, Z, hX, hZ, h2, h3, hb, hs⟩ := rm_two w S d r M
  rw [zero_rm] at hZ
  have HX := Lib.hid h2
  have HZ := Lib.hid h3
  have HB := Lib.hid hb
  have HM := Lib.hid hM
  have c33 := h2.st hM
  have c24 := h2.c24 hM
  clear h2 h3 hb hs hM
  by_cases h5 : M.st = 1
  · rw [h5] at c33
    have h6 : ¬ M.id = i := fun h => hs2 ⟨h5, h⟩
    have f2 : (M.id == i) = false := by simpa using h6
    have f3 : (M.id != i) = true := by simpa using h6
    clear hs2 h5 h6
    go_enter Try.func15, Try.ntmps15
    go_upto_region 1 with fail
    rw [← hX, ← hZ]
    clear hX hZ
    go_wp2_with (first
      | (refine wpList_load_mid rfl 47 (.tmp 3) rfl w.heap.size 0 rfl (rmL S d r M) _ HX.out.all Try.underlying47 rfl (rmC_info S d r (M := M) HM.out) ?_)
      | (refine wpList_store_mid rfl 47 (.tmp 6) (.tmp 18) rfl (w.heap.size + 1) 0 (rmC S d r M) rfl rfl (HZ.out.room rfl S d r (M' := M) HM.out) (rmC_info S d r (M := M) HM.out) (rmC_one _ _ _ _) ?_))
    refine bodyPost_ret (v := .tuple #[.agg (rmC S d r M), .int .i64 154]) (res_two Try.results15 _ _ (w.heap.size + 1) 47 (rmC S d r M) _ _ rfl rfl (HZ.out.put rfl S d r (M' := M) HM.out) Try.underlying47 rfl (rmC_info S d r (M := M) HM.out)) rfl ⟨rfl, below_sets (Nat.le_succ _) _ _ HB.out⟩
  · have f2 : (M.st == 1) = false := by simpa using h5
    have f3 : (M.st != 1) = true := by simpa using h5
    clear hs2 h5
    go_enter Try.func15, Try.ntmps15
    go_upto_region 1 with fail
    rw [← hX, ← hZ]
    clear hX hZ
    go_wp2_with (first
      | (refine wpList_load_mid rfl 47 (.tmp 3) rfl w.heap.size 0 rfl (rmL S d r M) _ HX.out.all Try.underlying47 rfl (rmC_info S d r (M := M) HM.out) ?_)
      | (refine wpList_store_mid rfl 47 (.tmp 6) (.tmp 18) rfl (w.heap.size + 1) 0 (rmC S d r M) rfl rfl (HZ.out.room rfl S d r (M' := M) HM.out) (rmC_info S d r (M := M) HM.out) (rmC_one _ _ _ _) ?_))
    refine bodyPost_ret (v := .tuple #[.agg (rmC S d r M), .int .i64 154]) (res_two Try.results15 _ _ (w.heap.size + 1) 47 (rmC S d r M) _ _ rfl rfl (HZ.out.put rfl S d r (M' := M) HM.out) Try.underlying47 rfl (rmC_info S d r (M := M) HM.out)) rfl ⟨rfl, below_sets (Nat.le_succ _) _ _ HB.out⟩
set_option maxRecDepth 100000 in
set_option maxHeartbeats 8000000 in
theorem rinstalled_no (w : World) (S : ByteArray) (d : Int) (r : Nat) (M : Mv) (hM : M.o.length = 16) (i : Int) (hs2 : ¬ (M.st = 2 ∧ M.id = i)) :
    Calls Try.prog 17 #[.agg (rmC S d r M), .int .i64 i] w fun e w' => e = .returned (.tuple #[.agg (rmC S d r M), .int .i64 154]) ∧ Below w.heap.size w w' := by
  obtain ⟨X, Z, hX, hZ, h2, h3, hb, hs⟩ := rm_two w S d r M
  rw [zero_rm] at hZ
  have HX := Lib.hid h2
  have HZ := Lib.hid h3
  have HB := Lib.hid hb
  have HM := Lib.hid hM
  have c33 := h2.st hM
  have c24 := h2.c24 hM
  clear h2 h3 hb hs hM
  by_cases h5 : M.st = 2
  · rw [h5] at c33
    have h6 : ¬ M.id = i := fun h => hs2 ⟨h5, h⟩
    have f2 : (M.id == i) = false := by simpa using h6
    have f3 : (M.id != i) = true := by simpa using h6
    clear hs2 h5 h6
    go_enter Try.func17, Try.ntmps17
    go_upto_region 1 with fail
    rw [← hX, ← hZ]
    clear hX hZ
    go_wp2_with (first
      | (refine wpList_load_mid rfl 47 (.tmp 2) rfl w.heap.size 0 rfl (rmL S d r M) _ HX.out.all Try.underlying47 rfl (rmC_info S d r (M := M) HM.out) ?_)
      | (refine wpList_store_mid rfl 47 (.tmp 4) (.tmp 17) rfl (w.heap.size + 1) 0 (rmC S d r M) rfl rfl (HZ.out.room rfl S d r (M' := M) HM.out) (rmC_info S d r (M := M) HM.out) (rmC_one _ _ _ _) ?_))
    refine bodyPost_ret (v := .tuple #[.agg (rmC S d r M), .int .i64 154]) (res_two Try.results17 _ _ (w.heap.size + 1) 47 (rmC S d r M) _ _ rfl rfl (HZ.out.put rfl S d r (M' := M) HM.out) Try.underlying47 rfl (rmC_info S d r (M := M) HM.out)) rfl ⟨rfl, below_sets (Nat.le_succ _) _ _ HB.out⟩
  · have f2 : (M.st == 2) = false := by simpa using h5
    have f3 : (M.st != 2) = true := by simpa using h5
    clear hs2 h5
    go_enter Try.func17, Try.ntmps17
    go_upto_region 1 with fail
    rw [← hX, ← hZ]
    clear hX hZ
    go_wp2_with (first
      | (refine wpList_load_mid rfl 47 (.tmp 2) rfl w.heap.size 0 rfl (rmL S d r M) _ HX.out.all Try.underlying47 rfl (rmC_info S d r (M := M) HM.out) ?_)
      | (refine wpList_store_mid rfl 47 (.tmp 4) (.tmp 17) rfl (w.heap.size + 1) 0 (rmC S d r M) rfl rfl (HZ.out.room rfl S d r (M' := M) HM.out) (rmC_info S d r (M := M) HM.out) (rmC_one _ _ _ _) ?_))
    refine bodyPost_ret (v := .tuple #[.agg (rmC S d r M), .int .i64 154]) (res_two Try.results17 _ _ (w.heap.size + 1) 47 (rmC S d r M) _ _ rfl rfl (HZ.out.put rfl S d r (M' := M) HM.out) Try.underlying47 rfl (rmC_info S d r (M := M) HM.out)) rfl ⟨rfl, below_sets (Nat.le_succ _) _ _ HB.out⟩
set_option maxRecDepth 100000 in
set_option maxHeartbeats 8000000 in
theorem rfenced_any (w : World) (S : ByteArray) (d : Int) (r : Nat) (M : Mv) (hM : M.o.length = 16) (i : Int) (a : Option Addr) (n c : Nat) (hs1 : M.st = 1) (hs2 : M.id = i) :
    Calls Try.prog 15 #[.agg (rmC S d r M), .int .i64 i, .slice a n c] w fun e w' => e = .returned (.tuple #[.agg (rmC S d r { M with ra := a, rn := n, rc := c, st := 2 }), .int .i64 0]) ∧ Below w.heap.size w w' := by
  obtain ⟨X, Z, hX, hZ, h2, h3, hb, hs⟩ := rm_two w S d r M
  rw [zero_rm] at hZ
  have HX := Lib.hid h2
  have HZ := Lib.hid h3
  have HB := Lib.hid hb
  have HM := Lib.hid hM
  have c33 := h2.st hM
  have c24 := h2.c24 hM
  rw [hs1] at c33
  rw [← hs2]
  have c32 := h2.c32 hM
  have z32 := h2.free 32
  have z33 := h2.free 33
  have f2 : (M.id == M.id) = true := by simp
  have f3 : (M.id != M.id) = false := by simp
  have HX2 := Lib.hid (show RmAt (Z.setCell ⟨w.heap.size, 32, none⟩ (.slice a n c)) w.heap.size S d r { M with ra := a, rn := n, rc := c } from HX.out.setRows HM.out a n c)
  have HX3 := Lib.hid (show RmAt ((Z.setCell ⟨w.heap.size, 32, none⟩ (.slice a n c)).setCell ⟨w.heap.size, 33, none⟩ (.int .i64 2)) w.heap.size S d r { M with ra := a, rn := n, rc := c, st := 2 } from HX2.out.setSt HM.out 2)
  have HZ3 := Lib.hid ((HZ.out.set (c := w.heap.size) (by omega) 32 (.slice a n c)).set (c := w.heap.size) (by omega) 33 (.int .i64 2))
  have HB3 := Lib.hid (show Below w.heap.size w ((Z.setCell ⟨w.heap.size, 32, none⟩ (.slice a n c)).setCell ⟨w.heap.size, 33, none⟩ (.int .i64 2)) from (HB.out.setCell (p := ⟨w.heap.size, 32, none⟩) (Nat.le_refl _) (.slice a n c)).setCell (p := ⟨w.heap.size, 33, none⟩) (Nat.le_refl _) (.int .i64 2))
  clear h2 h3 hb hs hM hs1 hs2
  go_enter Try.func15, Try.ntmps15
  go_upto_region 1 with fail
  rw [← hX, ← hZ]
  clear hX hZ
  go_upto_region 5 with fail
  generalize World.setCell _ _ _ = w3 at *
  go_wp2_with (first
    | (refine wpList_load_mid rfl 47 (.tmp 3) rfl w.heap.size 0 rfl (rmL S d r { M with ra := a, rn := n, rc := c, st := 2 }) _ HX3.out.all Try.underlying47 rfl (rmC_info S d r (M := { M with ra := a, rn := n, rc := c, st := 2 }) HM.out) ?_)
    | (refine wpList_store_mid rfl 47 (.tmp 6) (.tmp 23) rfl (w.heap.size + 1) 0 (rmC S d r { M with ra := a, rn := n, rc := c, st := 2 }) rfl rfl (HZ3.out.room rfl S d r (M' := { M with ra := a, rn := n, rc := c, st := 2 }) HM.out) (rmC_info S d r (M := { M with ra := a, rn := n, rc := c, st := 2 }) HM.out) (rmC_one _ _ _ _) ?_))
  refine bodyPost_ret (v := .tuple #[.agg (rmC S d r { M with ra := a, rn := n, rc := c, st := 2 }), .int .i64 0]) (res_two Try.results15 _ _ (w.heap.size + 1) 47 (rmC S d r { M with ra := a, rn := n, rc := c, st := 2 }) _ _ rfl rfl (HZ3.out.put rfl S d r (M' := { M with ra := a, rn := n, rc := c, st := 2 }) HM.out) Try.underlying47 rfl (rmC_info S d r (M := { M with ra := a, rn := n, rc := c, st := 2 }) HM.out)) rfl ⟨rfl, below_sets (Nat.le_succ _) _ _ HB3.out⟩
/-- What a move done with comes to. -/
def RinR (w : World) (S : ByteArray) (d : Int) (r : Nat) (M : Mv) (e : Ending) (w' : World) : Prop :=
  (S.size + (Fr.sealed (enc (mM 12 0 0 M.id 0))).length ≤ r ∧ e = .returned (.tuple #[.agg (rmC (S ++ strOfNums (Fr.sealed (enc (mM 12 0 0 M.id 0)))) ((S ++ strOfNums (Fr.sealed (enc (mM 12 0 0 M.id 0)))).size : Nat) r (mend M (Mt.move M.e M.o M.sl M.tw).1 (Mt.move M.e M.o M.sl M.tw).2.1)), .int .i64 0]) ∨ r < S.size + (Fr.sealed (enc (mM 12 0 0 M.id 0))).length ∧ e = .returned (.tuple #[.agg (rmC S d r M), .int .i64 3])) ∧ Below w.heap.size w w'
set_option maxRecDepth 100000 in
set_option maxHeartbeats 8000000 in
theorem rinstalled_any (w : World) (S : ByteArray) (d : Int) (r : Nat) (M : Mv) (hM : M.o.length = 16) (hs1 : M.st = 2) (hS : S.size ≤ 1048576) (hi : InI M.id) :
    Calls Try.prog 17 #[.agg (rmC S d r M), .int .i64 M.id] w (RinR w S d r M) := by
  obtain ⟨X, Z, hX, hZ, h2, h3, hb, hs⟩ := rm_two w S d r M
  rw [zero_rm] at hZ
  have HX := Lib.hid h2
  have HZ := Lib.hid h3
  have HB := Lib.hid hb
  have HM := Lib.hid hM
  have c33 := h2.st hM
  have c24 := h2.c24 hM
  rw [hs1] at c33
  have f2 : (M.id == M.id) = true := by simp
  have f3 : (M.id != M.id) = false := by simp
  have HWR := Lib.hid (rwrite_any (k := 12) (f := 0) (t := 0) (i := M.id) (s := 0) Z S d r M hM hS ⟨by omega, by omega⟩ ini0 ini0 hi ini0)
  clear h2 h3 hb hs hM hs1 hS hi
  go_enter Try.func17, Try.ntmps17
  go_upto_region 1 with fail
  rw [← hX, ← hZ]
  clear hX hZ
  go_wp2_with (refine wpList_load_mid rfl 47 (.tmp 2) rfl w.heap.size 0 rfl (rmL S d r M) _ HX.out.all Try.underlying47 rfl (rmC_info S d r (M := M) HM.out) ?_)
  refine HWR.out.mono ?_
  rintro e w1 ⟨hw, hb1⟩
  have HX1 := Lib.hid (HX.out.below hb1)
  have HZ1 := Lib.hid (HZ.out.below hb1)
  have HB1 := Lib.hid (bell_up HB.out hb1)
  clear hb1 HWR c33 c24
  rcases hw with ⟨hfit, rfl⟩ | ⟨hno, rfl⟩
  · generalize hT : S ++ strOfNums (Fr.sealed (enc (mM 12 0 0 M.id 0))) = T at *
    have HF := Lib.hid (And.intro hfit hT)
    clear hfit hT
    have HX2 := Lib.hid (HX1.out.put HM.out T T.size r HM.out)
    have HZ2 := Lib.hid (HZ1.out.sets (c := w.heap.size) (by omega) (rmC T T.size r M).toList 0)
    have HB2 := Lib.hid (below_sets (b := w.heap.size) (Nat.le_refl _) (rmC T T.size r M).toList 0 HB1.out)
    have HMV := Lib.hid (fun W => rmove_any M.sl M.tw W (T := (tL M.e M.o).toArray) (e := M.e) (o := M.o) ⟨rfl, HM.out⟩)
    have HLM := Lib.hid (move_len (e := M.e) M.sl M.tw HM.out)
    generalize hV : Mt.move M.e M.o M.sl M.tw = V at *
    obtain ⟨e2, o2, cd⟩ := V
    have HVV := Lib.hid hV
    clear hV
    go_wp2_with (first
      | (refine wpList_store_mid rfl 47 (.tmp 2) (.tmp 23) rfl w.heap.size 0 (rmC T T.size r M) rfl rfl (HX1.out.room HM.out T T.size r HM.out) (rmC_info T T.size r HM.out) (rmC_one _ _ _ _) ?_; generalize World.setCells w1 _ _ _ = w2 at *; have c27 := HX2.out.c27 HM.out; have c23 := HX2.out.c23 HM.out)
      | (refine wpList_load_mid rfl 36 (.tmp 30) rfl w.heap.size 3 rfl (tL M.e M.o) _ (HX2.out.tab HM.out).1 Try.underlying36 rfl (show (Try.prog.info? 36).map (·.size) = some (tL M.e M.o).length from (tL_len M.e HM.out).symm ▸ Try.infoRT) ?_))
    refine (HMV.out w2).mono ?_
    rintro e w3 ⟨rfl, hb3⟩
    have HX3 := Lib.hid (HX2.out.below hb3)
    have HZ3 := Lib.hid (HZ2.out.below hb3)
    have HB3 := Lib.hid (bell_up HB2.out hb3)
    have HX4 := Lib.hid (show RmAt (w3.setCells w.heap.size 3 (tcs e2 o2).toList) w.heap.size T T.size r { M with e := e2, o := o2 } from HX3.out.setTab HM.out HLM.out)
    have HZ4 := Lib.hid (HZ3.out.sets (c := w.heap.size) (by omega) (tcs e2 o2).toList 3)
    have HB4 := Lib.hid (below_sets (b := w.heap.size) (Nat.le_refl _) (tcs e2 o2).toList 3 HB3.out)
    have HI4 := Lib.hid (show (Try.prog.info? 36).map (·.size) = some (tcs e2 o2).size by rw [tcs_size _ _ HLM.out]; exact Try.infoRT)
    have HT4 := Lib.hid (show w3.there w.heap.size 3 (tcs e2 o2).size by rw [tcs_size _ _ HLM.out]; exact (HX3.out.tab HM.out).2)
    clear hb3 c27 c23
    go_wp2_with (first
      | (refine wpList_store_mid rfl 36 (.tmp 41) (.tmp 39) rfl w.heap.size 3 (tcs e2 o2) rfl rfl HT4.out HI4.out (tcs_one _ _) ?_; generalize World.setCells w3 _ _ _ = w4 at *)
      | (refine wpList_load_mid rfl 47 (.tmp 2) rfl w.heap.size 0 rfl (rmL T T.size r { M with e := e2, o := o2 }) _ HX4.out.all Try.underlying47 rfl (rmC_info T T.size r (M := { M with e := e2, o := o2 }) HLM.out) ?_))
    refine (rend_any w4 T T.size r { M with e := e2, o := o2 } HLM.out).mono ?_
    rintro e w5 ⟨rfl, hb5⟩
    have HZ5 := Lib.hid (HZ4.out.below hb5)
    have HB5 := Lib.hid (bell_up HB4.out hb5)
    clear hb5
    go_wp2_with (refine wpList_store_mid rfl 47 (.tmp 4) (.tmp 43) rfl (w.heap.size + 1) 0 (rmC T T.size r (mend M e2 o2)) rfl rfl (HZ5.out.room rfl T T.size r (M' := (mend M e2 o2)) HLM.out) (rmC_info T T.size r (M := (mend M e2 o2)) HLM.out) (rmC_one _ _ _ _) ?_)
    refine bodyPost_ret (v := .tuple #[.agg (rmC T T.size r (mend M e2 o2)), .int .i64 0]) (res_two Try.results17 _ _ (w.heap.size + 1) 47 (rmC T T.size r (mend M e2 o2)) _ _ rfl rfl (HZ5.out.put rfl T T.size r (M' := (mend M e2 o2)) HLM.out) Try.underlying47 rfl (rmC_info T T.size r (M := (mend M e2 o2)) HLM.out)) rfl ⟨.inl ⟨HF.out.1, by rw [HF.out.2, HVV.out]⟩, below_sets (Nat.le_succ _) _ _ HB5.out⟩
  · have HF := Lib.hid hno
    clear hno
    have HX2 := Lib.hid (HX1.out.put HM.out S d r HM.out)
    have HZ2 := Lib.hid (HZ1.out.sets (c := w.heap.size) (by omega) (rmC S d r M).toList 0)
    have HB2 := Lib.hid (below_sets (b := w.heap.size) (Nat.le_refl _) (rmC S d r M).toList 0 HB1.out)
    go_wp2_with (first
      | (refine wpList_store_mid rfl 47 (.tmp 2) (.tmp 23) rfl w.heap.size 0 (rmC S d r M) rfl rfl (HX1.out.room HM.out S d r HM.out) (rmC_info S d r HM.out) (rmC_one _ _ _ _) ?_; generalize World.setCells w1 _ _ _ = w2 at *)
      | (refine wpList_load_mid rfl 47 (.tmp 2) rfl w.heap.size 0 rfl (rmL S d r M) _ HX2.out.all Try.underlying47 rfl (rmC_info S d r (M := M) HM.out) ?_)
      | (refine wpList_store_mid rfl 47 (.tmp 4) (.tmp 27) rfl (w.heap.size + 1) 0 (rmC S d r M) rfl rfl (HZ2.out.room rfl S d r (M' := M) HM.out) (rmC_info S d r (M := M) HM.out) (rmC_one _ _ _ _) ?_))
    refine bodyPost_ret (v := .tuple #[.agg (rmC S d r M), .int .i64 3]) (res_two Try.results17 _ _ (w.heap.size + 1) 47 (rmC S d r M) _ _ rfl rfl (HZ2.out.put rfl S d r (M' := M) HM.out) Try.underlying47 rfl (rmC_info S d r (M := M) HM.out)) rfl ⟨.inr ⟨HF.out, rfl⟩, below_sets (Nat.le_succ _) _ _ HB2.out⟩
end Go.Proofs.Ytbmmgmdjhhnkfaa

namespace Go.Proofs.Ytbmmgmdjhhnkfaa
open Go.RowKit

set_option maxRecDepth 100000 in
set_option maxHeartbeats 8000000 in
theorem rstart_busy (w : World) (S : ByteArray) (d : Int) (r : Nat) (M : Mv) (hM : M.o.length = 16) (slot tw : Int) (h0 : M.st ≠ 0) :
    Calls Try.prog 13 #[.agg (rmC S d r M), .int .i64 slot, .int .i64 tw] w fun e w' => e = .returned (.tuple #[.agg (rmC S d r M), .int .i64 0, .int .i64 180]) ∧ Below w.heap.size w w' := by
  obtain ⟨X, Z, hX, hZ, h2, h3, hb, hs⟩ := rm_two w S d r M
  rw [zero_rm] at hZ
  have HX := Lib.hid h2
  have HZ := Lib.hid h3
  have HB := Lib.hid hb
  have HM := Lib.hid hM
  have c33 := h2.st hM
  have f0 : (M.st == 0) = false := by simpa using h0
  have f1 : (M.st != 0) = true := by simpa using h0
  clear h2 h3 hb hs hM h0
  go_enter Try.func13, Try.ntmps13
  go_upto_region 1 with fail
  rw [← hX, ← hZ]
  clear hX hZ
  go_wp2_with (first
    | (refine wpList_load_mid rfl 47 (.tmp 3) rfl w.heap.size 0 rfl (rmL S d r M) _ HX.out.all Try.underlying47 rfl (rmC_info S d r (M := M) HM.out) ?_)
    | (refine wpList_store_mid rfl 47 (.tmp 6) (.tmp 16) rfl (w.heap.size + 1) 0 (rmC S d r M) rfl rfl (HZ.out.room rfl S d r (M' := M) HM.out) (rmC_info S d r (M := M) HM.out) (rmC_one _ _ _ _) ?_))
  refine bodyPost_ret (v := .tuple #[.agg (rmC S d r M), .int .i64 0, .int .i64 180]) (res_three Try.results13 _ _ (w.heap.size + 1) 47 (rmC S d r M) _ _ _ rfl rfl rfl (HZ.out.put rfl S d r (M' := M) HM.out) Try.underlying47 rfl (rmC_info S d r (M := M) HM.out)) rfl ⟨rfl, below_sets (Nat.le_succ _) _ _ HB.out⟩
set_option maxRecDepth 100000 in
set_option maxHeartbeats 8000000 in
theorem rstart_bad (w : World) (S : ByteArray) (d : Int) (r : Nat) (M : Mv) (hM : M.o.length = 16) (slot tw : Int) (h0 : M.st = 0) (hm : (Mt.move M.e M.o slot tw).2.2 ≠ 0) :
    Calls Try.prog 13 #[.agg (rmC S d r M), .int .i64 slot, .int .i64 tw] w fun e w' => e = .returned (.tuple #[.agg (rmC S d r M), .int .i64 0, .int .i64 (Mt.move M.e M.o slot tw).2.2]) ∧ Below w.heap.size w w' := by
  obtain ⟨X, Z, hX, hZ, h2, h3, hb, hs⟩ := rm_two w S d r M
  rw [zero_rm] at hZ
  have HX := Lib.hid h2
  have HZ := Lib.hid h3
  have HB := Lib.hid hb
  have HM := Lib.hid hM
  have c33 := h2.st hM
  rw [h0] at c33
  have HMV := Lib.hid (rmove_any slot tw Z (T := (tL M.e M.o).toArray) (e := M.e) (o := M.o) ⟨rfl, hM⟩)
  have HLM := Lib.hid (move_len (e := M.e) slot tw hM)
  generalize Mt.move M.e M.o slot tw = V at *
  obtain ⟨e2, o2, cd⟩ := V
  have f0 : (cd == 0) = false := by simpa using hm
  have f1 : (cd != 0) = true := by simpa using hm
  have HN := Lib.hid (fun (w1 W : World) (h : Whole W w1.heap.size 36 (tcs 0 noOwn)) => (show W.there w1.heap.size 0 (tcs e2 o2).size by
    rw [tcs_size _ _ HLM.out]
    have := whole_all h
    rwa [tcs_size _ _ rfl] at this))
  have HI2 := Lib.hid (show (Try.prog.info? 36).map (·.size) = some (tcs e2 o2).size by rw [tcs_size _ _ HLM.out]; exact Try.infoRT)
  clear h2 h3 hb hs hM h0 hm
  go_enter Try.func13, Try.ntmps13
  go_upto_region 1 with fail
  rw [← hX, ← hZ]
  clear hX hZ
  go_wp2_with (refine wpList_load_mid rfl 36 (.tmp 18) rfl w.heap.size 3 rfl (tL M.e M.o) _ (HX.out.tab HM.out).1 Try.underlying36 rfl (show (Try.prog.info? 36).map (·.size) = some (tL M.e M.o).length from (tL_len M.e HM.out).symm ▸ Try.infoRT) ?_)
  refine HMV.out.mono ?_
  rintro e w1 ⟨rfl, hb1⟩
  have HX1 := Lib.hid (HX.out.below hb1)
  have HZ1 := Lib.hid (HZ.out.below hb1)
  have HB1 := Lib.hid (bell_up HB.out hb1)
  clear hb1 HMV c33
  go_upto_region 4 with (refine wpList_store_mid rfl 36 (.tmp 9) (.tmp 23) rfl w1.heap.size 0 (tcs e2 o2) rfl rfl (HN.out w1 _ (heap_alloc_new w1 _)) HI2.out (tcs_one _ _) ?_; have HB2 := Lib.hid (show Below w1.heap.size w1 ((w1.alloc (.cells (tcs 0 noOwn) 36)).setCells w1.heap.size 0 (tcs e2 o2).toList) from below_sets (Nat.le_refl _) _ _ (below_alloc w1 _)); rw [zero_tab] at HB2; generalize World.setCells _ w1.heap.size 0 _ = w2 at *)
  have HX2 := Lib.hid (HX1.out.below HB2.out)
  have HZ2 := Lib.hid (HZ1.out.below HB2.out)
  have HB3 := Lib.hid (bell_up HB1.out HB2.out)
  go_wp2_with (first
    | (refine wpList_load_mid rfl 47 (.tmp 3) rfl w.heap.size 0 rfl (rmL S d r M) _ HX2.out.all Try.underlying47 rfl (rmC_info S d r (M := M) HM.out) ?_)
    | (refine wpList_store_mid rfl 47 (.tmp 6) (.tmp 27) rfl (w.heap.size + 1) 0 (rmC S d r M) rfl rfl (HZ2.out.room rfl S d r (M' := M) HM.out) (rmC_info S d r (M := M) HM.out) (rmC_one _ _ _ _) ?_))
  refine bodyPost_ret (v := .tuple #[.agg (rmC S d r M), .int .i64 0, .int .i64 cd]) (res_three Try.results13 _ _ (w.heap.size + 1) 47 (rmC S d r M) _ _ _ rfl rfl rfl (HZ2.out.put rfl S d r (M' := M) HM.out) Try.underlying47 rfl (rmC_info S d r (M := M) HM.out)) rfl ⟨rfl, below_sets (Nat.le_succ _) _ _ HB3.out⟩
/-- The move that was begun. -/
def mvS (M : Mv) (s : Nat) (tw fr : Int) : Mv := { M with kd := 11, fr := fr, tw := tw, id := M.ver + 1, sl := (s : Int), ra := none, rn := 0, rc := 0, st := 1 }
/-- What a move begun comes to. -/
def RstR (w : World) (S : ByteArray) (d : Int) (r : Nat) (M : Mv) (s : Nat) (tw : Int) (e : Ending) (w' : World) : Prop :=
  (S.size + (Fr.sealed (enc (mM 11 (M.o.getD s 0) tw (M.ver + 1) s))).length ≤ r ∧ e = .returned (.tuple #[.agg (rmC (S ++ strOfNums (Fr.sealed (enc (mM 11 (M.o.getD s 0) tw (M.ver + 1) s)))) ((S ++ strOfNums (Fr.sealed (enc (mM 11 (M.o.getD s 0) tw (M.ver + 1) s)))).size : Nat) r (mvS M s tw (M.o.getD s 0))), .int .i64 (M.ver + 1), .int .i64 0]) ∨ r < S.size + (Fr.sealed (enc (mM 11 (M.o.getD s 0) tw (M.ver + 1) s))).length ∧ e = .returned (.tuple #[.agg (rmC S d r M), .int .i64 0, .int .i64 3])) ∧ Below w.heap.size w w'
set_option maxRecDepth 100000 in
set_option maxHeartbeats 8000000 in
theorem rstart_good (w : World) (S : ByteArray) (d : Int) (r : Nat) (M : Mv) (hM : M.o.length = 16) (s : Nat) (tw : Int) (h0 : M.st = 0) (h16 : s < 16) (hmv : Mt.move M.e M.o s tw = (M.e + 1, M.o.set s tw, 0)) (hfr : InI (M.o.getD s 0)) (hto : InI tw) (hv : InI (M.ver + 1)) (hS : S.size ≤ 1048576) :
    Calls Try.prog 13 #[.agg (rmC S d r M), .int .i64 s, .int .i64 tw] w (RstR w S d r M s tw) := by
  obtain ⟨X, Z, hX, hZ, h2, h3, hb, hs⟩ := rm_two w S d r M
  rw [zero_rm] at hZ
  have HX := Lib.hid h2
  have HZ := Lib.hid h3
  have HB := Lib.hid hb
  have HM := Lib.hid hM
  have c33 := h2.st hM
  rw [h0] at c33
  have HMV := rmove_any (s : Int) tw Z (T := (tL M.e M.o).toArray) (e := M.e) (o := M.o) ⟨rfl, hM⟩
  rw [hmv] at HMV
  have HMV := Lib.hid HMV
  have HLM := Lib.hid (show (M.o.set s tw).length = 16 by rw [List.length_set]; exact hM)
  have HADD := Lib.hid (i64_wrap hv)
  have HW := Lib.hid (fun (W : World) => rwrite_any (k := 11) (f := M.o.getD s 0) (t := tw) (i := M.ver + 1) (s := s) W S d r M hM hS ⟨by omega, by omega⟩ hfr hto hv ⟨by omega, by omega⟩)
  have hij : (0:Int) ≤ (s:Int) ∧ (s:Int) < 16 := by omega
  have H16 := Lib.hid h16
  simp only [] at HMV
  generalize M.o.set s tw = o2 at *
  generalize he2 : M.e + 1 = e2 at *
  have HN := Lib.hid (fun (w1 W : World) (h : Whole W w1.heap.size 36 (tcs 0 noOwn)) => (show W.there w1.heap.size 0 (tcs e2 o2).size by
    rw [tcs_size _ _ HLM.out]
    have := whole_all h
    rwa [tcs_size _ _ rfl] at this))
  have HI2 := Lib.hid (show (Try.prog.info? 36).map (·.size) = some (tcs e2 o2).size by rw [tcs_size _ _ HLM.out]; exact Try.infoRT)
  clear h2 h3 hb hs hM h0 hmv hfr hto hv hS h16 he2
  go_enter Try.func13, Try.ntmps13
  go_upto_region 1 with fail
  rw [← hX, ← hZ]
  clear hX hZ
  go_wp2_with (refine wpList_load_mid rfl 36 (.tmp 18) rfl w.heap.size 3 rfl (tL M.e M.o) _ (HX.out.tab HM.out).1 Try.underlying36 rfl (show (Try.prog.info? 36).map (·.size) = some (tL M.e M.o).length from (tL_len M.e HM.out).symm ▸ Try.infoRT) ?_)
  refine HMV.out.mono ?_
  rintro e w1 ⟨rfl, hb1⟩
  have HX1 := Lib.hid (HX.out.below hb1)
  have HZ1 := Lib.hid (HZ.out.below hb1)
  have HB1 := Lib.hid (bell_up HB.out hb1)
  clear hb1 HMV c33
  go_upto_region 4 with (refine wpList_store_mid rfl 36 (.tmp 9) (.tmp 23) rfl w1.heap.size 0 (tcs e2 o2) rfl rfl (HN.out w1 _ (heap_alloc_new w1 _)) HI2.out (tcs_one _ _) ?_; have HB2 := Lib.hid (show Below w1.heap.size w1 ((w1.alloc (.cells (tcs 0 noOwn) 36)).setCells w1.heap.size 0 (tcs e2 o2).toList) from below_sets (Nat.le_refl _) _ _ (below_alloc w1 _)); rw [zero_tab] at HB2; generalize World.setCells _ w1.heap.size 0 _ = w2 at *)
  have HX2 := Lib.hid (HX1.out.below HB2.out)
  have HZ2 := Lib.hid (HZ1.out.below HB2.out)
  have HB3 := Lib.hid (bell_up HB1.out HB2.out)
  clear HX1 HZ1 HB1 HN HI2
  go_upto_region 6 with fail
  generalize hfe : M.o.getD s 0 = fr at *
  have HFE := Lib.hid hfe
  clear hfe
  have hadd : IntKind.i64.wrap (M.ver + 1) = M.ver + 1 := HADD.out
  obtain ⟨wd, hwd, hbd⟩ : ∃ wd, wd = w2.drew ∧ Below w2.heap.size w2 wd := ⟨_, rfl, below_drewN w2 1⟩
  have HXD := Lib.hid (HX2.out.below hbd)
  have HZD := Lib.hid (HZ2.out.below hbd)
  have HBD := Lib.hid (bell_up HB3.out hbd)
  have hS0 : wd.cell? ⟨w.heap.size, 20, none⟩ = some (.int .i64 M.ver) ∧ wd.cell? ⟨w.heap.size, 4 + s, none⟩ = some (.int .i64 fr) := ⟨HXD.out.ver HM.out, by rw [← HFE.out]; exact HXD.out.own_at HM.out s H16.out⟩
  have HLT := Lib.hid (show w.heap.size < w2.heap.size from Whole.lt HX2.out)
  obtain ⟨Y3, hY3, hy3, hby3⟩ := box_new w2 45 #[.int .i64 0, .int .i64 0, .int .i64 0, .int .i64 0, .int .i64 0, .int .i64 0, .int .i64 0, .bool false, .slice none 0 0, .slice none 0 0, .slice none 0 0, .slice none 0 0]
  obtain ⟨W3, hW3, hbw3⟩ : ∃ W3, W3 = Y3.drew ∧ Below Y3.heap.size Y3 W3 := ⟨_, rfl, below_drewN Y3 1⟩
  have HX3 := Lib.hid ((HX2.out.below hby3).below hbw3)
  have HZ3 := Lib.hid ((HZ2.out.below hby3).below hbw3)
  have HB3b := Lib.hid (bell_up (bell_up HB3.out hby3) hbw3)
  have HQ3 := Lib.hid (hy3.kept (hbw3.block _ hy3.lt))
  rw [hY3] at hW3
  have HW3 := Lib.hid hW3
  have HTHQ := Lib.hid (show W3.there w2.heap.size 0 12 from whole_all HQ3.out)
  clear hbd hW3 hy3 hby3 hbw3 hY3
  subst hwd
  refine wp_region_held_drew (S := fun V : World => V.cell? ⟨w.heap.size, 20, none⟩ = some (.int .i64 M.ver) ∧ V.cell? ⟨w.heap.size, 4 + s, none⟩ = some (.int .i64 fr)) (by kernel_rfl) (hS0) (fun hHeld => ?_)
  refine wpAnyH_take (i := 0) (oi := { dst := Option.some 29, op := Go.Op.fieldAddr 47 (Go.Operand.tmp 3) 2, type := 0, pos := "ref.go:62", after := #[], guard := Option.none }) (v := ?_) rfl (by kernel_rfl) (by kernel_rfl) (by kernel_rfl) (fun _ _ _ h => h) (Or.inl ⟨by rfl, ?_⟩) (by assumption) ?_
  rotate_left
  · intro V hV; (try dsimp only at hV); go_simp; all_goals (with_reducible rfl)
  try simp only [Act.put, List.setIfInBounds_toArray, List.set_cons_zero, List.set_cons_succ]
  refine wpAnyH_take (i := 1) (oi := { dst := Option.some 30, op := Go.Op.load 2 (Go.Operand.tmp 29), type := 2, pos := "ref.go:62", after := #[{ on := 0, ground := Go.Ground.data }], guard := Option.none }) (v := ?_) rfl (by kernel_rfl) (by kernel_rfl) (by kernel_rfl) (fun _ _ _ h => h) (Or.inl ⟨by rfl, ?_⟩) (by assumption) ?_
  rotate_left
  · intro V hV; (try dsimp only at hV); obtain ⟨hV1, hV2⟩ := hV; go_simp; all_goals (with_reducible rfl)
  try simp only [Act.put, List.setIfInBounds_toArray, List.set_cons_zero, List.set_cons_succ]
  refine wpAnyH_take (i := 2) (oi := { dst := Option.some 31, op := Go.Op.binOp Go.BinOp.add 2 (Go.Operand.tmp 30) (Go.Operand.const (Go.Value.int Go.IntKind.i64 1)) 2, type := 2, pos := "ref.go:62", after := #[{ on := 1, ground := Go.Ground.data }], guard := Option.none }) (v := ?_) rfl (by kernel_rfl) (by kernel_rfl) (by kernel_rfl) (fun _ _ _ h => h) (Or.inl ⟨by rfl, ?_⟩) (by assumption) ?_
  rotate_left
  · intro V hV; (try dsimp only at hV); go_simp; all_goals (with_reducible rfl)
  try simp only [Act.put, List.setIfInBounds_toArray, List.set_cons_zero, List.set_cons_succ]
  refine wpAnyH_take (i := 3) (oi := { dst := Option.some 32, op := Go.Op.move (Go.Operand.tmp 1), type := 3, pos := "ref.go:62", after := #[], guard := Option.none }) (v := ?_) rfl (by kernel_rfl) (by kernel_rfl) (by kernel_rfl) (fun _ _ _ h => h) (Or.inl ⟨by rfl, ?_⟩) (by assumption) ?_
  rotate_left
  · intro V hV; (try dsimp only at hV); go_simp; all_goals (with_reducible rfl)
  try simp only [Act.put, List.setIfInBounds_toArray, List.set_cons_zero, List.set_cons_succ]
  refine wpAnyH_take (i := 4) (oi := { dst := Option.some 33, op := Go.Op.move (Go.Operand.tmp 1), type := 3, pos := "ref.go:62", after := #[], guard := Option.none }) (v := ?_) rfl (by kernel_rfl) (by kernel_rfl) (by kernel_rfl) (fun _ _ _ h => h) (Or.inl ⟨by rfl, ?_⟩) (by assumption) ?_
  rotate_left
  · intro V hV; (try dsimp only at hV); go_simp; all_goals (with_reducible rfl)
  try simp only [Act.put, List.setIfInBounds_toArray, List.set_cons_zero, List.set_cons_succ]
  refine wpAnyH_take (i := 5) (oi := { dst := Option.some 34, op := Go.Op.fieldAddr 47 (Go.Operand.tmp 3) 1, type := 0, pos := "ref.go:62", after := #[], guard := Option.none }) (v := ?_) rfl (by kernel_rfl) (by kernel_rfl) (by kernel_rfl) (fun _ _ _ h => h) (Or.inl ⟨by rfl, ?_⟩) (by assumption) ?_
  rotate_left
  · intro V hV; (try dsimp only at hV); go_simp; all_goals (with_reducible rfl)
  try simp only [Act.put, List.setIfInBounds_toArray, List.set_cons_zero, List.set_cons_succ]
  refine wpAnyH_take (i := 6) (oi := { dst := Option.some 35, op := Go.Op.fieldAddr 36 (Go.Operand.tmp 34) 1, type := 0, pos := "ref.go:62", after := #[{ on := 5, ground := Go.Ground.data }], guard := Option.none }) (v := ?_) rfl (by kernel_rfl) (by kernel_rfl) (by kernel_rfl) (fun _ _ _ h => h) (Or.inl ⟨by rfl, ?_⟩) (by assumption) ?_
  rotate_left
  · intro V hV; (try dsimp only at hV); go_simp; all_goals (with_reducible rfl)
  try simp only [Act.put, List.setIfInBounds_toArray, List.set_cons_zero, List.set_cons_succ]
  refine wpAnyH_take (i := 7) (oi := { dst := Option.some 36, op := Go.Op.indexAddr 22 (Go.Operand.tmp 35) (Go.Operand.tmp 33), type := 0, pos := "ref.go:62", after := #[{ on := 6, ground := Go.Ground.data }, { on := 4, ground := Go.Ground.data }], guard := Option.none }) (v := ?_) rfl (by kernel_rfl) (by kernel_rfl) (by kernel_rfl) (fun _ _ _ h => h) (Or.inl ⟨by rfl, ?_⟩) (by assumption) ?_
  rotate_left
  · intro V hV; (try dsimp only at hV); go_simp; all_goals (with_reducible rfl)
  try simp only [Act.put, List.setIfInBounds_toArray, List.set_cons_zero, List.set_cons_succ]
  refine wpAnyH_take (i := 8) (oi := { dst := Option.some 37, op := Go.Op.load 3 (Go.Operand.tmp 36), type := 3, pos := "ref.go:62", after := #[{ on := 7, ground := Go.Ground.data }], guard := Option.none }) (v := ?_) rfl (by kernel_rfl) (by kernel_rfl) (by kernel_rfl) (fun _ _ _ h => h) (Or.inl ⟨by rfl, ?_⟩) (by assumption) ?_
  rotate_left
  · intro V hV; (try dsimp only at hV); obtain ⟨hV1, hV2⟩ := hV; go_simp; all_goals (with_reducible rfl)
  try simp only [Act.put, List.setIfInBounds_toArray, List.set_cons_zero, List.set_cons_succ]
  refine wpAnyH_take (i := 9) (oi := { dst := Option.some 38, op := Go.Op.move (Go.Operand.tmp 2), type := 3, pos := "ref.go:62", after := #[], guard := Option.none }) (v := ?_) rfl (by kernel_rfl) (by kernel_rfl) (by kernel_rfl) (fun _ _ _ h => h) (Or.inl ⟨by rfl, ?_⟩) (by assumption) ?_
  rotate_left
  · intro V hV; (try dsimp only at hV); go_simp; all_goals (with_reducible rfl)
  try simp only [Act.put, List.setIfInBounds_toArray, List.set_cons_zero, List.set_cons_succ]
  refine wpAnyH_take (i := 10) (oi := { dst := Option.some 39, op := Go.Op.build 45 #[(0, Go.Operand.const (Go.Value.int Go.IntKind.i64 11)), (3, Go.Operand.tmp 31), (6, Go.Operand.tmp 32), (1, Go.Operand.tmp 37), (2, Go.Operand.tmp 38)], type := 45, pos := "ref.go:62", after := #[{ on := 2, ground := Go.Ground.data }, { on := 3, ground := Go.Ground.data }, { on := 8, ground := Go.Ground.data }, { on := 9, ground := Go.Ground.data }], guard := Option.none }) (v := ?_) rfl (by kernel_rfl) (by kernel_rfl) (by kernel_rfl) (fun _ _ _ h => h) (Or.inl ⟨by rfl, ?_⟩) (by assumption) ?_
  rotate_left
  · intro V hV; (try dsimp only at hV); go_simp; all_goals (with_reducible rfl)
  try simp only [Act.put, List.setIfInBounds_toArray, List.set_cons_zero, List.set_cons_succ]
  refine wpAnyH_ready (rs := [11]) (by kernel_rfl) (by simp) ?_
  refine AllReadyH.cons (o := { dst := Option.some 11, op := Go.Op.alloc 45, type := 0, pos := "ref.go:62", after := #[], guard := Option.none }) rfl (fun K hK => ?_) (AllReadyH.nil)
  go_simp
  rw [← HW3.out]
  refine hK.out _ _ (⟨(HX3.out.ver HM.out), by rw [← HFE.out]; exact HX3.out.own_at HM.out s H16.out⟩) (fun hHeld => ?_)
  clear hK K
  try simp only [Act.put, List.setIfInBounds_toArray, List.set_cons_zero, List.set_cons_succ]
  refine wpAnyH_ready (rs := [12]) (by kernel_rfl) (by simp) ?_
  refine AllReadyH.cons (o := { dst := Option.none, op := Go.Op.store 45 (Go.Operand.tmp 11) (Go.Operand.tmp 39), type := 0, pos := "ref.go:62", after := #[{ on := 11, ground := Go.Ground.data }, { on := 10, ground := Go.Ground.data }, { on := 0, ground := Go.Ground.phase }, { on := 1, ground := Go.Ground.phase }, { on := 2, ground := Go.Ground.phase }, { on := 3, ground := Go.Ground.phase }, { on := 4, ground := Go.Ground.phase }, { on := 5, ground := Go.Ground.phase }, { on := 6, ground := Go.Ground.phase }, { on := 7, ground := Go.Ground.phase }, { on := 8, ground := Go.Ground.phase }, { on := 9, ground := Go.Ground.phase }, { on := 10, ground := Go.Ground.phase }, { on := 11, ground := Go.Ground.phase }], guard := Option.none }) rfl (fun K hK => ?_) (AllReadyH.nil)
  refine wp_store_mid 45 (.tmp 11) (.tmp 39) rfl w2.heap.size 0 #[.int .i64 11, .int .i64 fr, .int .i64 tw, .int .i64 (M.ver + 1), .int .i64 0, .int .i64 0, .int .i64 s, .bool false, .slice none 0 0, .slice none 0 0, .slice none 0 0, .slice none 0 0] rfl rfl (show W3.there w2.heap.size 0 #[.int .i64 11, .int .i64 fr, .int .i64 tw, .int .i64 (M.ver + 1), .int .i64 0, .int .i64 0, .int .i64 s, .bool false, .slice none 0 0, .slice none 0 0, .slice none 0 0, .slice none 0 0].size from HTHQ.out) Try.infoMs (by simp [Value.oneCell']) ?_
  have e4 : (#[.int .i64 11, .int .i64 fr, .int .i64 tw, .int .i64 (M.ver + 1), .int .i64 0, .int .i64 0, .int .i64 s, .bool false, .slice none 0 0, .slice none 0 0, .slice none 0 0, .slice none 0 0] : Array Value).toList = [.int .i64 11, .int .i64 fr, .int .i64 tw, .int .i64 (M.ver + 1), .int .i64 0, .int .i64 0, .int .i64 s, .bool false, .slice none 0 0, .slice none 0 0, .slice none 0 0, .slice none 0 0] := rfl
  rw [e4]
  clear e4
  have HX4 := Lib.hid (HX3.out.sets (c := w2.heap.size) (Nat.ne_of_lt HLT.out) [.int .i64 11, .int .i64 fr, .int .i64 tw, .int .i64 (M.ver + 1), .int .i64 0, .int .i64 0, .int .i64 s, .bool false, .slice none 0 0, .slice none 0 0, .slice none 0 0, .slice none 0 0] 0)
  have HZ4 := Lib.hid (HZ3.out.sets (c := w2.heap.size) (Nat.ne_of_lt (Whole.lt HZ2.out)) [.int .i64 11, .int .i64 fr, .int .i64 tw, .int .i64 (M.ver + 1), .int .i64 0, .int .i64 0, .int .i64 s, .bool false, .slice none 0 0, .slice none 0 0, .slice none 0 0, .slice none 0 0] 0)
  have HB4 := Lib.hid (below_sets (b := w2.heap.size) (Nat.le_of_lt HLT.out) [.int .i64 11, .int .i64 fr, .int .i64 tw, .int .i64 (M.ver + 1), .int .i64 0, .int .i64 0, .int .i64 s, .bool false, .slice none 0 0, .slice none 0 0, .slice none 0 0, .slice none 0 0] 0 HB3b.out)
  have HQ4 := Lib.hid (show Whole (W3.setCells w2.heap.size 0 [.int .i64 11, .int .i64 fr, .int .i64 tw, .int .i64 (M.ver + 1), .int .i64 0, .int .i64 0, .int .i64 s, .bool false, .slice none 0 0, .slice none 0 0, .slice none 0 0, .slice none 0 0]) w2.heap.size 45 #[.int .i64 11, .int .i64 fr, .int .i64 tw, .int .i64 (M.ver + 1), .int .i64 0, .int .i64 0, .int .i64 s, .bool false, .slice none 0 0, .slice none 0 0, .slice none 0 0, .slice none 0 0] from whole_put [.int .i64 11, .int .i64 fr, .int .i64 tw, .int .i64 (M.ver + 1), .int .i64 0, .int .i64 0, .int .i64 s, .bool false, .slice none 0 0, .slice none 0 0, .slice none 0 0, .slice none 0 0] [.int .i64 0, .int .i64 0, .int .i64 0, .int .i64 0, .int .i64 0, .int .i64 0, .int .i64 0, .bool false, .slice none 0 0, .slice none 0 0, .slice none 0 0, .slice none 0 0] [] (Z := []) HQ3.out rfl)
  generalize World.setCells W3 w2.heap.size 0 _ = w4 at *
  refine hK.out _ _ (⟨HX4.out.ver HM.out, by rw [← HFE.out]; exact HX4.out.own_at HM.out s H16.out⟩) (fun hHeld => ?_)
  clear hK K
  try simp only [Act.put]
  refine wpAnyH_done (by kernel_rfl) ?_ _
  clear hHeld hS0 HW3 HX3 HZ3 HQ3 HB3b HB3 HTHQ
  have HLQ := Lib.hid (Nat.ne_of_gt HLT.out)
  have HLZ := Lib.hid (Nat.ne_of_gt (Whole.lt HZ2.out))
  clear HXD HZD HBD HLT hadd HX2 HZ2
  generalize w2.heap.size = q at *
  have k0 := HQ4.out.cell 0
  have k1 := HQ4.out.cell 1
  have k2 := HQ4.out.cell 2
  have k3 := HQ4.out.cell 3
  have k4 := HQ4.out.cell 4
  have k5 := HQ4.out.cell 5
  have k6 := HQ4.out.cell 6
  have k7 := HQ4.out.cell 7
  have k8 := HQ4.out.cell 8
  have k9 := HQ4.out.cell 9
  have k10 := HQ4.out.cell 10
  have k11 := HQ4.out.cell 11
  go_wp2_with (refine wpList_load_mid rfl 47 (.tmp 3) rfl w.heap.size 0 rfl (rmL S d r M) _ HX4.out.all Try.underlying47 rfl (rmC_info S d r (M := M) HM.out) ?_)
  refine (HW.out w4).mono ?_
  rintro e w5 ⟨hw, hb5⟩
  have HX5 := Lib.hid (HX4.out.below hb5)
  have HZ5 := Lib.hid (HZ4.out.below hb5)
  have HB5 := Lib.hid (bell_up HB4.out hb5)
  have HQ5 := Lib.hid (HQ4.out.kept (hb5.block _ HQ4.out.lt))
  clear hb5 HW k0 k1 k2 k3 k4 k5 k6 k7 k8 k9 k10 k11 HX4 HZ4 HB4 HQ4
  rcases hw with ⟨hfit, rfl⟩ | ⟨hno, rfl⟩
  · generalize hT : S ++ strOfNums (Fr.sealed (enc (mM 11 fr tw (M.ver + 1) s))) = T at *
    have HF := Lib.hid (And.intro hfit hT)
    clear hfit hT
    have HX6 := Lib.hid (HX5.out.put HM.out T T.size r HM.out)
    have HZ6 := Lib.hid (HZ5.out.sets (c := w.heap.size) (by omega) (rmC T T.size r M).toList 0)
    have HB6 := Lib.hid (below_sets (b := w.heap.size) (Nat.le_refl _) (rmC T T.size r M).toList 0 HB5.out)
    have HQ6 := Lib.hid (HQ5.out.kept (heap_setCells (b := w.heap.size) q HLQ.out (rmC T T.size r M).toList 0))
    go_upto_region 8 with (refine wpList_store_mid rfl 47 (.tmp 3) (.tmp 44) rfl w.heap.size 0 (rmC T T.size r M) rfl rfl (HX5.out.room HM.out T T.size r HM.out) (rmC_info T T.size r HM.out) (rmC_one _ _ _ _) ?_; generalize World.setCells w5 _ _ _ = w6 at *)
    have k0 := HQ6.out.cell 0
    have k1 := HQ6.out.cell 1
    have k2 := HQ6.out.cell 2
    have k3 := HQ6.out.cell 3
    have k4 := HQ6.out.cell 4
    have k5 := HQ6.out.cell 5
    have k6 := HQ6.out.cell 6
    have k7 := HQ6.out.cell 7
    have k8 := HQ6.out.cell 8
    have k9 := HQ6.out.cell 9
    have k10 := HQ6.out.cell 10
    have k11 := HQ6.out.cell 11
    have HX7 := Lib.hid (show RmAt (w6.setCells w.heap.size 21 (mcs (mvS M s tw fr))) w.heap.size T T.size r { M with kd := 11, fr := fr, tw := tw, id := M.ver + 1, sl := (s : Int), ra := none, rn := 0, rc := 0 } from HX6.out.setCur HM.out 11 fr tw (M.ver + 1) s none 0 0)
    have HZ7 := Lib.hid (HZ6.out.sets (c := w.heap.size) (by omega) (mcs (mvS M s tw fr)) 21)
    have HB7 := Lib.hid (below_sets (b := w.heap.size) (Nat.le_refl _) (mcs (mvS M s tw fr)) 21 HB6.out)
    have HQ7 := Lib.hid (HQ6.out.kept (heap_setCells (b := w.heap.size) q HLQ.out (mcs (mvS M s tw fr)) 21))
    have hth : w6.there w.heap.size 21 (mcs (mvS M s tw fr)).toArray.size := (HX6.out.cur HM.out).2
    have him : (Try.prog.info? 45).map (·.size) = some (mcs (mvS M s tw fr)).toArray.size := Try.infoMs
    go_upto_region 12 with (refine wpList_store_mid rfl 45 (.tmp 51) (.tmp 50) rfl w.heap.size 21 (mcs (mvS M s tw fr)).toArray rfl rfl hth him (mcs_one _) ?_; clear hth him k0 k1 k2 k3 k4 k5 k6 k7 k8 k9 k10 k11; have e7 : (mcs (mvS M s tw fr)).toArray.toList = mcs (mvS M s tw fr) := rfl; rw [e7]; clear e7; generalize World.setCells w6 _ _ _ = w7 at *; have z33 := HX7.out.free 33; have c33 := HX7.out.st HM.out)
    have HX8 := Lib.hid (show RmAt (w7.setCell ⟨w.heap.size, 33, none⟩ (.int .i64 1)) w.heap.size T T.size r (mvS M s tw fr) from HX7.out.setSt HM.out 1)
    have HZ8 := Lib.hid (HZ7.out.set (c := w.heap.size) (by omega) 33 (.int .i64 1))
    have HB8 := Lib.hid (show Below w.heap.size w (w7.setCell ⟨w.heap.size, 33, none⟩ (.int .i64 1)) from HB7.out.setCell (p := ⟨w.heap.size, 33, none⟩) (Nat.le_refl _) (.int .i64 1))
    have HQ8 := Lib.hid (HQ7.out.kept (Below.heap_setCell w7 ⟨w.heap.size, 33, none⟩ (.int .i64 1) q HLQ.out))
    clear z33 c33 HX7 HZ7 HB7 HQ7 HX6 HZ6 HB6 HQ6
    generalize World.setCell w7 _ _ = w8 at *
    obtain ⟨wd, hwd, hbd⟩ : ∃ wd, wd = w8.drew ∧ Below w8.heap.size w8 wd := ⟨_, rfl, below_drewN w8 1⟩
    have HXD := Lib.hid (HX8.out.below hbd)
    have HZD := Lib.hid (HZ8.out.below hbd)
    have HBD := Lib.hid (bell_up HB8.out hbd)
    have HQD := Lib.hid (HQ8.out.kept (hbd.block _ HQ8.out.lt))
    have hS0 : wd.rangeAt w.heap.size 0 (rmL T T.size r (mvS M s tw fr)) ∧ wd.cell? ⟨q, 3, none⟩ = some (.int .i64 (M.ver + 1)) := ⟨HXD.out.all, HQD.out.cell 3⟩
    have HMN := Lib.hid (show (mvS M s tw fr).o.length = 16 from HM.out)
    clear hbd
    subst hwd
    refine wp_region_held_drew (S := fun V : World => V.rangeAt w.heap.size 0 (rmL T T.size r (mvS M s tw fr)) ∧ V.cell? ⟨q, 3, none⟩ = some (.int .i64 (M.ver + 1))) (by kernel_rfl) (hS0) (fun hHeld => ?_)
    refine wpAnyH_take (i := 0) (oi := { dst := Option.some 53, op := Go.Op.load 47 (Go.Operand.tmp 3), type := 47, pos := "ref.go:69", after := #[], guard := Option.none }) (v := .agg (rmL T T.size r (mvS M s tw fr)).toArray) rfl (by kernel_rfl) (by kernel_rfl) (by kernel_rfl) (fun _ _ _ h => h) (Or.inl ⟨by rfl, fun V hV => exec_mid _ _ V 47 (.tmp 3) rfl w.heap.size 0 rfl (rmL T T.size r (mvS M s tw fr)) _ hV.1 Try.underlying47 rfl (rmC_info T T.size r HMN.out)⟩) (by assumption) ?_
    try simp only [Act.put, List.setIfInBounds_toArray, List.set_cons_zero, List.set_cons_succ]
    refine wpAnyH_take (i := 1) (oi := { dst := Option.some 54, op := Go.Op.fieldAddr 45 (Go.Operand.tmp 11) 3, type := 0, pos := "ref.go:69", after := #[{ on := 3, ground := Go.Ground.gcOnly Go.Departure.lateStores }], guard := Option.none }) (v := ?_) rfl (by kernel_rfl) (by kernel_rfl) (by kernel_rfl) (fun _ _ _ h => h) (Or.inl ⟨by rfl, ?_⟩) (by assumption) ?_
    rotate_left
    · intro V hV; (try dsimp only at hV); go_simp; all_goals (with_reducible rfl)
    try simp only [Act.put, List.setIfInBounds_toArray, List.set_cons_zero, List.set_cons_succ]
    refine wpAnyH_take (i := 2) (oi := { dst := Option.some 55, op := Go.Op.load 2 (Go.Operand.tmp 54), type := 2, pos := "ref.go:69", after := #[{ on := 1, ground := Go.Ground.data }, { on := 3, ground := Go.Ground.gcOnly Go.Departure.lateStores }], guard := Option.none }) (v := ?_) rfl (by kernel_rfl) (by kernel_rfl) (by kernel_rfl) (fun _ _ _ h => h) (Or.inl ⟨by rfl, ?_⟩) (by assumption) ?_
    rotate_left
    · intro V hV; (try dsimp only at hV); obtain ⟨hV1, hV2⟩ := hV; go_simp; all_goals (with_reducible rfl)
    try simp only [Act.put, List.setIfInBounds_toArray, List.set_cons_zero, List.set_cons_succ]
    refine wpAnyH_ready (rs := [3]) (by kernel_rfl) (by simp) ?_
    refine AllReadyH.cons (o := { dst := Option.none, op := Go.Op.store 47 (Go.Operand.tmp 6) (Go.Operand.tmp 53), type := 0, pos := "ref.go:69", after := #[{ on := 0, ground := Go.Ground.data }, { on := 0, ground := Go.Ground.phase }, { on := 1, ground := Go.Ground.textOnly Go.Departure.lateStores }, { on := 2, ground := Go.Ground.textOnly Go.Departure.lateStores }], guard := Option.none }) rfl (fun K hK => ?_) (AllReadyH.nil)
    refine wp_store_mid 47 (.tmp 6) (.tmp 53) rfl (w.heap.size + 1) 0 (rmC T T.size r (mvS M s tw fr)) rfl rfl (HZD.out.room rfl T T.size r HMN.out) (rmC_info T T.size r HMN.out) (rmC_one _ _ _ _) ?_
    refine hK.out _ _ (⟨World.rangeAt_setCells_apart hHeld.1 _ _ _ (.inl (by omega)), by rw [← hHeld.2]; exact (HQD.out.kept (heap_setCells q HLZ.out _ _)).cell 3 |>.trans (HQD.out.cell 3).symm⟩) (fun hHeld => ?_)
    clear hK K
    try simp only [Act.put]
    refine wpAnyH_take (i := 4) (oi := { dst := Option.some 7, op := Go.Op.assign (Go.Operand.tmp 55), type := 2, pos := "ref.go:69", after := #[{ on := 2, ground := Go.Ground.data }, { on := 3, ground := Go.Ground.chain }, { on := 0, ground := Go.Ground.phase }, { on := 1, ground := Go.Ground.phase }, { on := 2, ground := Go.Ground.phase }, { on := 3, ground := Go.Ground.phase }], guard := Option.none }) (v := ?_) rfl (by kernel_rfl) (by kernel_rfl) (by kernel_rfl) (fun _ _ _ h => h) (Or.inl ⟨by rfl, ?_⟩) (by assumption) ?_
    rotate_left
    · intro V hV; (try dsimp only at hV); go_simp; all_goals (with_reducible rfl)
    try simp only [Act.put, List.setIfInBounds_toArray, List.set_cons_zero, List.set_cons_succ]
    refine wpAnyH_take (i := 5) (oi := { dst := Option.some 8, op := Go.Op.assign (Go.Operand.const (Go.Value.int Go.IntKind.i64 0)), type := 3, pos := "ref.go:69", after := #[{ on := 4, ground := Go.Ground.chain }, { on := 0, ground := Go.Ground.phase }, { on := 1, ground := Go.Ground.phase }, { on := 2, ground := Go.Ground.phase }, { on := 3, ground := Go.Ground.phase }, { on := 4, ground := Go.Ground.phase }], guard := Option.none }) (v := ?_) rfl (by kernel_rfl) (by kernel_rfl) (by kernel_rfl) (fun _ _ _ h => h) (Or.inl ⟨by rfl, ?_⟩) (by assumption) ?_
    rotate_left
    · intro V hV; (try dsimp only at hV); go_simp; all_goals (with_reducible rfl)
    try simp only [Act.put, List.setIfInBounds_toArray, List.set_cons_zero, List.set_cons_succ]
    refine wpAnyH_done (by kernel_rfl) ?_ _
    clear hHeld hS0
    go_wp2
    obtain rfl := HFE.out
    refine bodyPost_ret (v := .tuple #[.agg (rmC T T.size r (mvS M s tw (M.o.getD s 0))), .int .i64 (M.ver + 1), .int .i64 0]) (res_three Try.results13 _ _ (w.heap.size + 1) 47 (rmC T T.size r (mvS M s tw (M.o.getD s 0))) _ _ _ rfl rfl rfl (HZD.out.put rfl T T.size r (M' := (mvS M s tw (M.o.getD s 0))) HMN.out) Try.underlying47 rfl (rmC_info T T.size r (M := (mvS M s tw (M.o.getD s 0))) HMN.out)) rfl ⟨.inl ⟨HF.out.1, by rw [HF.out.2]⟩, below_sets (Nat.le_succ _) _ _ HBD.out⟩
  · have HF := Lib.hid hno
    clear hno
    have HX6 := Lib.hid (HX5.out.put HM.out S d r HM.out)
    have HZ6 := Lib.hid (HZ5.out.sets (c := w.heap.size) (by omega) (rmC S d r M).toList 0)
    have HB6 := Lib.hid (below_sets (b := w.heap.size) (Nat.le_refl _) (rmC S d r M).toList 0 HB5.out)
    go_wp2_with (first
      | (refine wpList_store_mid rfl 47 (.tmp 3) (.tmp 44) rfl w.heap.size 0 (rmC S d r M) rfl rfl (HX5.out.room HM.out S d r HM.out) (rmC_info S d r HM.out) (rmC_one _ _ _ _) ?_; generalize World.setCells w5 _ _ _ = w6 at *)
      | (refine wpList_load_mid rfl 47 (.tmp 3) rfl w.heap.size 0 rfl (rmL S d r M) _ HX6.out.all Try.underlying47 rfl (rmC_info S d r (M := M) HM.out) ?_)
      | (refine wpList_store_mid rfl 47 (.tmp 6) (.tmp 48) rfl (w.heap.size + 1) 0 (rmC S d r M) rfl rfl (HZ6.out.room rfl S d r (M' := M) HM.out) (rmC_info S d r (M := M) HM.out) (rmC_one _ _ _ _) ?_))
    obtain rfl := HFE.out
    refine bodyPost_ret (v := .tuple #[.agg (rmC S d r M), .int .i64 0, .int .i64 3]) (res_three Try.results13 _ _ (w.heap.size + 1) 47 (rmC S d r M) _ _ _ rfl rfl rfl (HZ6.out.put rfl S d r (M' := M) HM.out) Try.underlying47 rfl (rmC_info S d r (M := M) HM.out)) rfl ⟨.inr ⟨HF.out, rfl⟩, below_sets (Nat.le_succ _) _ _ HB6.out⟩
end Go.Proofs.Ytbmmgmdjhhnkfaa
