/- Users. -/
import Derived.Test.YtmjdngomjjhhiaaGreatE33
namespace Go.Proofs.YtmjdngomjjhhiaaGreat
open Go.RowKit
open Go.Maps (Keyed)

theorem infoT : (Tryz.prog.info? 9).map (fun i => (i.zero, i.size, i.bytes)) = some (some (.string ⟨#[]⟩), 1, 16) := by kernel_rfl
def uOf (ts : List Tp) : List (List UInt8) := ts.map fun t => t.u.data.toList
/-- Who had a relation to an object. -/
structure UsersOk (M : SM) (o r : ByteArray) (rev : Int) (ts : List Tp) : Prop where
  nd : ts.Nodup
  mem : ∀ t, t ∈ ts ↔ t ∈ M.K ∧ (t.o = o ∧ t.r = r) ∧ spThere (M.sp t) rev = true
section
variable {w : World} {wm : Int} {M : SM} {H : Gh} {cb : Nat}
/-- Users gathered. -/
structure UseS (w wr : World) (v : Value) (ts : List Tp) : Prop where
  below : Below w.heap.size w wr
  row : wr.ownsRow w.heap.size 9 1 v ts.length ((uOf ts).map encS)
theorem UseS.up {wr w' : World} {v : Value} {ts : List Tp} (h : UseS w wr v ts) (hb : Below wr.heap.size wr w') : UseS w w' v ts :=
  ⟨bell_up h.below hb, owns_keptN h.row (fun k hk => hb.block k (h.row.lt k hk).2)⟩
theorem StAt.users_list (h : StAt w wm M H cb) {o r : ByteArray} (ho : o.size ≤ 1000000000000000000) (hr : r.size ≤ 1000000000000000000) (rev : Int) : UsersOk M o r rev ((H.L 1 (kP o r)).filter fun t => spThere (M.sp t) rev) := by
  have hI := (h.raw.ix 1 (by omega)).ok
  refine ⟨(hI.nd _).filter _, fun t => ?_⟩
  rw [List.mem_filter, hI.mem]
  constructor
  · rintro ⟨⟨h1, h2⟩, h3⟩
    have hf := (h.raw.ents t h1).fit
    exact ⟨h1, kP_inj hf.1 hf.2.1 ho hr h2, h3⟩
  · rintro ⟨h1, ⟨rfl, rfl⟩, h3⟩
    exact ⟨⟨h1, rfl⟩, h3⟩
set_option maxRecDepth 100000 in
set_option maxHeartbeats 16000000 in
theorem users_any (h : StAt w wm M H cb) (hcb : cb ≤ 1099511627776) {o r : ByteArray} (ho : o.size ≤ 1000000000000000000) (hr : r.size ≤ 1000000000000000000) (rev : Int) :
    Calls Tryz.prog 12 #[ptr H.g, .string o, .string r, .int .i64 rev] w fun e w' => ∃ v ts, e = .returned (.tuple #[v, .int .i64 (readableB wm rev)]) ∧ (readableB wm rev = 0 → UsersOk M o r rev ts) ∧ (readableB wm rev ≠ 0 → ts = []) ∧ w'.ownsRow w.heap.size 9 1 v ts.length ((sortS (uOf ts)).map encS) ∧ Below w.heap.size w w' := by
  have HRD := Lib.hid (readable_any h.raw.top rev)
  have HUL := Lib.hid (h.users_list ho hr rev)
  have HB0 := Lib.hid (show Below w.heap.size w w from Below.refl _ _)
  have HNIL := Lib.hid (show w.ownsRow w.heap.size 9 1 nilS 0 ((sortS (uOf [])).map encS) from by
    have : sortS (uOf []) = [] := by unfold sortS uOf; simp
    rw [this]
    exact World.ownsRow_nil _ _ _ _)
  generalize readableB wm rev = rc at *
  by_cases hrc : rc = 0
  · subst hrc
    obtain ⟨_, _, _, ⟨q1, q2, q3⟩, _⟩ := h.raw.top.cells
    have hI := h.raw.ix 1 (by omega)
    obtain ⟨N, _, hM⟩ := hI.map
    have HLI := Lib.hid (listP_any hM 1 19 ho hr)
    have hrow := hI.row (kP o r)
    have hmem := hI.ok.mem (kP o r)
    have hln : (H.L 1 (kP o r)).length ≤ cb := Nat.le_trans (nd_len (hI.ok.nd _) (fun x hx => ((hmem x).1 hx).1)) h.raw.bigK
    generalize H.L 1 (kP o r) = Lk at *
    generalize (H.m 1 (kP o r)).getD nilS = lv at *
    obtain ⟨la, lc, rfl, _, _⟩ := owned_anyE hrow
    have HROW := Lib.hid hrow
    have HMEM := Lib.hid (fun t (ht : t ∈ Lk) => ((hmem t).1 ht).1)
    have HH := Lib.hid h
    obtain ⟨i0, hi0, hz0, hz1, hz2⟩ := info_parts infoT
    clear h hI hM hrow hmem HNIL
    go_enter Tryz.func12, Tryz.ntmps12
    go_wp2_with fail
    refine HRD.out.mono ?_
    rintro _ w1 ⟨rfl, rfl⟩
    go_wp2_with fail
    refine HLI.out.mono ?_
    rintro _ w1 ⟨rfl, hb1⟩
    have HU1 := Lib.hid (show UseS w w1 nilS ((Lk.take 0).filter fun t => spThere (M.sp t) rev) from ⟨hb1, by simpa [uOf] using World.ownsRow_nil w1 w.heap.size 9 1⟩)
    clear hb1 q1 q2 q3 HLI HRD
    go_wp2_with fail
    go_loopw [11, 29] (fun v iv wr => ∃ i : Nat, i ≤ Lk.length ∧ iv = .int .i64 i ∧ UseS w wr v ((Lk.take i).filter fun t => spThere (M.sp t) rev)) (fun _ iv _ => Lk.length - (intOf iv).toNat)
    case atStart => exact ⟨0, by omega, rfl, HU1.out⟩
    case round =>
      clear HU1
      obtain ⟨i, hin, rfl, hS⟩ := hrel
      obtain ⟨va, vc, rfl, _, _⟩ := owned_anyE hS.row
      have HS := Lib.hid hS
      clear hS
      by_cases hil : i < Lk.length
      · obtain ⟨t, hti⟩ : ∃ t, Lk[i]? = some t := ⟨_, List.getElem?_eq_getElem hil⟩
        have htK : t ∈ M.K := HMEM.out t (List.mem_of_getElem? hti)
        have hst := HH.out.below HS.out.below
        obtain ⟨ea, ec, _, hA⟩ := (HH.out.raw.ents t htK).at_
        have hsl := HH.out.raw.bigS t
        have HTH := Lib.hid (thereAt_any (hA.below HS.out.below) (HH.out.ok.ok t htK) (by omega) rev)
        obtain ⟨eb, eo, rfl, heb, hec⟩ : ∃ b off, la = some ⟨b, off, none⟩ ∧ b < w.heap.size ∧ w.cell? ⟨b, off + i, none⟩ = some (ptr (H.ge t)) := by
          rcases HROW.out.2 with ⟨_, h0⟩ | ⟨b, cap, cur, he, _, hh, _, _, _, htk⟩
          · omega
          · injection he with he _ _
            refine ⟨b, 0, he, (Array.getElem?_eq_some_iff.1 hh).1, ?_⟩
            have h3 : (Lk.map fun t => ptr (H.ge t))[i]? = some (ptr (H.ge t)) := by rw [List.getElem?_map, hti]; rfl
            rw [← htk, List.getElem?_take] at h3
            split at h3
            · simp only [World.cell?, hh]
              rw [Nat.zero_add]
              simpa using h3
            · cases h3
        have hec2 := (HS.out.below.cell (p := ⟨eb, eo + i, none⟩) heb).trans hec
        have HA := Lib.hid hA
        have hil2 : (i : Int) < (Lk.length : Int) := by omega
        have hi4 : i ≤ 1099511627776 := by omega
        have htk : Lk.take (i + 1) = Lk.take i ++ [t] := by rw [List.take_add_one, hti]; rfl
        have HTK := Lib.hid htk
        clear hec hst hA hti hsl htk
        generalize hth : spThere (M.sp t) rev = th at *
        obtain ⟨Us, hUs⟩ : ∃ Us, Us = (Lk.take i).filter fun t => spThere (M.sp t) rev := ⟨_, rfl⟩
        have hS2 := HS.out
        rw [← hUs] at hS2 ⊢
        have HS2 := Lib.hid hS2
        have HUS := Lib.hid hUs
        have hUn : Us.length ≤ cb := by
          have := List.length_filter_le (fun t => spThere (M.sp t) rev) (Lk.take i)
          rw [hUs]
          rw [List.length_take] at this
          omega
        have hn1 : Us.length + 1 ≤ maxLen := by unfold maxLen; omega
        have hn2 : (Us.length + 1) * 16 ≤ 140737488355328 := by omega
        clear hS2 hUs HS hUn
        go_wp2_with fail
        refine HTH.out.mono ?_
        rintro _ w2 ⟨rfl, hb2⟩
        have HS3 := Lib.hid (HS2.out.up hb2)
        clear hb2 hec2 HTH
        cases th with
        | false =>
          have HN := Lib.hid (show UseS w w2 (.slice va Us.length vc) ((Lk.take (i + 1)).filter fun t => spThere (M.sp t) rev) from by
            rw [HTK.out, List.filter_append, ← HUS.out]
            have : [t].filter (fun t => spThere (M.sp t) rev) = [] := by simp [hth]
            rw [this, List.append_nil]
            exact HS3.out)
          go_wp2
          go_roundw
          case rel => exact ⟨i + 1, by omega, by go_num, HN.out⟩
          case measure => simp [intOf]; omega
        | true =>
          have hE := (HA.out.below HS3.out.below).blk
          have d2 : w2.cell? ⟨H.ge t, 2, none⟩ = some (.string t.u) := by rw [hE.cell]; rfl
          have HBS := Lib.hid (show w.heap.size ≤ w2.heap.size from HS3.out.below.size)
          clear hE
          go_wp2_with (at_builtin; refine wpList_append_own_at _ rfl (.tmp 36) (.tmp 42) 30 rfl w.heap.size 9 i0 (.string ⟨#[]⟩) 1 16 Tryz.underlying30 hi0 hz0 hz1 hz2 rfl (by decide) (.slice va Us.length vc) Us.length ((uOf Us).map encS) rfl (HS3.out.row.alloc _) ⟨w2.heap.size, 0, none⟩ 1 1 [.string t.u] rfl rfl (cell_one_new w2 (.string t.u) 9) (by simp [Value.oneCell']) hn1 hn2 (by have := HBS.out; simp; omega) ?_; intro v' w6 hown6 hgr6 _ _
                       have HN := Lib.hid (show UseS w w6 v' ((Lk.take (i + 1)).filter fun t => spThere (M.sp t) rev) from by
                         rw [HTK.out, List.filter_append, ← HUS.out]
                         have : [t].filter (fun t => spThere (M.sp t) rev) = [t] := by simp [hth]
                         rw [this]
                         refine ⟨(bell_alloc HS3.out.below (.cells #[.string t.u] 9)).grown hgr6 (by have := HBS.out; simp; omega) (fun k e => (HS3.out.row.lt k e).1), ?_⟩
                         rw [List.length_append]
                         unfold uOf at hown6 ⊢
                         rw [List.map_append, List.map_append]
                         exact hown6)
                       clear hown6 hgr6)
          go_roundw
          case rel => exact ⟨i + 1, by omega, by go_num, HN.out⟩
          case measure => simp [intOf]; omega
      · obtain rfl : i = Lk.length := by omega
        have hS4 := HS.out
        rw [List.take_length] at hS4 ⊢
        have hlu : (uOf (Lk.filter fun t => spThere (M.sp t) rev)).length = (Lk.filter fun t => spThere (M.sp t) rev).length := by unfold uOf; rw [List.length_map]
        have hle : (Lk.filter fun t => spThere (M.sp t) rev).length ≤ 1099511627776 := by
          have := List.length_filter_le (fun t => spThere (M.sp t) rev) Lk
          omega
        have HSO := Lib.hid (sortS_any (by rw [hlu]; exact hS4.row) (by rw [hlu]; exact hle))
        have HBE := Lib.hid hS4.below
        have HRO := Lib.hid hS4.row
        generalize Lk.filter (fun t => spThere (M.sp t) rev) = Us at *
        clear hS4 HS hle
        go_wp2_with fail
        refine HSO.out.mono ?_
        rintro _ w3 ⟨rfl, hro3, hgr3⟩
        rw [hlu] at hro3
        have HF := Lib.hid (show w3.ownsRow w.heap.size 9 1 (.slice va Us.length vc) Us.length ((sortS (uOf Us)).map encS) ∧ Below w.heap.size w w3 from ⟨hro3, HBE.out.grown hgr3 HBE.out.size (fun k e => (HRO.out.lt k e).1)⟩)
        clear hro3 hgr3 hlu
        go_wp2
        go_ret2
        exact ⟨_, Us, rfl, fun _ => HUL.out, (fun e => absurd rfl e), HF.out.1, HF.out.2⟩
  · clear h
    go_enter Tryz.func12, Tryz.ntmps12
    go_wp2_with fail
    refine HRD.out.mono ?_
    rintro _ w1 ⟨rfl, rfl⟩
    go_wp2
    go_ret2
    exact ⟨_, [], rfl, fun e => absurd e hrc, fun _ => rfl, HNIL.out, HB0.out⟩
end
end Go.Proofs.YtmjdngomjjhhiaaGreat
