/- What is written is read again; cut short it is refused. Plain lists. -/
import Derived.Test.YteodldmbnghfcaaGreatC21
namespace Go.Proofs.YteodldmbnghfcaaGreat
open Go.RowKit

namespace Vi
theorem unzig_zig (n : Int) : unzig (zig n) = n := by
  unfold unzig zig
  split
  · rename_i h
    rw [if_pos (by omega)]
    omega
  · rename_i h
    rw [if_neg (by omega)]
    omega
theorem get_vi : ∀ (m v i u : Nat) (l : List Int), v ≤ m → i ≤ 9 → u + v * 128 ^ i < 18446744073709551616 → (i = 0 ∨ v ≠ 0) → get i u (vi v ++ l) = (unzig (u + v * 128 ^ i), i + (vi v).length, 0) := by
  intro m
  induction m with
  | zero =>
    intro v i u l hv hi hz h0
    obtain rfl : v = 0 := by omega
    obtain rfl : i = 0 := by omega
    rw [vi_small 0 (by omega)]
    simp [get]
  | succ m ih =>
    intro v i u l hv hi hz h0
    by_cases h128 : v < 128
    · rw [vi_small v h128]
      simp only [List.cons_append, List.nil_append, get]
      have h9 : ¬ (i = 9 ∧ (1 : Int) < v) := by
        rintro ⟨rfl, h1⟩
        have : (128 : Nat) ^ 9 = 9223372036854775808 := by decide
        rw [this] at hz
        omega
      rw [if_neg h9, if_neg (by omega), if_neg (by omega)]
      simp
    · rw [vi_big v (by omega)]
      have hi9 : i ≠ 9 := by
        rintro rfl
        have : (128 : Nat) ^ 9 = 9223372036854775808 := by decide
        rw [this] at hz
        omega
      simp only [List.cons_append, get]
      rw [if_neg (fun h => hi9 h.1), if_pos (by omega)]
      have e1 : (((v % 128 + 128 : Nat) : Int).toNat % 128) = v % 128 := by omega
      rw [e1]
      have e2 : u + v % 128 * 128 ^ i + v / 128 * 128 ^ (i + 1) = u + v * 128 ^ i := by
        rw [Nat.pow_succ]
        have h3 : v / 128 * (128 ^ i * 128) = (128 * (v / 128)) * 128 ^ i := by
          rw [Nat.mul_comm (128 ^ i) 128, ← Nat.mul_assoc, Nat.mul_comm (v / 128) 128]
        rw [h3, Nat.add_assoc, ← Nat.add_mul, Nat.mod_add_div]
      rw [ih (v / 128) (i + 1) _ l (by omega) (by omega) (by rw [e2]; exact hz) (.inr (by omega)), e2]
      simp only [List.length_cons]
      congr 2
      omega
theorem get_cut : ∀ (m v i u : Nat) (q : List Int), v ≤ m → i ≤ 9 → u + v * 128 ^ i < 18446744073709551616 → q <+: vi v → q ≠ vi v → get i u q = (0, 0, 10) := by
  intro m
  induction m with
  | zero =>
    intro v i u q hv hi hz hp hne
    obtain rfl : v = 0 := by omega
    rw [vi_small 0 (by omega)] at hp hne
    cases q with
    | nil => rfl
    | cons x q =>
      obtain ⟨rfl, hq⟩ := List.cons_prefix_cons.1 hp
      rw [List.prefix_nil.1 hq] at hne
      exact absurd rfl hne
  | succ m ih =>
    intro v i u q hv hi hz hp hne
    by_cases h128 : v < 128
    · rw [vi_small v h128] at hp hne
      cases q with
      | nil => rfl
      | cons x q =>
        obtain ⟨rfl, hq⟩ := List.cons_prefix_cons.1 hp
        rw [List.prefix_nil.1 hq] at hne
        exact absurd rfl hne
    · rw [vi_big v (by omega)] at hp hne
      cases q with
      | nil => rfl
      | cons x q =>
        obtain ⟨rfl, hq⟩ := List.cons_prefix_cons.1 hp
        have hne' : q ≠ vi (v / 128) := fun h => hne (by rw [h])
        have hi9 : i ≠ 9 := by
          rintro rfl
          have : (128 : Nat) ^ 9 = 9223372036854775808 := by decide
          rw [this] at hz
          omega
        rw [get, if_neg (fun h => hi9 h.1), if_pos (by omega)]
        have e1 : (((v % 128 + 128 : Nat) : Int).toNat % 128) = v % 128 := by omega
        rw [e1]
        have e2 : u + v % 128 * 128 ^ i + v / 128 * 128 ^ (i + 1) = u + v * 128 ^ i := by
          rw [Nat.pow_succ]
          have h3 : v / 128 * (128 ^ i * 128) = (128 * (v / 128)) * 128 ^ i := by
            rw [Nat.mul_comm (128 ^ i) 128, ← Nat.mul_assoc, Nat.mul_comm (v / 128) 128]
          rw [h3, Nat.add_assoc, ← Nat.add_mul, Nat.mod_add_div]
        exact ih (v / 128) (i + 1) _ q (by omega) (by omega) (by rw [e2]; exact hz) hq hne'
end Vi

/-- These bytes are read as this thing, whatever follows; cut short they are too short. -/
structure Rd {α : Type} (p : List Int → Except Int (α × List Int)) (bs : List Int) (x : α) : Prop where
  full : ∀ l, p (bs ++ l) = .ok (x, l)
  cut : ∀ q, q <+: bs → q ≠ bs → p q = .error 10
theorem Rd.bind {α β : Type} {p : List Int → Except Int (α × List Int)} {f : α → List Int → Except Int (β × List Int)} {A B : List Int} {x : α} {y : β} (h : Rd p A x) (k : Rd (f x) B y) : Rd (fun l => rb (p l) f) (A ++ B) y := by
  refine ⟨fun l => ?_, fun q hq hne => ?_⟩
  · rw [List.append_assoc, rb_ok (h.full _)]
    exact k.full l
  · rcases Nat.lt_or_ge q.length A.length with hl | hl
    · refine rb_bad (h.cut q (List.prefix_of_prefix_length_le hq (List.prefix_append A B) (by omega)) ?_)
      rintro rfl
      omega
    · obtain ⟨r, rfl⟩ := List.prefix_of_prefix_length_le (List.prefix_append A B) hq hl
      rw [rb_ok (h.full r)]
      refine k.cut r ((List.prefix_append_right_inj A).1 hq) (fun hr => hne (by rw [hr]))
theorem Rd.pure {α : Type} (x : α) : Rd (fun l => .ok (x, l)) [] x := ⟨fun _ => rfl, fun _ hq hne => absurd (List.prefix_nil.1 hq) hne⟩
theorem Rd.of {α : Type} {p p' : List Int → Except Int (α × List Int)} {bs bs' : List Int} {x : α} (h : Rd p bs x) (hp : ∀ l, p' l = p l) (hb : bs' = bs) : Rd p' bs' x := by
  subst hb
  exact ⟨fun l => (hp _).trans (h.full l), fun q hq hne => (hp _).trans (h.cut q hq hne)⟩

theorem rd_num {n : Int} (h : In64 n) : Rd rnum (Vi.int n) n := by
  have hz := Vi.zig_lt n h.1 h.2
  refine ⟨fun l => ?_, fun q hq hne => ?_⟩
  · have := Vi.get_vi (Vi.zig n) (Vi.zig n) 0 0 l (Nat.le_refl _) (by omega) (by simpa using hz) (.inl rfl)
    simp only [Nat.zero_add, Nat.pow_zero, Nat.mul_one, Vi.unzig_zig] at this
    rw [rnum, Vi.int, this, if_pos rfl, List.drop_left]
  · have := Vi.get_cut (Vi.zig n) (Vi.zig n) 0 0 q (Nat.le_refl _) (by omega) (by simpa using hz) hq hne
    rw [rnum, this]
    rfl
theorem rd_count {n most : Int} (h0 : 0 ≤ n) (h1 : n ≤ most) (hm : n ≤ 9223372036854775807) : Rd (rcount most) (Vi.int n) n := by
  have hr := rd_num (n := n) ⟨by omega, hm⟩
  exact ⟨fun l => rcount_in (hr.full l) (by omega), fun q hq hne => rcount_bad (hr.cut q hq hne)⟩
theorem rd_truth (d : Bool) : Rd rtruth [bit d] d := by
  refine ⟨fun l => ?_, fun q hq hne => ?_⟩
  · cases d <;> rfl
  · cases q with
    | nil => rfl
    | cons x q =>
      obtain ⟨rfl, hr⟩ := List.cons_prefix_cons.1 hq
      rw [List.prefix_nil.1 hr] at hne
      exact absurd rfl hne
theorem rd_text {S : ByteArray} (h : S.size ≤ 128) : Rd rtext (tx S) (bl S) := by
  have hc := rd_count (n := (S.size : Int)) (most := 128) (by omega) (by omega) (by omega)
  have hl := bl_length S
  refine ⟨fun l => ?_, fun q hq hne => ?_⟩
  · rw [tx, List.append_assoc, rtext_in (hc.full _) (by rw [List.length_append, hl]; omega)]
    rw [Int.toNat_natCast, ← hl, List.take_left, List.drop_left]
  · unfold tx at hq hne
    rcases Nat.lt_or_ge q.length (Vi.int S.size).length with h2 | h2
    · refine rtext_bad (hc.cut q (List.prefix_of_prefix_length_le hq (List.prefix_append _ _) (by omega)) ?_)
      rintro rfl
      omega
    · obtain ⟨r, rfl⟩ := List.prefix_of_prefix_length_le (List.prefix_append _ _) hq h2
      have hr := (List.prefix_append_right_inj _).1 hq
      have hlt : r.length < (bl S).length := by
        rcases Nat.lt_or_ge r.length (bl S).length with h3 | h3
        · exact h3
        · exact absurd (congrArg (Vi.int S.size ++ ·) (hr.eq_of_length_le h3)) hne
      exact rtext_out (hc.full r) (by omega)
def txs (a b c : ByteArray) : Tx := (bl a, bl b, bl c)
theorem rd_tuple {a b c : ByteArray} (ha : a.size ≤ 128) (hb : b.size ≤ 128) (hc : c.size ≤ 128) : Rd rtuple (tup a b c) (txs a b c) := by
  refine ((rd_text ha).bind (f := fun x l => rb (rtext l) fun y l => rb (rtext l) fun z l => .ok ((x, y, z), l)) ((rd_text hb).bind (f := fun y l => rb (rtext l) fun z l => .ok ((bl a, y, z), l)) ((rd_text hc).bind (f := fun z l => .ok ((bl a, bl b, z), l)) (Rd.pure (txs a b c))))).of (fun l => ?_) (by rw [tup, List.append_nil])
  unfold rtuple rb
  cases rtext l with
  | error c => rfl
  | ok p =>
    simp only []
    cases rtext p.2 with
    | error c => rfl
    | ok p =>
      simp only []
      cases rtext p.2 with
      | error c => rfl
      | ok p => rfl
def mutR (m : Mut) : Bool × Tx := (m.d, txs m.a m.b m.c)
theorem rd_flag {m : Mut} (h : m.ok) : Rd rflag (mutB m) (mutR m) := by
  refine ((rd_truth m.d).bind (f := fun d l => rb (rtuple l) fun t l => .ok ((d, t), l)) ((rd_tuple h.1 h.2.1 h.2.2).bind (f := fun t l => .ok ((m.d, t), l)) (Rd.pure (mutR m)))).of (fun l => ?_) (by rw [List.append_nil]; rfl)
  unfold rflag rb
  cases rtruth l with
  | error c => rfl
  | ok p =>
    simp only []
    cases rtuple p.2 with
    | error c => rfl
    | ok p => rfl
def rowR (m : RowD) : Tx × Int × Int := (txs m.a m.b m.c, m.s, m.u)
theorem rd_row {m : RowD} (h : m.ok) (hs : In64 m.s) (hu : In64 m.u) : Rd rrow (rowOf m) (rowR m) := by
  refine ((rd_tuple h.1 h.2.1 h.2.2).bind (f := fun t l => rb (rnum l) fun s l => rb (rnum l) fun u l => .ok ((t, s, u), l)) ((rd_num hs).bind (f := fun s l => rb (rnum l) fun u l => .ok ((txs m.a m.b m.c, s, u), l)) ((rd_num hu).bind (f := fun u l => .ok ((txs m.a m.b m.c, m.s, u), l)) (Rd.pure (rowR m))))).of (fun l => ?_) (by rw [List.append_nil]; rfl)
  unfold rrow rb
  cases rtuple l with
  | error c => rfl
  | ok p =>
    simp only []
    cases rnum p.2 with
    | error c => rfl
    | ok p =>
      simp only []
      cases rnum p.2 with
      | error c => rfl
      | ok p => rfl
theorem rd_rep {α β : Type} {p : List Int → Except Int (β × List Int)} {f : α → List Int} {g : α → β} : ∀ (l : List α), (∀ x ∈ l, Rd p (f x) (g x)) → Rd (rrep p l.length) (l.map f).flatten (l.map g)
  | [], _ => Rd.pure []
  | x :: l, h => by
    refine ((h x (by simp)).bind (f := fun y r => rb (rrep p l.length r) fun ys r => .ok (y :: ys, r)) ((rd_rep l fun y hy => h y (List.mem_cons_of_mem _ hy)).bind (f := fun ys r => .ok (g x :: ys, r)) (Rd.pure (g x :: l.map g)))).of (fun r => ?_) (by rw [List.append_nil, List.map_cons, List.flatten_cons])
    rw [List.length_cons, rrep]
    unfold rb
    cases p r with
    | error c => rfl
    | ok q =>
      simp only []
      cases rrep p l.length q.2 with
      | error c => rfl
      | ok q => rfl
theorem rd_lst {α β : Type} {p : List Int → Except Int (β × List Int)} {f : α → List Int} {g : α → β} {l : List α} (h : ∀ x ∈ l, Rd p (f x) (g x)) (hl : l.length ≤ 1024) : Rd (rlst p) (lst f l) (l.map g) := by
  have hr := rd_rep l h
  refine ((rd_count (n := (l.length : Int)) (most := 1024) (by omega) (by omega) (by omega)).bind (f := fun n r => rrep p n.toNat r) (by rw [Int.toNat_natCast]; exact hr)).of (fun r => ?_) rfl
  unfold rlst rb
  cases rcount 1024 r with
  | error c => rfl
  | ok q => rfl

/-- All numbers are numbers of 64 bits. -/
structure MsgD.in64 (m : MsgD) : Prop where
  kind : In64 m.kind
  from_ : In64 m.from_
  too : In64 m.«to»
  id : In64 m.id
  rev : In64 m.rev
  epoch : In64 m.epoch
  slot : In64 m.slot
  nodes : ∀ x ∈ m.nodes, In64 x
  rows : ∀ x ∈ m.rows, In64 x.s ∧ In64 x.u
def toR (m : MsgD) : MsgR := ⟨m.kind, m.from_, m.«to», m.id, m.rev, m.epoch, m.slot, m.flag, m.nodes, m.muts.map mutR, m.pre.map mutR, m.rows.map rowR⟩
theorem rd_msg {m : MsgD} (ok : m.ok) (h : m.in64) : Rd rmsg (enc m) (toR m) := by
  have k8 : Rd (rlst rnum) (lst Vi.int m.nodes) m.nodes := by
    have := rd_lst (p := rnum) (f := Vi.int) (g := fun x => x) (l := m.nodes) (fun x hx => rd_num (h.nodes x hx)) ok.nodes
    rwa [List.map_id'] at this
  have k9 := rd_lst (fun x hx => rd_flag (ok.muts.2 x hx)) ok.muts.1
  have k10 := rd_lst (fun x hx => rd_flag (ok.pre.2 x hx)) ok.pre.1
  have k11 := rd_lst (fun x hx => rd_row (ok.rows.2 x hx) (h.rows x hx).1 (h.rows x hx).2) ok.rows.1
  have e : enc m = Vi.int m.kind ++ (Vi.int m.from_ ++ (Vi.int m.«to» ++ (Vi.int m.id ++ (Vi.int m.rev ++ (Vi.int m.epoch ++ (Vi.int m.slot ++ ([bit m.flag] ++ (lst Vi.int m.nodes ++ (lst mutB m.muts ++ (lst mutB m.pre ++ (lst rowOf m.rows ++ []))))))))))) := by rw [List.append_nil]; rfl
  rw [e]
  exact (rd_num h.kind).bind (f := fun x l => m1 x l) ((rd_num h.from_).bind (f := fun x l => m2 m.kind x l) ((rd_num h.too).bind (f := fun x l => m3 m.kind m.from_ x l) ((rd_num h.id).bind (f := fun x l => m4 m.kind m.from_ m.«to» x l) ((rd_num h.rev).bind (f := fun x l => m5 m.kind m.from_ m.«to» m.id x l) ((rd_num h.epoch).bind (f := fun x l => m6 m.kind m.from_ m.«to» m.id m.rev x l) ((rd_num h.slot).bind (f := fun x l => m7 m.kind m.from_ m.«to» m.id m.rev m.epoch x l) ((rd_truth m.flag).bind (f := fun x l => m8 m.kind m.from_ m.«to» m.id m.rev m.epoch m.slot x l) (k8.bind (f := fun x l => m9 m.kind m.from_ m.«to» m.id m.rev m.epoch m.slot m.flag x l) (k9.bind (f := fun x l => m10 m.kind m.from_ m.«to» m.id m.rev m.epoch m.slot m.flag m.nodes x l) (k10.bind (f := fun x l => m11 m.kind m.from_ m.«to» m.id m.rev m.epoch m.slot m.flag m.nodes (m.muts.map mutR) x l) (k11.bind (f := fun x l => .ok ((⟨m.kind, m.from_, m.«to», m.id, m.rev, m.epoch, m.slot, m.flag, m.nodes, m.muts.map mutR, m.pre.map mutR, x⟩ : MsgR), l)) (Rd.pure (toR m)))))))))))))

theorem dec_enc {m : MsgD} (ok : m.ok) (h : m.in64) (hl : (enc m).length ≤ 16384) : dec (enc m) = .ok (toR m) := by
  have := (rd_msg ok h).full []
  rw [List.append_nil] at this
  rw [dec, if_neg (by omega), this]
  rfl
theorem dec_cut {m : MsgD} (ok : m.ok) (h : m.in64) (hl : (enc m).length ≤ 16384) {q : List Int} (hq : q <+: enc m) (hne : q ≠ enc m) : dec q = .error 10 := by
  have := (rd_msg ok h).cut q hq hne
  rw [dec, if_neg (by have := hq.length_le; omega), this]
theorem dec_more {m : MsgD} (ok : m.ok) (h : m.in64) {l : List Int} (hl : (enc m ++ l).length ≤ 16384) (hne : l ≠ []) : dec (enc m ++ l) = .error 21 := by
  rw [dec, if_neg (by omega), (rd_msg ok h).full l]
  show (if l = [] then _ else _) = _
  rw [if_neg hne]
theorem dec_big {xs : List Int} (hl : 16384 < xs.length) : dec xs = .error 2 := by rw [dec, if_pos hl]
end Go.Proofs.YteodldmbnghfcaaGreat
