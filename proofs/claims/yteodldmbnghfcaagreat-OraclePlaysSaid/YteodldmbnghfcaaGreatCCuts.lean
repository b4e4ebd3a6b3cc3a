/- CodeCuts: a message's bytes cut short, or with something behind, are refused. -/
import Derived.Test.YteodldmbnghfcaaGreatCOpen
namespace Go.Proofs.YteodldmbnghfcaaGreat
open Go.RowKit

theorem lst_byte {α : Type} {f : α → List Int} {l : List α} (h : ∀ x ∈ l, ∀ y ∈ f x, 0 ≤ y ∧ y < 256) : ∀ y ∈ lst f l, 0 ≤ y ∧ y < 256 := by
  intro y hy
  rw [lst, List.mem_append] at hy
  rcases hy with hy | hy
  · exact Vi.int_byte _ y hy
  · obtain ⟨q, hq, hyq⟩ := List.mem_flatten.1 hy
    obtain ⟨x, hx, rfl⟩ := List.mem_map.1 hq
    exact h x hx y hyq
theorem tup_byte (a b c : ByteArray) : ∀ y ∈ tup a b c, 0 ≤ y ∧ y < 256 := byte_app (tx_byte a) (byte_app (tx_byte b) (tx_byte c))
theorem bit_byte (d : Bool) : ∀ y ∈ [bit d], 0 ≤ y ∧ y < 256 := by
  intro y hy
  obtain rfl : y = bit d := by simpa using hy
  cases d <;> decide
theorem mutB_byte (m : Mut) : ∀ y ∈ mutB m, 0 ≤ y ∧ y < 256 := byte_app (xs := [bit m.d]) (bit_byte m.d) (tup_byte _ _ _)
theorem rowOf_byte (m : RowD) : ∀ y ∈ rowOf m, 0 ≤ y ∧ y < 256 := byte_app (tup_byte _ _ _) (byte_app (Vi.int_byte _) (Vi.int_byte _))
theorem enc_byte (m : MsgD) : ∀ y ∈ enc m, 0 ≤ y ∧ y < 256 :=
  byte_app (Vi.int_byte _) (byte_app (Vi.int_byte _) (byte_app (Vi.int_byte _) (byte_app (Vi.int_byte _) (byte_app (Vi.int_byte _) (byte_app (Vi.int_byte _) (byte_app (Vi.int_byte _) (byte_app (bit_byte _)
    (byte_app (lst_byte fun x _ => Vi.int_byte x) (byte_app (lst_byte fun x _ => mutB_byte x) (byte_app (lst_byte fun x _ => mutB_byte x) (lst_byte fun x _ => rowOf_byte x)))))))))))
theorem enc_pos (m : MsgD) : 0 < (enc m).length := by
  have := Vi.vi_pos (Vi.zig m.kind)
  rw [enc, List.length_append, Vi.int]
  omega
theorem MsgAt.up {w w' : World} {B B' : Nat} {V : Value} {m : MsgD} {na ma pa ra : Option Addr} {nn nc mn mc pn pc rn rc : Nat} (h : MsgAt w B V m na ma pa ra nn nc mn mc pn pc rn rc) (hb : Below B w w') (hB : B ≤ B') : MsgAt w' B' V m na ma pa ra nn nc mn mc pn pc rn rc := by
  obtain ⟨rfl, hk0, hk1, hk2, hk3, hk4, hk5, hk6, hnodes, hmuts, hpre, hrows, hln, hlm, hlp, hlr⟩ := h.below hb
  refine ⟨rfl, hk0, hk1, hk2, hk3, hk4, hk5, hk6, ⟨hnodes.1, hnodes.2.imp_right ?_⟩, ⟨hmuts.1, hmuts.2.imp_right ?_⟩, ⟨hpre.1, hpre.2.imp_right ?_⟩, ⟨hrows.1, hrows.2.imp_right ?_⟩, hln, hlm, hlp, hlr⟩
  all_goals
    rintro ⟨b, off, h1, h2, h3⟩
    exact ⟨b, off, h1, by omega, h3⟩
theorem enc_no {V : Value} {m : MsgD} {na ma pa ra : Option Addr} {nn nc mn mc pn pc rn rc : Nat} {w : World} (hm : MsgAt w w.heap.size V m na ma pa ra nn nc mn mc pn pc rn rc) (h : ¬ (m.ok ∧ (enc m).length ≤ 16384)) :
    Calls Tryz.prog 65 #[V] w (EncNo w) := by
  by_cases ok : m.ok
  · exact encode_big V m na ma pa ra nn nc mn mc pn pc rn rc w hm ok (by rcases Nat.lt_or_ge 16384 (enc m).length with h1 | h1; exact h1; exact absurd ⟨ok, h1⟩ h)
  · exact encode_long V m na ma pa ra nn nc mn mc pn pc rn rc w hm ok
theorem take_map_u8 (xs : List Int) (k : Nat) : (xs.map (Value.int .u8)).take k = (xs.take k).map (Value.int .u8) := by rw [List.map_take]
/-- Decode of bytes of the call's own. -/
theorem decode_own {w : World} {base k c : Nat} {a : Option Addr} {xs : List Int} (h : w.ownsRow base 5 1 (.slice a k c) k (xs.map (Value.int .u8))) (hb : ∀ x ∈ xs, 0 ≤ x ∧ x < 256) :
    Calls Tryz.prog 64 #[.slice a k c] w (DDone w (dec xs)) := by
  have hl : xs.length = k := by have := h.1; simpa using this
  by_cases hk : 16384 < k
  · exact decode_long a k c w xs hl hk
  · exact decode_short a k c w xs hl hk (owned_lies h hb)

end Go.Proofs.YteodldmbnghfcaaGreat
