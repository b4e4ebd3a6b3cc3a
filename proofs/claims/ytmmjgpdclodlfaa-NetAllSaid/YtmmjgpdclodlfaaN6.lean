/- The network: the packets that are not to a node. -/
import Derived.Test.YtmmjgpdclodlfaaN5
import Derived.Laws.CopyRow
namespace Go.Proofs.Ytmmjgpdclodlfaa
open Go.RowKit

theorem zero_one (n : Nat) : ∀ u ∈ (Builtin.zeroCells #[.int .i64 0, .int .i64 0, .slice none 0 0] n).toList, u.oneCell' = true := by
  intro u hu
  simp only [Builtin.zeroCells, Array.toList_map, List.mem_map] at hu
  obtain ⟨i, _, rfl⟩ := hu
  have h3 : i % 3 < 3 := Nat.mod_lt _ (by decide)
  simp only [List.size_toArray, List.length_cons, List.length_nil, Nat.zero_add, Nat.reduceAdd]
  generalize i % 3 = j at *
  match j, h3 with
  | 0, _ => rfl
  | 1, _ => rfl
  | 2, _ => rfl
theorem run_clear_row (w : World) (ty : TypeId) {q o n c : Nat} {cur : Array Value} (hW : Whole w q 32 cur) (h : o + n * 3 ≤ cur.size) :
    ∃ cur', (Builtin.clear_ #[45] ty #[.slice (some ⟨q, o, none⟩) n c]).run Try.prog w = .ok (.tuple #[]) (w.setRow q cur') ∧ cur'.size = cur.size ∧ ∀ m, m ≤ o → cur'.toList.take m = cur.toList.take m := by
  have hsz : (Builtin.zeroCells #[.int .i64 0, .int .i64 0, .slice none 0 0] n).toList.length = n * 3 := by
    rw [Array.length_toList, size_zeroCells]; rfl
  cases n with
  | zero =>
    refine ⟨cur, ?_, rfl, fun _ _ => rfl⟩
    rw [setRow_self w q cur _ (0, 0) hW]
    simp [Builtin.clear_, run_underlying Try.underlying45]
  | succ k =>
    have hst := run_storeCells_at Try.prog q o 32 (Builtin.zeroCells #[.int .i64 0, .int .i64 0, .slice none 0 0] (k + 1)).toList 0 cur w hW (by rw [hsz]; simpa using h) (zero_one _)
    simp only [Nat.add_zero] at hst
    refine ⟨(cur.toList.take o ++ (Builtin.zeroCells #[.int .i64 0, .int .i64 0, .slice none 0 0] (k + 1)).toList ++ cur.toList.drop (o + (Builtin.zeroCells #[.int .i64 0, .int .i64 0, .slice none 0 0] (k + 1)).toList.length)).toArray, ?_, ?_, ?_⟩
    · simp [Builtin.clear_, run_underlying Try.underlying45, Value.cells, hst]
    · simp only [List.size_toArray, List.length_append, List.length_take, List.length_drop, Array.length_toList, hsz]
      omega
    · intro m hm
      simp only [List.append_assoc]
      rw [List.take_append_of_le_length (by rw [List.length_take, Array.length_toList]; omega), List.take_take, Nat.min_eq_left hm]
end Go.Proofs.Ytmmjgpdclodlfaa
