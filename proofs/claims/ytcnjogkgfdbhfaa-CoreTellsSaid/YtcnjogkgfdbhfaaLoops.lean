/- What each call of the layer's functions with loops comes to: a byte's membership by halving, sizes, the least byte: contracts for the proofs of the statements.
   Conditions: classes are four words below 2^64 ('Cl'), bytes below 256, as each theorem states. -/
import Derived.Test.YtcnjogkgfdbhfaaCalls
import Derived.Lib.Hide
import Derived.Deep.LoopGhost
namespace Go.Proofs.Ytcnjogkgfdbhfaa
open Go.RowKit

theorem ret_bool {a b : Bool} (h : a = b) : Ending.returned (.bool a) = .returned (.bool b) := by rw [h]
theorem ret_int {k : IntKind} {a b : Int} (h : a = b) : Ending.returned (.int k a) = .returned (.int k b) := by rw [h]
theorem wrapu {x : Nat} (h : x < 18446744073709551616) : IntKind.u64.wrap ((x : Int) / 2) = (x : Int) / 2 := by rw [IntKind.wrap_u64]; omega
theorem odd_hasB {C : Nat → Nat} {b x k : Nat} (h : x = C (b / 64) / 2 ^ k) (hk : k = b % 64) : ((x : Int) % 2 == 1) = hasB C b := by
  rw [hasB_div, ← hk, ← h]
  rcases Nat.mod_two_eq_zero_or_one x with e | e
  · have : (x : Int) % 2 = 0 := by omega
    simp [this, e]
  · have : (x : Int) % 2 = 1 := by omega
    simp [this, e]
theorem shr_bound {C : Nat → Nat} (hC : Cl C) (i k : Nat) : C i / 2 ^ k < 18446744073709551616 := Nat.lt_of_le_of_lt (Nat.div_le_self _ _) (hC i)
theorem and_one_nat {x : Nat} (h : x < 18446744073709551616) : bits .and .u64 (x : Int) 1 = (x : Int) % 2 := and_one_u64 _ (Int.natCast_nonneg _) (by omega)
theorem idx0 (C : Nat → Nat) (w : World) : (Instr.index 24 (.agg #[.int .u64 (C 0 : Nat), .int .u64 (C 1 : Nat), .int .u64 (C 2 : Nat), .int .u64 (C 3 : Nat)]) (.int .i64 0)).run Try.prog w = .ok (.int .u64 (C 0 : Nat)) w := by kernel_rfl
theorem idx1 (C : Nat → Nat) (w : World) : (Instr.index 24 (.agg #[.int .u64 (C 0 : Nat), .int .u64 (C 1 : Nat), .int .u64 (C 2 : Nat), .int .u64 (C 3 : Nat)]) (.int .i64 1)).run Try.prog w = .ok (.int .u64 (C 1 : Nat)) w := by kernel_rfl
theorem idx2 (C : Nat → Nat) (w : World) : (Instr.index 24 (.agg #[.int .u64 (C 0 : Nat), .int .u64 (C 1 : Nat), .int .u64 (C 2 : Nat), .int .u64 (C 3 : Nat)]) (.int .i64 2)).run Try.prog w = .ok (.int .u64 (C 2 : Nat)) w := by kernel_rfl
theorem idx3 (C : Nat → Nat) (w : World) : (Instr.index 24 (.agg #[.int .u64 (C 0 : Nat), .int .u64 (C 1 : Nat), .int .u64 (C 2 : Nat), .int .u64 (C 3 : Nat)]) (.int .i64 3)).run Try.prog w = .ok (.int .u64 (C 3 : Nat)) w := by kernel_rfl

theorem idx_at (C : Nat → Nat) (k : Nat) (h : k < 4) (w : World) : (Instr.index 24 (.agg #[.int .u64 (C 0 : Nat), .int .u64 (C 1 : Nat), .int .u64 (C 2 : Nat), .int .u64 (C 3 : Nat)]) (.int .i64 k)).run Try.prog w = .ok (.int .u64 (C k : Nat)) w := by
  match k, h with
  | 0, _ => exact idx0 C w
  | 1, _ => exact idx1 C w
  | 2, _ => exact idx2 C w
  | 3, _ => exact idx3 C w

end Go.Proofs.Ytcnjogkgfdbhfaa
