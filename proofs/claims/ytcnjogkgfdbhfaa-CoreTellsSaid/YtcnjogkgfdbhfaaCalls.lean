/- What each call of the layer's small functions comes to, and that nothing which was there is changed: contracts for the proofs of the statements.
   Conditions: classes are four words below 2^64 ('Cl'), bytes below 256, as each theorem states. -/
import Derived.Test.YtcnjogkgfdbhfaaRows
import Derived.Test.YtcnjogkgfdbhfaaMath
import Derived.WalkKit
import Derived.WalkSpells
import Derived.WalkLawsBesides
import Derived.ChangeKeysEq
namespace Go.Proofs.Ytcnjogkgfdbhfaa
open Go.RowKit

theorem pick4 (C : Nat → Nat) (i : Nat) (h : i < 4) : [Value.int .u64 (C 0), Value.int .u64 (C 1), Value.int .u64 (C 2), Value.int .u64 (C 3)][i]? = some (Value.int .u64 (C i)) := by
  have : i = 0 ∨ i = 1 ∨ i = 2 ∨ i = 3 := by omega
  rcases this with rfl | rfl | rfl | rfl <;> rfl
theorem v_not {C : Nat → Nat} (h : Cl C) (i : Nat) : bits .xor .u64 IntKind.u64.max (C i : Int) = ((cNot C i : Nat) : Int) :=
  bits_xor_u64_nat 18446744073709551615 (C i) (by decide) (h i)
theorem v_or {A B : Nat → Nat} (hA : Cl A) (hB : Cl B) (i : Nat) : bits .or .u64 (A i : Int) (B i : Int) = ((cOr A B i : Nat) : Int) := bits_or_u64_nat _ _ (hA i) (hB i)
theorem info23 : (Try.prog.info? 22).map (fun i => (i.zero, i.size, i.bytes)) = some (some (.int .u64 0), 1, 8) := by kernel_rfl
theorem cells24 : Try.prog.cellsOf 22 = 1 := by kernel_rfl
theorem run_equal4 (w : World) (a0 a1 a2 a3 b0 b1 b2 b3 : Int) :
    (Op.equalIn 10000 24 (.agg #[.int .u64 a0, .int .u64 a1, .int .u64 a2, .int .u64 a3]) (.agg #[.int .u64 b0, .int .u64 b1, .int .u64 b2, .int .u64 b3])).run Try.prog w = .ok (a0 == b0 && (a1 == b1 && (a2 == b2 && a3 == b3))) w := by
  obtain ⟨i0, hi, _, _, _⟩ := info_parts info23
  have q : ∀ (w' : World) (a b : Int), (Op.equalIn 9999 22 (.int .u64 a) (.int .u64 b)).run Try.prog w' = .ok (a == b) w' := fun w' a b => run_equalIn_int w' 9998 22 .u64 .u64 a b Try.underlying22
  rw [run_equalIn_array w 9999 _ _ Try.underlying24 hi, cells24, show List.range 4 = [0, 1, 2, 3] from rfl]
  simp only [Op.eqItems, Sem.run_bind]
  simp only [part, isAgg, run_underlying Try.underlying22, Sem.run_bind, Result.andThen_ok]
  simp
  simp only [q, Result.andThen_ok]
  cases (a0 == b0) <;> cases (a1 == b1) <;> cases (a2 == b2) <;> cases (a3 == b3) <;> rfl
end Go.Proofs.Ytcnjogkgfdbhfaa
