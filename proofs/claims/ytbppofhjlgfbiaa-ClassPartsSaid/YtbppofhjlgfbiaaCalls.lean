/- What each call of the layer's small functions comes to, and that nothing which was there is changed: contracts for the proofs of the statements.
   Conditions: classes are four words below 2^64 ('Cl'), bytes below 256, as each theorem states. -/
import Derived.Test.YtbppofhjlgfbiaaRows
import Derived.Test.YtbppofhjlgfbiaaMath
import Derived.WalkKit
import Derived.WalkSpells
import Derived.WalkLawsBesides
import Derived.ChangeKeysEq
namespace Go.Proofs.Ytbppofhjlgfbiaa
open Go.RowKit

theorem pick4 (C : Nat → Nat) (i : Nat) (h : i < 4) : [Value.int .u64 (C 0), Value.int .u64 (C 1), Value.int .u64 (C 2), Value.int .u64 (C 3)][i]? = some (Value.int .u64 (C i)) := by
  have : i = 0 ∨ i = 1 ∨ i = 2 ∨ i = 3 := by omega
  rcases this with rfl | rfl | rfl | rfl <;> rfl
theorem v_not {C : Nat → Nat} (h : Cl C) (i : Nat) : bits .xor .u64 IntKind.u64.max (C i : Int) = ((cNot C i : Nat) : Int) :=
  bits_xor_u64_nat 18446744073709551615 (C i) (by decide) (h i)
theorem v_and {A B : Nat → Nat} (hA : Cl A) (hB : Cl B) (i : Nat) : bits .and .u64 (A i : Int) (B i : Int) = ((cAnd A B i : Nat) : Int) := bits_and_u64_nat _ _ (hA i) (hB i)
theorem v_or {A B : Nat → Nat} (hA : Cl A) (hB : Cl B) (i : Nat) : bits .or .u64 (A i : Int) (B i : Int) = ((cOr A B i : Nat) : Int) := bits_or_u64_nat _ _ (hA i) (hB i)
def bitN (C : Nat → Nat) (b : Nat) : Nat := C (b / 64) / 2 ^ (b % 64) % 2
theorem v_bit {C : Nat → Nat} (h : Cl C) (b : Nat) : bits .and .u64 ((C (b / 64) : Int) / 2 ^ (b % 64)) 1 = ((bitN C b : Nat) : Int) := by
  have e : ((C (b / 64) : Int) / 2 ^ (b % 64)) = ((C (b / 64) / 2 ^ (b % 64) : Nat) : Int) := by simp
  have l := Nat.lt_of_le_of_lt (Nat.div_le_self (C (b / 64)) (2 ^ (b % 64))) (h (b / 64))
  rw [e]
  generalize hx : C (b / 64) / 2 ^ (b % 64) = x at l
  rw [and_one_u64 _ (Int.natCast_nonneg _) (by omega)]
  unfold bitN
  rw [hx]
  omega
theorem bitN_one (C : Nat → Nat) (b : Nat) : ((bitN C b : Int) == 1) = hasB C b := by
  rw [hasB_div]
  unfold bitN
  generalize C (b / 64) / 2 ^ (b % 64) = x
  rcases Nat.mod_two_eq_zero_or_one x with h | h <;> simp [h]

set_option maxHeartbeats 400000 in
set_option maxRecDepth 100000 in
theorem bit_any (C : Nat → Nat) (b : Nat) (w : World) (hC : Cl C) (hb : b < 256) :
    Calls Try.prog 26 #[.agg #[.int .u64 (C 0 : Nat), .int .u64 (C 1 : Nat), .int .u64 (C 2 : Nat), .int .u64 (C 3 : Nat)], .int .u8 b] w fun e w' => e = .returned (.int .u64 (bitN C b)) ∧ Below w.heap.size w w' := by
  have hc := pick4 C (b / 64) (by omega)
  have hv := v_bit hC b
  go_enter Try.func26, Try.ntmps26
  go_wp2
  go_ret
  exact ⟨rfl, (Below.refl _ _).alloc (Nat.le_refl _) _⟩

set_option maxHeartbeats 400000 in
set_option maxRecDepth 100000 in
theorem has_any (C : Nat → Nat) (b : Nat) (w : World) (hC : Cl C) (hb : b < 256) :
    Calls Try.prog 15 #[.agg #[.int .u64 (C 0 : Nat), .int .u64 (C 1 : Nat), .int .u64 (C 2 : Nat), .int .u64 (C 3 : Nat)], .int .u8 b] w fun e w' => e = .returned (.bool (hasB C b)) ∧ Below w.heap.size w w' := by
  have hv := bitN_one C b
  go_enter Try.func15, Try.ntmps15
  go_wp2_with (go_at_call 26; refine (bit_any C b _ hC hb).mono ?_; rintro e w1 ⟨rfl, hb1⟩)
  go_ret
  exact ⟨rfl, ((Below.refl _ _).alloc (Nat.le_refl _) _).trans (hb1.mono (by simp))⟩

theorem info24 : (Try.prog.info? 24).map (fun i => (i.zero, i.size, i.bytes)) = some (some (.int .u64 0), 1, 8) := by kernel_rfl
theorem cells24 : Try.prog.cellsOf 24 = 1 := by kernel_rfl
theorem run_equal4 (w : World) (a0 a1 a2 a3 b0 b1 b2 b3 : Int) :
    (Op.equalIn 10000 26 (.agg #[.int .u64 a0, .int .u64 a1, .int .u64 a2, .int .u64 a3]) (.agg #[.int .u64 b0, .int .u64 b1, .int .u64 b2, .int .u64 b3])).run Try.prog w = .ok (a0 == b0 && (a1 == b1 && (a2 == b2 && a3 == b3))) w := by
  obtain ⟨i0, hi, _, _, _⟩ := info_parts info24
  have q : ∀ (w' : World) (a b : Int), (Op.equalIn 9999 24 (.int .u64 a) (.int .u64 b)).run Try.prog w' = .ok (a == b) w' := fun w' a b => run_equalIn_int w' 9998 24 .u64 .u64 a b Try.underlying24
  rw [run_equalIn_array w 9999 _ _ Try.underlying26 hi, cells24, show List.range 4 = [0, 1, 2, 3] from rfl]
  simp only [Op.eqItems, Sem.run_bind]
  simp only [part, isAgg, run_underlying Try.underlying24, Sem.run_bind, Result.andThen_ok]
  simp
  simp only [q, Result.andThen_ok]
  cases (a0 == b0) <;> cases (a1 == b1) <;> cases (a2 == b2) <;> cases (a3 == b3) <;> rfl
def emp (C : Nat → Nat) : Bool := ((C 0 : Int) == 0 && ((C 1 : Int) == 0 && ((C 2 : Int) == 0 && ((C 3 : Int) == 0))))
theorem emp_iff {C : Nat → Nat} : emp C = true ↔ C 0 = 0 ∧ C 1 = 0 ∧ C 2 = 0 ∧ C 3 = 0 := by
  unfold emp; simp

set_option maxHeartbeats 400000 in
set_option maxRecDepth 100000 in
theorem empty_any (C : Nat → Nat) (w : World) :
    Calls Try.prog 18 #[.agg #[.int .u64 (C 0 : Nat), .int .u64 (C 1 : Nat), .int .u64 (C 2 : Nat), .int .u64 (C 3 : Nat)]] w fun e w' => e = .returned (.bool (emp C)) ∧ Below w.heap.size w w' := by
  have he : ∀ w, (Op.equalIn 10000 26 (.agg #[.int .u64 (C 0 : Nat), .int .u64 (C 1 : Nat), .int .u64 (C 2 : Nat), .int .u64 (C 3 : Nat)]) (.agg #[.int .u64 0, .int .u64 0, .int .u64 0, .int .u64 0])).run Try.prog w = .ok (emp C) w := fun w => run_equal4 w _ _ _ _ _ _ _ _
  go_enter Try.func18, Try.ntmps18
  go_wp2
  go_ret
  exact ⟨rfl, (Below.refl _ _).alloc (Nat.le_refl _) _⟩

set_option maxHeartbeats 1000000 in
set_option maxRecDepth 100000 in
theorem not_any (C : Nat → Nat) (w : World) (hC : Cl C) :
    Calls Try.prog 10 #[.agg #[.int .u64 (C 0 : Nat), .int .u64 (C 1 : Nat), .int .u64 (C 2 : Nat), .int .u64 (C 3 : Nat)]] w fun e w' => e = .returned (.agg #[.int .u64 (cNot C 0 : Nat), .int .u64 (cNot C 1 : Nat), .int .u64 (cNot C 2 : Nat), .int .u64 (cNot C 3 : Nat)]) ∧ Below w.heap.size w w' := by
  have i0 : ∀ w : World, (Instr.index 26 (.agg #[.int .u64 (C 0 : Nat), .int .u64 (C 1 : Nat), .int .u64 (C 2 : Nat), .int .u64 (C 3 : Nat)]) (.int .i64 0)).run Try.prog w = .ok (.int .u64 (C 0 : Nat)) w := fun _ => by kernel_rfl
  have i1 : ∀ w : World, (Instr.index 26 (.agg #[.int .u64 (C 0 : Nat), .int .u64 (C 1 : Nat), .int .u64 (C 2 : Nat), .int .u64 (C 3 : Nat)]) (.int .i64 1)).run Try.prog w = .ok (.int .u64 (C 1 : Nat)) w := fun _ => by kernel_rfl
  have i2 : ∀ w : World, (Instr.index 26 (.agg #[.int .u64 (C 0 : Nat), .int .u64 (C 1 : Nat), .int .u64 (C 2 : Nat), .int .u64 (C 3 : Nat)]) (.int .i64 2)).run Try.prog w = .ok (.int .u64 (C 2 : Nat)) w := fun _ => by kernel_rfl
  have i3 : ∀ w : World, (Instr.index 26 (.agg #[.int .u64 (C 0 : Nat), .int .u64 (C 1 : Nat), .int .u64 (C 2 : Nat), .int .u64 (C 3 : Nat)]) (.int .i64 3)).run Try.prog w = .ok (.int .u64 (C 3 : Nat)) w := fun _ => by kernel_rfl
  go_enter Try.func10, Try.ntmps10
  go_wp2
  refine wp_loop_rounds 5 ?_
  rw [rounds_succ]; go_wp2
  rw [rounds_succ]; go_wp2
  rw [rounds_succ]; go_wp2
  rw [rounds_succ]; go_wp2
  rw [rounds_succ]; go_wp2
  refine bodyPost_ret (v := .agg #[.int .u64 (cNot C 0 : Nat), .int .u64 (cNot C 1 : Nat), .int .u64 (cNot C 2 : Nat), .int .u64 (cNot C 3 : Nat)]) (by simp [results, Try.results10, go_sem, v_not hC]) rfl ⟨rfl, ?_⟩
  exact ((Below.refl _ _).alloc (Nat.le_refl _) _).alloc (by simp) _

set_option maxHeartbeats 1000000 in
set_option maxRecDepth 100000 in
theorem and_any (A B : Nat → Nat) (w : World) (hA : Cl A) (hB : Cl B) :
    Calls Try.prog 12 #[.agg #[.int .u64 (A 0 : Nat), .int .u64 (A 1 : Nat), .int .u64 (A 2 : Nat), .int .u64 (A 3 : Nat)], .agg #[.int .u64 (B 0 : Nat), .int .u64 (B 1 : Nat), .int .u64 (B 2 : Nat), .int .u64 (B 3 : Nat)]] w fun e w' => e = .returned (.agg #[.int .u64 (cAnd A B 0 : Nat), .int .u64 (cAnd A B 1 : Nat), .int .u64 (cAnd A B 2 : Nat), .int .u64 (cAnd A B 3 : Nat)]) ∧ Below w.heap.size w w' := by
  have i0 : ∀ w : World, (Instr.index 26 (.agg #[.int .u64 (B 0 : Nat), .int .u64 (B 1 : Nat), .int .u64 (B 2 : Nat), .int .u64 (B 3 : Nat)]) (.int .i64 0)).run Try.prog w = .ok (.int .u64 (B 0 : Nat)) w := fun _ => by kernel_rfl
  have i1 : ∀ w : World, (Instr.index 26 (.agg #[.int .u64 (B 0 : Nat), .int .u64 (B 1 : Nat), .int .u64 (B 2 : Nat), .int .u64 (B 3 : Nat)]) (.int .i64 1)).run Try.prog w = .ok (.int .u64 (B 1 : Nat)) w := fun _ => by kernel_rfl
  have i2 : ∀ w : World, (Instr.index 26 (.agg #[.int .u64 (B 0 : Nat), .int .u64 (B 1 : Nat), .int .u64 (B 2 : Nat), .int .u64 (B 3 : Nat)]) (.int .i64 2)).run Try.prog w = .ok (.int .u64 (B 2 : Nat)) w := fun _ => by kernel_rfl
  have i3 : ∀ w : World, (Instr.index 26 (.agg #[.int .u64 (B 0 : Nat), .int .u64 (B 1 : Nat), .int .u64 (B 2 : Nat), .int .u64 (B 3 : Nat)]) (.int .i64 3)).run Try.prog w = .ok (.int .u64 (B 3 : Nat)) w := fun _ => by kernel_rfl
  go_enter Try.func12, Try.ntmps12
  go_wp2
  refine wp_loop_rounds 5 ?_
  rw [rounds_succ]; go_wp2
  rw [rounds_succ]; go_wp2
  rw [rounds_succ]; go_wp2
  rw [rounds_succ]; go_wp2
  rw [rounds_succ]; go_wp2
  refine bodyPost_ret (v := .agg #[.int .u64 (cAnd A B 0 : Nat), .int .u64 (cAnd A B 1 : Nat), .int .u64 (cAnd A B 2 : Nat), .int .u64 (cAnd A B 3 : Nat)]) (by simp [results, Try.results12, go_sem, v_and hA hB]) rfl ⟨rfl, ?_⟩
  exact (((Below.refl _ _).alloc (Nat.le_refl _) _).alloc (by simp) _).alloc (by simp; omega) _

set_option maxHeartbeats 1000000 in
set_option maxRecDepth 100000 in
theorem or_any (A B : Nat → Nat) (w : World) (hA : Cl A) (hB : Cl B) :
    Calls Try.prog 13 #[.agg #[.int .u64 (A 0 : Nat), .int .u64 (A 1 : Nat), .int .u64 (A 2 : Nat), .int .u64 (A 3 : Nat)], .agg #[.int .u64 (B 0 : Nat), .int .u64 (B 1 : Nat), .int .u64 (B 2 : Nat), .int .u64 (B 3 : Nat)]] w fun e w' => e = .returned (.agg #[.int .u64 (cOr A B 0 : Nat), .int .u64 (cOr A B 1 : Nat), .int .u64 (cOr A B 2 : Nat), .int .u64 (cOr A B 3 : Nat)]) ∧ Below w.heap.size w w' := by
  have i0 : ∀ w : World, (Instr.index 26 (.agg #[.int .u64 (B 0 : Nat), .int .u64 (B 1 : Nat), .int .u64 (B 2 : Nat), .int .u64 (B 3 : Nat)]) (.int .i64 0)).run Try.prog w = .ok (.int .u64 (B 0 : Nat)) w := fun _ => by kernel_rfl
  have i1 : ∀ w : World, (Instr.index 26 (.agg #[.int .u64 (B 0 : Nat), .int .u64 (B 1 : Nat), .int .u64 (B 2 : Nat), .int .u64 (B 3 : Nat)]) (.int .i64 1)).run Try.prog w = .ok (.int .u64 (B 1 : Nat)) w := fun _ => by kernel_rfl
  have i2 : ∀ w : World, (Instr.index 26 (.agg #[.int .u64 (B 0 : Nat), .int .u64 (B 1 : Nat), .int .u64 (B 2 : Nat), .int .u64 (B 3 : Nat)]) (.int .i64 2)).run Try.prog w = .ok (.int .u64 (B 2 : Nat)) w := fun _ => by kernel_rfl
  have i3 : ∀ w : World, (Instr.index 26 (.agg #[.int .u64 (B 0 : Nat), .int .u64 (B 1 : Nat), .int .u64 (B 2 : Nat), .int .u64 (B 3 : Nat)]) (.int .i64 3)).run Try.prog w = .ok (.int .u64 (B 3 : Nat)) w := fun _ => by kernel_rfl
  go_enter Try.func13, Try.ntmps13
  go_wp2
  refine wp_loop_rounds 5 ?_
  rw [rounds_succ]; go_wp2
  rw [rounds_succ]; go_wp2
  rw [rounds_succ]; go_wp2
  rw [rounds_succ]; go_wp2
  rw [rounds_succ]; go_wp2
  refine bodyPost_ret (v := .agg #[.int .u64 (cOr A B 0 : Nat), .int .u64 (cOr A B 1 : Nat), .int .u64 (cOr A B 2 : Nat), .int .u64 (cOr A B 3 : Nat)]) (by simp [results, Try.results13, go_sem, v_or hA hB]) rfl ⟨rfl, ?_⟩
  exact (((Below.refl _ _).alloc (Nat.le_refl _) _).alloc (by simp) _).alloc (by simp; omega) _

end Go.Proofs.Ytbppofhjlgfbiaa
