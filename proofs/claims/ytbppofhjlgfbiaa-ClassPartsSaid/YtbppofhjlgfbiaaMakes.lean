/- What the calls that find the least byte and that make classes come to: contracts for the proofs of the statements.
   Conditions: classes are four words below 2^64 ('Cl'), bytes below 256, as each theorem states. -/
import Derived.Test.YtbppofhjlgfbiaaLoops
namespace Go.Proofs.Ytbppofhjlgfbiaa
open Go.RowKit

def NoneBelow (C : Nat → Nat) (n : Nat) : Prop := ∀ b, b < n → hasB C b = false
theorem noneBelow_succ {C : Nat → Nat} {i j x : Nat} (h : NoneBelow C (64 * i + j)) (hx : x = C i / 2 ^ j) (hj : j < 64) (he : ((x : Int) % 2 == 1) = false) : NoneBelow C (64 * i + (j + 1)) := by
  intro b hb
  by_cases e : b = 64 * i + j
  · subst e
    rw [hasB_at C i j hj, ← hx]
    simp at he
    simp; omega
  · exact h b (by omega)
theorem noneBelow_rest {C : Nat → Nat} {i j : Nat} (h : NoneBelow C (64 * i + j)) (hz : C i / 2 ^ j = 0) : NoneBelow C (64 * (i + 1)) := by
  intro b hb
  by_cases e : b < 64 * i + j
  · exact h b e
  · have hk : b = 64 * i + (b - 64 * i) := by omega
    rw [hk, hasB_at C i _ (by omega), show b - 64 * i = j + (b - 64 * i - j) by omega, shr_zero_add hz]
    rfl
theorem least_here {C : Nat → Nat} {i j x : Nat} (h : NoneBelow C (64 * i + j)) (hx : x = C i / 2 ^ j) (hi : i < 4) (hj : j < 64) (he : ((x : Int) % 2 == 1) = true) : lst C 256 = some (64 * i + j) := by
  refine lst_some h ?_ 256 (by omega)
  rw [hasB_at C i j hj, ← hx]
  simp at he
  simp; omega

set_option maxHeartbeats 1000000 in
set_option maxRecDepth 100000 in
theorem least_any (C : Nat → Nat) (w : World) (hC : Cl C) :
    Calls Try.prog 16 #[.agg #[.int .u64 (C 0 : Nat), .int .u64 (C 1 : Nat), .int .u64 (C 2 : Nat), .int .u64 (C 3 : Nat)]] w fun e w' => e = .returned (.tuple #[.int .u8 ((lst C 256).getD 0 : Nat), .bool (lst C 256).isSome]) ∧ Below w.heap.size w w' := by
  go_enter Try.func16, Try.ntmps16
  go_wp2
  go_loop [4, 5, 6, 8] (fun _ _ _ i => ∃ k : Nat, k ≤ 4 ∧ i = .int .i64 k ∧ NoneBelow C (64 * k)) (fun _ _ _ i => 4 - (intOf i).toNat)
  case atStart => exact ⟨0, Nat.zero_le _, rfl, fun b hb => by omega⟩
  case round =>
    obtain ⟨k, hk, rfl, hn⟩ := hrel
    by_cases hlt : k < 4
    · have i0 := idx_at C k hlt
      have hk0 : (0 : Int) ≤ (k : Int) := Int.natCast_nonneg _
      have hk1 : (k : Int) < 4 := by omega
      go_wp2
      go_loop [5, 6] (fun v b => ∃ j x : Nat, j ≤ 64 ∧ x = C k / 2 ^ j ∧ v = .int .u64 x ∧ b = .int .i64 (64 * k + j : Nat) ∧ NoneBelow C (64 * k + j)) (fun v _ => (intOf v).toNat)
      case atStart => exact ⟨0, _, Nat.zero_le _, by simp, rfl, by go_num, hn⟩
      case round =>
        obtain ⟨j, x, hj, hx, rfl, rfl, hm⟩ := hrel
        have hxl : x < 18446744073709551616 := by rw [hx]; exact shr_bound hC _ _
        have hv := and_one_nat hxl
        by_cases hz : x = 0
        · have hd := noneBelow_rest hm (by rw [← hx]; exact hz)
          clear hx hv hxl
          subst hz
          go_wp2
          go_round
          case rel => exact ⟨k + 1, by omega, by go_num, hd⟩
          case measure => simp [intOf]; omega
        · have hj' : j < 64 := shr_lt hC (i := k) (k := j) (by rw [← hx]; exact hz)
          have hz' : ((x : Int) == 0) = false := by simp [hz]
          have hz2 : ((x : Int) != 0) = true := by simp [hz]
          have hw : IntKind.u64.wrap ((x : Int) / 2) = (x : Int) / 2 := wrapu hxl
          have HX := Lib.hid hx
          clear hx hxl
          by_cases ho : ((x : Int) % 2 == 1) = true
          · have hl := least_here hm HX.out hlt hj' ho
            go_wp2
            go_ret2
            exact ⟨rfl, (Below.refl _ _).alloc (Nat.le_refl _) _⟩
          · have ho' : ((x : Int) % 2 == 1) = false := by simpa using ho
            have hn' := noneBelow_succ hm HX.out hj' ho'
            go_wp2
            go_round
            case rel => exact ⟨j + 1, x / 2, by omega, by rw [HX.out, shr_succ], by go_num, by go_num, hn'⟩
            case measure => simp [intOf]; omega
    · have hk4 : k = 4 := by omega
      subst hk4
      have hl := lst_none hn
      go_wp2
      go_ret2
      exact ⟨rfl, (Below.refl _ _).alloc (Nat.le_refl _) _⟩

end Go.Proofs.Ytbppofhjlgfbiaa
