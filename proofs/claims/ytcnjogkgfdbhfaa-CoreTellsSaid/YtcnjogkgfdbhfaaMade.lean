/- What the document's own making of a class, byte by byte, comes to, and that the program is awake: contracts for the proofs of the statements.
   Conditions: classes are four words below 2^64 ('Cl'), bytes below 256, as each theorem states. -/
import Derived.Test.YtcnjogkgfdbhfaaSets
namespace Go.Proofs.Ytcnjogkgfdbhfaa
open Go.RowKit

theorem add_or {x j : Nat} (hx : x < 2 ^ 64) (hj : j < 64) (h : x.testBit j = false) : (x + 2 ^ j) % 2 ^ 64 = x ||| 2 ^ j := by
  have hp : 2 ^ j < 2 ^ 64 := Nat.pow_lt_pow_right (by decide) hj
  have ha : BitVec.ofNat 64 x &&& BitVec.ofNat 64 (2 ^ j) = 0#64 := by
    apply BitVec.eq_of_getLsbD_eq
    intro i hi
    rw [BitVec.getLsbD_and, BitVec.getLsbD_ofNat, BitVec.getLsbD_ofNat, Nat.testBit_two_pow]
    by_cases e : j = i
    · subst e; simp [h]
    · simp [e]
  have e := congrArg BitVec.toNat (BitVec.add_eq_or_of_and_eq_zero _ _ ha)
  rw [BitVec.toNat_add, BitVec.toNat_or, BitVec.toNat_ofNat, BitVec.toNat_ofNat, Nat.mod_eq_of_lt hx, Nat.mod_eq_of_lt hp] at e
  exact e
theorem add_put {C : Nat → Nat} (hC : Cl C) {b : Nat} (h : hasB C b = false) : IntKind.u64.wrap ((C (b / 64) : Int) + ((2 ^ (b % 64) : Nat) : Int)) = ((put C b (b / 64) : Nat) : Int) := by
  have e := add_or (hC.lt (b / 64)) (Nat.mod_lt b (by decide)) (by unfold hasB at h; exact h)
  unfold put
  rw [if_pos rfl, ← e, IntKind.wrap_u64, pow64]
  omega
theorem dbl {k x : Nat} (hx : x = 2 ^ k) (hk : k < 63) : IntKind.u64.wrap ((x : Int) * 2) = (x : Int) * 2 := by
  have : x < 2 ^ 63 := by rw [hx]; exact Nat.pow_lt_pow_right (by decide) hk
  have e : (2 : Nat) ^ 63 = 9223372036854775808 := by decide
  rw [e] at this
  rw [IntKind.wrap_u64]
  omega

theorem cells_put {w1 : World} {B : Nat} {C : Nat → Nat} (hc : ∀ j, j < 4 → w1.cell? ⟨B, j, none⟩ = some (.int .u64 (C j))) {b : Nat} {v : Int} (hv : v = (put C b (b / 64) : Nat)) :
    ∀ j, j < 4 → (w1.setCell ⟨B, b / 64, none⟩ (.int .u64 v)).cell? ⟨B, j, none⟩ = some (.int .u64 (put C b j : Nat)) := by
  intro j hj
  by_cases e : j = b / 64
  · subst e
    rw [World.cell?_setCell_same (h := hc _ hj), hv]
  · rw [World.cell?_setCell_other (h := by intro h; injection h with _ h2 _; exact e h2.symm), hc j hj]
    unfold put
    rw [if_neg e]
theorem bcell {W w1 : World} (hb : Below W.heap.size W w1) : (∀ b o, b < W.heap.size → w1.cell? ⟨b, o, none⟩ = W.cell? ⟨b, o, none⟩) ∧ (∀ b o, b < W.heap.size → w1.frozen? ⟨b, o, none⟩ = W.frozen? ⟨b, o, none⟩) :=
  ⟨fun b o h => hb.cell (p := ⟨b, o, none⟩) h, fun b o h => hb.frozen (p := ⟨b, o, none⟩) h⟩

end Go.Proofs.Ytcnjogkgfdbhfaa
