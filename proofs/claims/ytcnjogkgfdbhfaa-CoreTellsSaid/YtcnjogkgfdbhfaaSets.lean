/- What the calls that make classes come to: contracts for the proofs of the statements.
   Conditions: classes are four words below 2^64 ('Cl'), bytes below 256, as each theorem states. -/
import Derived.Test.YtcnjogkgfdbhfaaLoops
import Derived.RegionTactic
import Derived.BigRegion
import Derived.ChangeAlike
namespace Go.Proofs.Ytcnjogkgfdbhfaa
open Go.RowKit

def setOf (S : Nat → Prop) (C : Nat → Nat) : Prop := Cl C ∧ ∀ b, b < 256 → (hasB C b = true ↔ S b)
def GivesSet (S : Nat → Prop) (w : World) (e : Ending) (w' : World) : Prop := ∃ C : Nat → Nat, setOf S C ∧ e = .returned (.agg #[.int .u64 (C 0 : Nat), .int .u64 (C 1 : Nat), .int .u64 (C 2 : Nat), .int .u64 (C 3 : Nat)]) ∧ Below w.heap.size w w'
def zeros (_ : Nat) : Nat := 0
theorem setOf_zeros {S : Nat → Prop} (h : ∀ b, b < 256 → ¬ S b) : setOf S zeros :=
  ⟨fun _ => by unfold zeros; omega, fun b hb => by unfold hasB zeros; simp [h b hb]⟩
def put (C : Nat → Nat) (b : Nat) (i : Nat) : Nat := if i = b / 64 then C i ||| 2 ^ (b % 64) else C i
theorem pow_lt (b : Nat) : 2 ^ (b % 64) < 18446744073709551616 := by
  have : 2 ^ (b % 64) < 2 ^ 64 := Nat.pow_lt_pow_right (by decide) (Nat.mod_lt _ (by decide))
  rwa [pow64] at this
theorem Cl_put {C : Nat → Nat} (h : Cl C) (b : Nat) : Cl (put C b) := Cl.mk fun i => by
  unfold put
  split
  · exact Nat.or_lt_two_pow (h.lt i) (by rw [pow64]; exact pow_lt b)
  · exact h.lt i
theorem hasB_put (C : Nat → Nat) (b x : Nat) : hasB (put C b) x = true ↔ hasB C x = true ∨ x = b := by
  unfold hasB put
  by_cases e : x / 64 = b / 64
  · rw [if_pos e, Nat.testBit_or, Nat.testBit_two_pow]
    simp
    constructor
    · rintro (h | h)
      · exact .inl h
      · exact .inr (by omega)
    · rintro (h | h)
      · exact .inl h
      · exact .inr (by omega)
  · rw [if_neg e]
    constructor
    · exact .inl
    · rintro (h | h)
      · exact h
      · subst h; exact absurd rfl e
theorem setOf_put {S T : Nat → Prop} {C : Nat → Nat} {b : Nat} (h : setOf S C) (hT : ∀ x, x < 256 → (T x ↔ S x ∨ x = b)) : setOf T (put C b) :=
  ⟨Cl_put h.1 b, fun x hx => by rw [hasB_put, h.2 x hx, hT x hx]⟩
theorem v_pow (b : Nat) : IntKind.u64.wrap ((2 : Int) ^ (b % 64)) = ((2 ^ (b % 64) : Nat) : Int) := by
  have e : ((2 : Int) ^ (b % 64)) = ((2 ^ (b % 64) : Nat) : Int) := by simp
  have l := pow_lt b
  rw [e, IntKind.wrap_u64]
  generalize 2 ^ (b % 64) = x at l
  omega
theorem set_put {C : Nat → Nat} (hC : Cl C) {b : Nat} (hb : b < 256) :
    ([Value.int .u64 (C 0 : Nat), Value.int .u64 (C 1 : Nat), Value.int .u64 (C 2 : Nat), Value.int .u64 (C 3 : Nat)].set (b / 64) (Value.int .u64 (bits .or .u64 ((C (b / 64) : Nat) : Int) (IntKind.u64.wrap (2 ^ (b % 64)))))).toArray = #[.int .u64 (put C b 0 : Nat), .int .u64 (put C b 1 : Nat), .int .u64 (put C b 2 : Nat), .int .u64 (put C b 3 : Nat)] := by
  rw [v_pow, bits_or_u64_nat _ _ (hC _) (pow_lt b)]
  have : b / 64 = 0 ∨ b / 64 = 1 ∨ b / 64 = 2 ∨ b / 64 = 3 := by omega
  rcases this with e | e | e | e <;> simp [put, e]
theorem set_put' {C : Nat → Nat} (hC : Cl C) {b : Nat} (hb : b < 256) :
    (#[.int .u64 (C 0 : Nat), .int .u64 (C 1 : Nat), .int .u64 (C 2 : Nat), .int .u64 (C 3 : Nat)] : Array Value).setIfInBounds (b / 64) (Value.int .u64 (bits .or .u64 ((C (b / 64) : Nat) : Int) (IntKind.u64.wrap (2 ^ (b % 64))))) = #[.int .u64 (put C b 0 : Nat), .int .u64 (put C b 1 : Nat), .int .u64 (put C b 2 : Nat), .int .u64 (put C b 3 : Nat)] := by
  rw [← set_put hC hb]; simp

theorem i64_and63 (n : Int) : bits .and .i64 n 63 = n % 64 := by
  have h63 : (BitVec.ofInt 64 63).toNat = 2 ^ 6 - 1 := by decide
  have key : (BitVec.ofInt 64 n &&& BitVec.ofInt 64 63).toNat = (n % ((2 ^ 64 : Nat) : Int)).toNat % 2 ^ 6 := by
    rw [BitVec.toNat_and, BitVec.toNat_ofInt, h63, Nat.and_two_pow_sub_one_eq_mod]
  show IntKind.i64.wrap ((BitVec.ofInt 64 n &&& BitVec.ofInt 64 63).toNat : Nat) = n % 64
  rw [key, IntKind.wrap_i64]
  omega
theorem set_last (w : World) (A c c' : Array Value) (d q : Nat) (v : Value) (h : c.setIfInBounds q v = c') :
    ((((w.alloc (.cells A 24)).alloc (.cells c 24)).drewN d).setCell ⟨w.heap.size + 1, q, none⟩ v) = (((w.alloc (.cells A 24)).alloc (.cells c' 24)).drewN d) := by
  show ((((w.alloc (.cells A 24)).alloc (.cells c 24))).setCell ⟨w.heap.size + 1, q, none⟩ v).drewN d = _
  rw [World.setCell_alloc_at _ _ _ _ _ (by simp), h]

end Go.Proofs.Ytcnjogkgfdbhfaa
