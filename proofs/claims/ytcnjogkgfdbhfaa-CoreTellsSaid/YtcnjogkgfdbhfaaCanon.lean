/- Classes told by their bytes: the one class that has just these, and the contracts of what makes classes, said by it.
   Conditions: those that each theorem states. -/
import Derived.Test.YtcnjogkgfdbhfaaMade2
namespace Go.Proofs.Ytcnjogkgfdbhfaa
open Go.RowKit

def wordOf (S : Nat → Bool) (i : Nat) : Nat → Nat
  | 0 => 0
  | n + 1 => wordOf S i n ||| (if S (64 * i + n) then 2 ^ n else 0)
theorem wordOf_bit (S : Nat → Bool) (i j : Nat) : ∀ n, (wordOf S i n).testBit j = (decide (j < n) && S (64 * i + j))
  | 0 => by simp [wordOf]
  | n + 1 => by
    unfold wordOf
    rw [Nat.testBit_or, wordOf_bit S i j n]
    by_cases e : j = n
    · subst e
      cases S (64 * i + j) <;> simp
    · have hne : ¬ n = j := fun h => e h.symm
      have h2 : (if S (64 * i + n) = true then 2 ^ n else 0).testBit j = false := by
        split
        · rw [Nat.testBit_two_pow]; simp [hne]
        · simp
      rw [h2, Bool.or_false]
      congr 1
      rw [Bool.eq_iff_iff]
      simp
      omega
theorem wordOf_lt (S : Nat → Bool) (i : Nat) : ∀ n, n ≤ 64 → wordOf S i n < 2 ^ 64
  | 0, _ => by unfold wordOf; decide
  | n + 1, h => by
    unfold wordOf
    refine Nat.or_lt_two_pow (wordOf_lt S i n (by omega)) ?_
    split
    · exact Nat.pow_lt_pow_right (by decide) (by omega)
    · decide
def canon (S : Nat → Bool) (i : Nat) : Nat := wordOf S i 64
theorem Cl_canon (S : Nat → Bool) : Cl (canon S) := Cl.mk fun i => wordOf_lt S i 64 (Nat.le_refl _)
theorem hasB_canon (S : Nat → Bool) (b : Nat) : hasB (canon S) b = S b := by
  unfold hasB canon
  rw [wordOf_bit, show 64 * (b / 64) + b % 64 = b by omega]
  simp [Nat.mod_lt]
theorem same_canon {C : Nat → Nat} {S : Nat → Bool} (hC : Cl C) (h : ∀ b, b < 256 → hasB C b = S b) : same4 C (canon S) :=
  ext4 hC (Cl_canon S) fun b hb => by rw [h b hb, hasB_canon]
def GivesClass (S : Nat → Bool) (w : World) (e : Ending) (w' : World) : Prop := e = .returned (.agg #[.int .u64 (canon S 0 : Nat), .int .u64 (canon S 1 : Nat), .int .u64 (canon S 2 : Nat), .int .u64 (canon S 3 : Nat)]) ∧ Below w.heap.size w w'
theorem gives_class {S : Nat → Bool} {P : Nat → Prop} {w : World} (hP : ∀ x, x < 256 → (P x ↔ S x = true)) : ∀ e w', GivesSet P w e w' → GivesClass S w e w' := by
  rintro e w' ⟨C, hC, rfl, hb⟩
  have h := same_canon (S := S) hC.1 (fun b hb => by rw [Bool.eq_iff_iff, hC.2 b hb, hP b hb])
  refine ⟨?_, hb⟩
  rw [h.1, h.2.1, h.2.2.1, h.2.2.2]

def inFirst (n : Nat) (z : Nat → Nat) (x : Nat) : Bool := (List.range n).any fun t => z t == x
theorem inFirst_iff (n : Nat) (z : Nat → Nat) (x : Nat) : inFirst n z x = true ↔ ∃ t, t < n ∧ z t = x := by
  unfold inFirst; simp
def between (lo hi : Nat) (x : Nat) : Bool := decide (lo ≤ x) && decide (x ≤ hi)
theorem between_iff (lo hi x : Nat) : between lo hi x = true ↔ lo ≤ x ∧ x ≤ hi := by unfold between; simp
def boolList (s : Nat → Bool) : List Value := (List.range 256).map fun i => Value.bool (s i)
theorem boolList_at (s : Nat → Bool) (i : Nat) (h : i < 256) : (boolList s)[i]? = some (.bool (s i)) := by
  unfold boolList
  rw [List.getElem?_map, List.getElem?_range h]
  rfl
theorem boolList_length (s : Nat → Bool) : (boolList s).length = 256 := by unfold boolList; simp
theorem Bools.range {w : World} {b : Nat} {s : Nat → Bool} (h : Bools w b s) : w.rangeAt b 0 (boolList s) := fun j v hv => by
  have hj : j < 256 := by have := (List.getElem?_eq_some_iff.1 hv).1; rwa [boolList_length] at this
  rw [boolList_at s j hj] at hv
  rw [← hv, Nat.zero_add]
  exact h j hj

end Go.Proofs.Ytcnjogkgfdbhfaa
