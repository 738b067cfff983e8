/- Plain facts on sets of bytes as four words of 64 bits: no program is spoken of here.
   No conditions but those that each theorem states. -/
import Derived.KernelRfl
namespace Go.Proofs.Ytcnjogkgfdbhfaa

def cNot (C : Nat → Nat) (i : Nat) : Nat := 18446744073709551615 ^^^ C i
def cAnd (A B : Nat → Nat) (i : Nat) : Nat := A i &&& B i
def cOr (A B : Nat → Nat) (i : Nat) : Nat := A i ||| B i
def Cl (C : Nat → Nat) : Prop := ∀ i, C i < 18446744073709551616
def hasB (C : Nat → Nat) (b : Nat) : Bool := (C (b / 64)).testBit (b % 64)
def same4 (A B : Nat → Nat) : Prop := A 0 = B 0 ∧ A 1 = B 1 ∧ A 2 = B 2 ∧ A 3 = B 3

theorem pow64 : (2 : Nat) ^ 64 = 18446744073709551616 := by decide
theorem Cl.lt {C : Nat → Nat} (h : Cl C) (i : Nat) : C i < 2 ^ 64 := by rw [pow64]; exact h i
theorem Cl.mk {C : Nat → Nat} (h : ∀ i, C i < 2 ^ 64) : Cl C := fun i => by rw [← pow64]; exact h i

theorem word_eq {a b : Nat} (ha : a < 2 ^ 64) (hb : b < 2 ^ 64) (h : ∀ j, j < 64 → a.testBit j = b.testBit j) : a = b := by
  apply Nat.eq_of_testBit_eq
  intro j
  by_cases hj : j < 64
  · exact h j hj
  · have hp : 2 ^ 64 ≤ 2 ^ j := Nat.pow_le_pow_right (by decide) (by omega)
    rw [Nat.testBit_lt_two_pow (Nat.lt_of_lt_of_le ha hp), Nat.testBit_lt_two_pow (Nat.lt_of_lt_of_le hb hp)]

theorem word_eq' {A B : Nat → Nat} (hA : Cl A) (hB : Cl B) {i : Nat} (hi : i < 4) (h : ∀ b, b < 256 → hasB A b = hasB B b) : A i = B i := by
  apply word_eq (hA.lt i) (hB.lt i)
  intro j hj
  have := h (64 * i + j) (by omega)
  unfold hasB at this
  rw [show (64 * i + j) / 64 = i by omega, show (64 * i + j) % 64 = j by omega] at this
  exact this

theorem ext4 {A B : Nat → Nat} (hA : Cl A) (hB : Cl B) (h : ∀ b, b < 256 → hasB A b = hasB B b) : same4 A B :=
  ⟨word_eq' hA hB (by decide) h, word_eq' hA hB (by decide) h, word_eq' hA hB (by decide) h, word_eq' hA hB (by decide) h⟩

theorem Cl_not {C : Nat → Nat} (h : Cl C) : Cl (cNot C) := Cl.mk fun i => Nat.xor_lt_two_pow (by decide) (h.lt i)
theorem Cl_and {A B : Nat → Nat} (h : Cl B) : Cl (cAnd A B) := Cl.mk fun i => Nat.and_lt_two_pow _ (h.lt i)
theorem Cl_or {A B : Nat → Nat} (hA : Cl A) (hB : Cl B) : Cl (cOr A B) := Cl.mk fun i => Nat.or_lt_two_pow (hA.lt i) (hB.lt i)

theorem hasB_not (C : Nat → Nat) (b : Nat) : hasB (cNot C) b = !hasB C b := by
  unfold hasB cNot
  have e : (18446744073709551615 : Nat) = 2 ^ 64 - 1 := by decide
  rw [e, Nat.testBit_xor, Nat.testBit_two_pow_sub_one]
  have : b % 64 < 64 := Nat.mod_lt _ (by decide)
  simp [this]
theorem hasB_and (A B : Nat → Nat) (b : Nat) : hasB (cAnd A B) b = (hasB A b && hasB B b) := by
  unfold hasB cAnd; rw [Nat.testBit_and]
theorem hasB_or (A B : Nat → Nat) (b : Nat) : hasB (cOr A B) b = (hasB A b || hasB B b) := by
  unfold hasB cOr; rw [Nat.testBit_or]

theorem deMorgan {A B : Nat → Nat} (hA : Cl A) (hB : Cl B) : same4 (cNot (cAnd A B)) (cOr (cNot A) (cNot B)) :=
  ext4 (Cl_not (Cl_and hB)) (Cl_or (Cl_not hA) (Cl_not hB)) fun b _ => by
    rw [hasB_not, hasB_and, hasB_or, hasB_not, hasB_not]; cases hasB A b <;> rfl
theorem notNot {A : Nat → Nat} (hA : Cl A) : same4 (cNot (cNot A)) A :=
  ext4 (Cl_not (Cl_not hA)) hA fun b _ => by rw [hasB_not, hasB_not, Bool.not_not]

def cnt (C : Nat → Nat) (n : Nat) : Nat := (List.range n).countP (hasB C)
theorem cnt_zero (C : Nat → Nat) : cnt C 0 = 0 := rfl
theorem cnt_succ (C : Nat → Nat) (n : Nat) : cnt C (n + 1) = cnt C n + if hasB C n then 1 else 0 := by
  unfold cnt; rw [List.range_succ, List.countP_append]; simp [List.countP_cons]
theorem cnt_le (C : Nat → Nat) (n : Nat) : cnt C n ≤ n := by
  have := List.countP_le_length (p := hasB C) (l := List.range n)
  unfold cnt; simpa using this
theorem cnt_and_or (A B : Nat → Nat) (n : Nat) : cnt A n + cnt B n = cnt (cAnd A B) n + cnt (cOr A B) n := by
  induction n with
  | zero => rfl
  | succ n ih =>
    rw [cnt_succ, cnt_succ, cnt_succ, cnt_succ, hasB_and, hasB_or]
    cases hasB A n <;> cases hasB B n <;> simp <;> omega
theorem cnt_congr {A B : Nat → Nat} {n : Nat} (h : ∀ b, b < n → hasB A b = hasB B b) : cnt A n = cnt B n := by
  induction n with
  | zero => rfl
  | succ n ih => rw [cnt_succ, cnt_succ, ih fun b hb => h b (by omega), h n (by omega)]

theorem hasB_at (C : Nat → Nat) (i k : Nat) (hk : k < 64) : hasB C (64 * i + k) = decide (C i / 2 ^ k % 2 = 1) := by
  unfold hasB
  rw [show (64 * i + k) / 64 = i by omega, show (64 * i + k) % 64 = k by omega, Nat.testBit_eq_decide_div_mod_eq]
theorem hasB_div (C : Nat → Nat) (b : Nat) : hasB C b = decide (C (b / 64) / 2 ^ (b % 64) % 2 = 1) := by
  unfold hasB
  rw [Nat.testBit_eq_decide_div_mod_eq]
theorem cnt_step (C : Nat → Nat) (i k : Nat) (hk : k < 64) : cnt C (64 * i + (k + 1)) = cnt C (64 * i + k) + C i / 2 ^ k % 2 := by
  rw [show 64 * i + (k + 1) = 64 * i + k + 1 by omega, cnt_succ, hasB_at C i k hk]
  have := Nat.mod_two_eq_zero_or_one (C i / 2 ^ k)
  rcases this with h | h <;> simp [h]
theorem shr_succ (x k : Nat) : x / 2 ^ k / 2 = x / 2 ^ (k + 1) := by rw [Nat.div_div_eq_div_mul, Nat.pow_succ]
theorem shr_zero_add {x k : Nat} (h : x / 2 ^ k = 0) (j : Nat) : x / 2 ^ (k + j) = 0 := by
  rw [Nat.pow_add, ← Nat.div_div_eq_div_mul, h]; simp
theorem cnt_rest (C : Nat → Nat) (i k : Nat) (h : C i / 2 ^ k = 0) (j : Nat) (hj : k + j ≤ 64) : cnt C (64 * i + (k + j)) = cnt C (64 * i + k) := by
  induction j with
  | zero => rfl
  | succ j ih =>
    rw [show k + (j + 1) = k + j + 1 by omega, cnt_step C i (k + j) (by omega), ih (by omega), shr_zero_add h]; rfl
theorem cnt_done (C : Nat → Nat) (i k : Nat) (h : C i / 2 ^ k = 0) (hk : k ≤ 64) : cnt C (64 * (i + 1)) = cnt C (64 * i + k) := by
  have := cnt_rest C i k h (64 - k) (by omega)
  rw [show 64 * (i + 1) = 64 * i + (k + (64 - k)) by omega]; exact this
theorem shr_lt {C : Nat → Nat} (hC : Cl C) {i k : Nat} (h : ¬ C i / 2 ^ k = 0) : k < 64 := by
  by_cases hk : k < 64
  · exact hk
  · exfalso
    apply h
    have hp : 2 ^ 64 ≤ 2 ^ k := Nat.pow_le_pow_right (by decide) (by omega)
    exact Nat.div_eq_of_lt (Nat.lt_of_lt_of_le (hC.lt i) hp)

def lst (C : Nat → Nat) : Nat → Option Nat
  | 0 => none
  | n + 1 => match lst C n with
    | some x => some x
    | none => if hasB C n then some n else none
theorem lst_none {C : Nat → Nat} {n : Nat} (h : ∀ b, b < n → hasB C b = false) : lst C n = none := by
  induction n with
  | zero => rfl
  | succ n ih => unfold lst; rw [ih fun b hb => h b (by omega), h n (by omega)]; rfl
theorem lst_some {C : Nat → Nat} {m : Nat} (h : ∀ b, b < m → hasB C b = false) (hm : hasB C m = true) (n : Nat) (hn : m < n) : lst C n = some m := by
  induction n with
  | zero => omega
  | succ n ih =>
    unfold lst
    by_cases e : m = n
    · subst e; rw [lst_none h, hm]; rfl
    · rw [ih (by omega)]
theorem lst_is {C : Nat → Nat} {n : Nat} : (lst C n = none ∧ ∀ b, b < n → hasB C b = false) ∨ (∃ m, m < n ∧ lst C n = some m) := by
  induction n with
  | zero => exact .inl ⟨rfl, fun b hb => by omega⟩
  | succ n ih =>
    rcases ih with ⟨h1, h2⟩ | ⟨m, hm, h⟩
    · by_cases e : hasB C n = true
      · exact .inr ⟨n, by omega, by unfold lst; rw [h1, e]; rfl⟩
      · have e' : hasB C n = false := by simpa using e
        refine .inl ⟨by unfold lst; rw [h1, e']; rfl, fun b hb => ?_⟩
        by_cases eb : b = n
        · subst eb; exact e'
        · exact h2 b (by omega)
    · exact .inr ⟨m, by omega, by unfold lst; rw [h]⟩

end Go.Proofs.Ytcnjogkgfdbhfaa
