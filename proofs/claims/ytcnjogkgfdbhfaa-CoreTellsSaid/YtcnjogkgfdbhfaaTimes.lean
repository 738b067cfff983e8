/- What the reader's calls that read how often something is repeated come to: contracts.
   Conditions: the reader's cells are as 'Rd' says, and the text is no longer than memory may be. -/
import Derived.Test.YtcnjogkgfdbhfaaNum
namespace Go.Proofs.Ytcnjogkgfdbhfaa
open Go.RowKit

def intOk (a : Int) : Value := .tuple #[.int .i64 a, .int .i64 0]
def pairOk (a : Int × Int) : Value := .tuple #[.int .i64 a.1, .int .i64 a.2, .int .i64 0]
def pairEr (c : Nat) : Value := .tuple #[.int .i64 0, .int .i64 0, .int .i64 c]
attribute [local go_sem] numOk numEr intOk pairOk pairEr
theorem pupper_no (lo : Nat) {r : List Nat} (h : r.head? ≠ some 44) : pupper lo r = .ok lo r := by
  unfold pupper
  split
  · simp at h
  · simp at h
  · rfl
theorem pupper_open (lo : Nat) (r : List Nat) : pupper lo (44 :: 125 :: r) = .ok (-1) (125 :: r) := rfl
theorem pupper_num (lo : Nat) {r : List Nat} (h : r.head? ≠ some 125) : pupper lo (44 :: r) = match pnumber r with
    | .ok n r' => .ok n r'
    | .er r' c => .er r' c := by
  unfold pupper
  split
  · rename_i e; injection e with _ e; subst e; simp at h
  · rename_i e; injection e with _ e; subst e; rfl
  · rename_i _ e; exact absurd rfl (e r)
theorem pupper_le {lo : Nat} {r : List Nat} {hi : Int} {r' : List Nat} (hlo : lo ≤ 2147483647) (h : pupper lo r = .ok hi r') : -1 ≤ hi ∧ hi ≤ 2147483647 := by
  by_cases h1 : r.head? = some 44
  · cases r with
    | nil => simp at h1
    | cons b r =>
      simp at h1
      subst h1
      by_cases h2 : r.head? = some 125
      · cases r with
        | nil => simp at h2
        | cons b r =>
          simp at h2
          subst h2
          rw [pupper_open] at h
          injection h with h _
          omega
      · rw [pupper_num lo h2] at h
        unfold pnumber at h
        split at h
        · rename_i n r2 hx
          injection h with h _
          split at hx
          · cases hx
          · split at hx
            · cases hx
            · injection hx with hx _
              omega
        · cases h
  · rw [pupper_no lo h1] at h
    injection h with h _
    omega
theorem pnumber_le {r : List Nat} {n : Nat} {r' : List Nat} (h : pnumber r = .ok n r') : n ≤ 2147483647 := by
  unfold pnumber at h
  split at h
  · cases h
  · split at h
    · cases h
    · injection h with h _
      omega

theorem pbounds_er1 {brace r r' : List Nat} {c : Nat} (h : pnumber r = .er r' c) : pbounds brace r = .er r' c := by unfold pbounds; rw [h]
theorem pbounds_er2 {brace r r1 r' : List Nat} {lo c : Nat} (h : pnumber r = .ok lo r1) (h2 : pupper lo r1 = .er r' c) : pbounds brace r = .er r' c := by unfold pbounds; rw [h]; simp only; rw [h2]
theorem pbounds_no {brace r r1 r2 : List Nat} {lo : Nat} {hi : Int} (h : pnumber r = .ok lo r1) (h2 : pupper lo r1 = .ok hi r2) (h3 : r2.head? ≠ some 125) : pbounds brace r = .er r2 2 := by
  unfold pbounds; rw [h]; simp only; rw [h2]; simp only
  split
  · simp at h3
  · rfl
theorem pbounds_in {brace r r1 r3 : List Nat} {lo : Nat} {hi : Int} (h : pnumber r = .ok lo r1) (h2 : pupper lo r1 = .ok hi (125 :: r3)) : pbounds brace r = if hi ≠ -1 ∧ (lo : Int) > hi then .er brace 2 else .ok (lo, hi) r3 := by
  unfold pbounds; rw [h]; simp only; rw [h2]; rfl

end Go.Proofs.Ytcnjogkgfdbhfaa
