/- Facts on the parts of a list of classes: each part has bytes, no two share one, together they are all bytes, and each class has each part whole or nothing of it.
   Conditions: those that each theorem states. -/
import Derived.Test.YtbppofhjlgfbiaaParts
namespace Go.Proofs.Ytbppofhjlgfbiaa
open Go.RowKit

theorem parts_any (A : Option Addr) (n cap : Nat) (L : Nat → Nat → Nat) (w : World) (hrow : ClassRow w A n L) (hL : ∀ t, Cl (L t)) (hn : n < 64) (hcap : n ≤ cap) :
    Calls Try.prog 11 #[.slice A n cap] w (GivesParts (rel zeros L n) w) := callsIn_wide.1 (parts_in A n cap L w hrow hL hn hcap)

theorem cnt_none (A : Nat → Nat) (n : Nat) : lst A n = none ↔ cnt A n = 0 := by
  induction n with
  | zero => simp [lst, cnt_zero]
  | succ n ih =>
    rw [cnt_succ]
    rw [show lst A (n + 1) = (match lst A n with | some x => some x | none => if hasB A n then some n else none) from rfl]
    cases e : lst A n with
    | some m =>
      rw [e] at ih
      simp at ih
      simp; omega
    | none =>
      rw [e] at ih
      simp at ih
      cases hasB A n <;> simp [ih]
theorem emp_cnt {A : Nat → Nat} (hA : Cl A) : emp A = ((cnt A 256 : Int) == 0) := by
  rw [Bool.eq_iff_iff, emp_iff]
  simp
  rw [← cnt_none]
  constructor
  · rintro ⟨h0, h1, h2, h3⟩
    refine lst_none fun b hb => ?_
    unfold hasB
    have : b / 64 = 0 ∨ b / 64 = 1 ∨ b / 64 = 2 ∨ b / 64 = 3 := by omega
    rcases this with e | e | e | e <;> simp [e, h0, h1, h2, h3]
  · intro h
    have hall : ∀ b, b < 256 → hasB A b = hasB zeros b := by
      intro b hb
      have hz : hasB zeros b = false := by unfold hasB zeros; simp
      rw [hz]
      rcases lst_is (C := A) (n := 256) with ⟨_, h2⟩ | ⟨m, _, h3⟩
      · exact h2 b hb
      · rw [h] at h3; cases h3
    exact ext4 hA (setOf_zeros (S := fun _ => False) fun _ _ h => h).1 hall
theorem emp_of {C : Nat → Nat} (hC : Cl C) (h : ∀ b, b < 256 → hasB C b = false) : emp C = true := by
  rw [emp_iff]
  have hz : same4 C zeros := ext4 hC (setOf_zeros (S := fun _ => False) fun _ _ h => h).1 fun b hb => by
    rw [h b hb]
    unfold hasB zeros
    simp
  exact hz
theorem not_emp {C : Nat → Nat} {b : Nat} (hb : b < 256) (h : hasB C b = true) : emp C = false := by
  cases e : emp C with
  | false => rfl
  | true =>
    rw [emp_iff] at e
    obtain ⟨h0, h1, h2, h3⟩ := e
    unfold hasB at h
    have : b / 64 = 0 ∨ b / 64 = 1 ∨ b / 64 = 2 ∨ b / 64 = 3 := by omega
    rcases this with e | e | e | e <;> simp [e, h0, h1, h2, h3] at h
section
variable {r : Nat → Nat → Bool}
def sumOf (r : Nat → Nat → Bool) (i : Nat) : Nat → Nat := canon (fun x => decide (nm r x < i))
theorem Cl_part (r : Nat → Nat → Bool) (q : Nat) : Cl (partOf r q) := Cl_canon _
theorem Cl_sum (r : Nat → Nat → Bool) (i : Nat) : Cl (sumOf r i) := Cl_canon _
theorem has_part (r : Nat → Nat → Bool) (q b : Nat) : hasB (partOf r q) b = (nm r b == q) := hasB_canon _ b
theorem has_sum (r : Nat → Nat → Bool) (i b : Nat) : hasB (sumOf r i) b = decide (nm r b < i) := hasB_canon _ b
theorem part_some (_h : Alike r) {q : Nat} (hq : q < news r 256) : emp (partOf r q) = false := by
  obtain ⟨b, hb, hf, hn⟩ := news_hit (r := r) 256 q hq
  refine not_emp hb ?_
  rw [has_part, nm_new b hf, hn]
  simp
theorem sum_apart (r : Nat → Nat → Bool) (i : Nat) : emp (cAnd (sumOf r i) (partOf r i)) = true := by
  refine emp_of (Cl_and (Cl_part r i)) fun b _ => ?_
  rw [hasB_and, has_sum, has_part]
  by_cases e : nm r b = i
  · subst e; simp
  · simp [e]
theorem sum_next (r : Nat → Nat → Bool) (i : Nat) : same4 (cOr (sumOf r i) (partOf r i)) (sumOf r (i + 1)) :=
  ext4 (Cl_or (Cl_sum r i) (Cl_part r i)) (Cl_sum r _) fun b _ => by
    rw [hasB_or, has_sum, has_part, has_sum, Bool.eq_iff_iff]
    simp
    omega
theorem sum_size (r : Nat → Nat → Bool) (i : Nat) : cnt (sumOf r i) 256 + cnt (partOf r i) 256 = cnt (sumOf r (i + 1)) 256 := by
  have h := cnt_and_or (sumOf r i) (partOf r i) 256
  have h0 : cnt (cAnd (sumOf r i) (partOf r i)) 256 = 0 := by
    have e := emp_cnt (Cl_and (A := sumOf r i) (Cl_part r i))
    rw [sum_apart] at e
    have := e.symm
    simp at this
    exact this
  have h1 : cnt (cOr (sumOf r i) (partOf r i)) 256 = cnt (sumOf r (i + 1)) 256 := cnt_congr fun b _ => by
    rw [hasB_or, has_sum, has_part, has_sum, Bool.eq_iff_iff]
    simp
    omega
  omega
theorem sum_zero (r : Nat → Nat → Bool) : same4 zeros (sumOf r 0) :=
  ext4 (setOf_zeros (S := fun _ => False) fun _ _ h => h).1 (Cl_sum r 0) fun b _ => by
    rw [has_sum]
    unfold hasB zeros
    simp
theorem sum_zero_size (r : Nat → Nat → Bool) : cnt (sumOf r 0) 256 = 0 := by
  unfold cnt
  rw [List.countP_eq_zero]
  intro b _
  rw [has_sum]
  simp
theorem sum_all (h : Alike r) : cnt (sumOf r (news r 256)) 256 = 256 ∧ emp (cNot (sumOf r (news r 256))) = true := by
  have ha : ∀ b, b < 256 → hasB (sumOf r (news r 256)) b = true := fun b hb => by
    rw [has_sum]
    simp
    exact nm_lt h hb
  constructor
  · unfold cnt
    have e : (List.range 256).countP (hasB (sumOf r (news r 256))) = (List.range 256).length := by
      rw [List.countP_eq_length]
      intro b hb
      exact ha b (by simpa using hb)
    rw [e]
    simp
  · refine emp_of (Cl_not (Cl_sum r _)) fun b hb => ?_
    rw [hasB_not, ha b hb]
    rfl
end
theorem class_whole {L : Nat → Nat → Nat} {n k q : Nat} (hk : k < n) : emp (cAnd (L k) (partOf (rel zeros L n) q)) = true ∨ same4 (cAnd (L k) (partOf (rel zeros L n) q)) (partOf (rel zeros L n) q) := by
  have hal := alike_rel zeros L n
  have hr : ∀ a b, nm (rel zeros L n) a = q → nm (rel zeros L n) b = q → hasB (L k) a = hasB (L k) b := fun a b h1 h2 => by
    have e := (nm_iff hal a b).1 (h1.trans h2.symm)
    simp [rel, zeros] at e
    exact (mem_eq_iff L a b n).1 e k hk
  by_cases e : ∃ a, a < 256 ∧ nm (rel zeros L n) a = q ∧ hasB (L k) a = true
  · obtain ⟨a, _, h1, h2⟩ := e
    refine .inr (ext4 (Cl_and (Cl_part _ _)) (Cl_part _ _) fun b _ => ?_)
    rw [hasB_and, has_part]
    by_cases eb : nm (rel zeros L n) b = q
    · rw [← hr a b h1 eb, h2]
      simp
    · simp [eb]
  · refine .inl (emp_of (Cl_and (Cl_part _ _)) fun b hb => ?_)
    rw [hasB_and, has_part]
    by_cases eb : nm (rel zeros L n) b = q
    · have : hasB (L k) b = false := by
        cases e2 : hasB (L k) b with
        | false => rfl
        | true => exact absurd ⟨b, hb, eb, e2⟩ e
      rw [this]
      simp
    · simp [eb]

end Go.Proofs.Ytbppofhjlgfbiaa
