/- Classes turned round, with one turned into what it hasn't and one that comes twice, part the bytes as they did.
   Conditions: those that the theorems state. -/
import Derived.Test.YtbppofhjlgfbiaaPartFacts
namespace Go.Proofs.Ytbppofhjlgfbiaa

def turned (L : Nat → Nat → Nat) (n s : Nat) (i : Nat) : Nat → Nat := if i < n then L ((i + s) % n) else if i = n then cNot (L 0) else L 0
theorem turned_in {L : Nat → Nat → Nat} {n s i : Nat} (h : i < n) : turned L n s i = L ((i + s) % n) := if_pos h
theorem turned_not {L : Nat → Nat → Nat} {n s : Nat} : turned L n s n = cNot (L 0) := by unfold turned; rw [if_neg (by omega), if_pos rfl]
theorem turned_first {L : Nat → Nat → Nat} {n s : Nat} : turned L n s (n + 1) = L 0 := by unfold turned; rw [if_neg (by omega), if_neg (by omega)]
theorem Cl_turned {L : Nat → Nat → Nat} (hL : ∀ t, Cl (L t)) (n s i : Nat) (hN : Cl (cNot (L 0))) : Cl (turned L n s i) := by
  unfold turned
  split
  · exact hL _
  · split
    · exact hN
    · exact hL _
theorem turn_back {n s k : Nat} (h : k < n) : ((k + n - s % n) % n + s) % n = k := by
  have hr : s % n < n := Nat.mod_lt _ (by omega)
  rw [Nat.mod_add_mod]
  have hs := Nat.div_add_mod s n
  have e : k + n - s % n + s = k + n * (s / n + 1) := by
    rw [Nat.mul_add, Nat.mul_one]
    omega
  rw [e, Nat.add_mul_mod_self_left, Nat.mod_eq_of_lt h]
theorem rel_turned {L : Nat → Nat → Nat} {n : Nat} (s : Nat) (hn : 0 < n) (a b : Nat) : rel zeros L n a b = rel zeros (turned L n s) (n + 2) a b := by
  unfold rel
  congr 1
  rw [Bool.eq_iff_iff]
  simp only [beq_iff_eq, mem_eq_iff]
  constructor
  · intro h k hk
    by_cases h1 : k < n
    · rw [turned_in h1]
      exact h _ (Nat.mod_lt _ hn)
    · by_cases h2 : k = n
      · subst h2
        rw [turned_not, hasB_not, hasB_not, h 0 hn]
      · obtain rfl : k = n + 1 := by omega
        rw [turned_first]
        exact h 0 hn
  · intro h k hk
    have h1 : (k + n - s % n) % n < n := Nat.mod_lt _ hn
    have h2 := h _ (Nat.lt_trans h1 (by omega))
    rw [turned_in h1, turn_back hk] at h2
    exact h2
theorem news_turned {L : Nat → Nat → Nat} {n : Nat} (s : Nat) (hn : 0 < n) : news (rel zeros (turned L n s) (n + 2)) 256 = news (rel zeros L n) 256 :=
  (news_congr (alike_rel _ _ _) (alike_rel _ _ _) (n := 256) (fun a b _ _ => rel_turned s hn a b) 256 (Nat.le_refl _)).symm
theorem part_turned {L : Nat → Nat → Nat} {n : Nat} (s : Nat) (hn : 0 < n) (q : Nat) : same4 (partOf (rel zeros L n) q) (partOf (rel zeros (turned L n s) (n + 2)) q) :=
  ext4 (Cl_part _ _) (Cl_part _ _) fun b hb => by
    rw [has_part, has_part, nm_congr (alike_rel _ _ _) (alike_rel _ _ _) (n := 256) (fun a b _ _ => rel_turned s hn a b) hb]

/-- The cells of the first classes of a list, one behind the other. -/
def four (C : Nat → Nat) : List Value := [.int .u64 (C 0 : Nat), .int .u64 (C 1 : Nat), .int .u64 (C 2 : Nat), .int .u64 (C 3 : Nat)]
def rowsOf (L : Nat → Nat → Nat) : Nat → List Value
  | 0 => []
  | t + 1 => rowsOf L t ++ four (L t)
theorem rowsOf_length (L : Nat → Nat → Nat) : ∀ t, (rowsOf L t).length = t * 4
  | 0 => rfl
  | t + 1 => by
    show (rowsOf L t ++ four (L t)).length = _
    rw [List.length_append, rowsOf_length L t]
    show t * 4 + 4 = _
    omega
theorem rowsOf_at (L : Nat → Nat → Nat) (j : Nat) (hj : j < 4) : ∀ t i, i < t → (rowsOf L t)[i * 4 + j]? = some (.int .u64 (L i j : Nat))
  | t + 1, i, h => by
    show (rowsOf L t ++ four (L t))[i * 4 + j]? = _
    have hl := rowsOf_length L t
    by_cases h1 : i < t
    · rw [List.getElem?_append_left (by omega)]
      exact rowsOf_at L j hj t i h1
    · obtain rfl : i = t := by omega
      rw [List.getElem?_append_right (by omega), hl, Nat.add_sub_cancel_left]
      match j, hj with
      | 0, _ => rfl
      | 1, _ => rfl
      | 2, _ => rfl
      | 3, _ => rfl

end Go.Proofs.Ytbppofhjlgfbiaa
