/- What the reader's call that reads the bytes of an atom comes to: a contract.
   Conditions: the reader's cells are as 'Rd' says, and the text is no longer than memory may be. -/
import Derived.Test.YtcnjogkgfdbhfaaItems
namespace Go.Proofs.Ytcnjogkgfdbhfaa
open Go.RowKit
attribute [local go_sem] byteOk byteEr clsOk clsEr

theorem pset_dot (r : List Nat) : pset (46 :: r) = .ok (fun _ => true) r := rfl
theorem pset_brack (r : List Nat) : pset (91 :: r) = pbrack r := by
  unfold pbrack
  cases r with
  | nil => rfl
  | cons b r =>
    by_cases h : b = 94
    · subst h; rfl
    · have : (b :: r).head? ≠ some 94 := by simp [h]
      rw [if_neg this]
      unfold pset
      split
      · rename_i e; simp at e
      · rename_i e; simp at e; exact absurd e.1 h
      · rename_i e; simp at e; subst e; rfl
      · rename_i e; exact absurd rfl (e _)
theorem pset_plain {b : Nat} {r : List Nat} (h1 : b ≠ 46) (h2 : b ≠ 91) : pset (b :: r) = match pplain marks (b :: r) with
    | .ok a r' => .ok (between a a) r'
    | .er r' c => .er r' c := by
  unfold pset
  split
  · rename_i e; injection e with e _; exact absurd e h1
  · rename_i e; injection e with e _; exact absurd e h2
  · rename_i e; injection e with e _; exact absurd e h2
  · rfl
theorem pitems_er_two : ∀ (n : Nat) {first : Bool} {S : Nat → Bool} {r r' : List Nat} {c : Nat}, r.length ≤ n → pitems first S r = .er r' c → c = 2
  | n, first, S, r, r', c, hn, h => by
    by_cases hend : first = false ∧ r.head? = some 93
    · rw [pitems, if_pos hend] at h; cases h
    · rw [pitems_more hend] at h
      split at h
      · rename_i hx; injection h with _ h; have := pitem_er_two hx; omega
      · rename_i hx
        have hle := pitem_le hx
        match n, hn with
        | 0, hn => omega
        | n + 1, hn => exact pitems_er_two n (by omega) h
theorem pbrack_er_two {r r' : List Nat} {c : Nat} (h : pbrack r = .er r' c) : c = 2 := by
  unfold pbrack at h
  split at h
  · split at h
    · cases h
    · rename_i hx; injection h with _ h; have := pitems_er_two _ (Nat.le_refl _) hx; omega
  · exact pitems_er_two _ (Nat.le_refl _) h
theorem pset_er_two {r r' : List Nat} {c : Nat} (h : pset r = .er r' c) : c = 2 := by
  cases r with
  | nil => unfold pset pplain at h; injection h with _ h; omega
  | cons b r =>
    by_cases h1 : b = 46
    · subst h1; rw [pset_dot] at h; cases h
    · by_cases h2 : b = 91
      · subst h2; rw [pset_brack] at h; exact pbrack_er_two h
      · rw [pset_plain h1 h2] at h
        split at h
        · cases h
        · rename_i hx; injection h with _ h; have := pplain_two hx; omega

end Go.Proofs.Ytcnjogkgfdbhfaa
