/- What the reader's call that repeats the last part of a row comes to: a contract.
   Conditions: the memory is as 'Mem' says, and rows have at most 1000 parts. -/
import Derived.Test.YtcnjogkgfdbhfaaAtom
namespace Go.Proofs.Ytcnjogkgfdbhfaa
open Go.RowKit
attribute [local go_sem] clsOk clsEr pairOk pairEr

theorem pnumber_er {r r' : List Nat} {c : Nat} (h : pnumber r = .er r' c) : c = 2 ∨ c = 3 := by
  unfold pnumber at h
  split at h
  · injection h with _ h; omega
  · split at h
    · injection h with _ h; omega
    · cases h
theorem pupper_er {lo : Nat} {r r' : List Nat} {c : Nat} (h : pupper lo r = .er r' c) : c = 2 ∨ c = 3 := by
  by_cases q1 : r.head? = some 44
  · cases r with
    | nil => simp at q1
    | cons b r =>
      simp at q1
      subst q1
      by_cases q2 : r.head? = some 125
      · cases r with
        | nil => simp at q2
        | cons b r =>
          simp at q2
          subst q2
          rw [pupper_open] at h
          cases h
      · rw [pupper_num lo q2] at h
        split at h
        · cases h
        · rename_i hz
          injection h with _ h
          have := pnumber_er hz
          omega
  · rw [pupper_no lo q1] at h
    cases h
theorem ptimes_er {b : Nat} {r r' : List Nat} {c : Nat} (h : ptimes b r = .er r' c) : c = 2 ∨ c = 3 := by
  unfold ptimes at h
  split at h
  · cases h
  · split at h
    · cases h
    · split at h
      · cases h
      · cases hx : pnumber r with
        | er r1 c1 => rw [pbounds_er1 hx] at h; injection h with _ h; have := pnumber_er hx; omega
        | ok lo r1 =>
          cases hy : pupper lo r1 with
          | er r2 c2 => rw [pbounds_er2 hx hy] at h; injection h with _ h; have := pupper_er hy; omega
          | ok hi r2 =>
            by_cases h3 : r2.head? = some 125
            · cases r2 with
              | nil => simp at h3
              | cons b r3 =>
                simp at h3
                subst h3
                rw [pbounds_in hx hy] at h
                split at h
                · injection h with _ h; omega
                · cases h
            · rw [pbounds_no hx hy h3] at h; injection h with _ h; omega
def prep (g : G) (frs : List G) (b : Nat) (r : List Nat) : Out (G × List G) := if g.row = [] then .er (b :: r) 2 else match ptimes b r with
  | .er r' c => .er r' c
  | .ok t r' => .ok (⟨g.rows, repLast t g.row⟩, frs) r'
theorem prep_none {g : G} {frs : List G} {b : Nat} {r : List Nat} (h : g.row = []) : prep g frs b r = .er (b :: r) 2 := by unfold prep; rw [if_pos h]
theorem prep_er {g : G} {frs : List G} {b : Nat} {r r' : List Nat} {c : Nat} (h : g.row ≠ []) (h2 : ptimes b r = .er r' c) : prep g frs b r = .er r' c := by unfold prep; rw [if_neg h, h2]
theorem prep_ok {g : G} {frs : List G} {b : Nat} {r r' : List Nat} {t : Int × Int} (h : g.row ≠ []) (h2 : ptimes b r = .ok t r') : prep g frs b r = .ok (⟨g.rows, repLast t g.row⟩, frs) r' := by unfold prep; rw [if_neg h, h2]

end Go.Proofs.Ytcnjogkgfdbhfaa
