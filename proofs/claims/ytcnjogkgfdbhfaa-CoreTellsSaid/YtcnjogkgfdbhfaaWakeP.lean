/- Small texts as they are read; the parts of a tree that reads so: plain facts.
   No conditions but those that each theorem states. -/
import Derived.Test.YtcnjogkgfdbhfaaParse
namespace Go.Proofs.Ytcnjogkgfdbhfaa
open Go.RowKit

theorem pset_byte {b : Nat} {r : List Nat} (h1 : ¬ b ∈ marks) (h2 : b ≠ 92) : pset (b :: r) = .ok (between b b) r := by
  have h46 : b ≠ 46 := fun e => h1 (by subst e; decide)
  have h91 : b ≠ 91 := fun e => h1 (by subst e; decide)
  rw [pset_plain h46 h91]
  simp only [pplain, if_neg h1, if_neg h2]
theorem pstep_byte {g : G} {frs : List G} {b : Nat} {r : List Nat} (h1 : ¬ b ∈ marks) (h2 : b ≠ 92) : pstep g frs (b :: r) = .ok (⟨g.rows, g.row ++ [atomT (between b b)]⟩, frs) r := by
  have a1 : b ≠ 40 := fun e => h1 (by subst e; decide)
  have a2 : b ≠ 124 := fun e => h1 (by subst e; decide)
  have a3 : b ≠ 41 := fun e => h1 (by subst e; decide)
  have a4 : ¬ (b = 42 ∨ b = 43 ∨ b = 63 ∨ b = 123) := by
    rintro (e | e | e | e) <;> exact h1 (by subst e; decide)
  simp only [pstep, if_neg a1, if_neg a2, if_neg a3, if_neg a4, pset_byte h1 h2]
theorem pstep_star {g : G} {frs : List G} {r : List Nat} (h : g.row ≠ []) : pstep g frs (42 :: r) = .ok (⟨g.rows, repLast (0, -1) g.row⟩, frs) r := by
  simp [pstep, h, ptimes]
theorem pstep_bar {g : G} {frs : List G} {r : List Nat} : pstep g frs (124 :: r) = .ok (⟨g.rows ++ [joinT 2 g.row], []⟩, frs) r := by
  simp [pstep]
def wakeT : T := .node 3 zeros 0 0 [atomT (between 97 97), repT (0, -1) (atomT (between 98 98))]
theorem run_wake : prun ⟨[], []⟩ [] [97, 124, 98, 42] = .ok wakeT [] := by
  rw [prun_cons, pstep_byte (by decide) (by decide)]
  simp only
  rw [prun_cons, pstep_bar]
  simp only
  rw [prun_cons, pstep_byte (by decide) (by decide)]
  simp only
  rw [prun_cons, pstep_star (by simp)]
  simp only
  rw [prun_nil]
  rfl
theorem parse_wake : pparse [97, 124, 98, 42] = (wakeT, 0, 0) := by
  rw [pparse_ok (by decide) run_wake, if_neg (by
    simp [wakeT, dptT, dptsT, plcT, plcsT, atomT, repT])]
theorem txt_wake : txt { data := #[97, 124, 98, 42] } = [97, 124, 98, 42] := by rfl
/-- A tree that reads as a node of that kind: its parts are as many, and read as its parts. -/
theorem erase_node {v : V} {k : Int} {C : Nat → Nat} {lo hi : Int} {ps : List T} (h : erase v = .node k C lo hi ps) : v.kind = k ∧ v.set = C ∧ v.lo = lo ∧ v.hi = hi ∧ erases v.ps = ps := by
  cases v with
  | node k' C' lo' hi' v' ps' =>
    rw [erase] at h
    injection h with h1 h2 h3 h4 h5
    exact ⟨h1, h2, h3, h4, h5⟩
theorem erases_two {vs : List V} {p q : T} (h : erases vs = [p, q]) : ∃ a b, vs = [a, b] ∧ erase a = p ∧ erase b = q := by
  match vs with
  | [] => rw [erases] at h; cases h
  | [a] => rw [erases, erases] at h; cases h
  | [a, b] => rw [erases, erases, erases] at h; injection h with h1 h2; injection h2 with h2 _; exact ⟨a, b, rfl, h1, h2⟩
  | a :: b :: c :: r => rw [erases, erases, erases] at h; simp at h
theorem erases_single {vs : List V} {p : T} (h : erases vs = [p]) : ∃ a, vs = [a] ∧ erase a = p := by
  match vs with
  | [] => rw [erases] at h; cases h
  | [a] => rw [erases, erases] at h; injection h with h1 _; exact ⟨a, rfl, h1⟩
  | a :: b :: r => rw [erases, erases] at h; simp at h

end Go.Proofs.Ytcnjogkgfdbhfaa
