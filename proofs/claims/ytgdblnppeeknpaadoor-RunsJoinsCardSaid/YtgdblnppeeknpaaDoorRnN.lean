/- Runs put one behind the other: plain facts.
   No condition but those that each theorem states. -/
import Derived.Test.YtgdblnppeeknpaaDoorRnJ
namespace Go.Proofs.YtgdblnppeeknpaaDoor
open Go.RowKit

theorem jnS_cons2 (x y : Rn) (l : List Rn) (q : Rn) : jnS (x :: y :: l) q = x :: jnS (y :: l) q := by
  obtain ⟨pre, c, s, h⟩ := snoc_of (show y :: l ≠ [] by simp)
  rw [h, ← List.cons_append, jnS_last, jnS_last]
  split <;> simp
theorem pack_snoc : ∀ (wd : List Nat) (b : Nat), packL (wd ++ [b]) = jnS (packL wd) (b, 1)
  | [], b => rfl
  | a :: wd, b => by
    rw [List.cons_append, packL, pack_snoc wd b, packL]
    cases hp : packL wd with
    | nil =>
      show (if b = a then _ else _) = jnS ([] ++ [(a, 1)]) (b, 1)
      rw [jnS_last]
      by_cases e : a = b
      · subst e; rw [if_pos rfl, if_pos rfl]; rfl
      · rw [if_neg (fun x => e x.symm), if_neg e]; rfl
    | cons x r =>
      obtain ⟨c, t⟩ := x
      cases r with
      | nil =>
        rw [show jnS [(c, t)] (b, 1) = if c = b then [(c, t + 1)] else [(c, t), (b, 1)] from jnS_last (acc := []) (b, 1)]
        show _ = jnS (if c = a then [(c, t + 1)] else [(a, 1), (c, t)]) (b, 1)
        by_cases e1 : c = b
        · rw [if_pos e1]
          show (if c = a then _ else _) = _
          by_cases e2 : c = a
          · rw [if_pos e2, if_pos e2, show jnS [(c, t + 1)] (b, 1) = if c = b then [(c, t + 1 + 1)] else [(c, t + 1), (b, 1)] from jnS_last (acc := []) (b, 1), if_pos e1]
          · rw [if_neg e2, if_neg e2, jnS_cons2, show jnS [(c, t)] (b, 1) = if c = b then [(c, t + 1)] else [(c, t), (b, 1)] from jnS_last (acc := []) (b, 1), if_pos e1]
        · rw [if_neg e1]
          show (if c = a then _ else _) = _
          by_cases e2 : c = a
          · rw [if_pos e2, if_pos e2, show jnS [(c, t + 1)] (b, 1) = if c = b then [(c, t + 1 + 1)] else [(c, t + 1), (b, 1)] from jnS_last (acc := []) (b, 1), if_neg e1]
          · rw [if_neg e2, if_neg e2, jnS_cons2, show jnS [(c, t)] (b, 1) = if c = b then [(c, t + 1)] else [(c, t), (b, 1)] from jnS_last (acc := []) (b, 1), if_neg e1]
      | cons y r =>
        rw [jnS_cons2]
        show (if c = a then _ else _) = jnS (if c = a then _ else _) _
        by_cases e : c = a
        · rw [if_pos e, if_pos e, jnS_cons2]
        · rw [if_neg e, if_neg e, jnS_cons2, jnS_cons2]
theorem pack_step {wd : List Nat} {i b : Nat} (h : wd[i]? = some b) : packL (wd.take (i + 1)) = jnS (packL (wd.take i)) (b, 1) := by
  rw [List.take_add_one, h]
  exact pack_snoc _ b
theorem jnS_ge (acc : List Rn) (q : Rn) : acc.length ≤ (jnS acc q).length := by
  by_cases h0 : acc = []
  · subst h0; simp
  · obtain ⟨pre, c, s, rfl⟩ := snoc_of h0
    rw [jnS_last]
    split <;> simp
theorem fold_ge : ∀ (l acc : List Rn), acc.length ≤ (l.foldl jnS acc).length
  | [], _ => Nat.le_refl _
  | q :: l, acc => Nat.le_trans (jnS_ge acc q) (fold_ge l _)
theorem pack_ge (wd : List Nat) : ∀ (n i : Nat), i + n = wd.length → (packL (wd.take i)).length ≤ (packL wd).length
  | 0, i, h => by rw [List.take_of_length_le (by omega)]; exact Nat.le_refl _
  | n + 1, i, h => by
    have h1 := pack_ge wd n (i + 1) (by omega)
    rw [pack_step (List.getElem?_eq_getElem (by omega : i < wd.length))] at h1
    exact Nat.le_trans (jnS_ge _ _) h1
theorem smL_nn : ∀ {l : List Rn}, (∀ q ∈ l, 1 ≤ q.2) → 0 ≤ smL l := fun h => by have := unp_len h; omega
theorem smL_cons (q : Rn) (l : List Rn) : smL (q :: l) = q.2 + smL l := by unfold smL; simp
/-- What put finds behind: the last run's number stays within what all have. -/
theorem last_le {pre : List Rn} {c : Nat} {s : Int} (h : ∀ q ∈ pre ++ [(c, s)], 1 ≤ q.2) : 1 ≤ s ∧ s ≤ smL (pre ++ [(c, s)]) := by
  have h1 : 1 ≤ s := h (c, s) (by simp)
  have h2 := smL_nn (l := pre) fun q hq => h q (List.mem_append_left _ hq)
  rw [smL_app, smL_one]
  exact ⟨h1, by show s ≤ _ + s; omega⟩

end Go.Proofs.YtgdblnppeeknpaaDoor
