/- Words in runs one behind the other: plain facts, and what a store into the last run leaves.
   No condition but those that each theorem states. -/
import Derived.Test.YtgdblnppeeknpaaDoorRnK
namespace Go.Proofs.YtgdblnppeeknpaaDoor
open Go.RowKit

theorem jnS_nil (q : Rn) : jnS [] q = [q] := rfl
theorem jnS_last {acc : List Rn} {c : Nat} {s : Int} (q : Rn) : jnS (acc ++ [(c, s)]) q = if c = q.1 then acc ++ [(c, s + q.2)] else acc ++ [(c, s)] ++ [q] := by
  unfold jnS
  rw [List.getLast?_append]
  simp
theorem smL_app (a b : List Rn) : smL (a ++ b) = smL a + smL b := by unfold smL; rw [List.map_append, List.sum_append]
theorem smL_one (q : Rn) : smL [q] = q.2 := by unfold smL; simp
theorem snoc_of {acc : List Rn} (h : acc ≠ []) : ∃ pre c s, acc = pre ++ [(c, s)] := ⟨acc.dropLast, (acc.getLast h).1, (acc.getLast h).2, (List.dropLast_concat_getLast h).symm⟩
/-- As many bytes as both. -/
theorem jnS_sum (acc : List Rn) (q : Rn) : smL (jnS acc q) = smL acc + q.2 := by
  by_cases h : acc = []
  · subst h; rw [jnS_nil, smL_one]; simp [smL]
  · obtain ⟨pre, c, s, rfl⟩ := snoc_of h
    rw [jnS_last]
    split
    · rw [smL_app, smL_app, smL_one, smL_one]; show _ + (s + q.2) = _ + s + q.2; omega
    · rw [smL_app _ [q], smL_one]
theorem jnS_pos {acc : List Rn} {q : Rn} (h : ∀ x ∈ acc, 1 ≤ x.2) (hq : 1 ≤ q.2) : ∀ x ∈ jnS acc q, 1 ≤ x.2 := by
  by_cases h0 : acc = []
  · subst h0; rw [jnS_nil]; intro x hx; rw [List.mem_singleton.1 hx]; exact hq
  · obtain ⟨pre, c, s, rfl⟩ := snoc_of h0
    have hs : 1 ≤ s := h (c, s) (by simp)
    rw [jnS_last]
    split
    · intro x hx
      rcases List.mem_append.1 hx with hx | hx
      · exact h x (List.mem_append_left _ hx)
      · rw [List.mem_singleton.1 hx]; show 1 ≤ s + q.2; omega
    · intro x hx
      rcases List.mem_append.1 hx with hx | hx
      · exact h x hx
      · rw [List.mem_singleton.1 hx]; exact hq
theorem jnS_len (acc : List Rn) (q : Rn) : (jnS acc q).length ≤ acc.length + 1 := by
  by_cases h0 : acc = []
  · subst h0; rw [jnS_nil]; simp
  · obtain ⟨pre, c, s, rfl⟩ := snoc_of h0
    rw [jnS_last]
    split <;> simp
/-- Neighbours stay apart. -/
theorem apart_snoc : ∀ {acc : List Rn} {q : Rn}, Apart acc → (acc.getLast?.map Prod.fst ≠ some q.1) → Apart (acc ++ [q])
  | [], q, _, _ => ⟨by simp, trivial⟩
  | [x], q, h, hq => by
    obtain ⟨b, t⟩ := x
    refine ⟨?_, by simp, trivial⟩
    intro e
    exact hq (by simpa using (Option.some.inj e).symm)
  | x :: y :: l, q, h, hq => by
    obtain ⟨b, t⟩ := x
    refine ⟨h.1, apart_snoc (acc := y :: l) h.2 ?_⟩
    rw [List.getLast?_cons_cons] at hq
    exact hq
theorem apart_last : ∀ {acc : List Rn} {c : Nat} {s s' : Int}, Apart (acc ++ [(c, s)]) → Apart (acc ++ [(c, s')])
  | [], c, s, s', _ => ⟨by simp, trivial⟩
  | (b, t) :: l, c, s, s', h => by
    refine ⟨?_, apart_last (acc := l) h.2⟩
    have := h.1
    cases l with
    | nil => simpa using this
    | cons y l => simpa using this
theorem jnS_apart {acc : List Rn} {q : Rn} (h : Apart acc) : Apart (jnS acc q) := by
  by_cases h0 : acc = []
  · subst h0; exact ⟨by simp, trivial⟩
  · obtain ⟨pre, c, s, rfl⟩ := snoc_of h0
    rw [jnS_last]
    split
    · exact apart_last h
    · rename_i hc
      refine apart_snoc h ?_
      rw [List.getLast?_append]
      simpa using hc
/-- Of formed words what they make has as many bytes, each run is at least once, no two neighbours have one byte. -/
theorem jn_all : ∀ (l acc : List Rn), Apart acc → (∀ x ∈ acc, 1 ≤ x.2) → (∀ x ∈ l, 1 ≤ x.2) → Apart (l.foldl jnS acc) ∧ (∀ x ∈ l.foldl jnS acc, 1 ≤ x.2) ∧ smL (l.foldl jnS acc) = smL acc + smL l ∧ (l.foldl jnS acc).length ≤ acc.length + l.length
  | [], acc, h1, h2, _ => ⟨h1, h2, by simp [smL], by simp⟩
  | q :: l, acc, h1, h2, h3 => by
    obtain ⟨k1, k2, k3, k4⟩ := jn_all l (jnS acc q) (jnS_apart h1) (jnS_pos h2 (h3 q (by simp))) fun x hx => h3 x (List.mem_cons_of_mem _ hx)
    refine ⟨k1, k2, ?_, ?_⟩
    · rw [List.foldl_cons, k3, jnS_sum, show smL (q :: l) = q.2 + smL l by unfold smL; simp]; omega
    · have := jnS_len acc q
      rw [List.foldl_cons, List.length_cons]; omega
/-- A store into the last run's number. -/
theorem rn_set (pre : List Rn) (c : Nat) (s x : Int) : ((pre ++ [(c, s)]).flatMap rnc).set ((pre.length) * 2 + 1) (.int .i64 x) = (pre ++ [(c, x)]).flatMap rnc := by
  rw [List.flatMap_append, List.flatMap_append, List.set_append_right _ _ (by rw [rn_len]; omega), rn_len]
  rw [show pre.length * 2 + 1 - pre.length * 2 = 1 by omega]
  rfl

end Go.Proofs.YtgdblnppeeknpaaDoor
