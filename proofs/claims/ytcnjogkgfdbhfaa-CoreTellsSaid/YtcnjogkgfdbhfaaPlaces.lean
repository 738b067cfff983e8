/- How many places a tree has: a contract.
   Conditions: the tree lies in memory, is at most 1000000 deep, and has at most 1000000 places. -/
import Derived.Test.YtcnjogkgfdbhfaaDeep
namespace Go.Proofs.Ytcnjogkgfdbhfaa
open Go.RowKit Go.Shelf
attribute [local go_sem] Oper.semAt_some encsV nodeAgg

theorem mem_presV : ∀ {ts : List V} {d : Nat} {x : Nat × V}, x ∈ presV d ts → ∃ t, t ∈ ts ∧ x ∈ preV d t
  | [], d, x, h => by rw [presV] at h; cases h
  | t :: ts, d, x, h => by
    rw [presV, List.mem_append] at h
    rcases h with h | h
    · exact ⟨t, by simp, h⟩
    · obtain ⟨u, hu, hx⟩ := mem_presV h
      exact ⟨u, by simp [hu], hx⟩
theorem pre_laid {w : World} {R : Nat → Prop} {t : V} (h : Laid w R t) : ∀ (d : Nat) (x : Nat × V), x ∈ preV d t → Laid w R x.2 := by
  induction h with
  | none k C lo hi a cap =>
    intro d x hx
    rw [preV, presV, List.mem_singleton] at hx
    subst hx
    exact .none k C lo hi a cap
  | some k C lo hi ps b off cap hR hlt hcap hc hk ih =>
    intro d x hx
    rw [preV, List.mem_cons] at hx
    rcases hx with rfl | hx
    · exact .some k C lo hi ps b off cap hR hlt hcap hc hk
    · obtain ⟨u, hu, hx⟩ := mem_presV hx
      exact ih u hu (d + 1) x hx
theorem ones_snoc (l : List (Nat × V)) (x : Nat × V) : ones (l ++ [x]) = ones l + if x.2.kind = 1 then 1 else 0 := by
  unfold ones
  rw [List.countP_append]
  by_cases h : x.2.kind = 1
  · simp [h]
  · simp [h]
theorem ones_le (t : V) {pre post : List (Nat × V)} (h : preV 1 t = pre ++ post) : ones pre ≤ plcV t := by
  have := ones_pre t 1
  rw [h] at this
  unfold ones at this ⊢
  rw [List.countP_append] at this
  omega
def PI (w : World) (pre : List (Nat × V)) (W : World) : Prop := W.heap[w.heap.size + 1]? = some (.cells #[.int .i64 (ones pre)] 3 (0, 0)) ∧ Below w.heap.size w W ∧ w.heap.size + 1 < W.heap.size
theorem pi_step {w w2 : World} {pre : List (Nat × V)} {x : Nat × V} {Ix : List (Nat × V) → World → Prop} (h : PI w pre w2) (m : Nat) (hm : m = ones (pre ++ [x])) :
    Left (KpV (w.heap.size + 1)) (PI w) Ix pre x w2 .normal (w2.setCell ⟨w.heap.size + 1, 0, none⟩ (.int .i64 m)) := by
  obtain ⟨h1, h2, h3⟩ := h
  refine ⟨KeepsOthers.setCell _ _ _, kpV_set _ _ _, ?_, h2.setCell (p := ⟨w.heap.size + 1, 0, none⟩) (by simp) _, by simp; omega⟩
  rw [← hm]
  exact heap_one h1
theorem pi_stay {w w2 : World} {pre : List (Nat × V)} {x : Nat × V} {Ix : List (Nat × V) → World → Prop} (h : PI w pre w2) (hm : ones pre = ones (pre ++ [x])) :
    Left (KpV (w.heap.size + 1)) (PI w) Ix pre x w2 .normal w2 := by
  obtain ⟨h1, h2, h3⟩ := h
  refine ⟨KeepsOthers.refl _, kpV_refl _ _, ?_, h2, h3⟩
  rw [← hm]
  exact h1

end Go.Proofs.Ytcnjogkgfdbhfaa
