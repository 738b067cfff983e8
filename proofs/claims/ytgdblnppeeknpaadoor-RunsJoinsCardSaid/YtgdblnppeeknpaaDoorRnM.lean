/- Words in runs in memory, and what the document's Formed comes to: contracts.
   Conditions: the word lies in memory. -/
import Derived.Test.YtgdblnppeeknpaaDoorRnP
import Derived.Deep.AppendLies
import Derived.WalkSmall
import Derived.Deep.RegionLaw
namespace Go.Proofs.YtgdblnppeeknpaaDoor
open Go.RowKit

theorem below_drewN {B : Nat} {w w' : World} (h : Below B w w') (n : Nat) : Below B w (w'.drewN n) := ⟨h.os, h.tape, h.output, h.size, h.block⟩
/-- A run's two cells. -/
abbrev rnc (q : Rn) : List Value := [.int .u8 (q.1 : Int), .int .i64 q.2]
theorem rn_len (l : List Rn) : (l.flatMap rnc).length = l.length * 2 := by
  induction l with
  | nil => rfl
  | cons q l ih => rw [List.flatMap_cons, List.length_append, ih]; simp only [List.length_cons, List.length_nil]; omega
theorem rn_flat : ∀ {l : List Rn} {i : Nat} {q : Rn}, l[i]? = some q → (l.flatMap rnc)[i * 2]? = some (.int .u8 (q.1 : Int)) ∧ (l.flatMap rnc)[i * 2 + 1]? = some (.int .i64 q.2)
  | [], i, q, h => by simp at h
  | x :: l, 0, q, h => by
    obtain rfl := Option.some.inj h
    exact ⟨rfl, rfl⟩
  | x :: l, i + 1, q, h => by
    have := rn_flat (l := l) (i := i) h
    rw [List.flatMap_cons, show (i + 1) * 2 = i * 2 + 2 by omega]
    exact ⟨this.1, this.2⟩
/-- A word in runs, in memory. -/
def RunsR (w : World) (G : Nat → Prop) (v : Value) (l : List Rn) : Prop :=
  ∃ A c, v = .slice A l.length c ∧ ∀ (i b : Nat) (t : Int), l[i]? = some (b, t) → ∃ g o, A = some ⟨g, o, none⟩ ∧ G g ∧ g < w.heap.size ∧ w.cell? ⟨g, o + i * 2, none⟩ = some (.int .u8 (b : Int)) ∧ w.cell? ⟨g, o + i * 2 + 1, none⟩ = some (.int .i64 t)
theorem RunsR.keep {R G G' : Nat → Prop} {w w' : World} {v : Value} {l : List Rn} (h : RunsR w G v l) (hc : Chg R w w') (hn : ∀ k, k < w.heap.size → G k → ¬ R k) (hG : ∀ k, k < w.heap.size → G k → G' k) : RunsR w' G' v l := by
  obtain ⟨A, c, hv, hr⟩ := h
  refine ⟨A, c, hv, fun i b t hi => ?_⟩
  obtain ⟨g, o, h1, h2, h3, h4, h5⟩ := hr i b t hi
  exact ⟨g, o, h1, hG g h3 h2, Nat.lt_of_lt_of_le h3 hc.size, (hc.cell _ h3 (hn g h3 h2)).trans h4, (hc.cell _ h3 (hn g h3 h2)).trans h5⟩
theorem RunsR.below {G : Nat → Prop} {w w' : World} {v : Value} {l : List Rn} (h : RunsR w G v l) (hb : Below w.heap.size w w') : RunsR w' G v l :=
  h.keep (.of_below hb) (fun _ _ _ h => h) fun _ _ h => h
theorem RunsR.mono {G G' : Nat → Prop} {w : World} {v : Value} {l : List Rn} (h : RunsR w G v l) (hG : ∀ k, k < w.heap.size → G k → G' k) : RunsR w G' v l := h.keep (Chg.refl (fun _ => False) w) (fun _ _ _ h => h) hG
/-- A word in runs that the call made itself. -/
abbrev OwnR (w : World) (H : Nat) (v : Value) (l : List Rn) : Prop := w.ownsRow H 42 2 v l.length (l.flatMap rnc)
theorem OwnR.row {w : World} {H : Nat} {v : Value} {l : List Rn} (h : OwnR w H v l) : RunsR w (fun k => H ≤ k) v l := by
  by_cases hl : 0 < l.length
  · obtain ⟨g, cap, hv, _, hg⟩ := World.ownsRow.form h hl
    refine ⟨_, cap, hv, fun i b t hi => ⟨g, 0, rfl, ?_, hg, ?_⟩⟩
    · exact (World.ownsRow.lt h g (by rw [hv]; rfl)).1
    · subst hv
      have hil := (List.getElem?_eq_some_iff.1 hi).1
      obtain ⟨f1, f2⟩ := rn_flat hi
      rw [Nat.zero_add]
      exact ⟨(World.ownsRow.cellAt h (i * 2) (by omega)).trans f1, (World.ownsRow.cellAt h (i * 2 + 1) (by omega)).trans f2⟩
  · obtain rfl : l = [] := List.length_eq_zero_iff.1 (by omega)
    rcases h.2 with ⟨h1, _⟩ | ⟨g, cap, cur, hv, _⟩
    · exact ⟨none, 0, h1, fun i b t hi => by simp at hi⟩
    · exact ⟨some ⟨g, 0, none⟩, cap, hv, fun i b t hi => by simp at hi⟩

/-- Ahead of a round of the document's Formed. -/
def FmI (w : World) (l : List Rn) (i : Nat) (n : Int) (wr : World) : Prop :=
  i ≤ l.length ∧ n = smL (l.take i) ∧ 0 ≤ n ∧ n ≤ 4611686018427387904 ∧ fmL l none 0 = fmL (l.drop i) (pvB l i) n ∧ Below w.heap.size w wr
abbrev fmN (l : List Rn) : Int := (fmB l).getD 0
abbrev fmO (l : List Rn) : Bool := (fmB l).isSome
theorem fm_no {l : List Rn} (h : fmL l none 0 = none) : fmB l = none := by unfold fmB; split; rfl; exact h

end Go.Proofs.YtgdblnppeeknpaaDoor
