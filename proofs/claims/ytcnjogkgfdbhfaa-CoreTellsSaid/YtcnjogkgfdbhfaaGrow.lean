/- What the calls that add to the innermost group, and end its row, leave of the reader's memory: contracts.
   Conditions: the memory is as 'Mem' says, and rows have at most 1000 parts. -/
import Derived.Test.YtcnjogkgfdbhfaaMem
import Derived.Test.YtcnjogkgfdbhfaaRowEnd
namespace Go.Proofs.Ytcnjogkgfdbhfaa
open Go.RowKit

theorem gcells_set2 (fr : List Grp) (g : Grp) (rows row : List V) (v : Value) : (gcells (fr ++ [g])).set (fr.length * 2 + 1) v = gcells (fr ++ [⟨rows, row, g.v1, v⟩]) := by
  rw [gcells_snoc, gcells_snoc, set_at (gcells_length fr)]
  rfl
theorem gcells_set1 (fr : List Grp) (g : Grp) (rows row : List V) (v : Value) : (gcells (fr ++ [g])).set (fr.length * 2) v = gcells (fr ++ [⟨rows, row, v, g.v2⟩]) := by
  have := set_at (xs := gcells fr) (zs := [g.v1, g.v2]) (gcells_length fr) 0 v
  rw [Nat.add_zero] at this
  rw [gcells_snoc, gcells_snoc, this]
  rfl
theorem ndc_nodeAgg (t : V) : nodeAgg t = .agg (ndc t).toArray := rfl
theorem joinV_slice (kind : Int) {v : Value} {ps : List V} (hv : ∃ a n c, v = .slice a n c) (hsl : ∀ p ∈ ps, ∃ a n c, p.v = .slice a n c) : ∃ a n c, (joinV kind v ps).v = .slice a n c := by
  match ps, hsl with
  | [], _ => exact ⟨none, 0, 0, rfl⟩
  | [p], hsl => exact hsl p (by simp)
  | p :: q :: ps, _ => exact hv
theorem joinV_laid {w : World} {base : Nat} {R : Nat → Prop} (kind : Int) {v : Value} {ps : List V} (hown : w.ownsRow base 27 8 v ps.length (flat ps)) (hps : ∀ t, t ∈ ps → Laid w R t) (hR : ∀ b, v.ownBlock = some b → R b) : Laid w R (joinV kind v ps) := by
  match ps, hown, hps with
  | [], _, _ => exact zeroV_laid w R
  | [p], _, hps => exact hps p (by simp)
  | p :: q :: ps, hown, hps =>
    obtain ⟨g, cap, rfl, _, hlt⟩ := hown.form (Nat.succ_pos _)
    have hle : (p :: q :: ps).length ≤ cap := by
      rcases hown.2 with ⟨h1, _⟩ | ⟨g', cap', cur, hv, _, _, hle, _⟩
      · cases h1
      · simp only [Value.slice.injEq] at hv
        omega
    refine .some kind zeros 0 0 (p :: q :: ps) g 0 cap (hR g rfl) hlt hle (fun i t ht j u hu => ?_) hps
    have hi : i < (p :: q :: ps).length := (List.getElem?_eq_some_iff.1 ht).1
    have hj : j < 8 := by have := (List.getElem?_eq_some_iff.1 hu).1; rwa [ndc_length] at this
    rw [Nat.zero_add, hown.cellAt _ (by omega), flat_at _ i t ht j hj]
    exact hu

end Go.Proofs.Ytcnjogkgfdbhfaa
