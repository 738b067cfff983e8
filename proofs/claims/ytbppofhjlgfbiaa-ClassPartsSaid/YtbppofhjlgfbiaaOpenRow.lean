/- How a list of classes among the arguments is opened: a row of memory, four words below 2^64 for each.
   Conditions: none but the reading itself. -/
import Derived.Test.YtbppofhjlgfbiaaOpen
import Derived.Test.YtbppofhjlgfbiaaMembers
import Derived.Deep.Slices
namespace Go.Proofs.Ytbppofhjlgfbiaa
open Go.ChangeShapes Go.WideShapes Go.ChangeAt Go.RowKit Go.Deep

variable {H : Type} {enc : TypeId × Value → H} {W : World}
theorem class_cells {base : Nat} {spare : Nat → Bool} {held : Bool} {fuel : Nat} {cs : List Value} {x : DataW H × List MemPlace} (hl : cs.length = 4) (h : DataW.trod enc Try.prog W base spare held fuel 26 cs = some x) :
    ∃ C : Nat → Nat, Cl C ∧ ∀ j, j < 4 → cs[j]? = some (.int .u64 (C j : Nat)) := by
  obtain ⟨c0, c1, c2, c3, rfl⟩ := list4 cs hl
  obtain ⟨y0, y1, y2, y3, m, _, hy0, hy1, hy2, hy3⟩ := trod_array4 Try.underlying26 cells24' h
  obtain ⟨x0, e0, _, w0⟩ := DataW.trod_int Try.underlying24 hy0
  obtain ⟨x1, e1, _, w1⟩ := DataW.trod_int Try.underlying24 hy1
  obtain ⟨x2, e2, _, w2⟩ := DataW.trod_int Try.underlying24 hy2
  obtain ⟨x3, e3, _, w3⟩ := DataW.trod_int Try.underlying24 hy3
  simp at e0 e1 e2 e3
  subst e0 e1 e2 e3
  have k0 := bounds_u64 w0
  have k1 := bounds_u64 w1
  have k2 := bounds_u64 w2
  have k3 := bounds_u64 w3
  refine ⟨words x0 x1 x2 x3, Cl_words k0.2 k1.2 k2.2 k3.2, fun j hj => ?_⟩
  match j, hj with
  | 0, _ => simp [words, cast_toNat k0.1]
  | 1, _ => simp [words, cast_toNat k1.1]
  | 2, _ => simp [words, cast_toNat k2.1]
  | 3, _ => simp [words, cast_toNat k3.1]

theorem Cl_zero : Cl (fun _ => 0) := fun _ => by show (0 : Nat) < 18446744073709551616; decide

theorem open_classes {base : Nat} {spare : Nat → Bool} {held : Bool} {A : Option Addr} {n cap : Nat} {d : DataW H} {p : List MemPlace} (h : DataW.Trod enc Try.prog W base spare held 22 (.slice A n cap) d p) :
    ∃ L : Nat → Nat → Nat, ClassRow W A n L ∧ (∀ t, Cl (L t)) ∧ n ≤ cap := by
  obtain ⟨fuel, hf⟩ := h
  rcases open_slice Try.underlying22 hf with ⟨hcs, _⟩ | ⟨a, l, c, m, k, D, Pl, hcs, _, hl, _, hmm, _, hi⟩
  · simp [Value.cells] at hcs
    obtain ⟨rfl, rfl, rfl⟩ := hcs
    exact ⟨fun _ _ => 0, fun h => by omega, fun _ => Cl_zero, Nat.le_refl _⟩
  · simp [Value.cells] at hcs
    obtain ⟨rfl, rfl, rfl⟩ := hcs
    have hlm : n ≤ m := by rw [hmm]; split <;> omega
    rw [cells26] at hi
    have hall : ∀ i, ∃ C : Nat → Nat, Cl C ∧ (i < n → ∀ j, j < 4 → W.cell? (a.add (i * 4 + j)) = some (.int .u64 (C j : Nat))) := fun i => by
      by_cases hin : i < n
      · obtain ⟨cs', hc, ht⟩ := hi i (by omega)
        obtain ⟨_, hcl, hat⟩ := World.cells?_some hc
        obtain ⟨C, hC, hj⟩ := class_cells hcl ht
        refine ⟨C, hC, fun _ j h4 => ?_⟩
        rw [← Go.Deep.add_add, hat j h4, hj j h4]
      · exact ⟨fun _ => 0, Cl_zero, fun h => absurd h hin⟩
    obtain ⟨L, hL⟩ := Classical.axiomOfChoice hall
    refine ⟨L, fun h0 => ?_, fun t => (hL t).1, hl⟩
    obtain ⟨b, off, spot⟩ := a
    have hc := (hL 0).2 h0 0 (by decide)
    have hspot : spot = none := by simpa [Addr.add] using World.cell?_spot hc
    subst hspot
    refine ⟨b, off, rfl, World.block_lt_of_cell? _ _ hc, fun t ht j hj => ?_⟩
    have := (hL t).2 ht j hj
    rw [Addr.add_mid, ← Nat.add_assoc] at this
    exact this

end Go.Proofs.Ytbppofhjlgfbiaa
