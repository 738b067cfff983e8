/- The walk of the statement PlaceSimple: called with a tree it returns true and changes nothing that was there.
   Conditions: the tree lies in memory. -/
import Derived.Test.YtgjnflhpmbjffaaDoorMPof
import Derived.Test.YtgjnflhpmbjffaaDoorMPi
import Derived.Test.YtgjnflhpmbjffaaDoorMRefS
import Derived.Test.YtgjnflhpmbjffaaDoorMSim
import Derived.Deep.DeepCutAuto
import Derived.Deep.RegionHeld3
import Derived.StillTailTactics

/- The walk of the statement PlaceSimple: called with a tree it returns true and changes nothing that was there.
   Conditions: the tree lies in memory. -/
namespace Go.Proofs.YtgjnflhpmbjffaaDoor
open Go.RowKit Go.Shelf
attribute [local go_sem] nodeAgg
def pmE : PM := ⟨[], [], []⟩
structure POu (B : Nat) (w' : World) (o : Option PM) (s : T) (r : V) (sv cv av : Value) : Prop where
 tree : erase r = (match o with | none => noT | some _ => s)
 laid : Laid w' (fun x => x < w'.heap.size) r
 lists : MapL w' B (o.getD pmE) sv cv av
 ars : (o.getD pmE).ars.length = (o.getD pmE).sets.length
 sets : (o.getD pmE).sets.length ≤ 41
 scs : (o.getD pmE).scs.length ≤ 700000
def codeP (o : Option PM) : Int := if o.isSome then 0 else 3
theorem cls_at {w : World} {B n : Nat} {A : Option Addr} {c : Nat} {l : List (Nat → Nat)} (h : w.ownsRow B 24 4 (.slice A n c) l.length (l.flatMap cls4)) {i : Nat} {C : Nat → Nat} (hi : l[i]? = some C) :
  ∃ g, A = some ⟨g, 0, none⟩ ∧ g < w.heap.size ∧ w.cell? ⟨g, i * 4, none⟩ = some (.int .u64 (C 0 : Nat)) ∧ w.cell? ⟨g, i * 4 + 1, none⟩ = some (.int .u64 (C 1 : Nat)) ∧ w.cell? ⟨g, i * 4 + 2, none⟩ = some (.int .u64 (C 2 : Nat)) ∧ w.cell? ⟨g, i * 4 + 3, none⟩ = some (.int .u64 (C 3 : Nat)) := by
 have hl : i < l.length := (List.getElem?_eq_some_iff.1 hi).1
 obtain ⟨g, cap, hv, _, hg⟩ := h.form (by omega)
 simp only [Value.slice.injEq] at hv
 obtain ⟨rfl, rfl, rfl⟩ := hv
 have hx : ∀ j, j < 4 → (l.flatMap cls4)[i * 4 + j]? = (cls4 C)[j]? := by
  clear h hg
  intro j hj
  induction l generalizing i with
  | nil => simp at hi
  | cons a l ih =>
   rw [List.flatMap_cons]
   cases i with
   | zero =>
    obtain rfl : a = C := by simpa using hi
    rw [Nat.zero_mul, Nat.zero_add, List.getElem?_append_left (by show j < 4; omega)]
   | succ i =>
    rw [List.getElem?_append_right (by show 4 ≤ _; omega), show (i + 1) * 4 + j - (cls4 a).length = i * 4 + j by show _ - 4 = _; omega]
    exact ih (by simpa using hi) (by simp at hl; omega)
 refine ⟨g, rfl, hg, ?_, ?_, ?_, ?_⟩
 ·exact (h.cellAt (i * 4) (by omega)).trans (hx 0 (by omega))
 ·exact (h.cellAt (i * 4 + 1) (by omega)).trans (hx 1 (by omega))
 ·exact (h.cellAt (i * 4 + 2) (by omega)).trans (hx 2 (by omega))
 ·exact (h.cellAt (i * 4 + 3) (by omega)).trans (hx 3 (by omega))
theorem row_at {w : World} {B n : Nat} {A : Option Addr} {c : Nat} {k : Nat} {vs : List Value} (h : w.ownsRow B 35 1 (.slice A n c) k vs) {i : Nat} {v : Value} (hi : vs[i]? = some v) : ∃ g, A = some ⟨g, 0, none⟩ ∧ g < w.heap.size ∧ w.cell? ⟨g, i, none⟩ = some v := by
 have hl : i < vs.length := (List.getElem?_eq_some_iff.1 hi).1
 have h1 := h.1
 obtain ⟨g, cap, hv, _, hg⟩ := h.form (by omega)
 simp only [Value.slice.injEq] at hv
 obtain ⟨rfl, rfl, rfl⟩ := hv
 exact ⟨g, rfl, hg, (h.cellAt i (by omega)).trans hi⟩
end Go.Proofs.YtgjnflhpmbjffaaDoor
