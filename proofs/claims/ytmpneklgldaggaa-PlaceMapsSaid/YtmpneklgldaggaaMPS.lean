/- The walk of the statement PlaceSimple: called with a tree it returns true and changes nothing that was there.
   Conditions: the tree lies in memory. -/
import Derived.Test.YtmpneklgldaggaaMPof
import Derived.Test.YtmpneklgldaggaaMPi
import Derived.Test.YtmpneklgldaggaaMRefS
import Derived.Test.YtmpneklgldaggaaMSim
import Derived.Deep.DeepCutAuto
import Derived.Deep.RegionHeld3
import Derived.StillTailTactics

/- The walk of the statement PlaceSimple: called with a tree it returns true and changes nothing that was there.
   Conditions: the tree lies in memory. -/
namespace Go.Proofs.Ytmpneklgldaggaa
open Go.RowKit Go.Shelf
attribute [local go_sem] nodeAgg

def pmE : PM := ⟨[], [], []⟩
/-- A map that was handed out, or none: in one form. -/
structure POu (B : Nat) (w' : World) (o : Option PM) (s : T) (r : V) (sv cv av : Value) : Prop where
  tree : erase r = (match o with | none => noT | some _ => s)
  laid : Laid w' (fun x => x < w'.heap.size) r
  lists : MapL w' B (o.getD pmE) sv cv av
  ars : (o.getD pmE).ars.length = (o.getD pmE).sets.length
  sets : (o.getD pmE).sets.length ≤ 41
  scs : (o.getD pmE).scs.length ≤ 700000
def codeP (o : Option PM) : Int := if o.isSome then 0 else 3
theorem of_uni (t : V) (w : World) (R : Nat → Prop) (ht : Laid w R t) (hz : szT (erase t) ≤ 300000) (hok : okT (erase t) = true) :
    Calls Try.prog 12 #[nodeAgg t] w fun e w' => (∃ (r : V) (pt : Option Addr) (ptn ptc : Nat) (pA : Option Addr) (pN pC : Nat) (pcA : Option Addr) (pcN pcC : Nat) (paA : Option Addr) (paN paC : Nat), POu w.heap.size w' (mapT (simT (erase t))) (simT (erase t)) r (.slice pA pN pC) (.slice pcA pcN pcC) (.slice paA paN paC) ∧ r.v = .slice pt ptn ptc ∧ e = .returned (.tuple #[.agg #[.int .i64 r.kind, .int .u64 (r.set 0 : Nat), .int .u64 (r.set 1 : Nat), .int .u64 (r.set 2 : Nat), .int .u64 (r.set 3 : Nat), .slice pt ptn ptc, .int .i64 r.lo, .int .i64 r.hi, .slice pA pN pC, .slice pcA pcN pcC, .slice paA paN paC], .int .i64 (codeP (mapT (simT (erase t))))])) ∧ Below w.heap.size w w' := by
  refine (of_good t w R ht hz hok).mono ?_
  rintro e w' ⟨h, hb⟩
  refine ⟨?_, hb⟩
  rcases h with ⟨m, r, ta, tn, tc, sA, sN, sC, cA, cN, cC, aA, aN, aC, hR, hv, rfl⟩ | ⟨hm, rfl⟩
  · refine ⟨r, ta, tn, tc, sA, sN, sC, cA, cN, cC, aA, aN, aC, ⟨?_, ?_, ?_, ?_, ?_, ?_⟩, hv, ?_⟩
    · rw [hR.some]; exact hR.tree
    · exact hR.res.laid.mono fun b hb _ => hb
    · rw [hR.some]; exact hR.lists
    · rw [hR.some]; exact hR.ars
    · rw [hR.some]; exact hR.sets
    · rw [hR.some]; exact hR.scs
    · rw [hR.some]; rfl
  · refine ⟨zeroV, none, 0, 0, none, 0, 0, none, 0, 0, none, 0, 0, ⟨?_, ?_, ?_, ?_, ?_, ?_⟩, rfl, ?_⟩
    · rw [hm]; rfl
    · exact zeroV_laid _ _
    · rw [hm]; exact ⟨World.ownsRow_nil _ _ _ _, World.ownsRow_nil _ _ _ _, [], World.ownsRow_nil _ _ _ _, fun i l hl => by simp [pmE] at hl⟩
    · rw [hm]; rfl
    · rw [hm]; simp [pmE]
    · rw [hm]; simp [pmE]
    · rw [hm]; rfl

theorem cls_at {w : World} {B n : Nat} {A : Option Addr} {c : Nat} {l : List (Nat → Nat)} (h : w.ownsRow B 24 4 (.slice A n c) l.length (l.flatMap cls4)) {i : Nat} {C : Nat → Nat} (hi : l[i]? = some C) :
    ∃ g, A = some ⟨g, 0, none⟩ ∧ g < w.heap.size ∧ w.cell? ⟨g, i * 4, none⟩ = some (.int .u64 (C 0 : Nat)) ∧ w.cell? ⟨g, i * 4 + 1, none⟩ = some (.int .u64 (C 1 : Nat)) ∧ w.cell? ⟨g, i * 4 + 2, none⟩ = some (.int .u64 (C 2 : Nat)) ∧ w.cell? ⟨g, i * 4 + 3, none⟩ = some (.int .u64 (C 3 : Nat)) := by
  have hl : i < l.length := (List.getElem?_eq_some_iff.1 hi).1
  obtain ⟨g, cap, hv, _, hg⟩ := h.form (by omega)
  simp only [Value.slice.injEq] at hv
  obtain ⟨rfl, rfl, rfl⟩ := hv
  have hx : ∀ j, j < 4 → (l.flatMap cls4)[i * 4 + j]? = (cls4 C)[j]? := by
    clear h hg
    intro j hj
    induction l generalizing i with
    | nil => simp at hi
    | cons a l ih =>
      rw [List.flatMap_cons]
      cases i with
      | zero =>
        obtain rfl : a = C := by simpa using hi
        rw [Nat.zero_mul, Nat.zero_add, List.getElem?_append_left (by show j < 4; omega)]
      | succ i =>
        rw [List.getElem?_append_right (by show 4 ≤ _; omega), show (i + 1) * 4 + j - (cls4 a).length = i * 4 + j by show _ - 4 = _; omega]
        exact ih (by simpa using hi) (by simp at hl; omega)
  refine ⟨g, rfl, hg, ?_, ?_, ?_, ?_⟩
  · exact (h.cellAt (i * 4) (by omega)).trans (hx 0 (by omega))
  · exact (h.cellAt (i * 4 + 1) (by omega)).trans (hx 1 (by omega))
  · exact (h.cellAt (i * 4 + 2) (by omega)).trans (hx 2 (by omega))
  · exact (h.cellAt (i * 4 + 3) (by omega)).trans (hx 3 (by omega))
theorem row_at {w : World} {B n : Nat} {A : Option Addr} {c : Nat} {k : Nat} {vs : List Value} (h : w.ownsRow B 44 1 (.slice A n c) k vs) {i : Nat} {v : Value} (hi : vs[i]? = some v) : ∃ g, A = some ⟨g, 0, none⟩ ∧ g < w.heap.size ∧ w.cell? ⟨g, i, none⟩ = some v := by
  have hl : i < vs.length := (List.getElem?_eq_some_iff.1 hi).1
  have h1 := h.1
  obtain ⟨g, cap, hv, _, hg⟩ := h.form (by omega)
  simp only [Value.slice.injEq] at hv
  obtain ⟨rfl, rfl, rfl⟩ := hv
  exact ⟨g, rfl, hg, (h.cellAt i (by omega)).trans hi⟩
/-- Ahead of a round. -/
def PSI (w : World) (N n : Nat) (x : Value) (wr : World) : Prop := ∃ i : Nat, x = .int .i64 i ∧ n = N - i ∧ i ≤ N ∧ Below w.heap.size w wr
end Go.Proofs.Ytmpneklgldaggaa
