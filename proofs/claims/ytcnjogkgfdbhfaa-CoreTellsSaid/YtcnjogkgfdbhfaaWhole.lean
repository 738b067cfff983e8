/- What the reader comes to on a whole text: a contract.
   Conditions: the text has at most 400 bytes. -/
import Derived.Test.YtcnjogkgfdbhfaaStep
namespace Go.Proofs.Ytcnjogkgfdbhfaa
open Go.RowKit

theorem prun_nil (g : G) : prun g [] [] = .ok (shutT g) [] := by rw [prun]
theorem prun_open (g p : G) (ps : List G) : prun g (p :: ps) [] = .er [] 2 := by rw [prun]
theorem prun_cons (g : G) (frs : List G) (b : Nat) (r : List Nat) : prun g frs (b :: r) = match pstep g frs (b :: r) with
    | .er r' c => .er r' c
    | .ok x r' => prun x.1 x.2 r' := by
  rw [prun]
  cases pstep g frs (b :: r) <;> rfl

/-- What the reader comes to. -/
def Read (o : Out T) (w : World) (rb : Nat) (s : ByteArray) (e : Ending) (w' : World) : Prop :=
  match o with
  | .ok t _ => ∃ (v : V) (sa : Option Addr) (sn sc : Nat), v.v = .slice sa sn sc ∧ e = .returned (.tuple #[.agg #[.int .i64 v.kind, .int .u64 (v.set 0 : Nat), .int .u64 (v.set 1 : Nat), .int .u64 (v.set 2 : Nat), .int .u64 (v.set 3 : Nat), .slice sa sn sc, .int .i64 v.lo, .int .i64 v.hi], .int .i64 0]) ∧ erase v = t ∧ Laid w' (fun b => w.heap.size ≤ b) v ∧ Chg (· = rb) w w'
  | .er r c => (c = 2 ∨ c = 3) ∧ e = .returned (.tuple #[.agg #[.int .i64 0, .int .u64 0, .int .u64 0, .int .u64 0, .int .u64 0, .slice none 0 0, .int .i64 0, .int .i64 0], .int .i64 c]) ∧ Chg (· = rb) w w' ∧ ∃ k op, Rd w' rb s k op ∧ Tl s k r

/-- The cells of the result, while the reader reads. -/
theorem res_cells {w : World} {B : Nat} (h : w.heap[B]? = some (.cells zcells 27 (0, 0))) : (w.cell? ⟨B, 0, none⟩ = some (.int .i64 0) ∧ w.cell? ⟨B, 1, none⟩ = some (.int .u64 0) ∧ w.cell? ⟨B, 2, none⟩ = some (.int .u64 0) ∧ w.cell? ⟨B, 3, none⟩ = some (.int .u64 0)) ∧
    (w.cell? ⟨B, 4, none⟩ = some (.int .u64 0) ∧ w.cell? ⟨B, 5, none⟩ = some (.slice none 0 0) ∧ w.cell? ⟨B, 6, none⟩ = some (.int .i64 0) ∧ w.cell? ⟨B, 7, none⟩ = some (.int .i64 0)) ∧ ∀ j, w.frozen? ⟨B, j, none⟩ = false := by
  obtain ⟨h1, h2⟩ := row_cells h
  exact ⟨⟨h1 0, h1 1, h1 2, h1 3⟩, ⟨h1 4, h1 5, h1 6, h1 7⟩, h2⟩
theorem Bel.res {w w' : World} {B rb : Nat} {o : Obj} (h : Bel (B + 1) rb w w') (hB : B < w.heap.size) (hne : B ≠ rb) (he : w.heap[B]? = some o) : w'.heap[B]? = some o := (Chg.block h B hB (by rintro (e | e) <;> omega)).trans he

end Go.Proofs.Ytcnjogkgfdbhfaa
