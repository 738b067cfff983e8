/- What the reader's calls that read numbers, and how often something is repeated, come to: contracts.
   Conditions: the reader's cells are as 'Rd' says, and the text is no longer than memory may be. -/
import Derived.Test.YtcnjogkgfdbhfaaLex
namespace Go.Proofs.Ytcnjogkgfdbhfaa
open Go.RowKit

def numOk (a : Nat) : Value := .tuple #[.int .i64 a, .int .i64 0]
def numEr (c : Nat) : Value := .tuple #[.int .i64 0, .int .i64 c]
attribute [local go_sem] numOk numEr
def posOf (rb : Nat) (w : World) : Nat := match w.cell? ⟨rb, 1, none⟩ with
  | some (.int _ q) => q.toNat
  | _ => 0
theorem posOf_rd {w : World} {rb k : Nat} {s : ByteArray} {op : Value} (h : Rd w rb s k op) : posOf rb w = k := by
  unfold posOf; rw [h.pos]; simp
def Seen (r : List Nat) (b ok : Value) : Prop := (r = [] ∧ b = .int .u8 0 ∧ ok = .bool false) ∨ ∃ c t, r = c :: t ∧ b = .int .u8 c ∧ ok = .bool true
theorem digs_nil (n : Nat) : digs [] n = (n, []) := by unfold digs; rfl
theorem digs_dig {b : Nat} (r : List Nat) (n : Nat) (h : 48 ≤ b ∧ b ≤ 57) : digs (b :: r) n = digs r (min (10 * n + (b - 48)) 2147483648) := by
  rw [digs, if_pos h]
theorem digs_not {b : Nat} (r : List Nat) (n : Nat) (h : ¬ (48 ≤ b ∧ b ≤ 57)) : digs (b :: r) n = (n, b :: r) := by
  rw [digs, if_neg h]

theorem min_lo {m c : Nat} (h1 : 48 ≤ c) (h2 : c ≤ 57) (h : 10 * m + (c - 48) ≤ 2147483648) : ((min (10 * m + (c - 48)) 2147483648 : Nat) : Int) = 10 * (m : Int) + ((c : Int) - 48) := by
  rw [Nat.min_eq_left h]; omega
theorem min_hi {m c : Nat} (h : ¬ 10 * m + (c - 48) ≤ 2147483648) : ((min (10 * m + (c - 48)) 2147483648 : Nat) : Int) = 2147483648 := by
  rw [Nat.min_eq_right (by omega)]; rfl
/-- Behind the digits: what number answers. -/
theorem number_out {r r' : List Nat} {m i k : Nat} {s : ByteArray} (hd : digs r 0 = (m, r')) (hti : Tl s i r') (ht : Tl s k r) :
    pnumber r = if i = k then .er r 2 else if 2147483647 < m then .er r 3 else .ok m r' := by
  unfold pnumber
  rw [hd]
  have h1 := hti.1
  have h2 := ht.1
  have e : (r'.length = r.length) = (i = k) := propext ⟨fun h => by omega, fun h => by omega⟩
  simp only [e]

end Go.Proofs.Ytcnjogkgfdbhfaa
