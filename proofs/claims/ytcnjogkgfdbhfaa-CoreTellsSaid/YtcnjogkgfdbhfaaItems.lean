/- What the reader's calls that read the bytes of an atom come to: contracts.
   Conditions: the reader's cells are as 'Rd' says, and the text is no longer than memory may be. -/
import Derived.Test.YtcnjogkgfdbhfaaItem
namespace Go.Proofs.Ytcnjogkgfdbhfaa
open Go.RowKit
attribute [local go_sem] byteOk byteEr clsOk clsEr

theorem canon_false (j : Nat) (h : j < 4) : canon (fun _ => false) j = 0 := by
  have e := same_canon (C := zeros) (S := fun _ => false) (fun _ => by unfold zeros; omega) (fun b _ => by unfold hasB zeros; simp)
  match j, h with
  | 0, _ => exact e.1.symm
  | 1, _ => exact e.2.1.symm
  | 2, _ => exact e.2.2.1.symm
  | 3, _ => exact e.2.2.2.symm
def pbrack (r : List Nat) : Out (Nat → Bool) := if r.head? = some 94 then (match pitems true (fun _ => false) r.tail with
    | .ok S r' => .ok (fun x => !S x) r'
    | .er r' c => .er r' c) else pitems true (fun _ => false) r
theorem pitems_end (S : Nat → Bool) (r : List Nat) : pitems false S (93 :: r) = .ok S r := by rw [pitems, if_pos ⟨rfl, rfl⟩]; rfl
theorem pitems_more {first : Bool} {S : Nat → Bool} {r : List Nat} (h : ¬ (first = false ∧ r.head? = some 93)) : pitems first S r = match pitem r with
    | .er r' c => .er r' c
    | .ok T r' => pitems false (fun x => S x || T x) r' := by
  rw [pitems, if_neg h]
  cases pitem r <;> rfl
theorem Cells.keep {w w' : World} {b : Nat} {C : Nat → Nat} {R : Nat → Prop} (h : Cells w b C) (hc : Chg R w w') (hn : ¬ R b) : Cells w' b C := fun j hj => (hc.cell j h.lt hn).trans (h j hj)
theorem Free.keep {w w' : World} {b : Nat} {R : Nat → Prop} (h : Free w b) (hl : b < w.heap.size) (hc : Chg R w w') (hn : ¬ R b) : Free w' b := fun j hj => (hc.frozen j hl hn).trans (h j hj)
theorem store4_af {a b : World} {rb k : Nat} {s : ByteArray} {op : Value} (h : Af a rb s op k b) {B : Nat} (hp : a.heap.size ≤ B) (hr : rb < a.heap.size) (C : Nat → Nat) : Af a rb s op k (store4 b B C) :=
  (((h.store hp hr _).store hp hr _).store hp hr _).store hp hr _
theorem Cells.to {w : World} {b : Nat} {S : Nat → Bool} (h : Cells w b zeros) (hS : ∀ x, S x = false) : Cells w b (canon S) := fun j hj => by
  have : S = fun _ => false := funext hS
  rw [h j hj, this, canon_false j hj]
  rfl

theorem pitem_er_two {r r' : List Nat} {c : Nat} (h : pitem r = .er r' c) : c = 2 := by
  unfold pitem at h
  split at h
  · rename_i hx; injection h with _ h; have := pplain_two hx; omega
  · split at h
    · split at h
      · rename_i hx; injection h with _ h; have := pplain_two hx; omega
      · split at h
        · injection h with _ h; omega
        · cases h
    · cases h

end Go.Proofs.Ytcnjogkgfdbhfaa
