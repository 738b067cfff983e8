/- The reader's cells in memory, what a call may change, and what the smallest calls of the reader come to.
   Conditions: those that each theorem states. -/
import Derived.Test.YtcnjogkgfdbhfaaCanon
import Derived.Deep.QuietTactic
import Derived.BigQuiet
import Derived.Lib.Hide
import Derived.IntWalk
namespace Go.Proofs.Ytcnjogkgfdbhfaa
open Go.RowKit

/-- The blocks that may have changed are of R; new ones may have come. -/
structure Chg (R : Nat → Prop) (w w' : World) : Prop where
  os : w'.os = w.os
  tape : w'.tape = w.tape
  output : w'.output = w.output
  size : w.heap.size ≤ w'.heap.size
  block : ∀ k, k < w.heap.size → ¬ R k → w'.heap[k]? = w.heap[k]?

theorem Chg.refl (R : Nat → Prop) (w : World) : Chg R w w := ⟨rfl, rfl, rfl, Nat.le_refl _, fun _ _ _ => rfl⟩
theorem Chg.trans {R R' : Nat → Prop} {a b c : World} (h : Chg R a b) (k : Chg R' b c) (hR : ∀ x, x < a.heap.size → R' x → R x) : Chg R a c :=
  ⟨k.os.trans h.os, k.tape.trans h.tape, k.output.trans h.output, Nat.le_trans h.size k.size, fun i hi hn => (k.block i (Nat.lt_of_lt_of_le hi h.size) (fun h' => hn (hR i hi h'))).trans (h.block i hi hn)⟩
theorem Chg.mono {R R' : Nat → Prop} {w w' : World} (h : Chg R w w') (hR : ∀ x, x < w.heap.size → R x → R' x) : Chg R' w w' := ⟨h.os, h.tape, h.output, h.size, fun k hk hn => h.block k hk (fun h' => hn (hR k hk h'))⟩
theorem Chg.alloc {R : Nat → Prop} {a w : World} (h : Chg R a w) (o : Obj) : Chg R a (w.alloc o) :=
  h.trans (R' := fun _ => False) ⟨rfl, rfl, rfl, by simp, fun k hk _ => Below.heap_alloc _ _ _ hk⟩ (fun _ _ h => h.elim)
theorem Chg.setCell {R : Nat → Prop} {a w : World} (h : Chg R a w) {p : Addr} (hp : p.block < a.heap.size → R p.block) (u : Value) : Chg R a (w.setCell p u) :=
  h.trans (R' := fun x => x = p.block) ⟨rfl, rfl, rfl, by simp [World.setCell], fun k _ hn => Below.heap_setCell _ _ _ _ hn⟩ (fun x hx e => by subst e; exact hp hx)
theorem Chg.drewN {R : Nat → Prop} {a w : World} (h : Chg R a w) (n : Nat) : Chg R a (w.drewN n) := ⟨h.os, h.tape, h.output, h.size, h.block⟩
theorem Chg.drew {R : Nat → Prop} {a w : World} (h : Chg R a w) : Chg R a w.drew := ⟨h.os, h.tape, h.output, h.size, h.block⟩
theorem Chg.of_below {R : Nat → Prop} {w w' : World} (h : Below w.heap.size w w') : Chg R w w' := ⟨h.os, h.tape, h.output, h.size, fun k hk _ => h.block k hk⟩
theorem Chg.below {R : Nat → Prop} {w w' : World} (h : Chg R w w') {B : Nat} (hB : B ≤ w.heap.size) (hR : ∀ k, k < B → ¬ R k) : Below B w w' := ⟨h.os, h.tape, h.output, h.size, fun k hk => h.block k (by omega) (hR k hk)⟩
theorem Chg.grown {R : Nat → Prop} {a w w' : World} {row : Option Nat} (h : Chg R a w) (hg : w.grownBy w' row) (hr : ∀ k, row = some k → k < a.heap.size → R k) : Chg R a w' :=
  h.trans (R' := fun x => row = some x) ⟨hg.os, hg.tape, hg.output, hg.size, fun k hk hn => hg.block k hk (fun e => hn e.symm)⟩ (fun x hx e => hr x e hx)
theorem Chg.cell {R : Nat → Prop} {w w' : World} (h : Chg R w w') {b : Nat} (o : Nat) (hb : b < w.heap.size) (hn : ¬ R b) : w'.cell? ⟨b, o, none⟩ = w.cell? ⟨b, o, none⟩ := World.cell?_of_block (w := w) (h.block b hb hn)
theorem Chg.frozen {R : Nat → Prop} {w w' : World} (h : Chg R w w') {b : Nat} (o : Nat) (hb : b < w.heap.size) (hn : ¬ R b) : w'.frozen? ⟨b, o, none⟩ = w.frozen? ⟨b, o, none⟩ := World.frozen?_of_block (w := w) (h.block b hb hn)
theorem Chg.grownBy {w w' : World} {b : Nat} (h : Chg (· = b) w w') : w.grownBy w' (some b) := ⟨h.os, h.tape, h.output, h.size, fun k hk hn => h.block k hk (fun e => hn (by rw [e]))⟩

/-- The text's bytes, as numbers. -/
def txt (s : ByteArray) : List Nat := s.data.toList.map UInt8.toNat
theorem txt_length (s : ByteArray) : (txt s).length = s.size := by unfold txt; rw [List.length_map]; rfl
/-- From place k on the text is r. -/
def Tl (s : ByteArray) (k : Nat) (r : List Nat) : Prop := k + r.length = s.size ∧ (txt s).drop k = r
theorem Tl.start (s : ByteArray) : Tl s 0 (txt s) := ⟨by rw [txt_length]; omega, by simp⟩
theorem Tl.nil {s : ByteArray} {k : Nat} (h : Tl s k []) : k = s.size := by have := h.1; simpa using this
theorem Tl.lt {s : ByteArray} {k b : Nat} {r : List Nat} (h : Tl s k (b :: r)) : k < s.size := by have := h.1; simp at this; omega
theorem Tl.at {s : ByteArray} {k b : Nat} {r : List Nat} (h : Tl s k (b :: r)) : (s[k]'h.lt).toNat = b := by
  have h1 := h.2
  have h2 : (txt s)[k]? = some b := by
    have := congrArg (fun l : List Nat => l[0]?) h1
    simpa using this
  unfold txt at h2
  rw [List.getElem?_map] at h2
  have h3 : s.data.toList[k]? = some (s[k]'h.lt) := by
    rw [List.getElem?_eq_getElem (by simpa using h.lt)]; rfl
  rw [h3] at h2
  simpa using h2
theorem Tl.tail {s : ByteArray} {k b : Nat} {r : List Nat} (h : Tl s k (b :: r)) : Tl s (k + 1) r := by
  refine ⟨by have := h.1; simp at this; omega, ?_⟩
  have := congrArg (fun l : List Nat => l.drop 1) h.2
  simpa using this
theorem Tl.byte {s : ByteArray} {k b : Nat} {r : List Nat} (h : Tl s k (b :: r)) : b < 256 := by
  rw [← h.at]; exact (s[k]'h.lt).toNat_lt

structure Rd (w : World) (rb : Nat) (s : ByteArray) (k : Nat) (op : Value) : Prop where
  lt : rb < w.heap.size
  text : w.cell? ⟨rb, 0, none⟩ = some (.string s)
  pos : w.cell? ⟨rb, 1, none⟩ = some (.int .i64 k)
  opn : w.cell? ⟨rb, 2, none⟩ = some op
  frz : ∀ o, w.frozen? ⟨rb, o, none⟩ = false
theorem Rd.keep {R : Nat → Prop} {w w' : World} {rb k : Nat} {s : ByteArray} {op : Value} (h : Rd w rb s k op) (hc : Chg R w w') (hn : ¬ R rb) : Rd w' rb s k op :=
  ⟨Nat.lt_of_lt_of_le h.lt hc.size, (hc.cell _ h.lt hn).trans h.text, (hc.cell _ h.lt hn).trans h.pos, (hc.cell _ h.lt hn).trans h.opn, fun o => (hc.frozen _ h.lt hn).trans (h.frz o)⟩
theorem Rd.step {w : World} {rb k : Nat} {s : ByteArray} {op : Value} (h : Rd w rb s k op) (k' : Nat) {v : Value} (hv : v = .int .i64 k') : Rd (w.setCell ⟨rb, 1, none⟩ v) rb s k' op := by
  subst hv
  exact ⟨by simp [World.setCell]; exact h.lt, by rw [World.cell?_setCell_other (h := addr_ne (.inr (by decide)))]; exact h.text, World.cell?_setCell_same _ _ _ h.pos, by rw [World.cell?_setCell_other (h := addr_ne (.inr (by decide)))]; exact h.opn, fun o => by simp [h.frz o]⟩
theorem Rd.reopen {w : World} {rb k : Nat} {s : ByteArray} {op : Value} (h : Rd w rb s k op) (op' : Value) : Rd (w.setCell ⟨rb, 2, none⟩ op') rb s k op' := by
  exact ⟨by simp [World.setCell]; exact h.lt, by rw [World.cell?_setCell_other (h := addr_ne (.inr (by decide)))]; exact h.text, by rw [World.cell?_setCell_other (h := addr_ne (.inr (by decide)))]; exact h.pos, World.cell?_setCell_same _ _ _ h.opn, fun o => by simp [h.frz o]⟩

/-- What a call of the reader leaves: its cells, and that nothing else has changed. -/
def Af (w : World) (rb : Nat) (s : ByteArray) (op : Value) (k : Nat) (w' : World) : Prop := Rd w' rb s k op ∧ Chg (· = rb) w w'
theorem Af.refl {w : World} {rb k : Nat} {s : ByteArray} {op : Value} (h : Rd w rb s k op) : Af w rb s op k w := ⟨h, Chg.refl _ _⟩
theorem Af.trans {a b c : World} {rb k k' : Nat} {s : ByteArray} {op : Value} (h : Af a rb s op k b) (h' : Af b rb s op k' c) : Af a rb s op k' c := ⟨h'.1, h.2.trans h'.2 fun _ _ e => e⟩
theorem Af.drewN {a b : World} {rb k : Nat} {s : ByteArray} {op : Value} (h : Af a rb s op k b) (n : Nat) : Af a rb s op k (b.drewN n) := ⟨h.1.keep ((Chg.refl (fun _ => False) _).drewN n) id, h.2.drewN n⟩
theorem Af.step {a b : World} {rb k : Nat} {s : ByteArray} {op : Value} (h : Af a rb s op k b) (k' : Nat) {v : Value} (hv : v = .int .i64 k') : Af a rb s op k' (b.setCell ⟨rb, 1, none⟩ v) := ⟨h.1.step k' hv, h.2.setCell (fun _ => rfl) _⟩
theorem Af.alloc {a b : World} {rb k : Nat} {s : ByteArray} {op : Value} (h : Af a rb s op k b) (o : Obj) : Af a rb s op k (b.alloc o) := ⟨h.1.keep ((Chg.refl (fun _ => False) _).alloc o) id, h.2.alloc o⟩
theorem Af.keep {R : Nat → Prop} {a b c : World} {rb k : Nat} {s : ByteArray} {op : Value} (h : Af a rb s op k b) (hc : Chg R b c) (hR : ∀ x, x < a.heap.size → ¬ R x) (hr : rb < a.heap.size) : Af a rb s op k c :=
  ⟨h.1.keep hc (hR rb hr), h.2.trans hc fun x hx e => absurd e (hR x hx)⟩
theorem Af.lt {a b : World} {rb k : Nat} {s : ByteArray} {op : Value} (h : Af a rb s op k b) : rb < b.heap.size := h.1.lt

end Go.Proofs.Ytcnjogkgfdbhfaa
