/- The contract of the document's own Parts: of a list of classes the row of the classes of its numbering, one behind the other.
   Conditions: classes are four words below 2^64 ('Cl'), in a row of memory as they are read; fewer than 64 of them. -/
import Derived.Test.YtbppofhjlgfbiaaRefFacts
import Derived.Deep.DeepCutAuto
namespace Go.Proofs.Ytbppofhjlgfbiaa
open Go.RowKit
attribute [local go_sem ↓] Go.wp_at_zero Go.wp_at_succ

def RP (r : Nat → Nat → Bool) (w : World) (D : Nat) (v : Value) (a : Nat) (wr : World) : Prop :=
  wr.ownsRow w.heap.size 26 4 v (news r a) (rowsOf (partOf r) (news r a)) ∧ Bools wr D (doneAt r a) ∧ BFree wr D ∧ w.heap.size ≤ D ∧ v.ownBlock ≠ some D ∧ Below w.heap.size w wr
/-- In the midst of a byte's round: besides, the bytes of its part. -/
def RI (r : Nat → Nat → Bool) (w : World) (D I : Nat) (v : Value) (a b : Nat) (wr : World) : Prop :=
  wr.ownsRow w.heap.size 26 4 v (news r a) (rowsOf (partOf r) (news r a)) ∧ MW w D I (doneTo r a b) (partTo r a b) wr ∧ v.ownBlock ≠ some D ∧ v.ownBlock ≠ some I

theorem RP.start {r : Nat → Nat → Bool} (w : World) : RP r w w.heap.size (.slice none 0 0) 0 (w.alloc (.cells (Array.replicate 256 (.bool false)) 39)) :=
  ⟨World.ownsRow_nil _ _ _ _, (bools_new w).congr (fun i _ => by unfold doneAt; simp), bfree_new w, Nat.le_refl _, by simp [Value.ownBlock], below_alloc w _⟩
theorem RP.inner {r : Nat → Nat → Bool} (hr : Alike r) {w wr : World} {D a : Nat} {v : Value} (h : RP r w D v a wr) :
    RI r w D wr.heap.size v a a (wr.alloc (.cells (Array.replicate 256 (.bool false)) 39)) := by
  obtain ⟨h1, h2, h3, h4, h5, h6⟩ := h
  have hb := below_alloc wr (.cells (Array.replicate 256 (.bool false)) 39)
  refine ⟨h1.alloc _, ⟨(h2.below hb).congr (fun x _ => done_start hr a x), h3.below h2.lt hb, (bools_new wr).congr (fun x _ => part_start hr a x), bfree_new wr, h4, h2.lt, h6.alloc h6.size _⟩, h5, fun e => ?_⟩
  have := (h1.lt _ e).2
  omega
theorem RI.hit {r : Nat → Nat → Bool} {w wr : World} {D I a b : Nat} {v : Value} (hb : fst r b = a) (h : RI r w D I v a b wr) :
    RI r w D I v a (b + 1) ((wr.setCell ⟨I, b, none⟩ (.bool true)).setCell ⟨D, b, none⟩ (.bool true)) := by
  obtain ⟨h1, h2, h3, h4⟩ := h
  refine ⟨(h1.kept (grown_put _ _ _) (.inr h4)).kept (grown_put _ _ _) (.inr h3), ?_, h3, h4⟩
  exact (h2.put2 (q := b)).put1 (q := b) |>.congr (fun x _ => done_hit hb x) (fun x _ => part_hit hb x)
theorem RI.miss {r : Nat → Nat → Bool} {w wr : World} {D I a b : Nat} {v : Value} (hb : ¬ fst r b = a) (h : RI r w D I v a b wr) : RI r w D I v a (b + 1) wr :=
  ⟨h.1, h.2.1.congr (fun x _ => done_miss hb x) (fun x _ => part_miss hb x), h.2.2⟩
theorem MW.below {w wr w' : World} {b7 b8 : Nat} {s1 s2 : Nat → Bool} (h : MW w b7 b8 s1 s2 wr) (hb : Below wr.heap.size wr w') : MW w b7 b8 s1 s2 w' :=
  ⟨h.1.below hb, h.2.1.below h.1.lt hb, h.2.2.1.below hb, h.2.2.2.1.below h.2.2.1.lt hb, h.2.2.2.2.1, h.2.2.2.2.2.1, keep_from hb h.2.2.2.2.2.2 h.2.2.2.2.2.2.size⟩
theorem RI.below {r : Nat → Nat → Bool} {w wr w' : World} {D I a b : Nat} {v : Value} (h : RI r w D I v a b wr) (hb : Below wr.heap.size wr w') : RI r w D I v a b w' :=
  ⟨own_kept h.1 hb, h.2.1.below hb, h.2.2⟩
theorem RP.old {r : Nat → Nat → Bool} (hr : Alike r) {w wr : World} {D a : Nat} {v : Value} (hn : ¬ fst r a = a) (h : RP r w D v a wr) : RP r w D v (a + 1) wr := by
  obtain ⟨h1, h2, h3⟩ := h
  have e : news r (a + 1) = news r a := by rw [news_succ, if_neg hn]; rfl
  exact ⟨by rw [e]; exact h1, h2.congr (fun x _ => done_old hn x hr), h3⟩

end Go.Proofs.Ytbppofhjlgfbiaa
