/- What lies in memory while the parts are found one by one: the list so far, which bytes are done, which are in the part.
   Conditions: those that the theorems state. -/
import Derived.Test.YtbppofhjlgfbiaaTogether
import Derived.Test.YtbppofhjlgfbiaaMakesWalk
namespace Go.Proofs.Ytbppofhjlgfbiaa
open Go.RowKit

theorem grown_put (w : World) (a : Addr) (u : Value) : w.grownBy (w.setCell a u) (some a.block) :=
  ⟨rfl, rfl, rfl, by simp, fun k _ hk => heap_setCell_other w a k u (fun e => hk (by rw [e]))⟩

theorem new_like {r : Nat → Nat → Bool} (h : Alike r) {a b : Nat} (hn : fst r a = a) : (r a b = true) ↔ fst r b = a := by
  constructor
  · intro e
    rw [← fst_eq h e, hn]
  · intro e
    have := (fst_spec h b).2.1
    rwa [e] at this
theorem new_part {r : Nat → Nat → Bool} (h : Alike r) {a x : Nat} (hn : fst r a = a) : (fst r x == a) = (nm r x == news r a) := by
  rw [Bool.eq_iff_iff]
  simp only [beq_iff_eq]
  rw [← nm_new a hn]
  constructor
  · intro e
    exact (nm_eq h ((new_like h hn).2 e)).symm
  · intro e
    exact (new_like h hn).1 (alike_of_nm h e.symm)

/-- The bytes done when the byte a has been taken up to b; the bytes of its part up to b. -/
def doneTo (r : Nat → Nat → Bool) (a b x : Nat) : Bool := decide (fst r x < a) || (fst r x == a && decide (x < b))
def partTo (r : Nat → Nat → Bool) (a b x : Nat) : Bool := fst r x == a && decide (x < b)
def doneAt (r : Nat → Nat → Bool) (a x : Nat) : Bool := decide (fst r x < a)
theorem done_start {r : Nat → Nat → Bool} (h : Alike r) (a x : Nat) : doneAt r a x = doneTo r a a x := by
  unfold doneAt doneTo
  have := (fst_spec h x).1
  rw [Bool.eq_iff_iff]
  simp
  omega
theorem part_start {r : Nat → Nat → Bool} (h : Alike r) (a x : Nat) : false = partTo r a a x := by
  unfold partTo
  have := (fst_spec h x).1
  rw [Bool.eq_iff_iff]
  simp
  omega
theorem done_hit {r : Nat → Nat → Bool} {a b : Nat} (hb : fst r b = a) (x : Nat) : (doneTo r a b x || x == b) = doneTo r a (b + 1) x := by
  unfold doneTo
  rw [Bool.eq_iff_iff]
  simp
  constructor
  · rintro ((h | h) | h)
    · exact .inl h
    · exact .inr ⟨h.1, by omega⟩
    · subst h; exact .inr ⟨hb, by omega⟩
  · rintro (h | ⟨h1, h2⟩)
    · exact .inl (.inl h)
    · by_cases e : x = b
      · exact .inr e
      · exact .inl (.inr ⟨h1, by omega⟩)
theorem part_hit {r : Nat → Nat → Bool} {a b : Nat} (hb : fst r b = a) (x : Nat) : (partTo r a b x || x == b) = partTo r a (b + 1) x := by
  unfold partTo
  rw [Bool.eq_iff_iff]
  simp
  constructor
  · rintro (h | h)
    · exact ⟨h.1, by omega⟩
    · subst h; exact ⟨hb, by omega⟩
  · rintro ⟨h1, h2⟩
    by_cases e : x = b
    · exact .inr e
    · exact .inl ⟨h1, by omega⟩
theorem done_miss {r : Nat → Nat → Bool} {a b : Nat} (hb : ¬ fst r b = a) (x : Nat) : doneTo r a b x = doneTo r a (b + 1) x := by
  unfold doneTo
  rw [Bool.eq_iff_iff]
  simp
  by_cases e : x = b
  · subst e; simp [hb]
  · have : x < b ↔ x < b + 1 := by omega
    rw [this]
theorem part_miss {r : Nat → Nat → Bool} {a b : Nat} (hb : ¬ fst r b = a) (x : Nat) : partTo r a b x = partTo r a (b + 1) x := by
  unfold partTo
  rw [Bool.eq_iff_iff]
  simp
  by_cases e : x = b
  · subst e; simp [hb]
  · have : x < b ↔ x < b + 1 := by omega
    rw [this]
    exact fun _ => Iff.rfl
theorem done_end {r : Nat → Nat → Bool} (a x : Nat) (hx : x < 256) : doneTo r a 256 x = doneAt r (a + 1) x := by
  unfold doneTo doneAt
  rw [Bool.eq_iff_iff]
  simp [hx]
  omega
theorem part_end {r : Nat → Nat → Bool} (h : Alike r) {a : Nat} (hn : fst r a = a) (x : Nat) (hx : x < 256) : partTo r a 256 x = (nm r x == news r a) := by
  unfold partTo
  rw [← new_part h hn]
  simp [hx]
theorem done_old {r : Nat → Nat → Bool} {a : Nat} (hn : ¬ fst r a = a) (x : Nat) (h : Alike r) : doneAt r a x = doneAt r (a + 1) x := by
  unfold doneAt
  rw [Bool.eq_iff_iff]
  simp
  constructor
  · intro e; omega
  · intro e
    have h1 := fst_fst h x
    by_cases e1 : fst r x = a
    · rw [e1] at h1; exact absurd h1 hn
    · omega

end Go.Proofs.Ytbppofhjlgfbiaa
