/- That the program is awake, and what the document's own making of a class out of 256 bools comes to: contracts for the proofs of the statements.
   Conditions: the array holds 256 bools, as the theorem states. -/
import Derived.Test.YtbppofhjlgfbiaaMade
namespace Go.Proofs.Ytbppofhjlgfbiaa
open Go.RowKit

theorem cnt_setOf {S : Nat → Prop} [DecidablePred S] {C : Nat → Nat} (h : setOf S C) : cnt C 256 = (List.range 256).countP (fun b => decide (S b)) := by
  unfold cnt
  apply List.countP_congr
  intro b hb
  rw [h.2 b (by simpa using hb)]
  simp
theorem cnt_seven {C : Nat → Nat} (h : setOf (fun x => 3 ≤ x ∧ x ≤ 9) C) : cnt C 256 = 7 := by
  rw [cnt_setOf h]
  kernel_rfl

theorem of_200 (b : Nat) (w : World) (hblt : b < w.heap.size) (hcell : w.cell? ⟨b, 0, none⟩ = some (.int .u8 200)) :
    Calls Try.prog 19 #[.slice (some ⟨b, 0, none⟩) 1 1] w (GivesSet (fun x => x = 200) w) := by
  refine (of_some b 0 1 1 (fun _ => 200) w hblt (fun t ht => ?_) (fun _ => by decide) (by decide)).mono ?_
  · have : t = 0 := by omega
    subst this
    exact hcell
  · rintro e w' ⟨C, hC, he, hb⟩
    refine ⟨C, ⟨hC.1, fun x hx => ?_⟩, he, hb⟩
    rw [hC.2 x hx]
    constructor
    · rintro ⟨_, _, h⟩; exact h.symm
    · intro h; exact ⟨0, by decide, h.symm⟩
theorem range_39 (w : World) : Calls Try.prog 21 #[.int .u8 3, .int .u8 9] w (GivesSet (fun x => 3 ≤ x ∧ x ≤ 9) w) := range_any 3 9 w (by decide) (by decide)

set_option maxHeartbeats 1000000 in
set_option maxRecDepth 100000 in
theorem awake_any (w : World) :
    Calls Try.prog 9 #[] w fun e w' => e = .returned (.bool true) ∧ Below w.heap.size w w' := by
  go_enter Try.func9, Try.ntmps9
  go_wp2_with (first
    | (go_at_call 21; refine (range_39 _).mono ?_; rintro e w1 ⟨C, hC, rfl, hb1⟩; have h7 := Lib.hid (cnt_seven hC)))
  go_at_call 17
  refine (size_any C _ hC.1).mono ?_
  rintro e w2 ⟨rfl, hb2⟩
  rw [h7.out]
  go_wp2_with fail
  go_at_call 19
  refine (of_200 _ _ ?_ ?_).mono ?_
  · simp
  · simp
  rintro e w3 ⟨D, hD, rfl, hb3⟩
  have hh := Lib.hid ((hD.2 200 (by decide)).2 rfl)
  go_wp2_with fail
  go_at_call 15
  refine (has_any D 200 _ hD.1 (by decide)).mono ?_
  rintro e w4 ⟨rfl, hb4⟩
  rw [hh.out]
  go_wp2_with fail
  go_ret
  have s1 := hb1.size
  have s2 := hb2.size
  have s3 := hb3.size
  simp at s3
  exact ⟨rfl, (((hb1.trans (hb2.mono s1)).alloc (by omega) _).trans (hb3.mono (by simp; omega))).trans (hb4.mono (by omega))⟩

def boolsOf (s : Nat → Bool) (n : Nat) : Array Value := ((List.range n).map fun i => Value.bool (s i)).toArray

end Go.Proofs.Ytbppofhjlgfbiaa
