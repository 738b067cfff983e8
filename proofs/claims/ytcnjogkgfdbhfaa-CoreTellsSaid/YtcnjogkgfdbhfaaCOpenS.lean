/- What the call that opens a group comes to: a contract.
   Conditions: the node lies in memory. -/
import Derived.Test.YtcnjogkgfdbhfaaCNextP
namespace Go.Proofs.Ytcnjogkgfdbhfaa
open Go.RowKit Go.Shelf

def OpenedRS (B : Nat) (W : World) (nb no : Nat) (t : V) (e : Ending) (w' : World) : Prop :=
  ∃ rv st, e = .returned (.agg #[.pointer (some ⟨nb, no, none⟩), .slice none 0 0, rv]) ∧ w'.ownsRow W.heap.size 25 1 rv st.length (st.map Prod.fst).reverse ∧
    (∀ p ∈ st, Laid w' (fun x => x < B) (.node 0 zeros 0 0 p.1 p.2)) ∧ todoF t.kind st = flatsV t.kind t.ps ∧ wF st ≤ 3 * szsT (erases t.ps) + 1 ∧ Below W.heap.size W w'

set_option maxHeartbeats 2000000 in
set_option maxRecDepth 100000 in
theorem opened_anyS (B nb no : Nat) (t : V) (W : World) (h : NodeB B W nb no t) : Calls Try.prog 29 #[.pointer (some ⟨nb, no, none⟩)] W (OpenedRS B W nb no t) := by
  obtain ⟨sa, sc, hv, _⟩ := laid_row' h.2.2
  have e5 : W.cell? ⟨nb, no + 5, none⟩ = some (.slice sa t.ps.length sc) := h.five hv
  have hlt := h.at.lt
  have hne : nb ≠ W.heap.size := by omega
  have HL := Lib.hid (And.intro h.2.2 hv)
  by_cases h0 : t.ps = []
  · have HT := Lib.hid h0
    rw [h0] at e5
    simp only [List.length_nil] at e5
    clear h h0 hv
    go_enter Try.func29, Try.ntmps29
    go_wp2_with fail
    refine bodyPost_ret (v := .agg #[.pointer (some ⟨nb, no, none⟩), .slice none 0 0, .slice none 0 0]) (by simp [results, Try.results29, go_sem]) rfl ?_
    refine ⟨_, [], rfl, World.ownsRow_nil _ _ _ _, by simp, by rw [HT.out, todoF, flatsV], by rw [wF]; omega, ?_⟩
    exact (Below.refl _ W).alloc (Nat.le_refl _) _
  · have hn : ((t.ps.length : Int) == 0) = false := by
      have : t.ps.length ≠ 0 := fun e => h0 (List.eq_nil_of_length_eq_zero e)
      simp; omega
    have hn2 : (0 : Int) ≤ (t.ps.length : Int) := by omega
    clear h h0 hv
    go_enter Try.func29, Try.ntmps29
    go_wp2_with fail
    refine bodyPost_ret (v := .agg #[.pointer (some ⟨nb, no, none⟩), .slice none 0 0, .slice (some ⟨W.heap.size + 1, 0, none⟩) 1 1]) (by simp [results, Try.results29, go_sem]) rfl ?_
    have hch : Below W.heap.size W ((W.alloc (.cells #[.pointer (some ⟨nb, no, none⟩), .slice none 0 0, .slice (some ⟨W.heap.size + 1, 0, none⟩) 1 1] 53)).alloc (.cells #[.slice sa t.ps.length sc] 25)) := ((Below.refl _ W).alloc (Nat.le_refl _) _).alloc (by simp) _
    refine ⟨_, [(.slice sa t.ps.length sc, t.ps)], rfl, ?_, fun p hp => ?_, by rw [todoF, todoF, List.append_nil], by simp only [wF]; omega, hch⟩
    · have := World.ownsRow_lit (e := 25) (size := 1) (base := W.heap.size) (W.alloc (.cells #[.pointer (some ⟨nb, no, none⟩), .slice none 0 0, .slice (some ⟨W.heap.size + 1, 0, none⟩) 1 1] 53)) #[.slice sa t.ps.length sc] 1 (by simp) (by unfold maxLen; omega) rfl
      rw [World.size_alloc] at this
      exact this
    · simp at hp
      subst hp
      have := laid_parts HL.out.1
      rw [HL.out.2] at this
      exact laid_low' this hch

end Go.Proofs.Ytcnjogkgfdbhfaa
