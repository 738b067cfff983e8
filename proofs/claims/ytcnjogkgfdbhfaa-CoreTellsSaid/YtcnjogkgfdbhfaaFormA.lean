/- When a node has what its kind has: the program's own call, a contract.
   No condition. -/
import Derived.Test.YtcnjogkgfdbhfaaRefS
import Derived.Test.YtcnjogkgfdbhfaaRefF
import Derived.Test.YtcnjogkgfdbhfaaNodes
namespace Go.Proofs.Ytcnjogkgfdbhfaa
open Go.RowKit Go.Shelf
attribute [local go_sem] Oper.semAt_some

set_option maxHeartbeats 1000000 in
set_option maxRecDepth 100000 in
theorem bounded_in (n : Nat) (lo hi : Int) (w : World) : CallsIn Fence.wide n Try.prog 39 #[.int .i64 lo, .int .i64 hi] w fun e w' => e = .returned (.bool (bnd lo hi)) ∧ w = w' := by
  obtain ⟨B, hB⟩ : ∃ B, bnd lo hi = B := ⟨_, rfl⟩
  rw [hB]
  have HB := Lib.hid hB
  clear hB
  refine callsIn_of_wp Try.func39 rfl trivial ?_ rfl
  simp only [Try.ntmps39, List.size_toArray, List.length_cons, List.length_nil, Nat.reduceAdd, Nat.reduceSub, Array.replicate_succ, Array.replicate_zero, List.push_toArray, List.append_toArray, List.nil_append, List.cons_append]
  by_cases hm : hi = -1
  · subst hm
    gi_wp2
    all_goals
      go_ret
      refine ⟨ret_bool ?_, rfl⟩
      rw [← HB.out]
      unfold bnd
      rw [Bool.eq_iff_iff]
      simp <;> omega
  · have gm := beq_no hm
    have HM := Lib.hid hm
    clear hm
    gi_wp2
    all_goals
      go_ret
      refine ⟨ret_bool ?_, rfl⟩
      rw [← HB.out]
      have hm := HM.out
      unfold bnd
      rw [Bool.eq_iff_iff]
      simp <;> omega

theorem okA_F (k lo hi : Int) (Z : Bool) (n : Nat) (h : k = 0 ∨ k = 1 ∨ k = 2 ∨ k = 3) (h2 : ¬ (lo = 0 ∧ hi = 0)) : okA k Z lo hi n = false := by
  unfold okA
  rw [decide_eq_false]
  rintro (h | h | h | h)
  · exact h2 ⟨h.2.2.1, h.2.2.2.1⟩
  · exact h2 ⟨h.2.1, h.2.2.1⟩
  · exact h2 ⟨h.2.2.1, h.2.2.2.1⟩
  · omega
theorem okA_t {k : Int} {Z : Bool} {lo hi : Int} {n : Nat} {b : Bool} (h : ((k = 0 ∧ Z = true ∧ lo = 0 ∧ hi = 0 ∧ n = 0) ∨ (k = 1 ∧ lo = 0 ∧ hi = 0 ∧ n = 0) ∨ ((k = 2 ∨ k = 3) ∧ Z = true ∧ lo = 0 ∧ hi = 0 ∧ 2 ≤ n) ∨ (k = 4 ∧ Z = true ∧ n = 1 ∧ bnd lo hi = true)) ↔ b = true) : okA k Z lo hi n = b := by
  unfold okA
  rw [Bool.eq_iff_iff, decide_eq_true_eq]
  exact h

set_option maxHeartbeats 4000000 in
set_option maxRecDepth 100000 in
theorem formedAlone_in (n : Nat) (k lo hi : Int) (C : Nat → Nat) (sa : Option Addr) (m sc : Nat) (w : World) :
    CallsIn Fence.wide (n + 1) Try.prog 28 #[.agg #[.int .i64 k, .int .u64 (C 0 : Nat), .int .u64 (C 1 : Nat), .int .u64 (C 2 : Nat), .int .u64 (C 3 : Nat), .slice sa m sc, .int .i64 lo, .int .i64 hi]] w fun e w' => e = .returned (.bool (okA k (z4 C) lo hi m)) ∧ Below w.heap.size w w' := by
  obtain ⟨B, hB⟩ : ∃ B, okA k (z4 C) lo hi m = B := ⟨_, rfl⟩
  rw [hB]
  have heq := equal_zero C
  generalize z4 C = Z at *
  have fin : ∀ b : Bool, okA k Z lo hi m = b → ∀ w' : World, Below w.heap.size w w' → (Ending.returned (.bool b) = Ending.returned (.bool B) ∧ Below w.heap.size w w') := fun b h w' h2 => ⟨by rw [← h, hB], h2⟩
  have HFIN := Lib.hid fin
  clear hB fin
  refine callsIn_of_wp Try.func28 rfl trivial ?_ rfl
  simp only [Try.ntmps28, List.size_toArray, List.length_cons, List.length_nil, Nat.reduceAdd, Nat.reduceSub, Array.replicate_succ, Array.replicate_zero, List.push_toArray, List.append_toArray, List.nil_append, List.cons_append]
  by_cases h4 : k = 4
  · subst h4
    have hlo : lo = 0 ∨ ¬ lo = 0 := by omega
    have hhi : hi = 0 ∨ ¬ hi = 0 := by omega
    cases Z with
    | false =>
      have HV := Lib.hid (HFIN.out false (okA_t (by simp)))
      rcases hlo with rfl | hlo
      · rcases hhi with rfl | hhi
        · gi_wp2
          refine ⟨trivial, ?_⟩
          gi_wp2
          go_ret
          exact HV.out _ ((Below.refl _ _).alloc (Nat.le_refl _) _)
        · have g1 := beq_no hhi
          clear hhi
          gi_wp2
          refine ⟨trivial, ?_⟩
          gi_wp2
          go_ret
          exact HV.out _ ((Below.refl _ _).alloc (Nat.le_refl _) _)
      · have g1 := beq_no hlo
        clear hlo
        gi_wp2
        refine ⟨trivial, ?_⟩
        gi_wp2
        go_ret
        exact HV.out _ ((Below.refl _ _).alloc (Nat.le_refl _) _)
    | true =>
      by_cases hm : m = 1
      · subst hm
        have HV := Lib.hid (HFIN.out (bnd lo hi) (okA_t (by simp)))
        rcases hlo with rfl | hlo
        · rcases hhi with rfl | hhi
          · gi_wp2_with (refine ⟨trivial, ?_⟩; gi_at_call 39; refine (bounded_in _ _ _ _).mono ?_; rintro e w' ⟨rfl, rfl⟩)
            go_ret
            exact HV.out _ ((Below.refl _ _).alloc (Nat.le_refl _) _)
          · have g1 := beq_no hhi
            clear hhi
            gi_wp2_with (refine ⟨trivial, ?_⟩; gi_at_call 39; refine (bounded_in _ _ _ _).mono ?_; rintro e w' ⟨rfl, rfl⟩)
            go_ret
            exact HV.out _ ((Below.refl _ _).alloc (Nat.le_refl _) _)
        · have g1 := beq_no hlo
          clear hlo
          gi_wp2_with (refine ⟨trivial, ?_⟩; gi_at_call 39; refine (bounded_in _ _ _ _).mono ?_; rintro e w' ⟨rfl, rfl⟩)
          go_ret
          exact HV.out _ ((Below.refl _ _).alloc (Nat.le_refl _) _)
      · have HV := Lib.hid (HFIN.out false (okA_t (by simp [hm])))
        have gm : ((m : Int) == 1) = false := by simp; omega
        clear hm
        rcases hlo with rfl | hlo
        · rcases hhi with rfl | hhi
          · gi_wp2
            refine ⟨trivial, ?_⟩
            gi_wp2
            go_ret
            exact HV.out _ ((Below.refl _ _).alloc (Nat.le_refl _) _)
          · have g1 := beq_no hhi
            clear hhi
            gi_wp2
            refine ⟨trivial, ?_⟩
            gi_wp2
            go_ret
            exact HV.out _ ((Below.refl _ _).alloc (Nat.le_refl _) _)
        · have g1 := beq_no hlo
          clear hlo
          gi_wp2
          refine ⟨trivial, ?_⟩
          gi_wp2
          go_ret
          exact HV.out _ ((Below.refl _ _).alloc (Nat.le_refl _) _)
  · by_cases hk : k = 0 ∨ k = 1 ∨ k = 2 ∨ k = 3
    · by_cases hF : lo = 0 ∧ hi = 0
      · obtain ⟨rfl, rfl⟩ := hF
        rcases hk with rfl | rfl | hk
        · by_cases hm : m = 0
          · have HV := Lib.hid (HFIN.out Z (okA_t (by simp [hm])))
            have gm : ((m : Int) == 0) = true := by simp [hm]
            clear hm h4
            cases Z
            all_goals
              gi_wp2
              go_ret
              exact HV.out _ ((Below.refl _ _).alloc (Nat.le_refl _) _)
          · have HV := Lib.hid (HFIN.out false (okA_t (by simp [hm])))
            have gm : ((m : Int) == 0) = false := by simp; omega
            clear hm h4
            cases Z
            all_goals
              gi_wp2
              go_ret
              exact HV.out _ ((Below.refl _ _).alloc (Nat.le_refl _) _)
        · by_cases hm : m = 0
          · have HV := Lib.hid (HFIN.out true (okA_t (by simp [hm])))
            have gm : ((m : Int) == 0) = true := by simp [hm]
            clear hm h4
            gi_wp2
            go_ret
            exact HV.out _ ((Below.refl _ _).alloc (Nat.le_refl _) _)
          · have HV := Lib.hid (HFIN.out false (okA_t (by simp [hm])))
            have gm : ((m : Int) == 0) = false := by simp; omega
            clear hm h4
            gi_wp2
            go_ret
            exact HV.out _ ((Below.refl _ _).alloc (Nat.le_refl _) _)
        · by_cases hm : 2 ≤ m
          · have HV := Lib.hid (HFIN.out Z (okA_t (by rcases hk with rfl | rfl <;> simp [hm])))
            have gm : (2 : Int) ≤ (m : Int) := by omega
            clear hm h4
            rcases hk with rfl | rfl <;> cases Z
            all_goals
              gi_wp2
              go_ret
              exact HV.out _ ((Below.refl _ _).alloc (Nat.le_refl _) _)
          · have HV := Lib.hid (HFIN.out false (okA_t (by rcases hk with rfl | rfl <;> simp [hm])))
            have gm : ¬ (2 : Int) ≤ (m : Int) := by omega
            clear hm h4
            rcases hk with rfl | rfl <;> cases Z
            all_goals
              gi_wp2
              go_ret
              exact HV.out _ ((Below.refl _ _).alloc (Nat.le_refl _) _)
      · have HV := Lib.hid (HFIN.out false (okA_F k lo hi Z m hk hF))
        by_cases hlo : lo = 0
        · have hhi : ¬ hi = 0 := fun h => hF ⟨hlo, h⟩
          have g1 := beq_no hhi
          subst hlo
          clear hF hhi h4
          rcases hk with rfl | rfl | rfl | rfl <;> cases Z
          all_goals
            gi_wp2
            go_ret
            exact HV.out _ ((Below.refl _ _).alloc (Nat.le_refl _) _)
        · have g1 := beq_no hlo
          clear hF hlo h4
          rcases hk with rfl | rfl | rfl | rfl <;> cases Z
          all_goals
            gi_wp2
            go_ret
            exact HV.out _ ((Below.refl _ _).alloc (Nat.le_refl _) _)
    · have HV := Lib.hid (HFIN.out false (okA_t (by simp; omega)))
      have g0 : (k == 0) = false := beq_no (by omega)
      have g1 : (k == 1) = false := beq_no (by omega)
      have g2 : (k == 2) = false := beq_no (by omega)
      have g3 : (k == 3) = false := beq_no (by omega)
      have g4 := beq_no h4
      clear h4 hk
      by_cases hlo : lo = 0
      · subst hlo
        by_cases hhi : hi = 0
        · subst hhi
          gi_wp2
          go_ret
          exact HV.out _ ((Below.refl _ _).alloc (Nat.le_refl _) _)
        · have g5 := beq_no hhi
          clear hhi
          gi_wp2
          go_ret
          exact HV.out _ ((Below.refl _ _).alloc (Nat.le_refl _) _)
      · have g5 := beq_no hlo
        clear hlo
        gi_wp2
        go_ret
        exact HV.out _ ((Below.refl _ _).alloc (Nat.le_refl _) _)

end Go.Proofs.Ytcnjogkgfdbhfaa
