/- What reading comes to with a closing bracket behind: as without it. Plain facts: no program is spoken of here.
   No conditions but those that each theorem states. -/
import Derived.Test.YtbodgadbhldbmaaBegin
import Derived.Test.YtbodgadbhldbmaaWake
namespace Go.Proofs.Ytbodgadbhldbmaa

theorem phex_ext {r v x : List Nat} {a : Nat} (h : phex r = .ok a v) : phex (r ++ x) = .ok a (v ++ x) := by
  match r with
  | [] => cases h
  | [y] => simp only [phex] at h; split at h <;> cases h
  | y :: z :: r =>
    simp only [List.cons_append, phex] at h ⊢
    split at h
    · rename_i h1
      rw [if_pos h1]
      split at h
      · rename_i h2
        rw [if_pos h2]
        injection h with h3 h4
        rw [h3, h4]
      · cases h
    · cases h
theorem pesc_ext {r v x : List Nat} {a : Nat} (h : pesc r = .ok a v) : pesc (r ++ x) = .ok a (v ++ x) := by
  cases r with
  | nil => cases h
  | cons b r =>
    simp only [List.cons_append, pesc] at h ⊢
    split at h
    · rename_i h1; rw [if_pos h1]; exact phex_ext h
    · rename_i h1
      rw [if_neg h1]
      split at h
      · rename_i h2; rw [if_pos h2]; injection h with h3 h4; rw [h3, h4]
      · rename_i h2
        rw [if_neg h2]
        split at h
        · rename_i h5; rw [if_pos h5]; injection h with h3 h4; rw [h3, h4]
        · rename_i h5
          rw [if_neg h5]
          split at h
          · rename_i h6; rw [if_pos h6]; injection h with h3 h4; rw [h3, h4]
          · cases h
theorem pplain_ext {but r v x : List Nat} {a : Nat} (h : pplain but r = .ok a v) : pplain but (r ++ x) = .ok a (v ++ x) := by
  cases r with
  | nil => cases h
  | cons b r =>
    simp only [List.cons_append, pplain] at h ⊢
    split at h
    · cases h
    · rename_i h1
      rw [if_neg h1]
      split at h
      · rename_i h2; rw [if_pos h2]; exact pesc_ext h
      · rename_i h2; rw [if_neg h2]; injection h with h3 h4; rw [h3, h4]
theorem pitem_ext {r v s : List Nat} {S : Nat → Bool} (h : pitem r = .ok S v) : pitem (r ++ 41 :: s) = .ok S (v ++ 41 :: s) := by
  unfold pitem at h
  split at h
  · cases h
  · rename_i lo r1 h1
    have e1 := pplain_ext (x := 41 :: s) h1
    split at h
    · rename_i r2
      split at h
      · cases h
      · rename_i hi r3 h2
        have e2 := pplain_ext (x := 41 :: s) h2
        rw [List.cons_append] at e1
        rw [pitem_two e1, e2]
        simp only
        split at h
        · cases h
        · rename_i h3; rw [if_neg h3]; injection h with h4 h5; rw [h4, h5]
    · rename_i hne
      injection h with h4 h5
      have hh : (r1 ++ 41 :: s).head? ≠ some 45 := by
        cases r1 with
        | nil => simp
        | cons c r1 =>
          intro hc
          simp at hc
          subst hc
          exact hne r1 rfl
      rw [pitem_one e1 hh, h4, h5]
theorem pitems_ext : ∀ (n : Nat) {first : Bool} {S S' : Nat → Bool} {r v s : List Nat}, r.length ≤ n → pitems first S r = .ok S' v → pitems first S (r ++ 41 :: s) = .ok S' (v ++ 41 :: s)
  | n, first, S, S', r, v, s, hn, h => by
    cases r with
    | nil => rw [pitems_none] at h; cases h
    | cons b r =>
      by_cases hend : first = false ∧ b = 93
      · obtain ⟨rfl, rfl⟩ := hend
        rw [pitems_end] at h
        injection h with h1 h2
        rw [List.cons_append, pitems_end, h1, h2]
      · have h1 : ¬ (first = false ∧ ((b :: r) ++ 41 :: s).head? = some 93) := by simpa using hend
        have h2 : ¬ (first = false ∧ (b :: r).head? = some 93) := by simpa using hend
        rw [pitems_more h2] at h
        rw [pitems_more h1]
        split at h
        · cases h
        · rename_i U r2 hx
          have hle := pitem_le hx
          rw [pitem_ext hx]
          match n, hn with
          | 0, hn => simp at hn
          | n + 1, hn => exact pitems_ext n (by simp at hn hle; omega) h
theorem pset_ext {b : Nat} {r v s : List Nat} {S : Nat → Bool} (h : pset (b :: r) = .ok S v) : pset (b :: (r ++ 41 :: s)) = .ok S (v ++ 41 :: s) := by
  by_cases h1 : b = 46
  · subst h1; rw [pset_dot] at h ⊢; injection h with h2 h3; rw [h2, h3]
  · by_cases h2 : b = 91
    · subst h2
      rw [pset_brack] at h ⊢
      unfold pbrack at h ⊢
      cases r with
      | nil => simp [pitems_none] at h
      | cons c r =>
        by_cases h3 : c = 94
        · subst h3
          simp only [List.head?_cons, List.cons_append, List.tail_cons, if_pos] at h ⊢
          split at h
          · rename_i hx
            injection h with h4 h5
            rw [pitems_ext _ (Nat.le_refl _) hx]
            simp only
            rw [h4, h5]
          · cases h
        · have h4 : (c :: r).head? ≠ some 94 := by simpa using h3
          have h5 : (c :: r ++ 41 :: s).head? ≠ some 94 := by simpa using h3
          rw [if_neg h4] at h
          rw [if_neg h5]
          exact pitems_ext _ (Nat.le_refl _) h
    · rw [pset_plain h1 h2] at h ⊢
      split at h
      · rename_i hx
        have := pplain_ext (x := 41 :: s) hx
        rw [List.cons_append] at this
        rw [this]
        simp only
        injection h with h3 h4
        rw [h3, h4]
      · cases h
theorem digs_ext : ∀ (r : List Nat) {s v : List Nat} {n m : Nat}, digs r n = (m, v) → digs (r ++ 41 :: s) n = (m, v ++ 41 :: s)
  | [], s, v, n, m, h => by
    rw [digs_nil] at h
    injection h with h1 h2
    rw [List.nil_append, digs_not _ _ (by omega), ← h1, ← h2]
    rfl
  | b :: r, s, v, n, m, h => by
    by_cases hd : 48 ≤ b ∧ b ≤ 57
    · rw [digs_dig _ _ hd] at h
      rw [List.cons_append, digs_dig _ _ hd]
      exact digs_ext r h
    · rw [digs_not _ _ hd] at h
      injection h with h1 h2
      rw [List.cons_append, digs_not _ _ hd, ← h1, ← h2]
      rfl
theorem pnumber_ext {r v s : List Nat} {n : Nat} (h : pnumber r = .ok n v) : pnumber (r ++ 41 :: s) = .ok n (v ++ 41 :: s) := by
  obtain ⟨h1, h2, h3⟩ := pnumber_digs h
  exact pnumber_mk (digs_ext r h1) (fun e => h2 (by simpa using e)) h3
theorem pupper_other (lo : Nat) {r : List Nat} (h : r.head? ≠ some 44) : pupper lo r = .ok lo r := by
  unfold pupper
  split
  · simp at h
  · simp at h
  · rfl
theorem pupper_ext {lo : Nat} {r v s : List Nat} {hi : Int} (h : pupper lo r = .ok hi v) : pupper lo (r ++ 41 :: s) = .ok hi (v ++ 41 :: s) := by
  by_cases h1 : r.head? = some 44
  · cases r with
    | nil => simp at h1
    | cons b r =>
      simp at h1
      subst h1
      cases r with
      | nil => rw [pupper_num lo (by simp), pnumber_none] at h; cases h
      | cons c r =>
        by_cases h2 : c = 125
        · subst h2
          rw [pupper_open] at h
          injection h with h3 h4
          rw [List.cons_append, List.cons_append, pupper_open, h3, ← h4]
          rfl
        · have h3 : (c :: r).head? ≠ some 125 := by simpa using h2
          have h4 : (c :: r ++ 41 :: s).head? ≠ some 125 := by simpa using h2
          rw [pupper_num lo h3] at h
          rw [List.cons_append, pupper_num lo h4]
          split at h
          · rename_i hx
            rw [pnumber_ext hx]
            simp only
            injection h with h5 h6
            rw [h5, h6]
          · cases h
  · have h2 : (r ++ 41 :: s).head? ≠ some 44 := by
      cases r with
      | nil => simp
      | cons c r => simpa using h1
    rw [pupper_other lo h1] at h
    rw [pupper_other lo h2]
    injection h with h3 h4
    rw [h3, h4]
theorem pbounds_ext {br br2 r v s : List Nat} {t : Int × Int} (h : pbounds br r = .ok t v) : pbounds br2 (r ++ 41 :: s) = .ok t (v ++ 41 :: s) := by
  unfold pbounds at h ⊢
  split at h
  · cases h
  · rename_i lo r1 h1
    rw [pnumber_ext h1]
    simp only
    split at h
    · cases h
    · rename_i hi r2 h2
      rw [pupper_ext h2]
      simp only
      split at h
      · rename_i r3
        simp only [List.cons_append]
        split at h
        · cases h
        · rename_i h3
          rw [if_neg h3]
          injection h with h4 h5
          rw [h4, h5]
      · cases h
theorem ptimes_ext {b : Nat} {r v s : List Nat} {t : Int × Int} (h : ptimes b r = .ok t v) : ptimes b (r ++ 41 :: s) = .ok t (v ++ 41 :: s) := by
  unfold ptimes at h ⊢
  split at h
  · rename_i h1; rw [if_pos h1]; injection h with h3 h4; rw [h3, h4]
  · rename_i h1
    rw [if_neg h1]
    split at h
    · rename_i h1; rw [if_pos h1]; injection h with h3 h4; rw [h3, h4]
    · rename_i h1
      rw [if_neg h1]
      split at h
      · rename_i h1; rw [if_pos h1]; injection h with h3 h4; rw [h3, h4]
      · rename_i h1
        rw [if_neg h1]
        exact pbounds_ext h
theorem pstep_ext {g g' : G} {frs frs' B : List G} {b : Nat} {r v s : List Nat} (h : pstep g frs (b :: r) = .ok (g', frs') v) : pstep g (frs ++ B) (b :: (r ++ 41 :: s)) = .ok (g', frs' ++ B) (v ++ 41 :: s) := by
  simp only [pstep] at h ⊢
  split at h
  · rename_i h1; rw [if_pos h1]; injection h with h2 h3; injection h2 with h4 h5; rw [← h4, ← h5, h3]; rfl
  · rename_i h1
    rw [if_neg h1]
    split at h
    · rename_i h2; rw [if_pos h2]; injection h with h3 h4; injection h3 with h5 h6; rw [← h5, ← h6, h4]
    · rename_i h2
      rw [if_neg h2]
      split at h
      · rename_i h3
        rw [if_pos h3]
        split at h
        · cases h
        · injection h with h4 h5
          injection h4 with h6 h7
          simp only [List.cons_append]
          rw [← h6, ← h7, h5]
      · rename_i h3
        rw [if_neg h3]
        split at h
        · rename_i h4
          rw [if_pos h4]
          split at h
          · cases h
          · rename_i h5
            rw [if_neg h5]
            split at h
            · cases h
            · rename_i hx
              injection h with h6 h7
              injection h6 with h8 h9
              rw [ptimes_ext hx]
              simp only
              rw [← h8, ← h9, h7]
        · rename_i h4
          rw [if_neg h4]
          split at h
          · cases h
          · rename_i hx
            injection h with h6 h7
            injection h6 with h8 h9
            rw [pset_ext hx]
            simp only
            rw [← h8, ← h9, h7]
/-- A whole text, in brackets within a group: a part of that group. -/
theorem prun_ext : ∀ (n : Nat) {g p : G} {frs B : List G} {r v s : List Nat} {t : T}, r.length ≤ n → prun g frs r = .ok t v → prun g (frs ++ p :: B) (r ++ 41 :: s) = prun ⟨p.rows, p.row ++ [t]⟩ B s
  | n, g, p, frs, B, r, v, s, t, hn, h => by
    cases r with
    | nil =>
      cases frs with
      | nil =>
        rw [prun_nil] at h
        injection h with h1 h2
        rw [List.nil_append, List.nil_append, prun_cons]
        simp only [pstep]
        simp [h1]
      | cons q frs => rw [prun_open] at h; cases h
    | cons b r =>
      rw [prun_cons] at h
      split at h
      · cases h
      · rename_i g' frs' r' hx
        have hle := pstep_len hx
        rw [List.cons_append, prun_cons, pstep_ext hx]
        simp only
        match n, hn with
        | 0, hn => simp at hn
        | n + 1, hn => exact prun_ext n (by simp at hn hle; omega) h
end Go.Proofs.Ytbodgadbhldbmaa
