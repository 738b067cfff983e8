/- A text that is cut off where the blame lies is an expression, or over too early: plain facts.
   No conditions but those that each theorem states. -/
import Derived.Test.YtpibkalbnjgpaaaDoorLocal
import Derived.Test.YtpibkalbnjgpaaaDoorRep
namespace Go.Proofs.YtpibkalbnjgpaaaDoor

theorem pitem_suf {r r' : List Nat} {S : Nat → Bool} (h : pitem r = .ok S r') : r' <:+ r := by
  cases hx : pplain itemMarks r with
  | er r1 c => rw [pitem_er1 hx] at h; cases h
  | ok lo r1 =>
    by_cases h1 : r1.head? = some 45
    · cases r1 with
      | nil => simp at h1
      | cons b r2 =>
        simp at h1
        subst h1
        rw [pitem_two hx] at h
        split at h
        · cases h
        · rename_i hy
          split at h
          · cases h
          · injection h with _ h
            subst h
            exact ((pplain_suf hy).trans (List.suffix_cons _ _)).trans (pplain_suf hx)
    · rw [pitem_one hx h1] at h
      injection h with _ h
      subst h
      exact pplain_suf hx
theorem pitem_ers {r r' : List Nat} {c : Nat} (h : pitem r = .er r' c) : r' <:+ r := by
  cases hx : pplain itemMarks r with
  | er r1 c => rw [pitem_er1 hx] at h; injection h with h _; subst h; exact pplain_ers hx
  | ok lo r1 =>
    by_cases h1 : r1.head? = some 45
    · cases r1 with
      | nil => simp at h1
      | cons b r2 =>
        simp at h1
        subst h1
        rw [pitem_two hx] at h
        split at h
        · rename_i hy
          injection h with h _
          subst h
          exact ((pplain_ers hy).trans (List.suffix_cons _ _)).trans (pplain_suf hx)
        · split at h
          · injection h with h _
            subst h
            exact pplain_suf hx
          · cases h
    · rw [pitem_one hx h1] at h; cases h
theorem pitem_loc {r s v : List Nat} {S : Nat → Bool} (h : pitem (r ++ s) = .ok S (v ++ s)) : pitem r = .ok S v := by
  cases hx : pplain itemMarks (r ++ s) with
  | er r1 c => rw [pitem_er1 hx] at h; cases h
  | ok lo r1 =>
    by_cases h1 : r1.head? = some 45
    · cases r1 with
      | nil => simp at h1
      | cons b r2 =>
        simp at h1
        subst h1
        rw [pitem_two hx] at h
        split at h
        · cases h
        · rename_i hi r3 hy
          split at h
          · cases h
          · rename_i hc
            injection h with h2 h3
            subst h3
            obtain ⟨w, hw⟩ := suf_split (pplain_suf hy)
            subst hw
            rw [pitem_two (pplain_loc (v := 45 :: w) hx), pplain_loc hy]
            simp only
            rw [if_neg hc, h2]
    · rw [pitem_one hx h1] at h
      injection h with h2 h3
      subst h3
      have h4 : v.head? ≠ some 45 := by
        cases v with
        | nil => simp
        | cons x v => exact h1
      rw [pitem_one (pplain_loc hx) h4, h2]
/-- Cut off where the blame lies, an item is over too early; or it is one that ends there. -/
theorem pitem_cut {r s : List Nat} (h : pitem (r ++ s) = .er s 2) : pitem r = .er [] 2 ∨ ∃ S, pitem r = .ok S [] := by
  cases hx : pplain itemMarks (r ++ s) with
  | er r1 c =>
    rw [pitem_er1 hx] at h
    injection h with h1 h2
    rw [h1, h2] at hx
    exact .inl (pitem_er1 (pplain_cut hx))
  | ok lo r1 =>
    by_cases h1 : r1.head? = some 45
    · cases r1 with
      | nil => simp at h1
      | cons b r2 =>
        simp at h1
        subst h1
        rw [pitem_two hx] at h
        split at h
        · rename_i r3 c hy
          injection h with h2 h3
          rw [h2, h3] at hy
          obtain ⟨w, hw⟩ := suf_split' (pplain_ers hy)
          subst hw
          refine .inl ?_
          rw [pitem_two (pplain_loc (v := 45 :: w) hx), pplain_cut hy]
        · split at h
          · injection h with h2 _
            subst h2
            have := pplain_loc (v := []) hx
            exact .inr ⟨_, pitem_one this (by simp)⟩
          · cases h
    · rw [pitem_one hx h1] at h; cases h
theorem pitem_none : pitem [] = .er [] 2 := pitem_er1 rfl
theorem pitems_none (first : Bool) (S : Nat → Bool) : pitems first S [] = .er [] 2 := by
  rw [pitems_more (by simp), pitem_none]
theorem pitems_suf : ∀ (n : Nat) {first : Bool} {S : Nat → Bool} {r r' : List Nat} {S' : Nat → Bool}, r.length ≤ n → pitems first S r = .ok S' r' → r' <:+ r
  | n, first, S, r, r', S', hn, h => by
    by_cases hend : first = false ∧ r.head? = some 93
    · rw [pitems, if_pos hend] at h
      injection h with _ h
      subst h
      exact List.tail_suffix r
    · rw [pitems_more hend] at h
      split at h
      · cases h
      · rename_i hx
        have hle := pitem_le hx
        match n, hn with
        | 0, hn => omega
        | n + 1, hn => exact (pitems_suf n (by omega) h).trans (pitem_suf hx)
theorem pitems_ers : ∀ (n : Nat) {first : Bool} {S : Nat → Bool} {r r' : List Nat} {c : Nat}, r.length ≤ n → pitems first S r = .er r' c → r' <:+ r
  | n, first, S, r, r', c, hn, h => by
    by_cases hend : first = false ∧ r.head? = some 93
    · rw [pitems, if_pos hend] at h; cases h
    · rw [pitems_more hend] at h
      split at h
      · rename_i hx; injection h with h _; subst h; exact pitem_ers hx
      · rename_i hx
        have hle := pitem_le hx
        match n, hn with
        | 0, hn => omega
        | n + 1, hn => exact (pitems_ers n (by omega) h).trans (pitem_suf hx)
theorem pitems_loc : ∀ (n : Nat) {first : Bool} {S S' : Nat → Bool} {r s v : List Nat}, r.length ≤ n → pitems first S (r ++ s) = .ok S' (v ++ s) → pitems first S r = .ok S' v
  | n, first, S, S', r, s, v, hn, h => by
    cases r with
    | nil => have := pitems_len _ (Nat.le_refl _) h; simp at this; omega
    | cons b r =>
      by_cases hend : first = false ∧ b = 93
      · obtain ⟨rfl, rfl⟩ := hend
        rw [List.cons_append, pitems_end] at h
        injection h with h1 h2
        rw [pitems_end, h1, app_nil h2]
      · have h1 : ¬ (first = false ∧ ((b :: r) ++ s).head? = some 93) := by simpa using hend
        have h2 : ¬ (first = false ∧ (b :: r).head? = some 93) := by simpa using hend
        rw [pitems_more h1] at h
        rw [pitems_more h2]
        split at h
        · cases h
        · rename_i U r2 hx
          have hsf := pitems_suf _ (Nat.le_refl _) h
          obtain ⟨w, hw⟩ := suf_split hsf
          subst hw
          have hx' := pitem_loc hx
          have hle := pitem_le hx'
          rw [hx']
          match n, hn with
          | 0, hn => simp at hn
          | n + 1, hn => exact pitems_loc n (by simp at hn hle; omega) h
theorem pitems_cut : ∀ (n : Nat) {first : Bool} {S : Nat → Bool} {r s : List Nat}, r.length ≤ n → pitems first S (r ++ s) = .er s 2 → pitems first S r = .er [] 2
  | n, first, S, r, s, hn, h => by
    cases r with
    | nil => exact pitems_none _ _
    | cons b r =>
      by_cases hend : first = false ∧ b = 93
      · obtain ⟨rfl, rfl⟩ := hend
        rw [List.cons_append, pitems_end] at h
        cases h
      · have h1 : ¬ (first = false ∧ ((b :: r) ++ s).head? = some 93) := by simpa using hend
        have h2 : ¬ (first = false ∧ (b :: r).head? = some 93) := by simpa using hend
        rw [pitems_more h1] at h
        rw [pitems_more h2]
        split at h
        · rename_i r2 c hx
          injection h with h3 h4
          rw [h3, h4] at hx
          rcases pitem_cut hx with h5 | ⟨U, h5⟩
          · rw [h5]
          · rw [h5]
            exact pitems_none _ _
        · rename_i U r2 hx
          obtain ⟨w, hw⟩ := suf_split' (pitems_ers _ (Nat.le_refl _) h)
          subst hw
          have hx' := pitem_loc hx
          have hle := pitem_le hx'
          rw [hx']
          match n, hn with
          | 0, hn => simp at hn
          | n + 1, hn => exact pitems_cut n (by simp at hn hle; omega) h
theorem pbrack_loc {r s v : List Nat} {S : Nat → Bool} (h : pbrack (r ++ s) = .ok S (v ++ s)) : pbrack r = .ok S v := by
  cases r with
  | nil =>
    exfalso
    unfold pbrack at h
    split at h
    · split at h
      · rename_i hx
        injection h with _ h
        have := pitems_len _ (Nat.le_refl _) hx
        rw [h] at this
        have := List.length_tail (l := s)
        simp at *
        omega
      · cases h
    · have := pitems_len _ (Nat.le_refl _) h; simp at this; omega
  | cons b r =>
    unfold pbrack at h ⊢
    by_cases hb : b = 94
    · subst hb
      simp only [List.cons_append, List.head?_cons, if_true, List.tail_cons] at h ⊢
      split at h
      · rename_i hx
        injection h with h1 h2
        rw [h2] at hx
        rw [pitems_loc _ (Nat.le_refl _) hx]
        simp only
        rw [h1]
      · cases h
    · have e1 : ((b :: r) ++ s).head? ≠ some 94 := by simp [hb]
      have e2 : (b :: r).head? ≠ some 94 := by simp [hb]
      rw [if_neg e1] at h
      rw [if_neg e2]
      exact pitems_loc _ (Nat.le_refl _) h
theorem pbrack_cut {r s : List Nat} (h : pbrack (r ++ s) = .er s 2) : pbrack r = .er [] 2 := by
  cases r with
  | nil => unfold pbrack; rw [if_neg (by simp)]; exact pitems_none _ _
  | cons b r =>
    unfold pbrack at h ⊢
    by_cases hb : b = 94
    · subst hb
      simp only [List.cons_append, List.head?_cons, if_true, List.tail_cons] at h ⊢
      split at h
      · cases h
      · rename_i hx
        injection h with h1 h2
        rw [h1, h2] at hx
        rw [pitems_cut _ (Nat.le_refl _) hx]
    · have e1 : ((b :: r) ++ s).head? ≠ some 94 := by simp [hb]
      have e2 : (b :: r).head? ≠ some 94 := by simp [hb]
      rw [if_neg e1] at h
      rw [if_neg e2]
      exact pitems_cut _ (Nat.le_refl _) h
theorem pset_loc {b : Nat} {r s v : List Nat} {S : Nat → Bool} (h : pset (b :: (r ++ s)) = .ok S (v ++ s)) : pset (b :: r) = .ok S v := by
  by_cases h1 : b = 46
  · subst h1; rw [pset_dot] at h ⊢; injection h with h2 h3; rw [h2, app_nil h3]
  · by_cases h2 : b = 91
    · subst h2; rw [pset_brack] at h ⊢; exact pbrack_loc h
    · rw [pset_plain h1 h2] at h ⊢
      split at h
      · rename_i hx
        injection h with h3 h4
        rw [h4] at hx
        rw [pplain_loc (r := b :: r) hx]
        simp only
        rw [h3]
      · cases h
theorem pset_cut {b : Nat} {r s : List Nat} (h : pset (b :: (r ++ s)) = .er s 2) : pset (b :: r) = .er [] 2 := by
  by_cases h1 : b = 46
  · subst h1; rw [pset_dot] at h; cases h
  · by_cases h2 : b = 91
    · subst h2; rw [pset_brack] at h ⊢; exact pbrack_cut h
    · rw [pset_plain h1 h2] at h ⊢
      split at h
      · cases h
      · rename_i hx
        injection h with h3 h4
        rw [h3, h4] at hx
        rw [pplain_cut (r := b :: r) hx]
theorem pstep_loc {g : G} {frs : List G} {b : Nat} {r s v : List Nat} {x : G × List G} (h : pstep g frs (b :: (r ++ s)) = .ok x (v ++ s)) : pstep g frs (b :: r) = .ok x v := by
  simp only [pstep] at h ⊢
  split at h
  · rename_i h1; rw [if_pos h1]; injection h with h2 h3; rw [h2, app_nil h3]
  · rename_i h1
    rw [if_neg h1]
    split at h
    · rename_i h2; rw [if_pos h2]; injection h with h3 h4; rw [h3, app_nil h4]
    · rename_i h2
      rw [if_neg h2]
      split at h
      · rename_i h3
        rw [if_pos h3]
        split at h
        · cases h
        · injection h with h4 h5; rw [← h4, app_nil h5]
      · rename_i h3
        rw [if_neg h3]
        split at h
        · rename_i h4
          rw [if_pos h4]
          split at h
          · cases h
          · rename_i h5
            rw [if_neg h5]
            split at h
            · cases h
            · rename_i hx
              injection h with h6 h7
              rw [h7] at hx
              rw [ptimes_loc hx]
              simp only
              rw [h6]
        · rename_i h4
          rw [if_neg h4]
          split at h
          · cases h
          · rename_i hx
            injection h with h6 h7
            rw [h7] at hx
            rw [pset_loc hx]
            simp only
            rw [h6]
theorem pstep_cut {g : G} {frs : List G} {b : Nat} {r s : List Nat} (h : pstep g frs (b :: (r ++ s)) = .er s 2) : pstep g frs (b :: r) = .er [] 2 := by
  have hlen : ¬ (b :: (r ++ s)) = s := fun e => by have := congrArg List.length e; simp at this; omega
  simp only [pstep] at h ⊢
  split at h
  · cases h
  · rename_i h1
    rw [if_neg h1]
    split at h
    · cases h
    · rename_i h2
      rw [if_neg h2]
      split at h
      · split at h
        · injection h with h _; exact absurd h hlen
        · cases h
      · rename_i h3
        rw [if_neg h3]
        split at h
        · rename_i h4
          rw [if_pos h4]
          split at h
          · injection h with h _; exact absurd h hlen
          · rename_i h5
            rw [if_neg h5]
            split at h
            · rename_i hx
              injection h with h6 h7
              rw [h6, h7] at hx
              rw [ptimes_cut hx]
            · cases h
        · rename_i h4
          rw [if_neg h4]
          split at h
          · rename_i hx
            injection h with h6 h7
            rw [h6, h7] at hx
            rw [pset_cut hx]
          · cases h
theorem pbounds_ers {br r r' : List Nat} {c : Nat} (h : pbounds br r = .er r' c) : r' = br ∨ r' <:+ r := by
  cases hx : pnumber r with
  | er r1 c1 => rw [pbounds_er1 hx] at h; injection h with h _; subst h; rw [pnumber_self hx]; exact .inr (List.suffix_refl _)
  | ok lo r1 =>
    cases hy : pupper lo r1 with
    | er r2 c2 => rw [pbounds_er2 hx hy] at h; injection h with h _; subst h; exact .inr ((pupper_ers hy).trans (pnumber_suf hx))
    | ok hi r2 =>
      by_cases h3 : r2.head? = some 125
      · cases r2 with
        | nil => simp at h3
        | cons b r3 =>
          simp at h3
          subst h3
          rw [pbounds_in hx hy] at h
          split at h
          · injection h with h _; exact .inl h.symm
          · cases h
      · rw [pbounds_no hx hy h3] at h
        injection h with h _
        subst h
        exact .inr ((pupper_suf hy).trans (pnumber_suf hx))
theorem ptimes_ers {b : Nat} {r r' : List Nat} {c : Nat} (h : ptimes b r = .er r' c) : r' <:+ b :: r := by
  unfold ptimes at h
  split at h
  · cases h
  · split at h
    · cases h
    · split at h
      · cases h
      · rcases pbounds_ers h with e | e
        · subst e; exact List.suffix_refl _
        · exact e.trans (List.suffix_cons _ _)
theorem ptimes_suf {b : Nat} {r r' : List Nat} {t : Int × Int} (h : ptimes b r = .ok t r') : r' <:+ r := by
  unfold ptimes at h
  split at h
  · injection h with _ h; subst h; exact List.suffix_refl _
  · split at h
    · injection h with _ h; subst h; exact List.suffix_refl _
    · split at h
      · injection h with _ h; subst h; exact List.suffix_refl _
      · exact pbounds_suf h
theorem pbrack_suf {r r' : List Nat} {S : Nat → Bool} (h : pbrack r = .ok S r') : r' <:+ r := by
  unfold pbrack at h
  split at h
  · split at h
    · rename_i hx; injection h with _ h; subst h; exact (pitems_suf _ (Nat.le_refl _) hx).trans (List.tail_suffix r)
    · cases h
  · exact pitems_suf _ (Nat.le_refl _) h
theorem pbrack_ers {r r' : List Nat} {c : Nat} (h : pbrack r = .er r' c) : r' <:+ r := by
  unfold pbrack at h
  split at h
  · split at h
    · cases h
    · rename_i hx; injection h with h _; subst h; exact (pitems_ers _ (Nat.le_refl _) hx).trans (List.tail_suffix r)
  · exact pitems_ers _ (Nat.le_refl _) h
theorem pset_suf {b : Nat} {r r' : List Nat} {S : Nat → Bool} (h : pset (b :: r) = .ok S r') : r' <:+ b :: r := by
  by_cases h1 : b = 46
  · subst h1; rw [pset_dot] at h; injection h with _ h; subst h; exact List.suffix_cons _ _
  · by_cases h2 : b = 91
    · subst h2; rw [pset_brack] at h; exact (pbrack_suf h).trans (List.suffix_cons _ _)
    · rw [pset_plain h1 h2] at h
      split at h
      · rename_i hx; injection h with _ h; subst h; exact pplain_suf hx
      · cases h
theorem pset_ers {b : Nat} {r r' : List Nat} {c : Nat} (h : pset (b :: r) = .er r' c) : r' <:+ b :: r := by
  by_cases h1 : b = 46
  · subst h1; rw [pset_dot] at h; cases h
  · by_cases h2 : b = 91
    · subst h2; rw [pset_brack] at h; exact (pbrack_ers h).trans (List.suffix_cons _ _)
    · rw [pset_plain h1 h2] at h
      split at h
      · cases h
      · rename_i hx; injection h with h _; subst h; exact pplain_ers hx
theorem pstep_suf {g : G} {frs : List G} {b : Nat} {r r' : List Nat} {x : G × List G} (h : pstep g frs (b :: r) = .ok x r') : r' <:+ b :: r := by
  simp only [pstep] at h
  split at h
  · injection h with _ h; subst h; exact List.suffix_cons _ _
  · split at h
    · injection h with _ h; subst h; exact List.suffix_cons _ _
    · split at h
      · split at h
        · cases h
        · injection h with _ h; subst h; exact List.suffix_cons _ _
      · split at h
        · split at h
          · cases h
          · split at h
            · cases h
            · rename_i hx; injection h with _ h; subst h; exact (ptimes_suf hx).trans (List.suffix_cons _ _)
        · split at h
          · cases h
          · rename_i hx; injection h with _ h; subst h; exact pset_suf hx
theorem pstep_ers {g : G} {frs : List G} {b : Nat} {r r' : List Nat} {c : Nat} (h : pstep g frs (b :: r) = .er r' c) : r' <:+ b :: r := by
  simp only [pstep] at h
  split at h
  · cases h
  · split at h
    · cases h
    · split at h
      · split at h
        · injection h with h _; subst h; exact List.suffix_refl _
        · cases h
      · split at h
        · split at h
          · injection h with h _; subst h; exact List.suffix_refl _
          · split at h
            · rename_i hx; injection h with h _; subst h; exact ptimes_ers hx
            · cases h
        · split at h
          · rename_i hx; injection h with h _; subst h; exact pset_ers hx
          · cases h
theorem prun_ers : ∀ (n : Nat) {g : G} {frs : List G} {r r' : List Nat} {c : Nat}, r.length ≤ n → prun g frs r = .er r' c → r' <:+ r
  | n, g, frs, [], r', c, _, h => by
    cases frs with
    | nil => rw [prun_nil'] at h; cases h
    | cons p ps => rw [prun_open'] at h; injection h with h _; subst h; exact List.suffix_refl _
  | n, g, frs, b :: r, r', c, hn, h => by
    rw [prun_cons'] at h
    split at h
    · rename_i hx; injection h with h _; subst h; exact pstep_ers hx
    · rename_i x r1 hx
      have hl := pstep_len hx
      match n, hn with
      | 0, hn => simp at hn
      | n + 1, hn => exact (prun_ers n (by simp at hn hl; omega) h).trans (pstep_suf hx)
theorem prun_cut : ∀ (n : Nat) {g : G} {frs : List G} {r s : List Nat}, r.length ≤ n → prun g frs (r ++ s) = .er s 2 → prun g frs r = .er [] 2 ∨ ∃ t, prun g frs r = .ok t []
  | n, g, frs, [], s, _, _ => by
    cases frs with
    | nil => exact .inr ⟨_, prun_nil' g⟩
    | cons p ps => exact .inl (prun_open' g p ps)
  | n, g, frs, b :: r, s, hn, h => by
    rw [List.cons_append, prun_cons'] at h
    rw [prun_cons']
    split at h
    · rename_i r1 c hx
      injection h with h1 h2
      rw [h1, h2] at hx
      rw [pstep_cut hx]
      exact .inl rfl
    · rename_i x r1 hx
      obtain ⟨w, hw⟩ := suf_split' (prun_ers _ (Nat.le_refl _) h)
      subst hw
      have hx' := pstep_loc hx
      have hl := pstep_len hx'
      rw [hx']
      match n, hn with
      | 0, hn => simp at hn
      | n + 1, hn => exact prun_cut n (by simp at hn hl; omega) h

theorem prun_er_code : ∀ (n : Nat) {g : G} {frs : List G} {r r' : List Nat} {c : Nat}, r.length ≤ n → prun g frs r = .er r' c → c = 2 ∨ c = 3
  | n, g, frs, [], r', c, _, h => by
    cases frs with
    | nil => rw [prun_nil'] at h; cases h
    | cons p ps => rw [prun_open'] at h; injection h with _ h; omega
  | n, g, frs, b :: r, r', c, hn, h => by
    rw [prun_cons'] at h
    split at h
    · rename_i hx
      injection h with _ h
      subst h
      simp only [pstep] at hx
      split at hx
      · cases hx
      · split at hx
        · cases hx
        · split at hx
          · split at hx
            · injection hx with _ hx; omega
            · cases hx
          · split at hx
            · split at hx
              · injection hx with _ hx; omega
              · split at hx
                · rename_i hy
                  injection hx with _ hx
                  subst hx
                  exact ptimes_er hy
                · cases hx
            · split at hx
              · rename_i hy
                injection hx with _ hx
                subst hx
                exact .inl (pset_er_two hy)
              · cases hx
    · rename_i x r1 hx
      have hl := pstep_len hx
      match n, hn with
      | 0, hn => simp at hn
      | n + 1, hn => exact prun_er_code n (by simp at hn hl; omega) h
/-- What Parse answers: a tree without an error, or one of two errors. -/
theorem pparse_code (L : List Nat) : (pparse L).2.2 = 0 ∨ (pparse L).2.2 = 2 ∨ (pparse L).2.2 = 3 := by
  by_cases h : 400 < L.length
  · rw [pparse_long h]; exact .inr (.inr rfl)
  · cases hx : prun ⟨[], []⟩ [] L with
    | er r c =>
      rw [pparse_er h hx]
      exact .inr (prun_er_code _ (Nat.le_refl _) hx)
    | ok t r =>
      rw [pparse_ok h hx]
      split
      · exact .inr (.inr rfl)
      · exact .inl rfl
/-- Cut off at the place of a syntax error, a text is an expression, or passes a limit, or is over too early. -/
theorem pparse_begins {L : List Nat} (h : (pparse L).2.2 = 2) : (pparse L).2.1 ≤ L.length ∧ ((pparse (L.take (pparse L).2.1)).2.2 = 0 ∨ (pparse (L.take (pparse L).2.1)).2.2 = 3 ∨ (pparse (L.take (pparse L).2.1)).2.1 = (pparse L).2.1) := by
  by_cases hl : 400 < L.length
  · rw [pparse_long hl] at h; cases h
  · cases hx : prun ⟨[], []⟩ [] L with
    | ok t r =>
      rw [pparse_ok hl hx] at h
      split at h <;> cases h
    | er s c =>
      rw [pparse_er hl hx] at h ⊢
      simp only at h ⊢
      subst h
      obtain ⟨u, hu⟩ := prun_ers _ (Nat.le_refl _) hx
      have hlen : L.length = u.length + s.length := by rw [← hu, List.length_append]
      have hat : L.length - s.length = u.length := by omega
      rw [hat]
      have htk : L.take u.length = u := by rw [← hu]; simp
      rw [htk]
      refine ⟨by omega, ?_⟩
      have hul : ¬ 400 < u.length := by omega
      rw [← hu] at hx
      rcases prun_cut _ (Nat.le_refl _) hx with h1 | ⟨t, h1⟩
      · rw [pparse_er hul h1]
        exact .inr (.inr (by simp))
      · rw [pparse_ok hul h1]
        split
        · exact .inr (.inl rfl)
        · exact .inl rfl

end Go.Proofs.YtpibkalbnjgpaaaDoor
