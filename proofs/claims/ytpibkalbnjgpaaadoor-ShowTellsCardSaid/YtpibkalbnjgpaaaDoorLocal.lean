/- What is read of a text that is cut off where the blame lies: plain facts.
   No conditions but those that each theorem states. -/
import Derived.Test.YtpibkalbnjgpaaaDoorSize
namespace Go.Proofs.YtpibkalbnjgpaaaDoor

theorem suf_len {r' r : List Nat} (h : r' <:+ r) : r'.length ≤ r.length := h.length_le
theorem suf_split {s v r : List Nat} (h : (v ++ s) <:+ r) : ∃ w, r = w ++ s := by
  obtain ⟨u, hu⟩ := h
  exact ⟨u ++ v, by rw [← hu, List.append_assoc]⟩
theorem suf_split' {s r : List Nat} (h : s <:+ r) : ∃ w, r = w ++ s := by
  obtain ⟨u, hu⟩ := h
  exact ⟨u, hu.symm⟩
theorem app_nil {r s v : List Nat} (h : r ++ s = v ++ s) : r = v := List.append_cancel_right h

theorem phex_suf : ∀ {r : List Nat} {a : Nat} {r' : List Nat}, phex r = .ok a r' → r' <:+ r
  | [], _, _, h => by cases h
  | [a], _, _, h => by simp only [phex] at h; split at h <;> cases h
  | a :: b :: r, _, _, h => by
    simp only [phex] at h
    split at h
    · split at h
      · injection h with _ h; subst h; exact ⟨[a, b], rfl⟩
      · cases h
    · cases h
theorem pesc_suf {r : List Nat} {a : Nat} {r' : List Nat} (h : pesc r = .ok a r') : r' <:+ r := by
  cases r with
  | nil => cases h
  | cons b r =>
    simp only [pesc] at h
    split at h
    · exact (phex_suf h).trans (List.suffix_cons _ _)
    · split at h
      · injection h with _ h; subst h; exact List.suffix_cons _ _
      · split at h
        · injection h with _ h; subst h; exact List.suffix_cons _ _
        · split at h
          · injection h with _ h; subst h; exact List.suffix_cons _ _
          · cases h
theorem pplain_suf {but r : List Nat} {a : Nat} {r' : List Nat} (h : pplain but r = .ok a r') : r' <:+ r := by
  cases r with
  | nil => cases h
  | cons b r =>
    simp only [pplain] at h
    split at h
    · cases h
    · split at h
      · exact (pesc_suf h).trans (List.suffix_cons _ _)
      · injection h with _ h; subst h; exact List.suffix_cons _ _
theorem phex_len {r : List Nat} {a : Nat} {r' : List Nat} (h : phex r = .ok a r') : r'.length + 2 ≤ r.length := by
  match r with
  | [] => cases h
  | [x] => simp only [phex] at h; split at h <;> cases h
  | x :: y :: r =>
    simp only [phex] at h
    split at h
    · split at h
      · injection h with _ h; subst h; simp
      · cases h
    · cases h
theorem phex_loc {r s v : List Nat} {a : Nat} (h : phex (r ++ s) = .ok a (v ++ s)) : phex r = .ok a v := by
  match r with
  | [] => have := phex_le h; simp at this; omega
  | [x] => have := phex_len h; simp at this; omega
  | x :: y :: r =>
    simp only [List.cons_append, phex] at h ⊢
    split at h
    · rename_i h1
      rw [if_pos h1]
      split at h
      · rename_i h2
        rw [if_pos h2]
        injection h with h3 h4
        rw [h3, app_nil h4]
      · cases h
    · cases h
theorem phex_cut {r s : List Nat} (h : phex (r ++ s) = .er s 2) : phex r = .er [] 2 := by
  match r with
  | [] => rfl
  | [x] =>
    cases s with
    | nil => exact h
    | cons b s =>
      simp only [List.cons_append, List.nil_append, phex] at h ⊢
      split at h
      · rename_i h1; rw [if_pos h1]
      · injection h with h _; have := congrArg List.length h; simp at this
  | x :: y :: r =>
    simp only [List.cons_append, phex] at h ⊢
    split at h
    · split at h
      · cases h
      · injection h with h _; have := congrArg List.length h; simp at this; omega
    · injection h with h _; have := congrArg List.length h; simp at this; omega
theorem pesc_loc {r s v : List Nat} {a : Nat} (h : pesc (r ++ s) = .ok a (v ++ s)) : pesc r = .ok a v := by
  cases r with
  | nil => have := pesc_le h; simp at this; omega
  | cons b r =>
    simp only [List.cons_append, pesc] at h ⊢
    split at h
    · rename_i h1; rw [if_pos h1]; exact phex_loc h
    · rename_i h1
      rw [if_neg h1]
      split at h
      · rename_i h2; rw [if_pos h2]; injection h with h3 h4; rw [h3, app_nil h4]
      · rename_i h2
        rw [if_neg h2]
        split at h
        · rename_i h5; rw [if_pos h5]; injection h with h3 h4; rw [h3, app_nil h4]
        · rename_i h5
          rw [if_neg h5]
          split at h
          · rename_i h6; rw [if_pos h6]; injection h with h3 h4; rw [h3, app_nil h4]
          · cases h
theorem pesc_cut {r s : List Nat} (h : pesc (r ++ s) = .er s 2) : pesc r = .er [] 2 := by
  cases r with
  | nil => rfl
  | cons b r =>
    simp only [List.cons_append, pesc] at h ⊢
    split at h
    · rename_i h1; rw [if_pos h1]; exact phex_cut h
    · split at h
      · cases h
      · split at h
        · cases h
        · split at h
          · cases h
          · injection h with h _; have := congrArg List.length h; simp at this; omega
theorem pplain_loc {but r s v : List Nat} {a : Nat} (h : pplain but (r ++ s) = .ok a (v ++ s)) : pplain but r = .ok a v := by
  cases r with
  | nil => have := pplain_le h; simp at this; omega
  | cons b r =>
    simp only [List.cons_append, pplain] at h ⊢
    split at h
    · cases h
    · rename_i h1
      rw [if_neg h1]
      split at h
      · rename_i h2; rw [if_pos h2]; exact pesc_loc h
      · rename_i h2; rw [if_neg h2]; injection h with h3 h4; rw [h3, app_nil h4]
theorem pplain_cut {but r s : List Nat} (h : pplain but (r ++ s) = .er s 2) : pplain but r = .er [] 2 := by
  cases r with
  | nil => rfl
  | cons b r =>
    simp only [List.cons_append, pplain] at h ⊢
    split at h
    · injection h with h _; have := congrArg List.length h; simp at this; omega
    · rename_i h1
      rw [if_neg h1]
      split at h
      · rename_i h2; rw [if_pos h2]; exact pesc_cut h
      · cases h
theorem phex_ers {r r' : List Nat} {c : Nat} (h : phex r = .er r' c) : r' <:+ r := by
  match r with
  | [] => injection h with h _; subst h; exact List.suffix_refl _
  | [x] => simp only [phex] at h; split at h <;> (injection h with h _; subst h); · exact List.nil_suffix
           exact List.suffix_refl _
  | x :: y :: r =>
    simp only [phex] at h
    split at h
    · split at h
      · cases h
      · injection h with h _; subst h; exact List.suffix_cons _ _
    · injection h with h _; subst h; exact List.suffix_refl _
theorem pesc_ers {r r' : List Nat} {c : Nat} (h : pesc r = .er r' c) : r' <:+ r := by
  cases r with
  | nil => injection h with h _; subst h; exact List.suffix_refl _
  | cons b r =>
    simp only [pesc] at h
    split at h
    · exact (phex_ers h).trans (List.suffix_cons _ _)
    · split at h
      · cases h
      · split at h
        · cases h
        · split at h
          · cases h
          · injection h with h _; subst h; exact List.suffix_refl _
theorem pplain_ers {but r r' : List Nat} {c : Nat} (h : pplain but r = .er r' c) : r' <:+ r := by
  cases r with
  | nil => injection h with h _; subst h; exact List.suffix_refl _
  | cons b r =>
    simp only [pplain] at h
    split at h
    · injection h with h _; subst h; exact List.suffix_refl _
    · split at h
      · exact (pesc_ers h).trans (List.suffix_cons _ _)
      · cases h

theorem digs_suf : ∀ (r : List Nat) (n : Nat), (digs r n).2 <:+ r
  | [], n => by rw [digs_nil]; exact List.suffix_refl _
  | b :: r, n => by
    by_cases h : 48 ≤ b ∧ b ≤ 57
    · rw [digs_dig r n h]; exact (digs_suf r _).trans (List.suffix_cons _ _)
    · rw [digs_not r n h]; exact List.suffix_refl _
theorem digs_loc : ∀ (r : List Nat) {s v : List Nat} {n m : Nat}, digs (r ++ s) n = (m, v ++ s) → digs r n = (m, v)
  | [], s, v, n, m, h => by
    have h1 := digs_le s n
    rw [List.nil_append] at h
    rw [h] at h1
    have hv : v = [] := by cases v with
      | nil => rfl
      | cons x v => simp at h1; omega
    subst hv
    rw [digs_nil]
    cases s with
    | nil => rw [digs_nil] at h; injection h with h _; rw [h]
    | cons b s =>
      by_cases hd : 48 ≤ b ∧ b ≤ 57
      · rw [digs_dig s n hd] at h
        have := digs_le s (min (10 * n + (b - 48)) 2147483648)
        rw [h] at this
        simp at this
        omega
      · rw [digs_not s n hd] at h
        injection h with h _
        rw [h]
  | b :: r, s, v, n, m, h => by
    rw [List.cons_append] at h
    by_cases hd : 48 ≤ b ∧ b ≤ 57
    · rw [digs_dig _ n hd] at h ⊢
      exact digs_loc r h
    · rw [digs_not _ n hd] at h ⊢
      injection h with h1 h2
      rw [h1, app_nil (r := b :: r) h2]
theorem pnumber_digs {r r' : List Nat} {n : Nat} (h : pnumber r = .ok n r') : digs r 0 = (n, r') ∧ r'.length ≠ r.length ∧ n ≤ 2147483647 := by
  unfold pnumber at h
  split at h
  · cases h
  · rename_i h1
    split at h
    · cases h
    · rename_i h2
      injection h with h3 h4
      refine ⟨by rw [← h3, ← h4], by rw [← h4]; exact h1, by omega⟩
theorem pnumber_mk {r r' : List Nat} {n : Nat} (h : digs r 0 = (n, r')) (h1 : r'.length ≠ r.length) (h2 : n ≤ 2147483647) : pnumber r = .ok n r' := by
  unfold pnumber
  rw [h, if_neg h1, if_neg (by show ¬ 2147483647 < n; omega)]
theorem pnumber_suf {r r' : List Nat} {n : Nat} (h : pnumber r = .ok n r') : r' <:+ r := by
  have := (pnumber_digs h).1
  have h2 := digs_suf r 0
  rw [this] at h2
  exact h2
theorem pnumber_loc {r s v : List Nat} {n : Nat} (h : pnumber (r ++ s) = .ok n (v ++ s)) : pnumber r = .ok n v := by
  obtain ⟨h1, h2, h3⟩ := pnumber_digs h
  exact pnumber_mk (digs_loc r h1) (fun e => h2 (by simp [e])) h3
theorem pnumber_self {r r' : List Nat} {c : Nat} (h : pnumber r = .er r' c) : r' = r := by
  unfold pnumber at h
  split at h
  · injection h with h _; exact h.symm
  · split at h
    · injection h with h _; exact h.symm
    · cases h
theorem pnumber_none : pnumber [] = .er [] 2 := by unfold pnumber; rw [digs_nil]; rfl
theorem pnumber_cut {r s : List Nat} (h : pnumber (r ++ s) = .er s 2) : pnumber r = .er [] 2 := by
  have := pnumber_self h
  have hr : r = [] := by
    have e := congrArg List.length this
    simp at e
    exact e
  subst hr
  exact pnumber_none
theorem head_app {r s : List Nat} : r ≠ [] → (r ++ s).head? = r.head? := by
  cases r with
  | nil => intro h; exact absurd rfl h
  | cons x r => intro _; rfl

theorem pupper_suf {lo : Nat} {r : List Nat} {hi : Int} {r' : List Nat} (h : pupper lo r = .ok hi r') : r' <:+ r := by
  by_cases h1 : r.head? = some 44
  · cases r with
    | nil => simp at h1
    | cons b r =>
      simp at h1
      subst h1
      by_cases h2 : r.head? = some 125
      · cases r with
        | nil => simp at h2
        | cons b r =>
          simp at h2
          subst h2
          rw [pupper_open] at h
          injection h with _ h
          subst h
          exact List.suffix_cons _ _
      · rw [pupper_num lo h2] at h
        split at h
        · rename_i hx
          injection h with _ h
          subst h
          exact (pnumber_suf hx).trans (List.suffix_cons _ _)
        · cases h
  · rw [pupper_no lo h1] at h
    injection h with _ h
    subst h
    exact List.suffix_refl _
theorem pupper_none (lo : Nat) : pupper lo [] = .ok lo [] := pupper_no lo (by simp)
theorem pupper_loc {lo : Nat} {r s v : List Nat} {hi : Int} (h : pupper lo (r ++ s) = .ok hi (v ++ s)) (hv : v ≠ [] ∨ s.head? ≠ some 125) : pupper lo r = .ok hi v := by
  cases r with
  | nil =>
    rw [List.nil_append] at h
    have hl := pupper_len h
    have hv0 : v = [] := by cases v with
      | nil => rfl
      | cons x v => simp at hl; omega
    subst hv0
    by_cases h1 : s.head? = some 44
    · cases s with
      | nil => simp at h1
      | cons b s =>
        simp at h1
        subst h1
        by_cases h2 : s.head? = some 125
        · cases s with
          | nil => simp at h2
          | cons b s =>
            simp at h2
            subst h2
            rw [pupper_open] at h
            injection h with _ h
            simp at h
        · rw [pupper_num lo h2] at h
          split at h
          · rename_i hx
            injection h with _ h
            have := pnumber_len hx
            rw [h] at this
            simp at this
            omega
          · cases h
    · rw [pupper_no lo h1] at h
      injection h with h _
      rw [pupper_none, h]
  | cons b r =>
    by_cases hb : b = 44
    · subst hb
      rw [List.cons_append] at h
      by_cases h2 : (r ++ s).head? = some 125
      · cases r with
        | nil =>
          rw [List.nil_append] at h h2
          cases s with
          | nil => simp at h2
          | cons x s =>
            simp at h2
            subst h2
            rw [pupper_open] at h
            injection h with _ h
            have hv0 : v = [] := by
              have := congrArg List.length h
              simp at this
              exact this
            rcases hv with hv | hv
            · exact absurd hv0 hv
            · simp at hv
        | cons x r =>
          simp at h2
          subst h2
          rw [List.cons_append, pupper_open] at h
          injection h with h3 h4
          rw [pupper_open, h3, app_nil (r := 125 :: r) h4]
      · rw [pupper_num lo h2] at h
        have h3 : r.head? ≠ some 125 := by
          cases r with
          | nil => simp
          | cons x r => exact h2
        rw [pupper_num lo h3]
        cases hx : pnumber (r ++ s) with
        | er r' c => rw [hx] at h; cases h
        | ok n r' =>
          rw [hx] at h
          injection h with h5 h6
          rw [h6] at hx
          rw [pnumber_loc hx]
          simp only
          rw [h5]
    · rw [pupper_no lo (by simp [hb])] at h
      injection h with h3 h4
      rw [pupper_no lo (by simp [hb]), h3, app_nil h4]
theorem pupper_ers {lo : Nat} {r r' : List Nat} {c : Nat} (h : pupper lo r = .er r' c) : r' <:+ r := by
  by_cases h1 : r.head? = some 44
  · cases r with
    | nil => simp at h1
    | cons b r =>
      simp at h1
      subst h1
      by_cases h2 : r.head? = some 125
      · cases r with
        | nil => simp at h2
        | cons b r => simp at h2; subst h2; rw [pupper_open] at h; cases h
      · rw [pupper_num lo h2] at h
        split at h
        · cases h
        · rename_i hx
          injection h with h _
          subst h
          rw [pnumber_self hx]
          exact List.suffix_cons _ _
  · rw [pupper_no lo h1] at h; cases h
theorem pupper_cut {lo : Nat} {r s : List Nat} (h : pupper lo (r ++ s) = .er s 2) : pupper lo r = .er [] 2 := by
  cases r with
  | nil =>
    exfalso
    rw [List.nil_append] at h
    by_cases h1 : s.head? = some 44
    · cases s with
      | nil => simp at h1
      | cons b s =>
        simp at h1
        subst h1
        by_cases h2 : s.head? = some 125
        · cases s with
          | nil => simp at h2
          | cons b s => simp at h2; subst h2; rw [pupper_open] at h; cases h
        · rw [pupper_num lo h2] at h
          split at h
          · cases h
          · rename_i hx
            injection h with h _
            rw [pnumber_self hx] at h
            have := congrArg List.length h
            simp at this
    · rw [pupper_no lo h1] at h; cases h
  | cons b r =>
    by_cases hb : b = 44
    · subst hb
      rw [List.cons_append] at h
      by_cases h2 : (r ++ s).head? = some 125
      · exfalso
        cases hrs : r ++ s with
        | nil => rw [hrs] at h2; simp at h2
        | cons x q =>
          rw [hrs] at h2 h
          simp at h2
          subst h2
          rw [pupper_open] at h
          cases h
      · rw [pupper_num lo h2] at h
        have h3 : r.head? ≠ some 125 := by
          cases r with
          | nil => simp
          | cons x r => exact h2
        rw [pupper_num lo h3]
        cases hx : pnumber (r ++ s) with
        | ok n r' => rw [hx] at h; cases h
        | er r' c =>
          rw [hx] at h
          injection h with h5 h6
          rw [h5, h6] at hx
          rw [pnumber_cut hx]
    · rw [pupper_no lo (by simp [hb])] at h; cases h
theorem pbounds_suf {br r r' : List Nat} {t : Int × Int} (h : pbounds br r = .ok t r') : r' <:+ r := by
  cases hx : pnumber r with
  | er r1 c => rw [pbounds_er1 hx] at h; cases h
  | ok lo r1 =>
    cases hy : pupper lo r1 with
    | er r2 c => rw [pbounds_er2 hx hy] at h; cases h
    | ok hi r2 =>
      by_cases h3 : r2.head? = some 125
      · cases r2 with
        | nil => simp at h3
        | cons b r3 =>
          simp at h3
          subst h3
          rw [pbounds_in hx hy] at h
          split at h
          · cases h
          · injection h with _ h
            subst h
            exact ((List.suffix_cons _ _).trans (pupper_suf hy)).trans (pnumber_suf hx)
      · rw [pbounds_no hx hy h3] at h; cases h
theorem pbounds_loc {br br' r s v : List Nat} {t : Int × Int} (h : pbounds br (r ++ s) = .ok t (v ++ s)) : pbounds br' r = .ok t v := by
  cases hx : pnumber (r ++ s) with
  | er r1 c => rw [pbounds_er1 hx] at h; cases h
  | ok lo r1 =>
    cases hy : pupper lo r1 with
    | er r2 c => rw [pbounds_er2 hx hy] at h; cases h
    | ok hi r2 =>
      by_cases h3 : r2.head? = some 125
      · cases r2 with
        | nil => simp at h3
        | cons b r3 =>
          simp at h3
          subst h3
          rw [pbounds_in hx hy] at h
          split at h
          · cases h
          · rename_i hc
            injection h with h4 h5
            subst h5
            have hs := pupper_suf hy
            obtain ⟨w, hw⟩ := suf_split (v := 125 :: v) hs
            rw [hw] at hx hy
            have hx' := pnumber_loc hx
            have hy' := pupper_loc (v := 125 :: v) hy (.inl (by simp))
            rw [pbounds_in hx' hy', if_neg hc, h4]
      · rw [pbounds_no hx hy h3] at h; cases h
theorem pbounds_cut {br br' r s : List Nat} (hbr : br ≠ s) (h : pbounds br (r ++ s) = .er s 2) : pbounds br' r = .er [] 2 := by
  cases hx : pnumber (r ++ s) with
  | er r1 c =>
    rw [pbounds_er1 hx] at h
    injection h with h1 h2
    rw [h1, h2] at hx
    exact pbounds_er1 (pnumber_cut hx)
  | ok lo r1 =>
    cases hy : pupper lo r1 with
    | er r2 c =>
      rw [pbounds_er2 hx hy] at h
      injection h with h1 h2
      rw [h1, h2] at hy
      obtain ⟨w, hw⟩ := suf_split' (pupper_ers hy)
      rw [hw] at hx hy
      exact pbounds_er2 (pnumber_loc hx) (pupper_cut hy)
    | ok hi r2 =>
      by_cases h3 : r2.head? = some 125
      · cases r2 with
        | nil => simp at h3
        | cons b r3 =>
          simp at h3
          subst h3
          rw [pbounds_in hx hy] at h
          split at h
          · injection h with h _; exact absurd h hbr
          · cases h
      · rw [pbounds_no hx hy h3] at h
        injection h with h1 _
        subst h1
        obtain ⟨w, hw⟩ := suf_split' (pupper_suf hy)
        rw [hw] at hx hy
        have hy' : pupper lo w = .ok hi [] := pupper_loc (v := []) hy (.inr h3)
        exact pbounds_no (pnumber_loc hx) hy' (by simp)
theorem ptimes_loc {b : Nat} {r s v : List Nat} {t : Int × Int} (h : ptimes b (r ++ s) = .ok t (v ++ s)) : ptimes b r = .ok t v := by
  unfold ptimes at h ⊢
  split at h
  · rename_i h1; rw [if_pos h1]; injection h with h3 h4; rw [h3, app_nil h4]
  · rename_i h1
    rw [if_neg h1]
    split at h
    · rename_i h2; rw [if_pos h2]; injection h with h3 h4; rw [h3, app_nil h4]
    · rename_i h2
      rw [if_neg h2]
      split at h
      · rename_i h3; rw [if_pos h3]; injection h with h4 h5; rw [h4, app_nil h5]
      · rename_i h3
        rw [if_neg h3]
        exact pbounds_loc h
theorem ptimes_cut {b : Nat} {r s : List Nat} (h : ptimes b (r ++ s) = .er s 2) : ptimes b r = .er [] 2 := by
  unfold ptimes at h ⊢
  split at h
  · cases h
  · rename_i h1
    rw [if_neg h1]
    split at h
    · cases h
    · rename_i h2
      rw [if_neg h2]
      split at h
      · cases h
      · rename_i h3
        rw [if_neg h3]
        refine pbounds_cut (fun e => ?_) h
        have := congrArg List.length e
        simp at this
        omega

end Go.Proofs.YtpibkalbnjgpaaaDoor
