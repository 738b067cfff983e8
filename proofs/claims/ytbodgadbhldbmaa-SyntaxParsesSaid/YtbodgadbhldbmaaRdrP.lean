/- A text as the document's own reader goes through it: groups that are read in one go. Plain facts: no program is spoken of here.
   No conditions but those that each theorem states. -/
import Derived.Test.YtbodgadbhldbmaaWake
namespace Go.Proofs.Ytbodgadbhldbmaa

/-- What comes up to the end of the group that is read, or of the text. -/
def pgrp (g : G) (frs : List G) (r : List Nat) : Out G :=
  match r with
  | [] => if frs = [] then .ok g [] else .er [] 2
  | b :: r => if b = 41 ∧ frs = [] then .ok g (b :: r) else match _h : pstep g frs (b :: r) with
    | .er r' c => .er r' c
    | .ok x r' => pgrp x.1 x.2 r'
termination_by r.length
decreasing_by have := pstep_len _h; simp at this ⊢; omega
theorem pgrp_nil (g : G) : pgrp g [] [] = .ok g [] := by rw [pgrp, if_pos rfl]
theorem pgrp_open (g p : G) (ps : List G) : pgrp g (p :: ps) [] = .er [] 2 := by rw [pgrp, if_neg (by simp)]
theorem pgrp_shut (g : G) (r : List Nat) : pgrp g [] (41 :: r) = .ok g (41 :: r) := by rw [pgrp, if_pos ⟨rfl, rfl⟩]
theorem pgrp_step {g : G} {frs : List G} {b : Nat} {r : List Nat} (h : ¬ (b = 41 ∧ frs = [])) : pgrp g frs (b :: r) = match pstep g frs (b :: r) with
    | .er r' c => .er r' c
    | .ok x r' => pgrp x.1 x.2 r' := by
  rw [pgrp, if_neg h]
  cases pstep g frs (b :: r) <;> rfl
theorem pgrp_run : ∀ (n : Nat) (g : G) (frs : List G) (r : List Nat), r.length ≤ n → prun g frs r = match pgrp g frs r with
    | .er r' c => .er r' c
    | .ok g' [] => .ok (shutT g') []
    | .ok _ (b :: r') => .er (b :: r') 2
  | n, g, frs, [], _ => by
    cases frs with
    | nil => rw [pgrp_nil, prun_nil']
    | cons p ps => rw [pgrp_open, prun_open']
  | n, g, frs, b :: r, hn => by
    by_cases hc : b = 41 ∧ frs = []
    · obtain ⟨rfl, rfl⟩ := hc
      rw [pgrp_shut, prun_cons']
      rfl
    · rw [pgrp_step hc, prun_cons']
      cases hx : pstep g frs (b :: r) with
      | er r' c => rfl
      | ok x r' =>
        have hl := pstep_len hx
        match n, hn with
        | 0, hn => simp at hn
        | n + 1, hn =>
          simp only
          exact pgrp_run n _ _ _ (by simp at hn hl; omega)
theorem pstep_more (g : G) (fi rest : List G) (b : Nat) (r : List Nat) (h : ¬ (b = 41 ∧ fi = [])) : pstep g (fi ++ rest) (b :: r) = match pstep g fi (b :: r) with
    | .er r' c => .er r' c
    | .ok x r' => .ok (x.1, x.2 ++ rest) r' := by
  simp only [pstep]
  by_cases h1 : b = 40
  · simp [h1]
  · by_cases h2 : b = 124
    · simp [h2]
    · by_cases h3 : b = 41
      · subst h3
        cases fi with
        | nil => exact absurd ⟨rfl, rfl⟩ h
        | cons p ps => simp
      · rw [if_neg h1, if_neg h2, if_neg h3, if_neg h1, if_neg h2, if_neg h3]
        by_cases h4 : b = 42 ∨ b = 43 ∨ b = 63 ∨ b = 123
        · rw [if_pos h4, if_pos h4]
          by_cases h5 : g.row = []
          · rw [if_pos h5, if_pos h5]
          · rw [if_neg h5, if_neg h5]
            cases ptimes b r <;> rfl
        · rw [if_neg h4, if_neg h4]
          cases pset (b :: r) <;> rfl
theorem pgrp_in : ∀ (n : Nat) (gi : G) (fi : List G) (g : G) (frs : List G) (r : List Nat), r.length ≤ n → pgrp gi (fi ++ g :: frs) r = match pgrp gi fi r with
    | .er r' c => .er r' c
    | .ok _ [] => .er [] 2
    | .ok g' (_ :: r') => pgrp ⟨g.rows, g.row ++ [shutT g']⟩ frs r'
  | n, gi, fi, g, frs, [], _ => by
    cases fi with
    | nil => rw [pgrp_nil]; exact pgrp_open _ _ _
    | cons p ps => rw [pgrp_open]; exact pgrp_open _ _ _
  | n, gi, fi, g, frs, b :: r, hn => by
    by_cases hc : b = 41 ∧ fi = []
    · obtain ⟨rfl, rfl⟩ := hc
      rw [pgrp_shut]
      simp only [List.nil_append]
      rw [pgrp_step (by simp)]
      rfl
    · have hc2 : ¬ (b = 41 ∧ fi ++ g :: frs = []) := by simp
      rw [pgrp_step hc, pgrp_step hc2, pstep_more _ _ _ _ _ hc]
      cases hx : pstep gi fi (b :: r) with
      | er r' c => rfl
      | ok x r' =>
        have hl := pstep_len hx
        match n, hn with
        | 0, hn => simp at hn
        | n + 1, hn => exact pgrp_in n _ _ _ _ _ (by simp at hn hl; omega)
/-- An atom. -/
def patm : List Nat → Out T
  | 40 :: r => match pgrp ⟨[], []⟩ [] r with
    | .er r' c => .er r' c
    | .ok _ [] => .er [] 2
    | .ok g (_ :: r') => .ok (shutT g) r'
  | r => match pset r with
    | .ok S r' => .ok (atomT S) r'
    | .er r' c => .er r' c
theorem patm_open (r : List Nat) : patm (40 :: r) = match pgrp ⟨[], []⟩ [] r with
    | .er r' c => .er r' c
    | .ok _ [] => .er [] 2
    | .ok g (_ :: r') => .ok (shutT g) r' := rfl
theorem patm_other {b : Nat} {r : List Nat} (h : b ≠ 40) : patm (b :: r) = match pset (b :: r) with
    | .ok S r' => .ok (atomT S) r'
    | .er r' c => .er r' c := by
  unfold patm
  split
  · rename_i e; injection e with e _; exact absurd e h
  · rfl
theorem pgrp_atm {g : G} {b : Nat} {r : List Nat} (h1 : b ≠ 41) (h2 : b ≠ 124) (h3 : ¬ (b = 42 ∨ b = 43 ∨ b = 63 ∨ b = 123)) : pgrp g [] (b :: r) = match patm (b :: r) with
    | .er r' c => .er r' c
    | .ok t r' => pgrp ⟨g.rows, g.row ++ [t]⟩ [] r' := by
  rw [pgrp_step (by simp [h1])]
  by_cases h : b = 40
  · subst h
    rw [patm_open]
    have : pstep g [] (40 :: r) = .ok (⟨[], []⟩, [g]) r := rfl
    rw [this]
    simp only
    have h5 := pgrp_in r.length ⟨[], []⟩ [] g [] r (Nat.le_refl _)
    simp only [List.nil_append] at h5
    rw [h5]
    cases hx : pgrp ⟨[], []⟩ [] r with
    | er r' c => rfl
    | ok g' r' => cases r' <;> rfl
  · rw [patm_other h]
    simp only [pstep]
    rw [if_neg h, if_neg h2, if_neg h1, if_neg h3]
    cases pset (b :: r) <;> rfl
def isPost (b : Nat) : Prop := b = 42 ∨ b = 43 ∨ b = 63 ∨ b = 123
instance (b : Nat) : Decidable (isPost b) := by unfold isPost; infer_instance
/-- How often an atom comes, as often as it is told. -/
def ppost (t : T) (r : List Nat) : Out T :=
  match r with
  | [] => .ok t []
  | b :: r => if isPost b then (match _h : ptimes b r with
    | .er r' c => .er r' c
    | .ok x r' => ppost (repT x t) r') else .ok t (b :: r)
termination_by r.length
decreasing_by have := ptimes_len _h; simp; omega
theorem ppost_nil (t : T) : ppost t [] = .ok t [] := by rw [ppost]
theorem ppost_not {t : T} {b : Nat} {r : List Nat} (h : ¬ isPost b) : ppost t (b :: r) = .ok t (b :: r) := by rw [ppost, if_neg h]
theorem ppost_step {t : T} {b : Nat} {r : List Nat} (h : isPost b) : ppost t (b :: r) = match ptimes b r with
    | .er r' c => .er r' c
    | .ok x r' => ppost (repT x t) r' := by
  rw [ppost, if_pos h]
  cases ptimes b r <;> rfl
theorem pgrp_post : ∀ (n : Nat) (rows row : List T) (t : T) (r : List Nat), r.length ≤ n → pgrp ⟨rows, row ++ [t]⟩ [] r = match ppost t r with
    | .er r' c => .er r' c
    | .ok t' r' => pgrp ⟨rows, row ++ [t']⟩ [] r'
  | n, rows, row, t, [], _ => by rw [ppost_nil]
  | n, rows, row, t, b :: r, hn => by
    by_cases hp : isPost b
    · rw [ppost_step hp]
      have h41 : b ≠ 41 := by unfold isPost at hp; omega
      rw [pgrp_step (by simp [h41])]
      have hs : pstep ⟨rows, row ++ [t]⟩ [] (b :: r) = match ptimes b r with
        | .er r' c => .er r' c
        | .ok x r' => .ok (⟨rows, row ++ [repT x t]⟩, []) r' := by
        simp only [pstep]
        rw [if_neg (by unfold isPost at hp; omega), if_neg (by unfold isPost at hp; omega), if_neg h41, if_pos (show b = 42 ∨ b = 43 ∨ b = 63 ∨ b = 123 from hp), if_neg (by simp)]
        cases ptimes b r with
        | er r' c => rfl
        | ok x r' => simp only [repLast_snoc]
      rw [hs]
      cases hx : ptimes b r with
      | er r' c => rfl
      | ok x r' =>
        have hl := ptimes_len hx
        match n, hn with
        | 0, hn => simp at hn
        | n + 1, hn =>
          simp only
          exact pgrp_post n _ _ _ _ (by simp at hn; omega)
    · rw [ppost_not hp]
theorem ppost_end : ∀ (n : Nat) {t t' : T} {r r' : List Nat}, r.length ≤ n → ppost t r = .ok t' r' → ∀ b r2, r' = b :: r2 → ¬ isPost b
  | n, t, t', [], r', _, h => by rw [ppost_nil] at h; injection h with _ h; subst h; intro b r2 e; cases e
  | n, t, t', b :: r, r', hn, h => by
    by_cases hp : isPost b
    · rw [ppost_step hp] at h
      split at h
      · cases h
      · rename_i x r1 hx
        have hl := ptimes_len hx
        match n, hn with
        | 0, hn => simp at hn
        | n + 1, hn => exact ppost_end n (by simp at hn; omega) h
    · rw [ppost_not hp] at h
      injection h with _ h
      subst h
      intro c r2 e
      injection e with e _
      subst e
      exact hp
theorem pgrp_bar (g : G) (r : List Nat) : pgrp g [] (124 :: r) = pgrp ⟨g.rows ++ [joinT 2 g.row], []⟩ [] r := by
  rw [pgrp_step (by simp)]
  rfl
theorem pgrp_bad {g : G} {b : Nat} {r : List Nat} (h : isPost b) (hg : g.row = []) : pgrp g [] (b :: r) = .er (b :: r) 2 := by
  have h41 : b ≠ 41 := by unfold isPost at h; omega
  rw [pgrp_step (by simp [h41])]
  simp only [pstep]
  rw [if_neg (by unfold isPost at h; omega), if_neg (by unfold isPost at h; omega), if_neg h41, if_pos (show b = 42 ∨ b = 43 ∨ b = 63 ∨ b = 123 from h), if_pos hg]

end Go.Proofs.Ytbodgadbhldbmaa
