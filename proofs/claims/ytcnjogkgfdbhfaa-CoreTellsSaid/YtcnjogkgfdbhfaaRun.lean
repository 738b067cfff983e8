/- What the reader makes of a text: trees, its groups, its steps, as plain functions.
   No conditions but those that each theorem states. -/
import Derived.Test.YtcnjogkgfdbhfaaMem
namespace Go.Proofs.Ytcnjogkgfdbhfaa

/-- A tree, wherever it lies. -/
inductive T where
  | node (k : Int) (C : Nat → Nat) (lo hi : Int) (ps : List T)
def T.kind : T → Int | .node k _ _ _ _ => k
def T.ps : T → List T | .node _ _ _ _ p => p
mutual
def erase : V → T
  | .node k C lo hi _ ps => .node k C lo hi (erases ps)
def erases : List V → List T
  | [] => []
  | t :: ts => erase t :: erases ts
end
theorem erases_map (ps : List V) : erases ps = ps.map erase := by
  induction ps with
  | nil => rfl
  | cons t ts ih => rw [erases, ih, List.map_cons]
theorem erases_append (ps qs : List V) : erases (ps ++ qs) = erases ps ++ erases qs := by simp [erases_map]
theorem erases_length (ps : List V) : (erases ps).length = ps.length := by simp [erases_map]
theorem erases_one (t : V) : erases [t] = [erase t] := rfl
theorem erases_nil_iff (ps : List V) : erases ps = [] ↔ ps = [] := by simp [erases_map]
def zeroT : T := .node 0 zeros 0 0 []
def joinT (kind : Int) : List T → T
  | [] => zeroT
  | [p] => p
  | ps => .node kind zeros 0 0 ps
theorem erase_join (kind : Int) (v : Value) (ps : List V) : erase (joinV kind v ps) = joinT kind (erases ps) := by
  match ps with
  | [] => rfl
  | [p] => rfl
  | p :: q :: ps => rfl
structure G where
  rows : List T
  row : List T
def Grp.er (g : Grp) : G := ⟨erases g.rows, erases g.row⟩
def shutT (g : G) : T := joinT 3 (g.rows ++ [joinT 2 g.row])
def atomT (S : Nat → Bool) : T := .node 1 (canon S) 0 0 []
def repT (b : Int × Int) (t : T) : T := .node 4 zeros b.1 b.2 [t]
/-- The last one of a row, repeated. -/
def repLast (b : Int × Int) : List T → List T
  | [] => []
  | [t] => [repT b t]
  | t :: ts => t :: repLast b ts
theorem repLast_snoc (b : Int × Int) (ps : List T) (t : T) : repLast b (ps ++ [t]) = ps ++ [repT b t] := by
  induction ps with
  | nil => rfl
  | cons p ps ih =>
    cases ps with
    | nil => rfl
    | cons q ps =>
      show p :: repLast b (q :: ps ++ [t]) = _
      rw [ih]
      rfl
theorem repLast_length (b : Int × Int) (ps : List T) : (repLast b ps).length = ps.length := by
  induction ps with
  | nil => rfl
  | cons p ps ih =>
    cases ps with
    | nil => rfl
    | cons q ps => show (repLast b (q :: ps)).length + 1 = _; rw [ih]; rfl
def pstep (g : G) (frs : List G) : List Nat → Out (G × List G)
  | [] => .er [] 2
  | b :: r =>
    if b = 40 then .ok (⟨[], []⟩, g :: frs) r
    else if b = 124 then .ok (⟨g.rows ++ [joinT 2 g.row], []⟩, frs) r
    else if b = 41 then (match frs with
      | [] => .er (b :: r) 2
      | p :: ps => .ok (⟨p.rows, p.row ++ [shutT g]⟩, ps) r)
    else if b = 42 ∨ b = 43 ∨ b = 63 ∨ b = 123 then
      (if g.row = [] then .er (b :: r) 2 else match ptimes b r with
        | .er r' c => .er r' c
        | .ok t r' => .ok (⟨g.rows, repLast t g.row⟩, frs) r')
    else match pset (b :: r) with
      | .er r' c => .er r' c
      | .ok S r' => .ok (⟨g.rows, g.row ++ [atomT S]⟩, frs) r'

theorem pnumber_len {r : List Nat} {n : Nat} {r' : List Nat} (h : pnumber r = .ok n r') : r'.length ≤ r.length := by
  unfold pnumber at h
  split at h
  · cases h
  · split at h
    · cases h
    · injection h with _ h
      subst h
      exact digs_le r 0
theorem pupper_len {lo : Nat} {r : List Nat} {hi : Int} {r' : List Nat} (h : pupper lo r = .ok hi r') : r'.length ≤ r.length := by
  by_cases h1 : r.head? = some 44
  · cases r with
    | nil => simp at h1
    | cons b r =>
      simp at h1
      subst h1
      by_cases h2 : r.head? = some 125
      · cases r with
        | nil => simp at h2
        | cons b r =>
          simp at h2
          subst h2
          rw [pupper_open] at h
          injection h with _ h
          subst h
          simp
      · rw [pupper_num lo h2] at h
        split at h
        · rename_i hx
          injection h with _ h
          subst h
          have := pnumber_len hx
          simp; omega
        · cases h
  · rw [pupper_no lo h1] at h
    injection h with _ h
    subst h
    exact Nat.le_refl _
theorem ptimes_len {b : Nat} {r : List Nat} {t : Int × Int} {r' : List Nat} (h : ptimes b r = .ok t r') : r'.length ≤ r.length := by
  unfold ptimes at h
  split at h
  · injection h with _ h; subst h; exact Nat.le_refl _
  · split at h
    · injection h with _ h; subst h; exact Nat.le_refl _
    · split at h
      · injection h with _ h; subst h; exact Nat.le_refl _
      · cases hx : pnumber r with
        | er r1 c => rw [pbounds_er1 hx] at h; cases h
        | ok lo r1 =>
          have l1 := pnumber_len hx
          cases hy : pupper lo r1 with
          | er r2 c => rw [pbounds_er2 hx hy] at h; cases h
          | ok hi r2 =>
            have l2 := pupper_len hy
            by_cases h3 : r2.head? = some 125
            · cases r2 with
              | nil => simp at h3
              | cons b r3 =>
                simp at h3
                subst h3
                rw [pbounds_in hx hy] at h
                split at h
                · cases h
                · injection h with _ h
                  subst h
                  simp at l2
                  omega
            · rw [pbounds_no hx hy h3] at h; cases h
theorem pitems_len : ∀ (n : Nat) {first : Bool} {S : Nat → Bool} {r : List Nat} {S' : Nat → Bool} {r' : List Nat}, r.length ≤ n → pitems first S r = .ok S' r' → r'.length < r.length
  | n, first, S, r, S', r', hn, h => by
    by_cases hend : first = false ∧ r.head? = some 93
    · rw [pitems, if_pos hend] at h
      injection h with _ h
      subst h
      cases r with
      | nil => simp at hend
      | cons b r => simp
    · rw [pitems_more hend] at h
      split at h
      · cases h
      · rename_i hx
        have hle := pitem_le hx
        match n, hn with
        | 0, hn => omega
        | n + 1, hn =>
          have := pitems_len n (by omega) h
          omega
theorem pset_len {r : List Nat} {S : Nat → Bool} {r' : List Nat} (h : pset r = .ok S r') : r'.length < r.length := by
  cases r with
  | nil => unfold pset pplain at h; cases h
  | cons b r =>
    by_cases h1 : b = 46
    · subst h1; rw [pset_dot] at h; injection h with _ h; subst h; simp
    · by_cases h2 : b = 91
      · subst h2
        rw [pset_brack] at h
        unfold pbrack at h
        split at h
        · split at h
          · rename_i hx
            injection h with _ h
            subst h
            have := pitems_len _ (Nat.le_refl _) hx
            have := List.length_tail (l := r)
            simp; omega
          · cases h
        · have := pitems_len _ (Nat.le_refl _) h
          simp; omega
      · rw [pset_plain h1 h2] at h
        split at h
        · rename_i hx
          injection h with _ h
          subst h
          exact pplain_le hx
        · cases h
theorem pstep_len {g : G} {frs : List G} {r : List Nat} {x : G × List G} {r' : List Nat} (h : pstep g frs r = .ok x r') : r'.length < r.length := by
  cases r with
  | nil => cases h
  | cons b r =>
    simp only [pstep] at h
    split at h
    · injection h with _ h; subst h; simp
    · split at h
      · injection h with _ h; subst h; simp
      · split at h
        · split at h
          · cases h
          · injection h with _ h; subst h; simp
        · split at h
          · split at h
            · cases h
            · split at h
              · cases h
              · rename_i hx
                injection h with _ h
                subst h
                have := ptimes_len hx
                simp; omega
          · split at h
            · cases h
            · rename_i hx
              injection h with _ h
              subst h
              exact pset_len hx

def prun (g : G) (frs : List G) (r : List Nat) : Out T :=
  match r with
  | [] => match frs with
    | [] => .ok (shutT g) []
    | _ :: _ => .er [] 2
  | b :: r0 => match _h : pstep g frs (b :: r0) with
    | .er r' c => .er r' c
    | .ok x r' => prun x.1 x.2 r'
termination_by r.length
decreasing_by exact pstep_len _h

/-- How great a group's lists, and the stack, are. -/
def Bd (n : Nat) (g : G) (frs : List G) : Prop := g.rows.length ≤ n ∧ g.row.length ≤ n ∧ (∀ x, x ∈ frs → x.rows.length ≤ n ∧ x.row.length ≤ n) ∧ frs.length ≤ n
theorem Bd.mono {n m : Nat} {g : G} {frs : List G} (h : Bd n g frs) (hm : n ≤ m) : Bd m g frs :=
  ⟨Nat.le_trans h.1 hm, Nat.le_trans h.2.1 hm, fun x hx => ⟨Nat.le_trans (h.2.2.1 x hx).1 hm, Nat.le_trans (h.2.2.1 x hx).2 hm⟩, Nat.le_trans h.2.2.2 hm⟩
theorem Bd.step {n : Nat} {g : G} {frs : List G} {r : List Nat} {x : G × List G} {r' : List Nat} (hb : Bd n g frs) (h : pstep g frs r = .ok x r') : Bd (n + 1) x.1 x.2 := by
  have hb1 := hb.mono (Nat.le_succ n)
  cases r with
  | nil => cases h
  | cons b r =>
    simp only [pstep] at h
    split at h
    · injection h with h _; subst h
      refine ⟨by simp, by simp, fun y hy => ?_, by have := hb.2.2.2; simp; omega⟩
      rcases List.mem_cons.1 hy with rfl | hy
      · exact ⟨hb1.1, hb1.2.1⟩
      · exact hb1.2.2.1 y hy
    · split at h
      · injection h with h _; subst h
        exact ⟨by have := hb.1; simp; omega, by simp, hb1.2.2.1, hb1.2.2.2⟩
      · split at h
        · split at h
          · cases h
          · rename_i p ps
            injection h with h _; subst h
            have hp := hb.2.2.1 p (by simp)
            have hl := hb.2.2.2
            simp at hl
            exact ⟨by have := hp.1; show p.rows.length ≤ n + 1; omega, by have := hp.2; simp; omega, fun y hy => hb1.2.2.1 y (by simp [hy]), by show ps.length ≤ n + 1; omega⟩
        · split at h
          · split at h
            · cases h
            · split at h
              · cases h
              · injection h with h _; subst h
                exact ⟨hb1.1, by show (repLast _ g.row).length ≤ n + 1; rw [repLast_length]; exact hb1.2.1, hb1.2.2.1, hb1.2.2.2⟩
          · split at h
            · cases h
            · injection h with h _; subst h
              exact ⟨hb1.1, by have := hb.2.1; simp; omega, hb1.2.2.1, hb1.2.2.2⟩

end Go.Proofs.Ytcnjogkgfdbhfaa
