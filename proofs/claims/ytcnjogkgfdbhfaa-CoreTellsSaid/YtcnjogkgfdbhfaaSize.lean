/- How great the trees are that the reader makes: plain facts; and what Parse answers.
   No conditions but those that each theorem states. -/
import Derived.Test.YtcnjogkgfdbhfaaDeep
namespace Go.Proofs.Ytcnjogkgfdbhfaa

mutual
def dptT : T → Nat
  | .node _ _ _ _ ps => dptsT ps + 1
def dptsT : List T → Nat
  | [] => 0
  | t :: ts => max (dptT t) (dptsT ts)
end
mutual
def plcT : T → Nat
  | .node k _ _ _ ps => (if k = 1 then 1 else 0) + plcsT ps
def plcsT : List T → Nat
  | [] => 0
  | t :: ts => plcT t + plcsT ts
end
mutual
def szT : T → Nat
  | .node _ _ _ _ ps => szsT ps + 1
def szsT : List T → Nat
  | [] => 0
  | t :: ts => szT t + szsT ts
end
mutual
theorem dpt_erase : ∀ t : V, dptV t = dptT (erase t)
  | .node k C lo hi v ps => by rw [dptV, erase, dptT, dpts_erase ps]
theorem dpts_erase : ∀ ts : List V, dptsV ts = dptsT (erases ts)
  | [] => by rw [dptsV, erases, dptsT]
  | t :: ts => by rw [dptsV, erases, dptsT, dpt_erase t, dpts_erase ts]
end
mutual
theorem plc_erase : ∀ t : V, plcV t = plcT (erase t)
  | .node k C lo hi v ps => by rw [plcV, erase, plcT, plcs_erase ps]
theorem plcs_erase : ∀ ts : List V, plcsV ts = plcsT (erases ts)
  | [] => by rw [plcsV, erases, plcsT]
  | t :: ts => by rw [plcsV, erases, plcsT, plc_erase t, plcs_erase ts]
end
mutual
theorem dpt_sz : ∀ t : T, dptT t ≤ szT t
  | .node k C lo hi ps => by rw [dptT, szT]; have := dpts_sz ps; omega
theorem dpts_sz : ∀ ts : List T, dptsT ts ≤ szsT ts
  | [] => by rw [dptsT, szsT]; exact Nat.le_refl _
  | t :: ts => by rw [dptsT, szsT]; have := dpt_sz t; have := dpts_sz ts; omega
end
mutual
theorem plc_sz : ∀ t : T, plcT t ≤ szT t
  | .node k C lo hi ps => by rw [plcT, szT]; have := plcs_sz ps; split <;> omega
theorem plcs_sz : ∀ ts : List T, plcsT ts ≤ szsT ts
  | [] => by rw [plcsT, szsT]; exact Nat.le_refl _
  | t :: ts => by rw [plcsT, szsT]; have := plc_sz t; have := plcs_sz ts; omega
end
theorem szs_append (a b : List T) : szsT (a ++ b) = szsT a + szsT b := by
  induction a with
  | nil => simp [szsT]
  | cons t a ih => rw [List.cons_append, szsT, szsT, ih]; omega
theorem szs_one (t : T) : szsT [t] = szT t := by rw [szsT, szsT]; omega
theorem sz_join (k : Int) (ps : List T) : szT (joinT k ps) ≤ szsT ps + 1 := by
  match ps with
  | [] => show szT zeroT ≤ _; unfold zeroT; rw [szT, szsT]; omega
  | [p] => show szT p ≤ _; rw [szs_one]; omega
  | p :: q :: ps => show szT (.node k zeros 0 0 (p :: q :: ps)) ≤ _; rw [szT]; omega
theorem sz_rep (b : Int × Int) (t : T) : szT (repT b t) = szT t + 1 := by unfold repT; rw [szT, szs_one]
theorem szs_repLast (b : Int × Int) (ps : List T) : szsT (repLast b ps) ≤ szsT ps + 1 := by
  induction ps with
  | nil => show szsT [] ≤ _; rw [szsT]; omega
  | cons p ps ih =>
    cases ps with
    | nil => show szsT [repT b p] ≤ _; rw [szs_one, szs_one, sz_rep]; omega
    | cons q ps => show szsT (p :: repLast b (q :: ps)) ≤ _; rw [szsT, szsT]; omega
def szG (g : G) : Nat := szsT g.rows + szsT g.row
def szGs : List G → Nat
  | [] => 0
  | g :: gs => szG g + szGs gs
theorem sz_shut (g : G) : szT (shutT g) ≤ szG g + 2 := by
  unfold shutT szG
  have h1 := sz_join 3 (g.rows ++ [joinT 2 g.row])
  have h2 := sz_join 2 g.row
  rw [szs_append, szs_one] at h1
  omega
theorem sz_step {g : G} {frs : List G} {r : List Nat} {x : G × List G} {r' : List Nat} (h : pstep g frs r = .ok x r') : szG x.1 + szGs x.2 ≤ szG g + szGs frs + 2 := by
  cases r with
  | nil => cases h
  | cons b r =>
    simp only [pstep] at h
    split at h
    · injection h with h _; subst h
      have e1 : szGs (g :: frs) = szG g + szGs frs := rfl
      have e2 : szG ⟨[], []⟩ = 0 := by unfold szG; simp [szsT]
      show szG ⟨[], []⟩ + szGs (g :: frs) ≤ _
      rw [e1, e2]
      omega
    · split at h
      · injection h with h _; subst h
        have := sz_join 2 g.row
        simp only [szG, szs_append, szs_one]
        rw [show szsT [] = 0 from by rw [szsT]]
        omega
      · split at h
        · split at h
          · cases h
          · rename_i p ps
            injection h with h _; subst h
            have := sz_shut g
            simp only [szGs, szG, szs_append, szs_one] at this ⊢
            omega
        · split at h
          · split at h
            · cases h
            · split at h
              · cases h
              · rename_i t r2 _
                injection h with h _; subst h
                have := szs_repLast t g.row
                simp only [szG]
                omega
          · split at h
            · cases h
            · injection h with h _; subst h
              simp only [szG, szs_append, szs_one]
              have : ∀ S, szT (atomT S) = 1 := fun S => by unfold atomT; rw [szT, szsT]
              rw [this]
              omega
theorem prun_nil' (g : G) : prun g [] [] = .ok (shutT g) [] := by rw [prun]
theorem prun_open' (g p : G) (ps : List G) : prun g (p :: ps) [] = .er [] 2 := by rw [prun]
theorem prun_cons' (g : G) (frs : List G) (b : Nat) (r : List Nat) : prun g frs (b :: r) = match pstep g frs (b :: r) with
    | .er r' c => .er r' c
    | .ok x r' => prun x.1 x.2 r' := by
  rw [prun]
  cases pstep g frs (b :: r) <;> rfl
theorem sz_run : ∀ (n : Nat) {g : G} {frs : List G} {r : List Nat} {t : T} {r' : List Nat}, r.length ≤ n → prun g frs r = .ok t r' → szT t ≤ szG g + szGs frs + 2 * r.length + 2
  | n, g, frs, [], t, r', _, h => by
    cases frs with
    | nil => rw [prun_nil'] at h; injection h with h _; subst h; have := sz_shut g; simp [szGs]; omega
    | cons p ps => rw [prun_open'] at h; cases h
  | n, g, frs, b :: r, t, r', hn, h => by
    rw [prun_cons'] at h
    split at h
    · cases h
    · rename_i x r2 hx
      have hl := pstep_len hx
      have hs := sz_step hx
      match n, hn with
      | 0, hn => simp at hn
      | n + 1, hn =>
        simp at hn hl
        have := sz_run n (by omega) h
        simp
        omega
theorem sz_all {r : List Nat} {t : T} {r' : List Nat} (h : prun ⟨[], []⟩ [] r = .ok t r') : szT t ≤ 2 * r.length + 2 := by
  have := sz_run _ (Nat.le_refl _) h
  have e : szG ⟨[], []⟩ = 0 := by unfold szG; simp [szsT]
  rw [e] at this
  simp [szGs] at this
  omega

/-- What Parse answers of a text: its tree, a place, an error's number. -/
def pparse (L : List Nat) : T × Nat × Nat :=
  if 400 < L.length then (zeroT, 0, 3) else match prun ⟨[], []⟩ [] L with
    | .er r c => (zeroT, L.length - r.length, c)
    | .ok t _ => if 20 < dptT t ∨ 40 < plcT t then (zeroT, 0, 3) else (t, 0, 0)
theorem pparse_long {L : List Nat} (h : 400 < L.length) : pparse L = (zeroT, 0, 3) := by unfold pparse; rw [if_pos h]
theorem pparse_er {L r : List Nat} {c : Nat} (h : ¬ 400 < L.length) (h2 : prun ⟨[], []⟩ [] L = .er r c) : pparse L = (zeroT, L.length - r.length, c) := by unfold pparse; rw [if_neg h, h2]
theorem pparse_ok {L r : List Nat} {t : T} (h : ¬ 400 < L.length) (h2 : prun ⟨[], []⟩ [] L = .ok t r) : pparse L = if 20 < dptT t ∨ 40 < plcT t then (zeroT, 0, 3) else (t, 0, 0) := by unfold pparse; rw [if_neg h, h2]

end Go.Proofs.Ytcnjogkgfdbhfaa
