/- The simple tree's own simple tree is it; it is void, and nullable, as the tree is; it has no more places, and isn't deeper: plain facts.
   Conditions: the trees are formed. -/
import Derived.Test.YtnebfniekeknaaaDoorMSim

/- The simple tree's own simple tree is it; it is void, and nullable, as the tree is; it has no more places, and isn't deeper: plain facts.
   Conditions: the trees are formed. -/
namespace Go.Proofs.YtnebfniekeknaaaDoor
open Go.RowKit

/-- Of alternatives none is there already. -/
inductive PwT : T → Prop
  | mk (k : Int) (C : Nat → Nat) (lo hi : Int) (ps : List T) (h : k = 3 → leftT 3 [] ps = ps) (hp : ∀ p ∈ ps, PwT p) : PwT (.node k C lo hi ps)
theorem PwT.part {t : T} (h : PwT t) : ∀ p ∈ t.ps, PwT p := by
  cases h with
  | mk k C lo hi ps _ hp => exact hp
theorem pw_none : PwT noT := .mk _ _ _ _ _ (fun e => by cases e) fun p hp => by cases hp
theorem pw_empty : PwT emptyT := .mk _ _ _ _ _ (fun e => by cases e) fun p hp => by cases hp
theorem pw_one {k : Int} : ∀ {l : List T}, (k = 3 → leftT 3 [] l = l) → (∀ t ∈ l, PwT t) → PwT (oneOf k l)
  | [], _, _ => pw_none
  | [t], _, h => h t (by simp)
  | t :: u :: ts, hl, h => .mk _ _ _ _ _ hl h
theorem pw_rep {lo hi : Int} {s : T} (h : PwT s) : PwT (rep4 lo hi s) := by
  unfold rep4
  split
  · exact pw_none
  · split
    · exact h
    · exact .mk _ _ _ _ _ (fun e => by cases e) fun p hp => by rw [List.mem_singleton.1 hp]; exact h
mutual
theorem sim_pw : ∀ t : T, okT t = true → PwT (simT t)
  | .node k C lo hi ps, hok => by
    have hs := sims_pw ps (ok_parts hok)
    have ha := of_decide_eq_true (ok_kind hok)
    rw [simT]
    split
    · exact pw_empty
    · split
      · refine .mk _ _ _ _ _ (fun e => by omega) ?_
        have h0 : ps.length = 0 := by
          rcases ha with h | h | h | h <;> omega
        rw [List.length_eq_zero_iff.1 h0]
        exact fun p hp => by cases hp
      · split
        · cases hl : simsT ps with
          | nil => exact pw_none
          | cons s l => exact pw_rep (hs s (by rw [hl]; simp))
        · refine pw_one (fun e => ?_) fun u hu => left_all (P := PwT) _ _ (by simp) (fun x hx => ?_) u hu
          · subst e
            have := left_left (spreadT 3 (simsT ps)) [] []
            rw [show leftT 3 [] [] = [] from rfl] at this
            exact this
          · rcases spread_mem hx with ⟨v, hv, _, h2⟩ | ⟨h1, _⟩
            · exact (hs v hv).part x h2
            · exact hs x h1
theorem sims_pw : ∀ ts : List T, oksT ts = true → ∀ u ∈ simsT ts, PwT u
  | [], _, u, hu => by rw [simsT] at hu; cases hu
  | t :: ts, h, u, hu => by
    rw [oksT, Bool.and_eq_true] at h
    rw [simsT] at hu
    rcases List.mem_cons.1 hu with e | hu
    · rw [e]; exact sim_pw t h.1
    · exact sims_pw ts h.2 u hu
end
theorem spread_self {k : Int} : ∀ {l : List T}, (∀ t ∈ l, t.kind ≠ k) → spreadT k l = l
  | [], _ => rfl
  | t :: l, h => by rw [spreadT, if_neg (h t (by simp)), spread_self fun u hu => h u (List.mem_cons_of_mem _ hu)]; rfl
theorem left2_self : ∀ {a l : List T}, (∀ t ∈ a, t.kind ≠ 0) → leftT 2 l a = l ++ a
  | [], l, _ => by rw [leftT, List.append_nil]
  | t :: a, l, h => by
    rw [leftT, show dropT 2 l t = false by simp [dropT, h t (by simp)], left2_self fun u hu => h u (List.mem_cons_of_mem _ hu)]
    simp
theorem one_self {k : Int} : ∀ {l : List T}, 2 ≤ l.length → oneOf k l = .node k zeros 0 0 l
  | [], h => by simp at h
  | [_], h => by simp at h
  | _ :: _ :: _, _ => rfl
theorem washed_zero {C : Nat → Nat} (h : wash C = C) (hz : z4 C = true) : C = zeros := by rw [← h]; exact wash_zero hz
mutual
theorem sim_self : ∀ s : T, Thin s → PwT s → simT s = s
  | .node k C lo hi ps, ht, hp => by
    have hs := sims_self ps (fun p hpm => ht.part hpm) (fun p hpm => hp.part p hpm)
    have hvd := ln_vd ht.ln
    have hws := ht.ws
    cases hws with
    | mk _ _ _ _ _ hC hk _ =>
      have ha := of_decide_eq_true hk
      rw [simT, if_neg (by rw [hvd]; decide)]
      split
      · rw [hC]
      · split
        · rename_i _ h4
          subst h4
          rcases ha with h | h | h | h
          · omega
          · omega
          · omega
          · obtain ⟨_, hz, hl, _⟩ := h
            obtain ⟨p, rfl⟩ := List.length_eq_one_iff.1 hl
            rw [hs]
            obtain ⟨k1, k2, k3, k4⟩ := ht.four rfl (show p ∈ (T.node 4 C lo hi [p]).ps from by show p ∈ [p]; simp)
            have hv1 := ln_vd (ln_ps ht.ln p (show p ∈ (T.node 4 C lo hi [p]).ps from by show p ∈ [p]; simp))
            show rep4 lo hi p = _
            have k3' : hi ≠ 0 := k3
            have k4' : ¬ (lo = 1 ∧ hi = 1) := k4
            unfold rep4
            rw [if_neg (by rintro (h | h | h); exact k3' h; exact k1 h; rw [hv1] at h; cases h), if_neg k4', washed_zero hC hz]
            congr 1
            split
            · rename_i hn; exact (k2 hn).symm
            · rfl
        · have h23 : (k = 2 ∨ k = 3) ∧ z4 C = true ∧ lo = 0 ∧ hi = 0 ∧ 2 ≤ ps.length := by
            rcases ha with h | h | h | h
            · omega
            · omega
            · exact h
            · omega
          obtain ⟨hk23, hz, rfl, rfl, hl⟩ := h23
          rw [hs, washed_zero hC hz]
          rcases hk23 with rfl | rfl
          · have h2 : ∀ p ∈ ps, p.kind ≠ 0 ∧ p.kind ≠ 2 := ht.sm.two rfl
            rw [spread_self fun t htm => (h2 t htm).2, left2_self fun t htm => (h2 t htm).1, List.nil_append, one_self hl]
          · have h3 : ∀ p ∈ ps, p.kind ≠ 3 := ht.sm.three rfl
            cases hp with
            | mk _ _ _ _ _ hpw _ => rw [spread_self fun t htm => h3 t htm, hpw rfl, one_self hl]
theorem sims_self : ∀ ts : List T, (∀ p ∈ ts, Thin p) → (∀ p ∈ ts, PwT p) → simsT ts = ts
  | [], _, _ => rfl
  | t :: ts, h, g => by rw [simsT, sim_self t (h t (by simp)) (g t (by simp)), sims_self ts (fun p hp => h p (List.mem_cons_of_mem _ hp)) fun p hp => g p (List.mem_cons_of_mem _ hp)]
end
theorem sim_sim {t : T} (hok : okT t = true) : simT (simT t) = simT t := by
  cases hv : vdT t with
  | true => rw [sim_void hv, sim_void vd_empty]
  | false => exact sim_self _ (sim_thin hok hv) (sim_pw t hok)
theorem vd_simT {t : T} (hok : okT t = true) : vdT (simT t) = vdT t := by
  cases hv : vdT t with
  | true => rw [sim_void hv]; exact vd_empty
  | false => exact ln_vd (sim_ln t hok hv)
theorem nu_simT {t : T} (hok : okT t = true) : nuT (simT t) = nuT t := by
  cases hv : vdT t with
  | true => rw [sim_void hv, void_nu t hok hv]; rfl
  | false => exact sim_nu t hok hv
-- places
theorem plcs_app (a b : List T) : plcsT (a ++ b) = plcsT a + plcsT b := by
  induction a with
  | nil => rw [plcsT, List.nil_append]; omega
  | cons t a ih => rw [List.cons_append, plcsT, plcsT, ih]; omega
theorem plc_spread {k : Int} (l : List T) : plcsT (spreadT k l) ≤ plcsT l := by
  induction l with
  | nil => rw [spreadT]; exact Nat.le_refl _
  | cons t l ih =>
    rw [spreadT, plcs_app, plcsT]
    have : plcsT (if t.kind = k then t.ps else [t]) ≤ plcT t := by
      split
      · cases t with
        | node k' C lo hi ps => rw [plcT]; show plcsT ps ≤ _; omega
      · rw [plcsT, plcsT]; omega
    omega
theorem plc_left (k : Int) : ∀ (a l : List T), plcsT (leftT k l a) ≤ plcsT l + plcsT a
  | [], l => by rw [leftT, plcsT]; omega
  | t :: a, l => by
    rw [leftT, plcsT]
    refine Nat.le_trans (plc_left k a _) ?_
    split
    · omega
    · rw [plcs_app, plcsT, plcsT]; omega
theorem plc_one {k : Int} (hk : k ≠ 1) : ∀ l : List T, plcT (oneOf k l) ≤ plcsT l
  | [] => by rw [oneOf, plcT, plcsT]; simp
  | [t] => by rw [oneOf, plcsT, plcsT]; omega
  | t :: u :: ts => by rw [oneOf, plcT, if_neg hk]; omega
theorem plc_rep (lo hi : Int) (s : T) : plcT (rep4 lo hi s) ≤ plcT s := by
  unfold rep4
  split
  · rw [plcT, plcsT]; simp
  · split
    · omega
    · rw [plcT, plcsT, plcsT]; simp
theorem plc_mem {l : List T} {t : T} (h : t ∈ l) : plcT t ≤ plcsT l := by
  induction l with
  | nil => cases h
  | cons u l ih =>
    rw [plcsT]
    rcases List.mem_cons.1 h with rfl | h
    · omega
    · have := ih h; omega
mutual
theorem void_plc : ∀ t : T, okT t = true → vdT t = true → 1 ≤ plcT t
  | .node k C lo hi ps, hok, hv => by
    have hs := voids_plc ps (ok_parts hok)
    have ha := of_decide_eq_true (ok_kind hok)
    rw [plcT]
    by_cases h1 : k = 1
    · rw [if_pos h1]; omega
    · have hex : ∃ p ∈ ps, vdT p = true := by
        rw [vdT, if_neg h1] at hv
        by_cases h2 : k = 2
        · rw [if_pos h2] at hv
          exact Classical.byContradiction fun hn => by
            rw [vdAny_no.2 fun p hp => Bool.eq_false_iff.2 fun e => hn ⟨p, hp, e⟩] at hv
            cases hv
        · rw [if_neg h2] at hv
          by_cases h3 : k = 3
          · rw [if_pos h3] at hv
            have hne : ps ≠ [] := by
              rintro rfl
              simp at ha
              omega
            obtain ⟨p, hp⟩ := List.exists_mem_of_ne_nil ps hne
            refine ⟨p, hp, ?_⟩
            exact Classical.byContradiction fun hn => by
              rw [vdAll_no.2 ⟨p, hp, by simpa using hn⟩] at hv
              cases hv
          · rw [if_neg h3] at hv
            exact Classical.byContradiction fun hn => by
              rw [vdAny_no.2 fun p hp => Bool.eq_false_iff.2 fun e => hn ⟨p, hp, e⟩] at hv
              simp at hv
      obtain ⟨p, hp, hvp⟩ := hex
      have h4 := hs p hp hvp
      have h5 := plc_mem hp
      omega
theorem voids_plc : ∀ ts : List T, oksT ts = true → ∀ p ∈ ts, vdT p = true → 1 ≤ plcT p
  | [], _, p, hp, _ => by cases hp
  | t :: ts, h, p, hp, hv => by
    rw [oksT, Bool.and_eq_true] at h
    rcases List.mem_cons.1 hp with e | hp
    · rw [e] at hv ⊢; exact void_plc t h.1 hv
    · exact voids_plc ts h.2 p hp hv
end
mutual
theorem sim_plc : ∀ t : T, okT t = true → plcT (simT t) ≤ plcT t
  | .node k C lo hi ps, hok => by
    have hs := sims_plc ps (ok_parts hok)
    have hvp := void_plc (.node k C lo hi ps) hok
    have h1 : plcT (.node k C lo hi ps) = (if k = 1 then 1 else 0) + plcsT ps := by rw [plcT]
    rw [simT]
    split
    · rename_i hv
      have := hvp hv
      rw [show plcT emptyT = 1 from rfl]
      exact this
    · split
      · rw [plcT, h1]; exact Nat.le_refl _
      · rename_i h2
        have hk1 : k ≠ 1 := by omega
        rw [if_neg hk1] at h1
        split
        · cases hl : simsT ps with
          | nil => rw [show plcT noT = 0 from rfl]; omega
          | cons s l =>
            have h2 := plc_rep lo hi s
            rw [hl, plcsT] at hs
            show plcT (rep4 lo hi s) ≤ _
            omega
        · have h2 := plc_one hk1 (leftT k [] (spreadT k (simsT ps)))
          have h3 := plc_left k (spreadT k (simsT ps)) []
          have h4 := plc_spread (k := k) (simsT ps)
          rw [show plcsT [] = 0 from rfl] at h3
          omega
theorem sims_plc : ∀ ts : List T, oksT ts = true → plcsT (simsT ts) ≤ plcsT ts
  | [], _ => by rw [simsT]; exact Nat.le_refl _
  | t :: ts, h => by
    rw [oksT, Bool.and_eq_true] at h
    rw [simsT, plcsT, plcsT]
    have := sim_plc t h.1
    have := sims_plc ts h.2
    omega
end
-- depth
theorem dpts_app (a b : List T) : dptsT (a ++ b) = max (dptsT a) (dptsT b) := by
  induction a with
  | nil => rw [dptsT, List.nil_append]; omega
  | cons t a ih => rw [List.cons_append, dptsT, dptsT, ih]; omega
theorem dpt_spread (k : Int) (l : List T) : dptsT (spreadT k l) ≤ dptsT l := by
  induction l with
  | nil => rw [spreadT]; exact Nat.le_refl _
  | cons t l ih =>
    rw [spreadT, dpts_app, dptsT]
    have : dptsT (if t.kind = k then t.ps else [t]) ≤ dptT t := by
      split
      · cases t with
        | node k' C lo hi ps => rw [dptT]; show dptsT ps ≤ _; omega
      · rw [dptsT, dptsT]; omega
    omega
theorem dpt_left (k : Int) : ∀ (a l : List T), dptsT (leftT k l a) ≤ max (dptsT l) (dptsT a)
  | [], l => by rw [leftT, dptsT]; omega
  | t :: a, l => by
    rw [leftT, dptsT]
    refine Nat.le_trans (dpt_left k a _) ?_
    split
    · omega
    · rw [dpts_app, dptsT, dptsT]; omega
theorem dpt_one (k : Int) : ∀ l : List T, dptT (oneOf k l) ≤ dptsT l + 1
  | [] => by rw [oneOf, dptT, dptsT]; omega
  | [t] => by rw [oneOf, dptsT, dptsT]; omega
  | t :: u :: ts => by rw [oneOf, dptT]; omega
theorem dpt_rep (lo hi : Int) (s : T) : dptT (rep4 lo hi s) ≤ dptT s + 1 := by
  unfold rep4
  split
  · rw [dptT, dptsT]; omega
  · split
    · omega
    · rw [dptT, dptsT, dptsT]; omega
mutual
theorem sim_dpt : ∀ t : T, dptT (simT t) ≤ dptT t
  | .node k C lo hi ps => by
    have hs := sims_dpt ps
    have h1 : dptT (.node k C lo hi ps) = dptsT ps + 1 := by rw [dptT]
    rw [simT]
    split
    · rw [show dptT emptyT = 1 from rfl]; omega
    · split
      · rw [dptT, h1]; omega
      · split
        · cases hl : simsT ps with
          | nil => rw [show dptT noT = 1 from rfl]; omega
          | cons s l =>
            have h2 := dpt_rep lo hi s
            rw [hl, dptsT] at hs
            show dptT (rep4 lo hi s) ≤ _
            omega
        · have h2 := dpt_one k (leftT k [] (spreadT k (simsT ps)))
          have h3 := dpt_left k (spreadT k (simsT ps)) []
          have h4 := dpt_spread k (simsT ps)
          rw [show dptsT [] = 0 from rfl] at h3
          omega
theorem sims_dpt : ∀ ts : List T, dptsT (simsT ts) ≤ dptsT ts
  | [] => by rw [simsT]; exact Nat.le_refl _
  | t :: ts => by
    rw [simsT, dptsT, dptsT]
    have := sim_dpt t
    have := sims_dpt ts
    omega
end
-- with nothing behind it, as one of two that are the same, or once
theorem sim_behind {t : T} (hok : okT t = true) : simT (.node 2 zeros 0 0 [t, noT]) = simT t := by
  cases hv : vdT t with
  | true =>
    rw [sim_void hv, sim_void]
    rw [vdT, if_neg (by decide), if_pos rfl, vdAny, hv]
    rfl
  | false =>
    have h1 : vdT (.node 2 zeros 0 0 [t, noT]) = false := by rw [vdT, if_neg (by decide), if_pos rfl, vdAny, hv, vdAny, ln_vd ln_none]; rfl
    have h0 : simT noT = noT := sim_self noT ⟨sm_leaf, rp_none, ln_none, ws_none⟩ pw_none
    rw [simT, if_neg (by rw [h1]; decide), if_neg (by decide), if_neg (by decide), simsT, simsT, simsT, h0, left_g, show [simT t, noT] = [simT t] ++ [noT] from rfl, g_append, g_nothing (t := noT) rfl, List.append_nil]
    have hth := sim_thin hok hv
    by_cases hk0 : (simT t).kind = 0
    · rw [g_nothing hk0]
      show noT = simT t
      exact ((sim_zn t hok).zero hk0).symm
    · by_cases hk2 : (simT t).kind = 2
      · have hws := hth.ws
        revert hk2 hk0 hws hth
        cases simT t with
        | node k C lo hi ps =>
          intro hth hk0 hk2 hws
          have hk2' : k = 2 := hk2
          subst hk2'
          cases hws with
          | mk _ _ _ _ _ hC hk _ =>
            have ha := of_decide_eq_true hk
            rcases ha with h | h | h | h
            · omega
            · omega
            · obtain ⟨_, hz, rfl, rfl, hl⟩ := h
              have h2 : ∀ p ∈ ps, p.kind ≠ 0 ∧ p.kind ≠ 2 := hth.sm.two rfl
              rw [gT, spreadT, spreadT, List.append_nil, if_pos (show (T.node 2 C 0 0 ps).kind = 2 from rfl), show (T.node 2 C 0 0 ps).ps = ps from rfl, List.filter_eq_self.2 fun x hx => by have := (h2 x hx).1; simpa using this, washed_zero hC hz]
              exact one_self hl
            · omega
      · rw [gT, spreadT, spreadT, List.append_nil, if_neg hk2, List.filter_cons_of_pos (by simpa using hk0), List.filter_nil]
        rfl
theorem sim_twice {t : T} (hok : okT t = true) : simT (.node 3 zeros 0 0 [t, t]) = simT t := by
  cases hv : vdT t with
  | true =>
    rw [sim_void hv, sim_void]
    rw [vdT, if_neg (by decide), if_neg (by decide), if_pos rfl, vdAll, hv, vdAll, hv, vdAll]
    rfl
  | false =>
    have h1 : vdT (.node 3 zeros 0 0 [t, t]) = false := by rw [vdT, if_neg (by decide), if_neg (by decide), if_pos rfl, vdAll, hv]; rfl
    rw [simT, if_neg (by rw [h1]; decide), if_neg (by decide), if_neg (by decide), simsT, simsT, simsT]
    have hth := sim_thin hok hv
    have hpw := sim_pw t hok
    have key : ∀ l : List T, leftT 3 [] l = l → (∀ x ∈ l, vdT x = false) → leftT 3 [] (l ++ l) = l := fun l hl hn => by
      rw [left_append, hl]
      have : ∀ (a m : List T), (∀ x ∈ a, x ∈ m) → leftT 3 m a = m := fun a => by
        induction a with
        | nil => intro m _; rfl
        | cons x a ih =>
          intro m hm
          have hd : dropT 3 m x = true := by
            show (vdT x || m.any fun u => likeT u x) = true
            rw [Bool.or_eq_true]
            exact .inr (List.any_eq_true.2 ⟨x, hm x (by simp), like_refl x⟩)
          rw [leftT, hd, if_pos rfl]
          exact ih m fun y hy => hm y (List.mem_cons_of_mem _ hy)
      exact this l l fun x hx => hx
    rw [spreadT, spreadT, spreadT, List.append_nil]
    by_cases hk3 : (simT t).kind = 3
    · rw [if_pos hk3]
      revert hth hpw hk3
      cases simT t with
      | node k C lo hi ps =>
        intro hth hpw hk3
        have hk3' : k = 3 := hk3
        subst hk3'
        have hws := hth.ws
        cases hws with
        | mk _ _ _ _ _ hC hk _ =>
          cases hpw with
          | mk _ _ _ _ _ hp _ =>
            have ha := of_decide_eq_true hk
            rcases ha with h | h | h | h
            · omega
            · omega
            · obtain ⟨_, hz, rfl, rfl, hl⟩ := h
              show oneOf 3 (leftT 3 [] (ps ++ ps)) = _
              rw [key ps (hp rfl) fun x hx => ln_vd (ln_ps hth.ln x hx), washed_zero hC hz]
              exact one_self hl
            · omega
    · rw [if_neg hk3, key [simT t] (by rw [leftT, leftT]; simp [dropT, ln_vd hth.ln]) fun x hx => by rw [List.mem_singleton.1 hx]; exact ln_vd hth.ln]
      rfl
theorem ok_once' {t : T} (hok : okT t = true) : okT (.node 4 zeros 1 1 [t]) = true := by
  rw [okT, oksT, oksT, hok]
  show (okA 4 (z4 zeros) 1 1 1 && (true && true)) = true
  decide
theorem ok_two {k : Int} (hk : k = 2 ∨ k = 3) {t u : T} (hok : okT t = true) (hu : okT u = true) : okT (.node k zeros 0 0 [t, u]) = true := by
  rw [okT, oksT, oksT, oksT, hok, hu]
  show (okA k (z4 zeros) 0 0 2 && (true && (true && true))) = true
  rcases hk with rfl | rfl <;> decide

end Go.Proofs.YtnebfniekeknaaaDoor
