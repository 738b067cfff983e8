/- What Void and Nullable come to: contracts; a tree is not both.
   Conditions: the tree lies in memory, and has at most 100000 nodes. -/
import Derived.Test.YtnebfniekeknaaaDoorMFoldV
import Derived.Test.YtnebfniekeknaaaDoorMFoldN
import Derived.Test.YtnebfniekeknaaaDoorMVoid
import Derived.Test.YtnebfniekeknaaaDoorMSame
import Derived.Test.YtnebfniekeknaaaDoorMForm
import Derived.Deep.DeepCutAuto

/- What Void and Nullable come to: contracts; a tree is not both.
   Conditions: the tree lies in memory, and has at most 100000 nodes. -/
namespace Go.Proofs.YtnebfniekeknaaaDoor
open Go.RowKit Go.Shelf
attribute [local go_sem] nodeAgg

mutual
theorem flat_sz (k : Int) (p : V) : ∀ t : V, p ∈ flatV k t → okF t → okF p ∧ szT (erase p) ≤ szT (erase t)
  | .node k' C lo hi v ps, h, ho => by
    rw [flatV] at h
    by_cases hm : meltK k' lo hi k = true
    · rw [if_pos hm] at h
      obtain ⟨h1, h2⟩ := flats_sz k p ps h (fun q hq => ho.part hq)
      rw [erase, szT]
      exact ⟨h1, by omega⟩
    · rw [if_neg hm] at h
      simp at h
      subst h
      exact ⟨ho, Nat.le_refl _⟩
theorem flats_sz (k : Int) (p : V) : ∀ ts : List V, p ∈ flatsV k ts → (∀ t ∈ ts, okF t) → okF p ∧ szT (erase p) ≤ szsT (erases ts)
  | [], h, _ => by rw [flatsV] at h; simp at h
  | t :: ts, h, ho => by
    rw [flatsV] at h
    rw [erases, szsT]
    rcases List.mem_append.1 h with h | h
    · obtain ⟨h1, h2⟩ := flat_sz k p t h (ho t (by simp))
      exact ⟨h1, by omega⟩
    · obtain ⟨h1, h2⟩ := flats_sz k p ts h (fun q hq => ho q (by simp [hq]))
      exact ⟨h1, by omega⟩
end
def SzOk (t : V) : Prop := okF t ∧ szT (erase t) ≤ 1000000
theorem szOk_flats (t p : V) (h : SzOk t) (hp : p ∈ flatsV t.kind t.ps) : SzOk p := by
  obtain ⟨h1, h2⟩ := flats_sz t.kind p t.ps hp (fun q hq => h.1.part hq)
  have h3 := h.2
  rw [sz_eq] at h3
  exact ⟨h1, by omega⟩
mutual
theorem not_both : ∀ t : V, okF t → ¬ (vdV t = true ∧ nuV t = true)
  | .node k C lo hi v ps, h => by
    rintro ⟨h1, h2⟩
    rw [vd_eq] at h1
    rw [nu_eq] at h2
    have hps := nots_both ps (fun p hp => h.part hp)
    rcases h.kinds with hk | hk | hk | hk | hk
    · rw [if_neg (by omega), if_neg (by omega), if_neg (by omega), if_neg (by omega)] at h1
      cases h1
    · rw [if_neg (by omega), if_neg (by omega), if_neg (by omega), if_neg (by omega)] at h2
      cases h2
    · rw [if_neg (by omega), if_pos hk] at h1 h2
      obtain ⟨p, hp, hv⟩ := List.any_eq_true.1 h1
      exact hps p hp ⟨hv, List.all_eq_true.1 h2 p hp⟩
    · rw [if_neg (by omega), if_neg (by omega), if_pos hk] at h1 h2
      obtain ⟨p, hp, hv⟩ := List.any_eq_true.1 h2
      exact hps p hp ⟨List.all_eq_true.1 h1 p hp, hv⟩
    · rw [if_neg (by omega), if_neg (by omega), if_neg (by omega), if_pos hk] at h1 h2
      rw [Bool.and_eq_true] at h1
      rw [Bool.or_eq_true] at h2
      have h3 := of_decide_eq_true h1.1
      rcases h2 with h2 | h2
      · have := of_decide_eq_true h2; omega
      · obtain ⟨p, hp⟩ := h.four hk
        have hp' : ps = [p] := hp
        have e1 : vdV p = true := by
          have := h1.2
          rw [hp] at this
          simpa using this
        have e2 : nuV p = true := by
          rw [hp] at h2
          simpa using h2
        exact hps p (by rw [hp']; simp) ⟨e1, e2⟩
theorem nots_both : ∀ ts : List V, (∀ t ∈ ts, okF t) → ∀ p ∈ ts, ¬ (vdV p = true ∧ nuV p = true)
  | [], _, p, hp => by simp at hp
  | t :: ts, h, p, hp => by
    rcases List.mem_cons.1 hp with e | hp
    · rw [e]; exact not_both t (h t (by simp))
    · exact nots_both ts (fun q hq => h q (by simp [hq])) p hp
end

end Go.Proofs.YtnebfniekeknaaaDoor
