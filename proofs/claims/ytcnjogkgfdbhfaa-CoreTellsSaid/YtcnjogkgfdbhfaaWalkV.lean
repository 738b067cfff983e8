/- The nodes of a tree, one after another: plain facts.
   No conditions but those that each theorem states. -/
import Derived.Test.YtcnjogkgfdbhfaaTree
namespace Go.Proofs.Ytcnjogkgfdbhfaa
open Go.RowKit

mutual
def preV : Nat → V → List (Nat × V)
  | d, .node k C lo hi v ps => (d, .node k C lo hi v ps) :: presV (d + 1) ps
def presV : Nat → List V → List (Nat × V)
  | _, [] => []
  | d, t :: ts => preV d t ++ presV d ts
end
mutual
def dptV : V → Nat
  | .node _ _ _ _ _ ps => dptsV ps + 1
def dptsV : List V → Nat
  | [] => 0
  | t :: ts => max (dptV t) (dptsV ts)
end
theorem preV_eq (d : Nat) (t : V) : preV d t = (d, t) :: presV (d + 1) t.ps := by
  cases t; rw [preV]; rfl
theorem dptV_eq (t : V) : dptV t = dptsV t.ps + 1 := by
  cases t; rw [dptV]; rfl
/-- What is still to come, the stack's innermost row first. -/
def todo : List (Value × List V) → List (Nat × V)
  | [] => []
  | p :: st => presV (st.length + 1) p.2 ++ todo st
theorem todo_nil (v : Value) (st : List (Value × List V)) : todo ((v, []) :: st) = todo st := by
  show presV _ [] ++ todo st = _
  rw [presV]; rfl
theorem todo_cons (v v' : Value) (t : V) (ts : List V) (st : List (Value × List V)) : todo ((v, t :: ts) :: st) = (st.length + 1, t) :: todo ((t.v, t.ps) :: (v', ts) :: st) := by
  show presV _ (t :: ts) ++ todo st = _ :: (presV _ t.ps ++ (presV _ ts ++ todo st))
  rw [presV, preV_eq, List.cons_append, List.cons_append, List.append_assoc]
  rfl
/-- The stack grows no further than D. -/
def okd (D : Nat) : List (Value × List V) → Prop
  | [] => True
  | p :: st => dptsV p.2 + st.length ≤ D ∧ okd D st
theorem okd_push {D : Nat} {v v' : Value} {t : V} {ts : List V} {st : List (Value × List V)} (h : okd D ((v, t :: ts) :: st)) : okd D ((t.v, t.ps) :: (v', ts) :: st) := by
  obtain ⟨h1, h2⟩ := h
  have e : dptsV (t :: ts) = max (dptV t) (dptsV ts) := by rw [dptsV]
  have e2 := dptV_eq t
  simp only at h1
  rw [e] at h1
  refine ⟨?_, ?_, h2⟩
  · simp only [List.length_cons]; omega
  · simp only; omega
theorem okd_len {D : Nat} : ∀ {st : List (Value × List V)}, okd D st → st.length ≤ D + 1
  | [], _ => by simp
  | p :: st, h => by have := h.1; simp only [List.length_cons]; omega
theorem laid_inv {w : World} {R : Nat → Prop} {x : V} (h : Laid w R x) : (x.ps = [] ∧ ∃ a cap, x.v = .slice a 0 cap) ∨
    ∃ b off cap, x.v = .slice (some ⟨b, off, none⟩) x.ps.length cap ∧ R b ∧ b < w.heap.size ∧ x.ps.length ≤ cap ∧ (∀ i t, x.ps[i]? = some t → ∀ j u, (ndc t)[j]? = some u → w.cell? ⟨b, off + i * 8 + j, none⟩ = some u) ∧ ∀ t, t ∈ x.ps → Laid w R t := by
  cases h with
  | none k C lo hi a cap => exact .inl ⟨rfl, a, cap, rfl⟩
  | some k C lo hi ps b off cap hR hlt hcap hc hk => exact .inr ⟨b, off, cap, rfl, hR, hlt, hcap, hc, hk⟩
theorem laid_tail {w : World} {R : Nat → Prop} {b off cap : Nat} {t : V} {ts : List V} (h : Laid w R (.node 0 zeros 0 0 (.slice (some ⟨b, off, none⟩) (ts.length + 1) cap) (t :: ts))) :
    Laid w R (.node 0 zeros 0 0 (.slice (some ⟨b, off + 8, none⟩) ts.length (cap - 1)) ts) ∧ Laid w R t ∧ (∀ j u, (ndc t)[j]? = some u → w.cell? ⟨b, off + j, none⟩ = some u) ∧ b < w.heap.size ∧ R b ∧ ts.length + 1 ≤ cap := by
  rcases laid_inv h with ⟨h1, _⟩ | ⟨b', off', cap', hv, hR, hlt, hcap, hc, hk⟩
  · simp [V.ps] at h1
  · simp only [V.v, V.ps, Value.slice.injEq, Option.some.injEq, Addr.mk.injEq, and_true, List.length_cons, true_and] at hv hcap hc hk
    obtain ⟨⟨rfl, rfl⟩, rfl⟩ := hv
    refine ⟨.some 0 zeros 0 0 ts b (off + 8) (cap - 1) hR hlt (by omega) (fun i u hu j x hx => ?_) (fun u hu => hk u (by simp [hu])), hk t (by simp), fun j u hu => ?_, hlt, hR, hcap⟩
    · have := hc (i + 1) u (by simpa using hu) j x hx
      rwa [show off + (i + 1) * 8 + j = off + 8 + i * 8 + j by omega] at this
    · have := hc 0 t rfl j u hu
      rwa [Nat.zero_mul, Nat.add_zero] at this
theorem laid_row {w : World} {R : Nat → Prop} {v : Value} {t : V} {ts : List V} (h : Laid w R (.node 0 zeros 0 0 v (t :: ts))) : ∃ b off cap, v = .slice (some ⟨b, off, none⟩) (ts.length + 1) cap := by
  cases h with
  | some k C lo hi ps b off cap hR hlt hcap hc hk => exact ⟨b, off, cap, rfl⟩
theorem laid_parts {w : World} {R : Nat → Prop} {t : V} (h : Laid w R t) : Laid w R (.node 0 zeros 0 0 t.v t.ps) := by
  cases h with
  | none k C lo hi a cap => exact .none 0 zeros 0 0 a cap
  | some k C lo hi ps b off cap hR hlt hcap hc hk => exact .some 0 zeros 0 0 ps b off cap hR hlt hcap hc hk
theorem laid_nil {w : World} {R : Nat → Prop} {v : Value} (h : Laid w R (.node 0 zeros 0 0 v [])) : ∃ a cap, v = .slice a 0 cap := by
  cases h with
  | none k C lo hi a cap => exact ⟨a, cap, rfl⟩
  | some k C lo hi ps b off cap hR hlt hcap hc hk => exact ⟨_, cap, rfl⟩
theorem laid_null (w : World) (R : Nat → Prop) (a : Option Addr) (cap : Nat) : Laid w R (.node 0 zeros 0 0 (.slice a 0 cap) []) := .none 0 zeros 0 0 a cap

/-- What the loop over the nodes keeps: all that holds cells, but one block. -/
def KpV (D0 : Nat) (W W' : World) : Prop := W.heap.size ≤ W'.heap.size ∧ ∀ k c t f, W.heap[k]? = some (.cells c t f) → k ≠ D0 → W'.heap[k]? = some (.cells c t f)
theorem kpV_t {D0 : Nat} {A B C : World} (h : KpV D0 A B) (k : KpV D0 B C) : KpV D0 A C := ⟨Nat.le_trans h.1 k.1, fun x c t f hx hne => k.2 x c t f (h.2 x c t f hx hne) hne⟩
theorem KpV.own {D0 : Nat} {w w' : World} {base : Nat} {e : TypeId} {size : Nat} {v : Value} {n : Nat} {xs : List Value} (hk : KpV D0 w w') (h : w.ownsRow base e size v n xs) (hv : v.ownBlock ≠ some D0) : w'.ownsRow base e size v n xs := by
  refine ⟨h.1, ?_⟩
  rcases h.2 with hn | ⟨g, cap, cur, rfl, hb, hg, rest⟩
  · exact .inl hn
  · exact .inr ⟨g, cap, cur, rfl, hb, hk.2 g _ _ _ hg (fun e => hv (by rw [e]; rfl)), rest⟩
theorem cell_is_cells {w : World} {a : Addr} {u : Value} (h : w.cell? a = some u) : ∃ c t f, w.heap[a.block]? = some (.cells c t f) := by
  unfold World.cell? at h
  split at h
  · rename_i hb; exact ⟨_, _, _, hb⟩
  · cases h
theorem KpV.cell {D0 : Nat} {w w' : World} {a : Addr} {u : Value} (hk : KpV D0 w w') (h : w.cell? a = some u) (hne : a.block ≠ D0) : w'.cell? a = some u := by
  obtain ⟨c, t, f, hb⟩ := cell_is_cells h
  have hb' := hk.2 _ _ _ _ hb hne
  rw [← h]
  exact World.cell?_of_block (hb'.trans hb.symm)
theorem KpV.laid {D0 : Nat} {w w' : World} {R : Nat → Prop} {t : V} (hk : KpV D0 w w') (h : Laid w R t) (hR : ∀ b, R b → b ≠ D0) : Laid w' R t := by
  induction h with
  | none k C lo hi a cap => exact .none k C lo hi a cap
  | some k C lo hi ps b off cap hRb hlt hcap hc hkk ih =>
    exact .some k C lo hi ps b off cap hRb (Nat.lt_of_lt_of_le hlt hk.1) hcap (fun i t ht j u hu => hk.cell (hc i t ht j u hu) (hR b hRb)) ih

end Go.Proofs.Ytcnjogkgfdbhfaa
