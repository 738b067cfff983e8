/- What the statements on moves share: the scopes around a position, in memory.
   Conditions: those that each theorem states. -/
import Derived.Test.YtnebfniekeknaaaDoorNM
import Derived.Test.YtnebfniekeknaaaDoorMPi

namespace Go.Proofs.YtnebfniekeknaaaDoor
open Go.RowKit Go.Shelf

/-- The scopes around a position, in memory. -/
theorem ar_read {w : World} {B : Nat} {m : PM} {sv cv : Value} {ga n gc : Nat} (h : MapL w B m sv cv (.slice (some ⟨ga, 0, none⟩) n gc)) {q : Nat} {l : List Nat} (hq : m.ars[q]? = some l) :
    ∃ A c, w.cell? ⟨ga, q, none⟩ = some (.slice A l.length c) ∧ ga < w.heap.size ∧ l.length ≤ 9223372036854775807 ∧ ∀ (k z : Nat), l[k]? = some z → ∃ g, A = some ⟨g, 0, none⟩ ∧ g < w.heap.size ∧ w.cell? ⟨g, k, none⟩ = some (.int .i64 z) := by
  obtain ⟨vs, h1, h2⟩ := h.ars
  obtain ⟨v, hv, hr⟩ := h2 q l hq
  obtain ⟨A, c, rfl⟩ := hr.form
  have hql : q < m.ars.length := (List.getElem?_eq_some_iff.1 hq).1
  have hn := own_n h1
  subst hn
  refine ⟨A, c, (h1.cellAt q (show q < m.ars.length * 1 by omega)).trans hv, (h1.lt ga rfl).2, own_max hr.own, fun k z hk => ?_⟩
  obtain ⟨g, cap, hv2, hg, hc, _⟩ := intsR_at hr hk
  simp only [Value.slice.injEq] at hv2
  exact ⟨g, hv2.1, hg, hc⟩
theorem mapL_below {w w' : World} {B : Nat} {m : PM} {sv cv av : Value} (h : MapL w B m sv cv av) (hb : Below w.heap.size w w') : MapL w' B m sv cv av := h.keep (Chg.of_below (R := fun _ => False) hb) fun _ _ q => q.elim
theorem pre_at {c l : List Nat} (h : c <+: l) {k z : Nat} (hk : c[k]? = some z) : l[k]? = some z := by
  obtain ⟨t, rfl⟩ := h
  rw [List.getElem?_append_left (List.getElem?_eq_some_iff.1 hk).1, hk]
/-- What the statement MovesKeep asks of a move, of the tree's own moves. -/
theorem mv_kept {u : T} {m : PM} (hm : mapT u = some m) {p : Nat} {x : Mv} (h : SJ (mvT u 0 0).2.2 (stOf p x)) :
    x.kp ≤ 4 ∧ 1 ≤ p ∧ p < m.sets.length ∧ 1 ≤ x.tt ∧ x.tt < m.sets.length ∧ ∃ c la lb : List Nat, c.length = x.kp + (if x.ag then 1 else 0) ∧ m.ars[p]? = some la ∧ c <+: la ∧ m.ars[x.tt]? = some lb ∧ c <+: lb := by
  have h0 := sj_in hm h
  obtain ⟨j, hj, h1, h2, h3, h4⟩ := h
  have h3 : x.kp = j.kp := h3
  have h4 : x.ag = j.ag := h4
  have h5 := mv_kp u 0 0 (map_in4 hm) j hj
  obtain ⟨c, la, lb, k1, k2, k3, k4, k5⟩ := moves_keep hm j hj p x.tt h1 h2
  exact ⟨by omega, h0.1, h0.2.1, h0.2.2.1, h0.2.2.2, c, la, lb, by rw [k1, h3, h4], k2, k3, k4, k5⟩

end Go.Proofs.YtnebfniekeknaaaDoor
