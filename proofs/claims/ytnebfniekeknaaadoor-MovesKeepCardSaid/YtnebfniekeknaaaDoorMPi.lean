/- Scopes around positions are nested: plain facts.
   Conditions: those that each theorem states. -/
import Derived.Test.YtnebfniekeknaaaDoorMPt
import Derived.BigQuiet
import Derived.Deep.LoopGhost
import Derived.Deep.DeepCutAuto

/- The statements' comparison of two lists of numbers: a contract.
   Conditions: the lists lie in memory, and are short. -/
namespace Go.Proofs.YtnebfniekeknaaaDoor
open Go.RowKit Go.Shelf

theorem take_snoc {l : List Nat} {i x : Nat} (h : l[i]? = some x) : l.take (i + 1) = l.take i ++ [x] := by
  rw [List.take_add_one, h]; rfl
/-- The cell of a number in a list. -/
theorem intsR_at {w : World} {B : Nat} {v : Value} {l : List Nat} (h : IntsR w B v l) {i x : Nat} (hx : l[i]? = some x) : ∃ g cap, v = .slice (some ⟨g, 0, none⟩) l.length cap ∧ g < w.heap.size ∧ w.cell? ⟨g, i, none⟩ = some (.int .i64 (x : Int)) ∧ l.length ≤ cap := by
  have hi : i < l.length := (List.getElem?_eq_some_iff.1 hx).1
  obtain ⟨g, cap, hv, _, hg⟩ := h.own.form (by omega)
  have ho := h.own
  rw [hv] at ho
  refine ⟨g, cap, hv, hg, ?_, ?_⟩
  · rw [ho.cellAt i (by omega), ints, List.getElem?_map, hx]; rfl
  · rcases ho.2 with ⟨h1, _⟩ | ⟨g', cap', cur, hv', _, _, hle, _⟩
    · cases h1
    · simp only [Value.slice.injEq] at hv'; omega

/-- Ahead of a round. -/
def SameI (w : World) (l1 l2 : List Nat) (n1 n2 n : Nat) (x : Value) (wr : World) : Prop := ∃ i : Nat, x = .int .i64 i ∧ n = n1 - i ∧ i ≤ n1 ∧ i ≤ n2 ∧ l1.take i = l2.take i ∧ Below w.heap.size w wr
end Go.Proofs.YtnebfniekeknaaaDoor

/- Scopes around positions are nested: plain facts.
   Conditions: those that each theorem states. -/
namespace Go.Proofs.YtnebfniekeknaaaDoor

/-- What stands ahead of a scope in a list is what is around that scope. -/
def Ch (Ps : List (List Nat)) (l : List Nat) : Prop := ∀ (i x : Nat), l[i]? = some x → Ps[x]? = some (l.take i)
def IncP (Ps : List (List Nat)) : Prop := ∀ (x : Nat) (p : List Nat), Ps[x]? = some p → ∀ y ∈ p, y < x
theorem Ch.mono {Ps Qs : List (List Nat)} {l : List Nat} (h : Ch Ps l) (hq : ∀ (x : Nat) (p : List Nat), Ps[x]? = some p → Qs[x]? = some p) : Ch Qs l := fun i x hx => hq x _ (h i x hx)
theorem ch_lt {Ps : List (List Nat)} {l : List Nat} (h : Ch Ps l) {i x : Nat} (hx : l[i]? = some x) : x < Ps.length := (List.getElem?_eq_some_iff.1 (h i x hx)).1
theorem ch_nil (Ps : List (List Nat)) : Ch Ps [] := fun i x hx => by simp at hx
theorem app_old {α : Type} {Ps : List α} {q : α} {x : Nat} {p : α} (h : Ps[x]? = some p) : (Ps ++ [q])[x]? = some p := by
  rw [List.getElem?_append_left (List.getElem?_eq_some_iff.1 h).1]; exact h
theorem app_new {α : Type} (Ps : List α) (q : α) : (Ps ++ [q])[Ps.length]? = some q := by simp
theorem ch_app {Ps : List (List Nat)} {ar : List Nat} (h : Ch Ps ar) : Ch (Ps ++ [ar]) (ar ++ [Ps.length]) := by
  intro i x hx
  rcases Nat.lt_or_ge i ar.length with hi | hi
  · rw [List.getElem?_append_left hi] at hx
    rw [List.take_append_of_le_length (by omega)]
    exact app_old (h i x hx)
  · have hi' : i = ar.length := by
      have := (List.getElem?_eq_some_iff.1 hx).1
      simp at this
      omega
    subst hi'
    rw [app_new] at hx
    obtain rfl := Option.some.inj hx
    rw [app_new]
    simp
theorem inc_app {Ps : List (List Nat)} {ar : List Nat} (h : Ch Ps ar) (hi : IncP Ps) : IncP (Ps ++ [ar]) := by
  intro x p hx y hy
  rcases Nat.lt_or_ge x Ps.length with hl | hl
  · rw [List.getElem?_append_left hl] at hx
    exact hi x p hx y hy
  · have hx' : x = Ps.length := by
      have := (List.getElem?_eq_some_iff.1 hx).1
      simp at this
      omega
    subst hx'
    rw [app_new] at hx
    obtain rfl := Option.some.inj hx
    obtain ⟨i, hi⟩ := List.getElem?_of_mem hy
    exact ch_lt h hi
/-- What a map keeps. -/
structure NestI (Ps : List (List Nat)) (m : PM) : Prop where
  len : Ps.length = m.scs.length
  ars : ∀ l ∈ m.ars, Ch Ps l
  inc : IncP Ps
theorem nest_put {Ps : List (List Nat)} {m : PM} (h : NestI Ps m) {ar : List Nat} (ha : Ch Ps ar) (k : Int) (C : Nat → Nat) : NestI Ps (putP k C ar m) := by
  unfold putP
  split
  · exact ⟨h.len, fun l hl => by
      rcases List.mem_append.1 hl with hl | hl
      · exact h.ars l hl
      · rw [List.mem_singleton.1 hl]; exact ha, h.inc⟩
  · exact h
theorem nest_sc {Ps : List (List Nat)} {m : PM} (h : NestI Ps m) {ar : List Nat} (ha : Ch Ps ar) (k lo hi : Int) : ∃ Qs : List (List Nat), (∀ (x : Nat) (p : List Nat), Ps[x]? = some p → Qs[x]? = some p) ∧ NestI Qs (scP k lo hi m) ∧ Ch Qs (belP k lo hi ar m) := by
  unfold scP belP
  split
  · refine ⟨Ps ++ [ar], fun x p hx => app_old hx, ⟨by simp [h.len], fun l hl => (h.ars l hl).mono fun x p hx => app_old hx, inc_app ha h.inc⟩, ?_⟩
    rw [← h.len]
    exact ch_app ha
  · exact ⟨Ps, fun _ _ hx => hx, h, ha⟩
mutual
theorem nest_N : ∀ (t : T) (ar : List Nat) (m m' : PM) (Ps : List (List Nat)), mapN t ar m = some m' → NestI Ps m → Ch Ps ar → ∃ Qs : List (List Nat), (∀ (x : Nat) (p : List Nat), Ps[x]? = some p → Qs[x]? = some p) ∧ NestI Qs m'
  | .node k C lo hi ps, ar, m, m', Ps, h, hm, ha => by
    rw [mapN] at h
    split at h
    · cases h
    · obtain ⟨Qs, h1, h2, h3⟩ := nest_sc hm ha k lo hi
      obtain ⟨Rs, h4, h5⟩ := nests_N ps _ _ m' Qs h (nest_put h2 (ha.mono h1) k C) h3
      exact ⟨Rs, fun x p hx => h4 x p (h1 x p hx), h5⟩
theorem nests_N : ∀ (ts : List T) (ar : List Nat) (m m' : PM) (Ps : List (List Nat)), mapsN ts ar m = some m' → NestI Ps m → Ch Ps ar → ∃ Qs : List (List Nat), (∀ (x : Nat) (p : List Nat), Ps[x]? = some p → Qs[x]? = some p) ∧ NestI Qs m'
  | [], ar, m, m', Ps, h, hm, ha => by
    rw [mapsN] at h
    obtain rfl := Option.some.inj h
    exact ⟨Ps, fun _ _ hx => hx, hm⟩
  | t :: ts, ar, m, m', Ps, h, hm, ha => by
    rw [mapsN] at h
    cases h1 : mapN t ar m with
    | none => rw [h1] at h; cases h
    | some m1 =>
      rw [h1] at h
      obtain ⟨Qs, h2, h3⟩ := nest_N t ar m m1 Ps h1 hm ha
      obtain ⟨Rs, h4, h5⟩ := nests_N ts ar m1 m' Qs h h3 (ha.mono h2)
      exact ⟨Rs, fun x p hx => h4 x p (h2 x p hx), h5⟩
end
theorem nest_map {t : T} {m : PM} (h : mapT t = some m) : ∃ Ps, NestI Ps m :=
  (nest_N t [] pm0 m [] h ⟨rfl, fun l hl => by rw [List.mem_singleton.1 hl]; exact ch_nil _, fun x p hx => by simp at hx⟩ (ch_nil _)).imp fun _ h => h.2
theorem ch_inc {Ps : List (List Nat)} {l : List Nat} (h : Ch Ps l) (hi : IncP Ps) {i j x y : Nat} (hx : l[i]? = some x) (hy : l[j]? = some y) (hj : j < i) : y < x := by
  refine hi x _ (h i x hx) y ?_
  refine List.mem_of_getElem? (i := j) ?_
  rw [List.getElem?_take, if_pos hj]
  exact hy
theorem ch_meet {Ps : List (List Nat)} {a b : List Nat} (ha : Ch Ps a) (hb : Ch Ps b) {i k x : Nat} (hx : a[i]? = some x) (hy : b[k]? = some x) : i = k ∧ a.take i = b.take k := by
  have h := Option.some.inj ((ha i x hx).symm.trans (hb k x hy))
  have h1 := (List.getElem?_eq_some_iff.1 hx).1
  have h2 := (List.getElem?_eq_some_iff.1 hy).1
  have h3 := congrArg List.length h
  simp only [List.length_take] at h3
  exact ⟨by omega, h⟩
/-- Behind the first two that differ nothing is in both. -/
theorem ch_apart {Ps : List (List Nat)} {a b : List Nat} (ha : Ch Ps a) (hb : Ch Ps b) {o i k x y : Nat} (hx : a[i]? = some x) (hy : b[k]? = some y) (hi : o ≤ i) (_hk : o ≤ k)
    (ho : o = a.length ∨ o = b.length ∨ ∃ u v, a[o]? = some u ∧ b[o]? = some v ∧ u ≠ v) : x ≠ y := by
  rintro rfl
  obtain ⟨rfl, ht⟩ := ch_meet ha hb hx hy
  have h1 := (List.getElem?_eq_some_iff.1 hx).1
  have h2 := (List.getElem?_eq_some_iff.1 hy).1
  rcases ho with h | h | ⟨u, v, hu, hv, hne⟩
  · omega
  · omega
  · rcases Nat.lt_or_ge o i with hl | hl
    · have e1 : (a.take i)[o]? = some u := by rw [List.getElem?_take, if_pos hl]; exact hu
      rw [ht, List.getElem?_take, if_pos hl, hv] at e1
      exact hne (Option.some.inj e1).symm
    · obtain rfl : o = i := by omega
      rw [hx] at hu
      rw [hy] at hv
      exact hne ((Option.some.inj hu).symm.trans (Option.some.inj hv))
theorem ch_ge {Ps : List (List Nat)} {l : List Nat} (h : Ch Ps l) (hi : IncP Ps) : ∀ (i x : Nat), l[i]? = some x → i ≤ x
  | 0, x, _ => Nat.zero_le x
  | i + 1, x, hx => by
    have hl := (List.getElem?_eq_some_iff.1 hx).1
    have hy : l[i]? = some l[i] := List.getElem?_eq_getElem (by omega)
    have h1 := ch_ge h hi i _ hy
    have h2 := ch_inc h hi hx hy (Nat.lt_succ_self i)
    omega
theorem ch_len {Ps : List (List Nat)} {l : List Nat} (h : Ch Ps l) (hi : IncP Ps) : l.length ≤ Ps.length := by
  rcases Nat.eq_zero_or_pos l.length with h0 | h0
  · omega
  · have hx : l[l.length - 1]? = some (l[l.length - 1]'(by omega)) := List.getElem?_eq_getElem (by omega)
    have h1 := ch_ge h hi _ _ hx
    have h2 := ch_lt h hx
    omega

end Go.Proofs.YtnebfniekeknaaaDoor
