/- Numbering what is alike by its first occurrence: plain facts on an equivalence of numbers; no program is spoken of here.
   Conditions: the relation is reflexive, symmetric and transitive ('Alike'). -/
import Derived.KernelRfl
namespace Go.Proofs.Ytbppofhjlgfbiaa

def Alike (r : Nat → Nat → Bool) : Prop := (∀ a, r a a = true) ∧ (∀ a b, r a b = true → r b a = true) ∧ ∀ a b c, r a b = true → r b c = true → r a c = true
theorem Alike.refl {r : Nat → Nat → Bool} (h : Alike r) : ∀ a, r a a = true := h.1
theorem Alike.symm {r : Nat → Nat → Bool} (h : Alike r) : ∀ a b, r a b = true → r b a = true := h.2.1
theorem Alike.trans {r : Nat → Nat → Bool} (h : Alike r) : ∀ a b c, r a b = true → r b c = true → r a c = true := h.2.2

def firstLt (p : Nat → Bool) : Nat → Option Nat
  | 0 => none
  | n + 1 => match firstLt p n with
    | some x => some x
    | none => if p n then some n else none
theorem firstLt_spec (p : Nat → Bool) (n : Nat) : (firstLt p n = none ∧ ∀ a, a < n → p a = false) ∨ (∃ a, firstLt p n = some a ∧ a < n ∧ p a = true ∧ ∀ b, b < a → p b = false) := by
  induction n with
  | zero => exact .inl ⟨rfl, fun a h => by omega⟩
  | succ n ih =>
    rcases ih with ⟨h1, h2⟩ | ⟨a, h1, h2, h3, h4⟩
    · cases e : p n with
      | true => exact .inr ⟨n, by simp [firstLt, h1, e], by omega, e, h2⟩
      | false =>
        refine .inl ⟨by simp [firstLt, h1, e], fun a ha => ?_⟩
        by_cases h : a = n
        · subst h; exact e
        · exact h2 a (by omega)
    · exact .inr ⟨a, by simp [firstLt, h1], by omega, h3, h4⟩
def fst (r : Nat → Nat → Bool) (b : Nat) : Nat := (firstLt (fun a => r a b) (b + 1)).getD 0
def news (r : Nat → Nat → Bool) (n : Nat) : Nat := (List.range n).countP (fun b => fst r b == b)
def nm (r : Nat → Nat → Bool) (b : Nat) : Nat := news r (fst r b)

section
variable {r : Nat → Nat → Bool}
theorem fst_spec (h : Alike r) (b : Nat) : fst r b ≤ b ∧ r (fst r b) b = true ∧ ∀ a, a < fst r b → r a b = false := by
  unfold fst
  rcases firstLt_spec (fun a => r a b) (b + 1) with ⟨_, h2⟩ | ⟨a, h1, h2, h3, h4⟩
  · have := h2 b (by omega)
    rw [h.refl b] at this
    cases this
  · rw [h1]
    exact ⟨by simp; omega, h3, h4⟩
theorem fst_le (h : Alike r) {a b : Nat} (hab : r a b = true) : fst r b ≤ a := by
  by_cases e : fst r b ≤ a
  · exact e
  · have := (fst_spec h b).2.2 a (by omega)
    rw [hab] at this
    cases this
theorem fst_eq (h : Alike r) {a b : Nat} (hab : r a b = true) : fst r a = fst r b := by
  have h1 := fst_le h (h.trans _ _ _ (fst_spec h a).2.1 hab)
  have h2 := fst_le h (h.trans _ _ _ (fst_spec h b).2.1 (h.symm _ _ hab))
  omega
theorem fst_fst (h : Alike r) (b : Nat) : fst r (fst r b) = fst r b := fst_eq h (fst_spec h b).2.1
theorem alike_of_fst (h : Alike r) {a b : Nat} (e : fst r a = fst r b) : r a b = true :=
  h.trans _ _ _ (h.symm _ _ (fst_spec h a).2.1) (by rw [e]; exact (fst_spec h b).2.1)
theorem news_succ (n : Nat) : news r (n + 1) = news r n + if fst r n = n then 1 else 0 := by
  unfold news
  rw [List.range_succ, List.countP_append]
  simp [List.countP_cons]
theorem news_le (n : Nat) : news r n ≤ n := by
  have := List.countP_le_length (p := fun b => fst r b == b) (l := List.range n)
  unfold news; simpa using this
theorem news_mono {n m : Nat} (h : n ≤ m) : news r n ≤ news r m := by
  induction m with
  | zero => have : n = 0 := by omega
            subst this; exact Nat.le_refl _
  | succ m ih =>
    by_cases e : n = m + 1
    · subst e; exact Nat.le_refl _
    · rw [news_succ]; have := ih (by omega); omega
theorem news_lt {n m : Nat} (h : n < m) (hn : fst r n = n) : news r n < news r m := by
  have h1 := news_mono (r := r) (show n + 1 ≤ m by omega)
  rw [news_succ, if_pos hn] at h1
  omega
theorem nm_eq (h : Alike r) {a b : Nat} (hab : r a b = true) : nm r a = nm r b := by unfold nm; rw [fst_eq h hab]
theorem alike_of_nm (h : Alike r) {a b : Nat} (e : nm r a = nm r b) : r a b = true := by
  apply alike_of_fst h
  unfold nm at e
  rcases Nat.lt_trichotomy (fst r a) (fst r b) with h1 | h1 | h1
  · have := news_lt h1 (fst_fst h a); omega
  · exact h1
  · have := news_lt h1 (fst_fst h b); omega
theorem nm_iff (h : Alike r) (a b : Nat) : nm r a = nm r b ↔ r a b = true := ⟨alike_of_nm h, nm_eq h⟩
theorem nm_new (b : Nat) (hb : fst r b = b) : nm r b = news r b := by unfold nm; rw [hb]
theorem nm_lt (h : Alike r) {b n : Nat} (hb : b < n) : nm r b < news r n := by
  unfold nm
  exact news_lt (Nat.lt_of_le_of_lt (fst_spec h b).1 hb) (fst_fst h b)
theorem news_hit (n k : Nat) (hk : k < news r n) : ∃ b, b < n ∧ fst r b = b ∧ news r b = k := by
  induction n with
  | zero => simp [news] at hk
  | succ n ih =>
    rw [news_succ] at hk
    by_cases e : fst r n = n
    · rw [if_pos e] at hk
      by_cases e2 : k < news r n
      · obtain ⟨b, h1, h2, h3⟩ := ih e2
        exact ⟨b, by omega, h2, h3⟩
      · exact ⟨n, by omega, e, by omega⟩
    · rw [if_neg e] at hk
      obtain ⟨b, h1, h2, h3⟩ := ih (by omega)
      exact ⟨b, by omega, h2, h3⟩
theorem news_pos (h : Alike r) : 0 < news r 256 := by
  have h0 : fst r 0 = 0 := by have := (fst_spec h 0).1; omega
  have := news_lt (r := r) (show 0 < 256 by decide) h0
  omega
/-- At number i: it is new just if nothing before it is alike. -/
theorem new_iff (h : Alike r) (i : Nat) : fst r i = i ↔ ∀ a, a < i → r a i = false := by
  constructor
  · intro e a ha
    exact (fst_spec h i).2.2 a (by omega)
  · intro e
    have h1 := fst_spec h i
    by_cases h2 : fst r i = i
    · exact h2
    · have := e (fst r i) (by omega)
      rw [h1.2.1] at this
      cases this
theorem nm_old (h : Alike r) {i a : Nat} (ha : a < i) (hr : r a i = true) : news r (i + 1) = news r i ∧ nm r i = nm r a := by
  refine ⟨?_, (nm_eq h hr).symm⟩
  rw [news_succ, if_neg]
  · rfl
  · intro e
    have := (new_iff h i).1 e a ha
    rw [hr] at this
    cases this
theorem nm_fresh (h : Alike r) {i : Nat} (hn : ∀ a, a < i → r a i = false) : news r (i + 1) = news r i + 1 ∧ nm r i = news r i := by
  have e := (new_iff h i).2 hn
  exact ⟨by rw [news_succ, if_pos e], nm_new i e⟩
end
theorem fst_congr {r s : Nat → Nat → Bool} (hr : Alike r) (hs : Alike s) {n : Nat} (he : ∀ a b, a < n → b < n → r a b = s a b) {b : Nat} (hb : b < n) : fst r b = fst s b := by
  have h1 := fst_spec hr b
  have h2 := fst_spec hs b
  have a1 : fst s b ≤ fst r b := fst_le hs (by rw [← he _ _ (by omega) hb]; exact h1.2.1)
  have a2 : fst r b ≤ fst s b := fst_le hr (by rw [he _ _ (by omega) hb]; exact h2.2.1)
  omega
theorem news_congr {r s : Nat → Nat → Bool} (hr : Alike r) (hs : Alike s) {n : Nat} (he : ∀ a b, a < n → b < n → r a b = s a b) : ∀ m, m ≤ n → news r m = news s m
  | 0, _ => rfl
  | m + 1, h => by
    rw [news_succ, news_succ, news_congr hr hs he m (by omega), fst_congr hr hs he (show m < n by omega)]
theorem nm_congr {r s : Nat → Nat → Bool} (hr : Alike r) (hs : Alike s) {n : Nat} (he : ∀ a b, a < n → b < n → r a b = s a b) {b : Nat} (hb : b < n) : nm r b = nm s b := by
  unfold nm
  rw [fst_congr hr hs he hb]
  exact news_congr hr hs he _ (by have := (fst_spec hs b).1; omega)

end Go.Proofs.Ytbppofhjlgfbiaa
