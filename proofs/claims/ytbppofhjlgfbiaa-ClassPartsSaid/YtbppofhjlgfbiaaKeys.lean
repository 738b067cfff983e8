/- Keys that are two words, and the facts on a map from them to numbers that the proof of the splitting wants.
   Conditions: those that each theorem states. -/
import Derived.Test.YtbppofhjlgfbiaaMembers
import Derived.Maps.OwnSet
import Derived.Maps.OwnOps
import Derived.Maps.Views
import Derived.DeepKeys4
namespace Go.Proofs.Ytbppofhjlgfbiaa
open Go.RowKit Go.Maps

theorem laidOut' : laidOutB Try.prog = true := by kernel_rfl
theorem keyed58 : Keyed Try.prog 58 := Keyed.of_law (deep_law_laid laidOut' (m := 3) (by decide) (of_decide_eq_true (by kernel_rfl)) (by kernel_rfl) (by kernel_rfl))
theorem kt58 : Try.prog.keyType 58 = true := by kernel_rfl
theorem c58 : Try.prog.cellsOf 58 = 2 := by kernel_rfl
theorem wf64 {x : Nat} (h : x < 18446744073709551616) : (Lit.int .u64 (x : Int)).wf = true := by
  have e1 : IntKind.u64.min = 0 := by decide
  have e2 : IntKind.u64.max = 18446744073709551615 := by decide
  simp [Lit.wf, e1, e2]
  omega
theorem lits24 (d : Nat) {x : Nat} (h : x < 18446744073709551616) : Try.prog.keyLits (d + 1) 24 [.int .u64 (x : Int)] = some [.int .u64 (x : Int)] := by
  unfold Program.keyLits
  rw [Try.underlying24]
  simp [wf64 h]
theorem lits58 (d : Nat) {x y : Nat} (hx : x < 18446744073709551616) (hy : y < 18446744073709551616) : Try.prog.keyLits (d + 1 + 1) 58 [.int .u64 (x : Int), .int .u64 (y : Int)] = some [.int .u64 (x : Int), .int .u64 (y : Int)] := by
  unfold Program.keyLits
  rw [Try.underlying58]
  simp [c58, cells24, show List.range 2 = [0, 1] from rfl, lits24 d hx, lits24 d hy]
theorem key58 (x y : Nat) (hx : x < 18446744073709551616) (hy : y < 18446744073709551616) : ∃ l, keyOf Try.prog 58 (.agg #[.int .u64 (x : Int), .int .u64 (y : Int)]) = some l := by
  unfold keyOf
  rw [Try.underlying58]
  have hn : Try.prog.types.size + 1 = 78 + 1 + 1 := by kernel_rfl
  simp only [kt58, hn]
  have hf : Value.formed Try.prog 58 (.agg #[.int .u64 (x : Int), .int .u64 (y : Int)]) = true := by
    simp [Value.formed, Try.underlying58, c58]
  have hl := lits58 78 hx hy
  simp only [hf, Value.cells]
  refine ⟨.string (keyBytes [.int .u64 (x : Int), .int .u64 (y : Int)]), ?_⟩
  rw [hl]
  rfl
theorem plain3 (x : Int) (h : (Lit.int .i64 x).wf = true) : plainElem (H := Unit) Try.prog 3 (.int .i64 x) = some (.lit (.int .i64 x), []) := plainElem_int Try.underlying3 h
theorem wf3 {x : Nat} (h : x < 9223372036854775808) : (Lit.int .i64 (x : Int)).wf = true := by
  have e1 : IntKind.i64.min = -9223372036854775808 := by decide
  have e2 : IntKind.i64.max = 9223372036854775807 := by decide
  simp [Lit.wf, e1, e2]
  omega

/-- The relation of the splitting: the old part, and the classes' bits, are the same. -/
def rel (p : Nat → Nat) (L : Nat → Nat → Nat) (n : Nat) (a b : Nat) : Bool := p a == p b && mem L a n == mem L b n
theorem alike_rel (p : Nat → Nat) (L : Nat → Nat → Nat) (n : Nat) : Alike (rel p L n) := by
  refine ⟨fun a => by simp [rel], fun a b h => ?_, fun a b c h k => ?_⟩
  · simp [rel] at h ⊢
    exact ⟨h.1.symm, h.2.symm⟩
  · simp [rel] at h k ⊢
    exact ⟨h.1.trans k.1, h.2.trans k.2⟩
/-- The keys' literals: each byte's key has one, and two bytes have one just if they are alike. -/
def KeysAre (p : Nat → Nat) (L : Nat → Nat → Nat) (n : Nat) (KL : Nat → Lit) : Prop := ∀ b, b < 256 → keyOf Try.prog 58 (.agg #[.int .u64 (p b : Int), .int .u64 (mem L b n : Int)]) = some (KL b)
theorem keys_are (p : Nat → Nat) (L : Nat → Nat → Nat) (n : Nat) (hp : ∀ b, p b < 256) (hn : n ≤ 64) : ∃ KL, KeysAre p L n KL := by
  have h : ∀ b : Nat, ∃ l, keyOf Try.prog 58 (.agg #[.int .u64 (p b : Int), .int .u64 (mem L b n : Int)]) = some l := fun b => key58 _ _ (by have := hp b; omega) (mem_64 L b hn)
  obtain ⟨KL, hKL⟩ := Classical.axiomOfChoice h
  exact ⟨KL, fun b _ => hKL b⟩
theorem KeysAre.iff {p : Nat → Nat} {L : Nat → Nat → Nat} {n : Nat} {KL : Nat → Lit} (h : KeysAre p L n KL) {a b : Nat} (ha : a < 256) (hb : b < 256) : KL a = KL b ↔ rel p L n a b = true := by
  constructor
  · intro e
    have h1 := h a ha
    rw [e] at h1
    have := keyed58.inj h1 (h b hb)
    simp at this
    simp [rel]
    exact ⟨by omega, by omega⟩
  · intro e
    simp [rel] at e
    have h1 := h a ha
    rw [e.1, e.2, h b hb] at h1
    simpa using h1.symm
/-- What the map holds when the bytes below k have been numbered. -/
def MapInv (r : Nat → Nat → Bool) (KL : Nat → Lit) (k : Nat) (D : DataW Unit) : Prop :=
  (∀ a, a < k → D.atKey (KL a) (.lit (.int .i64 0)) = .lit (.int .i64 (nm r a : Int))) ∧ (∀ q, q < 256 → (Maps.has D (KL q) = true ↔ ∃ a, a < k ∧ r a q = true)) ∧ Maps.size D = news r k
theorem mapInv_start (r : Nat → Nat → Bool) (KL : Nat → Lit) : MapInv r KL 0 (.map []) :=
  ⟨fun a h => by omega, fun q _ => by simp [Maps.has], rfl⟩
theorem mapInv_old {p : Nat → Nat} {L : Nat → Nat → Nat} {n k : Nat} {KL : Nat → Lit} {D : DataW Unit} (hK : KeysAre p L n KL) (h : MapInv (rel p L n) KL k D) (hk : k < 256) {a : Nat} (ha : a < k) (hr : rel p L n a k = true) :
    MapInv (rel p L n) KL (k + 1) D ∧ D.atKey (KL k) (.lit (.int .i64 0)) = .lit (.int .i64 (nm (rel p L n) k : Int)) := by
  have ho := nm_old (alike_rel p L n) ha hr
  have e : KL a = KL k := (hK.iff (by omega) hk).2 hr
  have hv : D.atKey (KL k) (.lit (.int .i64 0)) = .lit (.int .i64 (nm (rel p L n) k : Int)) := by rw [← e, h.1 a ha, ho.2]
  refine ⟨⟨fun b hb => ?_, fun q hq => ?_, by rw [ho.1]; exact h.2.2⟩, hv⟩
  · by_cases eb : b = k
    · subst eb; exact hv
    · exact h.1 b (by omega)
  · rw [h.2.1 q hq]
    constructor
    · rintro ⟨b, hb, hq⟩; exact ⟨b, by omega, hq⟩
    · rintro ⟨b, hb, hbq⟩
      by_cases eb : b = k
      · subst eb; exact ⟨a, ha, (alike_rel p L n).trans _ _ _ hr hbq⟩
      · exact ⟨b, by omega, hbq⟩
theorem mapInv_new {p : Nat → Nat} {L : Nat → Nat → Nat} {n k : Nat} {KL : Nat → Lit} {D : DataW Unit} (hK : KeysAre p L n KL) (hT : Tidy D) (h : MapInv (rel p L n) KL k D) (hk : k < 256) (hr : ∀ a, a < k → rel p L n a k = false) :
    MapInv (rel p L n) KL (k + 1) (D.put (KL k) (.lit (.int .i64 (news (rel p L n) k : Int)))) ∧ nm (rel p L n) k = news (rel p L n) k := by
  have ho := nm_fresh (alike_rel p L n) hr
  have hkey := keyed58.key (hK k hk)
  have hne : ∀ b, b < 256 → rel p L n k b = false → KL b ≠ KL k := fun b hb e1 e2 => by
    have := (hK.iff hb hk).1 e2
    have := (alike_rel p L n).symm _ _ this
    rw [e1] at this
    cases this
  refine ⟨⟨fun b hb => ?_, fun q hq => ?_, ?_⟩, ho.2⟩
  · by_cases eb : b = k
    · subst eb
      rw [atKey_put_same hT.isMap hkey, ho.2]
    · have hb' : b < k := by omega
      have hf : rel p L n k b = false := by
        cases e : rel p L n k b with
        | false => rfl
        | true =>
          have := (alike_rel p L n).symm _ _ e
          rw [hr b hb'] at this
          cases this
      rw [atKey_put_other (hne b (by omega) hf)]
      exact h.1 b hb'
  · cases e : rel p L n k q with
    | true =>
      have e2 : KL q = KL k := ((hK.iff hk hq).2 e).symm
      rw [e2, has_put_same hT.isMap hkey]
      simp
      exact ⟨k, by omega, e⟩
    | false =>
      rw [has_put_other (hne q hq e), h.2.1 q hq]
      constructor
      · rintro ⟨b, hb, hbq⟩; exact ⟨b, by omega, hbq⟩
      · rintro ⟨b, hb, hbq⟩
        by_cases eb : b = k
        · subst eb; rw [e] at hbq; cases hbq
        · exact ⟨b, by omega, hbq⟩
  · have hno : Maps.has D (KL k) = false := by
      cases e : Maps.has D (KL k) with
      | false => rfl
      | true =>
        obtain ⟨a, ha, h2⟩ := (h.2.1 k hk).1 e
        rw [hr a ha] at h2
        cases h2
    rw [size_put hT, hno, ho.1, h.2.2]
    rfl
theorem mapInv_has {p : Nat → Nat} {L : Nat → Nat → Nat} {n k : Nat} {KL : Nat → Lit} {D : DataW Unit} (h : MapInv (rel p L n) KL k D) (hk : k < 256) :
    (∃ a, a < k ∧ rel p L n a k = true ∧ Maps.has D (KL k) = true) ∨ ((∀ a, a < k → rel p L n a k = false) ∧ Maps.has D (KL k) = false) := by
  cases e : Maps.has D (KL k) with
  | true =>
    obtain ⟨a, ha, h2⟩ := (h.2.1 k hk).1 e
    exact .inl ⟨a, ha, h2, rfl⟩
  | false =>
    refine .inr ⟨fun a ha => ?_, rfl⟩
    cases e2 : rel p L n a k with
    | false => rfl
    | true =>
      have := (h.2.1 k hk).2 ⟨a, ha, e2⟩
      rw [e] at this
      cases this

end Go.Proofs.Ytbppofhjlgfbiaa
