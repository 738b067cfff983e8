/- What the call that tells a byte's classes as the bits of a word comes to: a contract for the proofs of the statements.
   Conditions: at most 64 classes, each four words below 2^64, in a row of memory, as the theorem states. -/
import Derived.Test.YtbppofhjlgfbiaaCanon
import Derived.Test.YtbppofhjlgfbiaaNums
namespace Go.Proofs.Ytbppofhjlgfbiaa
open Go.RowKit

def ClassRow (w : World) (A : Option Addr) (n : Nat) (L : Nat → Nat → Nat) : Prop := 0 < n → ∃ b off, A = some ⟨b, off, none⟩ ∧ b < w.heap.size ∧ ∀ t, t < n → ∀ j, j < 4 → w.cell? ⟨b, off + t * 4 + j, none⟩ = some (.int .u64 (L t j : Nat))
theorem ClassRow.below {w w' : World} {A : Option Addr} {n : Nat} {L : Nat → Nat → Nat} (h : ClassRow w A n L) (hb : Below w.heap.size w w') : ClassRow w' A n L := fun h0 => by
  obtain ⟨b, off, e, hlt, hc⟩ := h h0
  exact ⟨b, off, e, Nat.lt_of_lt_of_le hlt hb.size, fun t ht j hj => (hb.cell (p := ⟨b, off + t * 4 + j, none⟩) hlt).trans (hc t ht j hj)⟩
def mem (L : Nat → Nat → Nat) (b : Nat) : Nat → Nat
  | 0 => 0
  | t + 1 => mem L b t * 2 + bitN (L t) b
theorem bitN_le (C : Nat → Nat) (b : Nat) : bitN C b ≤ 1 := by unfold bitN; omega
theorem mem_lt (L : Nat → Nat → Nat) (b : Nat) : ∀ t, mem L b t < 2 ^ t
  | 0 => by unfold mem; decide
  | t + 1 => by
    unfold mem
    have h1 := mem_lt L b t
    have h2 := bitN_le (L t) b
    rw [Nat.pow_succ]
    omega
theorem mem_64 (L : Nat → Nat → Nat) (b : Nat) {t : Nat} (h : t ≤ 64) : mem L b t < 18446744073709551616 := by
  have h1 := mem_lt L b t
  have h2 : 2 ^ t ≤ 2 ^ 64 := Nat.pow_le_pow_right (by decide) h
  rw [pow64] at h2
  omega
theorem mem_63 (L : Nat → Nat → Nat) (b : Nat) {t : Nat} (h : t < 64) : mem L b t < 9223372036854775808 := by
  have h1 := mem_lt L b t
  have h2 : 2 ^ t ≤ 2 ^ 63 := Nat.pow_le_pow_right (by decide) (by omega)
  have e : (2 : Nat) ^ 63 = 9223372036854775808 := by decide
  rw [e] at h2
  omega
theorem mem_eq_iff (L : Nat → Nat → Nat) (a b : Nat) : ∀ t, mem L a t = mem L b t ↔ ∀ k, k < t → hasB (L k) a = hasB (L k) b
  | 0 => ⟨fun _ k h => by omega, fun _ => rfl⟩
  | t + 1 => by
    have ih := mem_eq_iff L a b t
    have h1 := bitN_le (L t) a
    have h2 := bitN_le (L t) b
    have hb : bitN (L t) a = bitN (L t) b ↔ hasB (L t) a = hasB (L t) b := by
      rw [← bitN_one, ← bitN_one]
      constructor
      · intro e; rw [e]
      · intro e
        have e1 : bitN (L t) a = 0 ∨ bitN (L t) a = 1 := by omega
        have e2 : bitN (L t) b = 0 ∨ bitN (L t) b = 1 := by omega
        rcases e1 with e1 | e1 <;> rcases e2 with e2 | e2 <;> rw [e1, e2] at e ⊢ <;> simp at e
    show mem L a t * 2 + bitN (L t) a = mem L b t * 2 + bitN (L t) b ↔ _
    constructor
    · intro e k hk
      have e1 : mem L a t = mem L b t := by omega
      by_cases ek : k = t
      · subst ek; exact hb.1 (by omega)
      · exact ih.1 e1 k (by omega)
    · intro e
      have e1 := ih.2 fun k hk => e k (by omega)
      have e2 := hb.2 (e t (by omega))
      omega
theorem v_step {m q : Nat} (hm : m < 9223372036854775808) (hq : q ≤ 1) : bits .or .u64 ((m : Int) * 2) (q : Int) = ((m * 2 + q : Nat) : Int) := by
  have e : ((m : Int) * 2) = ((m * 2 : Nat) : Int) := by omega
  rw [e, bits_or_u64_nat _ _ (by omega) (by omega)]
  have : m * 2 ||| q = m * 2 + q := by
    have h := Nat.two_pow_add_eq_or_of_lt (i := 1) (b := q) (by omega) m
    rw [Nat.mul_comm m 2]
    simpa using h.symm
  rw [this]

set_option maxHeartbeats 1000000 in
set_option maxRecDepth 100000 in
theorem members_any (A : Option Addr) (n cap : Nat) (L : Nat → Nat → Nat) (q : Nat) (w : World) (hrow : ClassRow w A n L) (hL : ∀ t, Cl (L t)) (hn : n ≤ 64) (hq : q < 256) :
    Calls Try.prog 30 #[.slice A n cap, .int .u8 q] w fun e w' => e = .returned (.int .u64 (mem L q n)) ∧ Below w.heap.size w w' := by
  go_enter Try.func30, Try.ntmps30
  go_wp2_with fail
  go_loopw [5, 7, 10] (fun m _ i wr => ∃ k : Nat, k ≤ n ∧ i = .int .i64 k ∧ m = .int .u64 (mem L q k) ∧ Below w.heap.size w wr) (fun _ _ i _ => n - (intOf i).toNat)
  case atStart => exact ⟨0, Nat.zero_le _, rfl, rfl, Below.refl _ _⟩
  case round =>
    obtain ⟨k, hk, rfl, rfl, hB⟩ := hrel
    by_cases hlt : k < n
    · obtain ⟨b, off, hAe, hblt, hcell⟩ := hrow (by omega)
      subst hAe
      have h1 : (k : Int) < n := by omega
      have hc : ∀ j, j < 4 → wr.cell? ⟨b, off + k * 4 + j, none⟩ = some (.int .u64 (L k j : Nat)) := fun j hj => (hB.cell (p := ⟨b, off + k * 4 + j, none⟩) hblt).trans (hcell k hlt j hj)
      have c0 : wr.cell? ⟨b, off + k * 4, none⟩ = some (.int .u64 (L k 0 : Nat)) := hc 0 (by decide)
      have c1 := hc 1 (by decide)
      have c2 := hc 2 (by decide)
      have c3 := hc 3 (by decide)
      have HV := Lib.hid (v_step (mem_63 L q (show k < 64 by omega)) (bitN_le (L k) q))
      have hm := mem_63 L q (show k < 64 by omega)
      clear hc hcell
      go_wp2_with fail
      go_at_call 26
      refine (bit_any (L k) q _ (hL k) hq).mono ?_
      rintro e w2 ⟨rfl, hb2⟩
      go_wp2_with fail
      go_roundw
      case rel => exact ⟨k + 1, by omega, by go_num, by rw [HV.out]; rfl, (hB.alloc hB.size _).trans (hb2.mono (by have := hB.size; simp; omega))⟩
      case measure => simp [intOf]; omega
    · have hke : k = n := by omega
      subst hke
      go_wp2_with fail
      go_ret
      exact ⟨rfl, hB⟩

end Go.Proofs.Ytbppofhjlgfbiaa
