/- What the document's own making of a class out of 256 bools comes to: contracts for the proofs of the statements.
   Conditions: the array holds 256 bools, as the theorem states. -/
import Derived.Test.YtbodgadbhldbmaaCells
import Derived.Deep.MidRow
namespace Go.Proofs.Ytbodgadbhldbmaa
open Go.RowKit

def Bools (w : World) (b : Nat) (s : Nat → Bool) : Prop := ∀ i, i < 256 → w.cell? ⟨b, i, none⟩ = some (.bool (s i))
theorem Bools.below {w w' : World} {b : Nat} {s : Nat → Bool} (h : Bools w b s) (hb : Below w.heap.size w w') : Bools w' b s := fun i hi =>
  (hb.cell (p := ⟨b, i, none⟩) (World.block_lt_of_cell? _ _ (h i hi))).trans (h i hi)
theorem Bools.store {w : World} {b b' : Nat} {s : Nat → Bool} {C : Nat → Nat} (h : Bools w b s) (hne : b' ≠ b) : Bools (store4 w b' C) b s := by
  intro i hi
  unfold store4
  rw [World.cell?_setCell_other (h := addr_ne (.inl hne)), World.cell?_setCell_other (h := addr_ne (.inl hne)), World.cell?_setCell_other (h := addr_ne (.inl hne)), World.cell?_setCell_other (h := addr_ne (.inl hne))]
  exact h i hi
def MS (s : Nat → Bool) (w : World) (C : Nat → Nat) (wr : World) : Prop :=
  Bools wr w.heap.size s ∧ Cells wr (w.heap.size + 1) zeros ∧ Free wr (w.heap.size + 1) ∧ Cells wr (w.heap.size + 2) C ∧ Free wr (w.heap.size + 2) ∧ w.heap.size + 3 ≤ wr.heap.size ∧ Below w.heap.size w wr
theorem MS.below {s : Nat → Bool} {w wr w' : World} {C : Nat → Nat} (h : MS s w C wr) (hb : Below wr.heap.size wr w') : MS s w C w' :=
  ⟨h.1.below hb, h.2.1.below hb, h.2.2.1.below (by have := h.2.2.2.2.2.1; omega) hb, h.2.2.2.1.below hb, h.2.2.2.2.1.below (by have := h.2.2.2.2.2.1; omega) hb, Nat.le_trans h.2.2.2.2.2.1 hb.size, h.2.2.2.2.2.2.trans (hb.mono h.2.2.2.2.2.2.size)⟩
theorem MS.store {s : Nat → Bool} {w wr : World} {C D : Nat → Nat} (h : MS s w C wr) : MS s w D (store4 wr (w.heap.size + 2) D) :=
  ⟨h.1.store (by omega), store4_other h.2.1 (by omega), store4_free h.2.2.1, store4_same h.2.2.2.1, store4_free h.2.2.2.2.1, by rw [store4_size]; exact h.2.2.2.2.2.1, store4_below h.2.2.2.2.2.2 (by omega)⟩
theorem cells_zero (w : World) : Cells (w.alloc (.cells #[.int .u64 0, .int .u64 0, .int .u64 0, .int .u64 0] 25)) w.heap.size zeros := by
  intro j hj
  match j, hj with
  | 0, _ => simp [zeros]
  | 1, _ => simp [zeros]
  | 2, _ => simp [zeros]
  | 3, _ => simp [zeros]
theorem free_zero (w : World) : Free (w.alloc (.cells #[.int .u64 0, .int .u64 0, .int .u64 0, .int .u64 0] 25)) w.heap.size := fun j hj => by simp
theorem MS.start {M : Array Value} {s : Nat → Bool} {w : World} (hM : ∀ i, i < 256 → M[i]? = some (.bool (s i))) :
    MS s w zeros (((w.alloc (.cells M 86)).alloc (.cells #[.int .u64 0, .int .u64 0, .int .u64 0, .int .u64 0] 25)).alloc (.cells #[.int .u64 0, .int .u64 0, .int .u64 0, .int .u64 0] 25)) := by
  have e1 : (w.alloc (.cells M 86)).heap.size = w.heap.size + 1 := by simp
  have e2 : ((w.alloc (.cells M 86)).alloc (.cells #[.int .u64 0, .int .u64 0, .int .u64 0, .int .u64 0] 25)).heap.size = w.heap.size + 2 := by simp
  have c1 := cells_zero (w.alloc (.cells M 86))
  have f1 := free_zero (w.alloc (.cells M 86))
  have c2 := cells_zero ((w.alloc (.cells M 86)).alloc (.cells #[.int .u64 0, .int .u64 0, .int .u64 0, .int .u64 0] 25))
  have f2 := free_zero ((w.alloc (.cells M 86)).alloc (.cells #[.int .u64 0, .int .u64 0, .int .u64 0, .int .u64 0] 25))
  rw [e1] at c1 f1
  rw [e2] at c2 f2
  refine ⟨fun i hi => ?_, c1.below (below_alloc _ _), f1.below (by simp) (below_alloc _ _), c2, f2, by simp, (((Below.refl _ _).alloc (Nat.le_refl _) _).alloc (by simp) _).alloc (by simp; omega) _⟩
  have : (w.alloc (.cells M 86)).cell? ⟨w.heap.size, i, none⟩ = some (.bool (s i)) := by simp [hM i hi]
  rw [← this]
  exact ((below_alloc _ _).trans ((below_alloc _ _).mono (by simp))).cell (p := ⟨w.heap.size, i, none⟩) (by simp)

set_option maxHeartbeats 1000000 in
set_option maxRecDepth 100000 in
theorem made_any (M : Array Value) (s : Nat → Bool) (w : World) (hM : ∀ i, i < 256 → M[i]? = some (.bool (s i))) :
    Calls Try.prog 50 #[.agg M] w (GivesSet (fun x => s x = true) w) := by
  have hst := MS.start (w := w) hM
  clear hM
  go_enter Try.func50, Try.ntmps50
  go_wp2_with fail
  go_loopw [4] (fun i wr => ∃ (k : Nat) (C : Nat → Nat), k ≤ 256 ∧ i = .int .i64 k ∧ setOf (fun x => x < k ∧ s x = true) C ∧ MS s w C wr) (fun i _ => 256 - (intOf i).toNat)
  case atStart => exact ⟨0, zeros, Nat.zero_le _, rfl, setOf_zeros fun b _ h => by omega, hst⟩
  case round =>
    clear hst
    obtain ⟨k, C, hk, rfl, hC, hms⟩ := hrel
    obtain ⟨c0, c1, c2, c3⟩ := hms.2.2.2.1.four
    by_cases hlt : k < 256
    · have h1 : (k : Int) < 256 := by omega
      have hck := hms.1 k hlt
      cases hs : s k
      · rw [hs] at hck
        go_wp2_with fail
        go_roundw
        case rel =>
          refine ⟨k + 1, C, by omega, by go_num, ⟨hC.1, fun x hx => ?_⟩, hms⟩
          rw [hC.2 x hx]
          constructor
          · rintro ⟨h1, h2⟩; exact ⟨by omega, h2⟩
          · rintro ⟨h1, h2⟩
            refine ⟨?_, h2⟩
            by_cases e : x = k
            · subst e; rw [hs] at h2; cases h2
            · omega
        case measure => simp [intOf]; omega
      · rw [hs] at hck
        go_wp2_with fail
        go_at_call 52
        refine (put_any C k _ hC.1 hlt).mono ?_
        rintro e w2 ⟨D, hD, rfl, hb⟩
        have m2 := hms.below hb
        have m3 := m2.store (D := D)
        obtain ⟨d0, d1, d2, d3⟩ := m2.2.2.2.1.four
        have f0 := m2.2.2.2.2.1 0 (by decide)
        have f1 := m2.2.2.2.2.1 1 (by decide)
        have f2 := m2.2.2.2.2.1 2 (by decide)
        have f3 := m2.2.2.2.2.1 3 (by decide)
        go_wp2_with fail
        go_roundw
        case rel =>
          refine ⟨k + 1, D, by omega, by go_num, ⟨hD.1, fun x hx => ?_⟩, m3⟩
          rw [hD.2 x hx]
          show (hasB C x = true ∨ x = k) ↔ _
          rw [hC.2 x hx]
          constructor
          · rintro (⟨h1, h2⟩ | h)
            · exact ⟨by omega, h2⟩
            · subst h; exact ⟨by omega, hs⟩
          · rintro ⟨h1, h2⟩
            by_cases e : x = k
            · exact .inr e
            · exact .inl ⟨by omega, h2⟩
        case measure => simp [intOf]; omega
    · have hk6 : k = 256 := by omega
      subst hk6
      obtain ⟨d0, d1, d2, d3⟩ := hms.2.1.four
      have f0 := hms.2.2.1 0 (by decide)
      have f1 := hms.2.2.1 1 (by decide)
      have f2 := hms.2.2.1 2 (by decide)
      have f3 := hms.2.2.1 3 (by decide)
      go_wp2_with fail
      refine bodyPost_ret (v := .agg #[.int .u64 (C 0 : Nat), .int .u64 (C 1 : Nat), .int .u64 (C 2 : Nat), .int .u64 (C 3 : Nat)]) (by simp [results, Try.results50, go_sem, d0, d1, d2, d3]) rfl ⟨C, ⟨hC.1, fun x hx => ?_⟩, rfl, ?_⟩
      · rw [hC.2 x hx]
        constructor
        · exact fun h => h.2
        · exact fun h => ⟨hx, h⟩
      · exact store4_below (C := C) hms.2.2.2.2.2.2 (by omega)

end Go.Proofs.Ytbodgadbhldbmaa
