/- What the document's own making of a class, byte by byte, comes to, and that the program is awake: contracts for the proofs of the statements.
   Conditions: classes are four words below 2^64 ('Cl'), bytes below 256, as each theorem states. -/
import Derived.Test.YtbodgadbhldbmaaSets
namespace Go.Proofs.Ytbodgadbhldbmaa
open Go.RowKit

theorem add_or {x j : Nat} (hx : x < 2 ^ 64) (hj : j < 64) (h : x.testBit j = false) : (x + 2 ^ j) % 2 ^ 64 = x ||| 2 ^ j := by
  have hp : 2 ^ j < 2 ^ 64 := Nat.pow_lt_pow_right (by decide) hj
  have ha : BitVec.ofNat 64 x &&& BitVec.ofNat 64 (2 ^ j) = 0#64 := by
    apply BitVec.eq_of_getLsbD_eq
    intro i hi
    rw [BitVec.getLsbD_and, BitVec.getLsbD_ofNat, BitVec.getLsbD_ofNat, Nat.testBit_two_pow]
    by_cases e : j = i
    · subst e; simp [h]
    · simp [e]
  have e := congrArg BitVec.toNat (BitVec.add_eq_or_of_and_eq_zero _ _ ha)
  rw [BitVec.toNat_add, BitVec.toNat_or, BitVec.toNat_ofNat, BitVec.toNat_ofNat, Nat.mod_eq_of_lt hx, Nat.mod_eq_of_lt hp] at e
  exact e
theorem add_put {C : Nat → Nat} (hC : Cl C) {b : Nat} (h : hasB C b = false) : IntKind.u64.wrap ((C (b / 64) : Int) + ((2 ^ (b % 64) : Nat) : Int)) = ((put C b (b / 64) : Nat) : Int) := by
  have e := add_or (hC.lt (b / 64)) (Nat.mod_lt b (by decide)) (by unfold hasB at h; exact h)
  unfold put
  rw [if_pos rfl, ← e, IntKind.wrap_u64, pow64]
  omega
theorem dbl {k x : Nat} (hx : x = 2 ^ k) (hk : k < 63) : IntKind.u64.wrap ((x : Int) * 2) = (x : Int) * 2 := by
  have : x < 2 ^ 63 := by rw [hx]; exact Nat.pow_lt_pow_right (by decide) hk
  have e : (2 : Nat) ^ 63 = 9223372036854775808 := by decide
  rw [e] at this
  rw [IntKind.wrap_u64]
  omega

theorem cells_put {w1 : World} {B : Nat} {C : Nat → Nat} (hc : ∀ j, j < 4 → w1.cell? ⟨B, j, none⟩ = some (.int .u64 (C j))) {b : Nat} {v : Int} (hv : v = (put C b (b / 64) : Nat)) :
    ∀ j, j < 4 → (w1.setCell ⟨B, b / 64, none⟩ (.int .u64 v)).cell? ⟨B, j, none⟩ = some (.int .u64 (put C b j : Nat)) := by
  intro j hj
  by_cases e : j = b / 64
  · subst e
    rw [World.cell?_setCell_same (h := hc _ hj), hv]
  · rw [World.cell?_setCell_other (h := by intro h; injection h with _ h2 _; exact e h2.symm), hc j hj]
    unfold put
    rw [if_neg e]
theorem bcell {W w1 : World} (hb : Below W.heap.size W w1) : (∀ b o, b < W.heap.size → w1.cell? ⟨b, o, none⟩ = W.cell? ⟨b, o, none⟩) ∧ (∀ b o, b < W.heap.size → w1.frozen? ⟨b, o, none⟩ = W.frozen? ⟨b, o, none⟩) :=
  ⟨fun b o h => hb.cell (p := ⟨b, o, none⟩) h, fun b o h => hb.frozen (p := ⟨b, o, none⟩) h⟩

set_option maxHeartbeats 1000000 in
set_option maxRecDepth 100000 in
theorem put_any (C : Nat → Nat) (b : Nat) (w : World) (hC : Cl C) (hb : b < 256) :
    Calls Try.prog 52 #[.agg #[.int .u64 (C 0 : Nat), .int .u64 (C 1 : Nat), .int .u64 (C 2 : Nat), .int .u64 (C 3 : Nat)], .int .i64 b] w (GivesSet (fun x => hasB C x = true ∨ x = b) w) := by
  have hp := pick4 C (b / 64) (by omega)
  by_cases hh : hasB C b = true
  · go_enter Try.func52, Try.ntmps52
    go_wp2_with (go_at_call 60; refine (rhas_any C b _ hC hb).mono ?_; rintro e w1 ⟨rfl, hb1⟩; obtain ⟨hc, hf⟩ := bcell hb1)
    refine bodyPost_ret (v := .agg #[.int .u64 (C 0 : Nat), .int .u64 (C 1 : Nat), .int .u64 (C 2 : Nat), .int .u64 (C 3 : Nat)]) (by simp [results, Try.results52, go_sem, hc]) rfl ⟨C, ⟨hC, fun x hx => ?_⟩, rfl, ?_⟩
    · constructor
      · exact .inl
      · rintro (h | h)
        · exact h
        · subst h; exact hh
    · exact (((((((Below.refl _ _).alloc (Nat.le_refl _) _).alloc (by simp) _).trans (hb1.mono (by simp; omega))).setCell (by simp) _).setCell (by simp) _).setCell (by simp) _).setCell (by simp) _
  · have hf0 : hasB C b = false := by simpa using hh
    go_enter Try.func52, Try.ntmps52
    go_wp2_with (go_at_call 60; refine (rhas_any C b _ hC hb).mono ?_; rintro e w1 ⟨rfl, hb1⟩; obtain ⟨hc, hf⟩ := bcell hb1)
    have HC := Lib.hid hc
    have HF := Lib.hid hf
    clear hc hf
    go_loop [5, 6] (fun v i => ∃ k x : Nat, k ≤ b % 64 ∧ x = 2 ^ k ∧ v = .int .u64 x ∧ i = .int .i64 k) (fun _ i => b % 64 - (intOf i).toNat)
    case atStart => exact ⟨0, 1, Nat.zero_le _, rfl, rfl, rfl⟩
    case round =>
      obtain ⟨k, x, hk, hx, rfl, rfl⟩ := hrel
      have HX := Lib.hid hx
      by_cases hlt : k < b % 64
      · have hw := dbl hx (by omega)
        clear hx
        go_wp2
        go_round
        case rel => exact ⟨k + 1, x * 2, by omega, by rw [HX.out, Nat.pow_succ], by go_num, by go_num⟩
        case measure => simp [intOf]; omega
      · have hke : k = b % 64 := by omega
        have hxe : x = 2 ^ (b % 64) := by rw [hx, hke]
        have hc := HC.out
        have hf := HF.out
        have hcs : ∀ j, j < 4 → w1.cell? ⟨w.heap.size, j, none⟩ = some (.int .u64 (C j)) := fun j hj => by
          rw [hc _ _ (by simp; omega)]
          have := pick4 C j hj
          simp [this]
        have hg := cells_put hcs (v := IntKind.u64.wrap (((C (b / 64) : Nat) : Int) + (x : Int))) (by rw [hxe]; exact add_put hC hf0)
        have g0 := hg 0 (by decide)
        have g1 := hg 1 (by decide)
        have g2 := hg 2 (by decide)
        have g3 := hg 3 (by decide)
        clear hx hxe hg hcs
        go_wp2
        refine bodyPost_ret (v := .agg #[.int .u64 (put C b 0 : Nat), .int .u64 (put C b 1 : Nat), .int .u64 (put C b 2 : Nat), .int .u64 (put C b 3 : Nat)]) (by simp [results, Try.results52, go_sem, hc]) rfl ⟨put C b, ⟨Cl_put hC b, fun x _ => hasB_put C b x⟩, rfl, ?_⟩
        exact ((((((((Below.refl _ _).alloc (Nat.le_refl _) _).alloc (by simp) _).trans (hb1.mono (by simp; omega))).setCell (by simp) _).setCell (by simp) _).setCell (by simp) _).setCell (by simp) _).setCell (by simp) _

end Go.Proofs.Ytbodgadbhldbmaa
