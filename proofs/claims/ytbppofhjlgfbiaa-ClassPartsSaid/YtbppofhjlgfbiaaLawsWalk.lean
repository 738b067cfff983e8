/- The walk of the statement ClassLaws: called with two classes it returns true and changes nothing that was there.
   Conditions: classes are four words below 2^64 ('Cl'). -/
import Derived.Test.YtbppofhjlgfbiaaWake
import Derived.Deep.RegionHeld3
import Derived.Deep.DrawnRows
namespace Go.Proofs.Ytbppofhjlgfbiaa
open Go.RowKit
attribute [local go_sem ↓] Go.wp_at_zero Go.wp_at_succ

theorem equal_same {A B : Nat → Nat} (h : same4 A B) (w : World) : (Op.equalIn 10000 26 (.agg #[.int .u64 (A 0 : Nat), .int .u64 (A 1 : Nat), .int .u64 (A 2 : Nat), .int .u64 (A 3 : Nat)]) (.agg #[.int .u64 (B 0 : Nat), .int .u64 (B 1 : Nat), .int .u64 (B 2 : Nat), .int .u64 (B 3 : Nat)])).run Try.prog w = .ok true w := by
  rw [run_equal4, h.1, h.2.1, h.2.2.1, h.2.2.2]
  simp
theorem sizes_sum (A B : Nat → Nat) : (IntKind.i64.wrap ((cnt A 256 : Int) + (cnt B 256 : Int)) == IntKind.i64.wrap ((cnt (cAnd A B) 256 : Int) + (cnt (cOr A B) 256 : Int))) = true := by
  have := cnt_and_or A B 256
  have e : (cnt A 256 : Int) + (cnt B 256 : Int) = (cnt (cAnd A B) 256 : Int) + (cnt (cOr A B) 256 : Int) := by omega
  rw [e]
  simp

theorem keep_cell {W w' : World} {b o : Nat} {v : Value} (hb : Below W.heap.size W w') (h : W.cell? ⟨b, o, none⟩ = some v) : w'.cell? ⟨b, o, none⟩ = some v :=
  (hb.cell (p := ⟨b, o, none⟩) (World.block_lt_of_cell? _ _ h)).trans h
theorem keep_size {W w' : World} {n : Nat} (hb : Below W.heap.size W w') (h : n < W.heap.size) : n < w'.heap.size := Nat.lt_of_lt_of_le h hb.size
theorem keep_below {W w w' : World} (hb : Below W.heap.size W w') (h : Below w.heap.size w W) : Below w.heap.size w w' := h.trans (hb.mono h.size)

set_option maxHeartbeats 4000000 in
set_option maxRecDepth 100000 in
theorem laws_walk (A B : Nat → Nat) (w : World) (hA : Cl A) (hB : Cl B) :
    Calls Try.prog 8 #[.agg #[.int .u64 (A 0 : Nat), .int .u64 (A 1 : Nat), .int .u64 (A 2 : Nat), .int .u64 (A 3 : Nat)], .agg #[.int .u64 (B 0 : Nat), .int .u64 (B 1 : Nat), .int .u64 (B 2 : Nat), .int .u64 (B 3 : Nat)]] w fun e w' => e = .returned (.bool true) ∧ Below w.heap.size w w' := by
  have e1 := equal_same (deMorgan hA hB)
  have e2 := equal_same (notNot hA)
  have e3 := sizes_sum A B
  go_enter Try.func8, Try.ntmps8
  go_wp2_with fail
  have hst : Below w.heap.size w ((w.alloc (.cells #[.int .u64 (A 0 : Nat), .int .u64 (A 1 : Nat), .int .u64 (A 2 : Nat), .int .u64 (A 3 : Nat)] 26)).alloc (.cells #[.int .u64 (B 0 : Nat), .int .u64 (B 1 : Nat), .int .u64 (B 2 : Nat), .int .u64 (B 3 : Nat)] 26)).drew := below_drewN (((Below.refl _ _).alloc (Nat.le_refl _) _).alloc (by simp) _) 1
  go_region_held3 (fun w' => w'.cell? ⟨w.heap.size, 0, none⟩ = some (.int .u64 (A 0 : Nat)) ∧ w'.cell? ⟨w.heap.size, 1, none⟩ = some (.int .u64 (A 1 : Nat)) ∧ w'.cell? ⟨w.heap.size, 2, none⟩ = some (.int .u64 (A 2 : Nat)) ∧ w'.cell? ⟨w.heap.size, 3, none⟩ = some (.int .u64 (A 3 : Nat)) ∧ w'.cell? ⟨w.heap.size + 1, 0, none⟩ = some (.int .u64 (B 0 : Nat)) ∧ w'.cell? ⟨w.heap.size + 1, 1, none⟩ = some (.int .u64 (B 1 : Nat)) ∧ w'.cell? ⟨w.heap.size + 1, 2, none⟩ = some (.int .u64 (B 2 : Nat)) ∧ w'.cell? ⟨w.heap.size + 1, 3, none⟩ = some (.int .u64 (B 3 : Nat)) ∧ w.heap.size + 1 < w'.heap.size ∧ Below w.heap.size w w')
    (first
      | go_keep
      | (go_split_ands; refine ⟨?_, ?_, ?_, ?_, ?_, ?_, ?_, ?_, ?_, ?_⟩ <;> first | go_keep | exact hst)
      | (go_split_ands; refine ⟨?_, ?_, ?_, ?_, ?_, ?_, ?_, ?_, ?_, ?_⟩ <;> first | exact keep_cell hb (by assumption) | exact keep_size hb (by assumption) | exact keep_below hb (by assumption)))
    (first
      | (go_at_call 9; ((with_reducible refine (awake_any _).mono ?_); rintro e w' ⟨rfl, hb⟩))
      | (go_at_call 12; ((with_reducible refine (and_any A B _ hA hB).mono ?_); rintro e w' ⟨rfl, hb⟩))
      | (go_at_call 13; ((with_reducible refine (or_any A B _ hA hB).mono ?_); rintro e w' ⟨rfl, hb⟩))
      | (go_at_call 13; ((with_reducible refine (or_any (cNot A) (cNot B) _ (Cl_not hA) (Cl_not hB)).mono ?_); rintro e w' ⟨rfl, hb⟩))
      | (go_at_call 10; ((with_reducible refine (not_any A _ hA).mono ?_); rintro e w' ⟨rfl, hb⟩))
      | (go_at_call 10; ((with_reducible refine (not_any B _ hB).mono ?_); rintro e w' ⟨rfl, hb⟩))
      | (go_at_call 10; ((with_reducible refine (not_any (cNot A) _ (Cl_not hA)).mono ?_); rintro e w' ⟨rfl, hb⟩))
      | (go_at_call 10; ((with_reducible refine (not_any (cAnd A B) _ (Cl_and hB)).mono ?_); rintro e w' ⟨rfl, hb⟩))
      | (go_at_call 17; ((with_reducible refine (size_any A _ hA).mono ?_); rintro e w' ⟨rfl, hb⟩))
      | (go_at_call 17; ((with_reducible refine (size_any B _ hB).mono ?_); rintro e w' ⟨rfl, hb⟩))
      | (go_at_call 17; ((with_reducible refine (size_any (cAnd A B) _ (Cl_and hB)).mono ?_); rintro e w' ⟨rfl, hb⟩))
      | (go_at_call 17; ((with_reducible refine (size_any (cOr A B) _ (Cl_or hA hB)).mono ?_); rintro e w' ⟨rfl, hb⟩)))
  go_wp2
  go_ret
  refine ⟨rfl, ?_⟩
  go_split_ands
  first | assumption | exact keep_below hb (by assumption) | trace_state

end Go.Proofs.Ytbppofhjlgfbiaa
