/- What is behind the next time, and whether a scope may be left: contracts (in a seat that has trees: PNum).
   No conditions but those that each theorem states. -/
import Derived.Test.YtkkmopcmilgdoaaKsChg
namespace Go.Proofs.Ytkkmopcmilgdoaa
open Go.RowKit

set_option maxHeartbeats 2000000 in
set_option maxRecDepth 100000 in
theorem done_any (low high count : Int) (w : World) :
    Calls Try.prog 28 #[.agg #[.int .i64 low, .int .i64 high], .int .i64 count] w fun e w' => e = .returned (.bool (decide (low ≤ count))) ∧ Below w.heap.size w w' := by
  go_enter Try.func28, Try.ntmps28
  go_wp2_with fail
  go_ret
  exact ⟨rfl, (Below.refl _ w).alloc (Nat.le_refl _) _⟩

set_option maxHeartbeats 4000000 in
set_option maxRecDepth 100000 in
theorem pnext_any (low high count : Int) (w : World) (hc : count < 9223372036854775807) (hc0 : 0 ≤ count) :
    Calls Try.prog 25 #[.agg #[.int .i64 low, .int .i64 high], .int .i64 count] w fun e w' => e = .returned (.tuple (if count = high ∨ (high < count ∧ high ≠ -1) then #[.int .i64 0, .bool false] else if low ≤ count ∧ high = -1 then #[.int .i64 low, .bool true] else #[.int .i64 (count + 1), .bool true])) ∧ Below w.heap.size w w' := by
  have hw : IntKind.i64.wrap (count + 1) = count + 1 := by rw [IntKind.wrap_i64]; omega
  have hb : Below w.heap.size w (w.alloc (.cells #[.int .i64 low, .int .i64 high] 28)) := (Below.refl _ w).alloc (Nat.le_refl _) _
  by_cases g1 : count = high
  · rw [if_pos (.inl g1)]
    subst g1
    clear hw
    go_enter Try.func25, Try.ntmps25
    go_wp2_with fail
    refine bodyPost_ret (v := .tuple #[.int .i64 0, .bool false]) (by simp [results, Try.results25, go_sem]) rfl ⟨rfl, hb⟩
  · by_cases g2 : high = -1
    · subst g2
      rw [if_neg (by omega)]
      by_cases g3 : low ≤ count
      · rw [if_pos ⟨g3, rfl⟩]
        go_enter Try.func25, Try.ntmps25
        go_wp2_with fail
        refine bodyPost_ret (v := .tuple #[.int .i64 low, .bool true]) (by simp [results, Try.results25, go_sem]) rfl ⟨rfl, hb⟩
      · rw [if_neg (by omega)]
        go_enter Try.func25, Try.ntmps25
        go_wp2_with fail
        refine bodyPost_ret (v := .tuple #[.int .i64 (count + 1), .bool true]) (by simp [results, Try.results25, go_sem]) rfl ⟨rfl, hb⟩
    · by_cases g3 : high < count
      · rw [if_pos (.inr ⟨g3, g2⟩)]
        clear hw
        go_enter Try.func25, Try.ntmps25
        go_wp2_with fail
        refine bodyPost_ret (v := .tuple #[.int .i64 0, .bool false]) (by simp [results, Try.results25, go_sem]) rfl ⟨rfl, hb⟩
      · rw [if_neg (by omega), if_neg (by omega)]
        by_cases g4 : low ≤ count
        all_goals
          go_enter Try.func25, Try.ntmps25
          go_wp2_with fail
          refine bodyPost_ret (v := .tuple #[.int .i64 (count + 1), .bool true]) (by simp [results, Try.results25, go_sem]) rfl ⟨rfl, hb⟩

end Go.Proofs.Ytkkmopcmilgdoaa
