/- The walk of the statement ClassParts: called with a list of classes it returns true and changes nothing that was there.
   Conditions: classes are four words below 2^64 ('Cl'), in a row of memory as they are read. -/
import Derived.Test.YtbppofhjlgfbiaaRefWalk
namespace Go.Proofs.Ytbppofhjlgfbiaa
open Go.RowKit
attribute [local go_sem ↓] Go.wp_at_zero Go.wp_at_succ

set_option maxHeartbeats 4000000 in
set_option maxRecDepth 100000 in
theorem parts_long (A : Option Addr) (n cap : Nat) (w : World) (hn : 40 < n) :
    Calls Try.prog 6 #[.slice A n cap] w fun e w' => e = .returned (.bool true) ∧ Below w.heap.size w w' := by
  have hn' : (40 : Int) < (n : Int) := by omega
  go_enter Try.func6, Try.ntmps6
  go_wp2_with fail
  go_at_call 9
  refine (awake_any _).mono ?_
  rintro e w1 ⟨rfl, hb1⟩
  go_wp2_with fail
  go_at_call 9
  refine (awake_any _).mono ?_
  rintro e w2 ⟨rfl, hb2⟩
  go_wp2_with fail
  go_ret
  exact ⟨rfl, hb1.trans (hb2.mono hb1.size)⟩

set_option maxHeartbeats 4000000 in
set_option maxRecDepth 100000 in
theorem parts_short (A : Option Addr) (n cap : Nat) (L : Nat → Nat → Nat) (w : World) (hrow : ClassRow w A n L) (hL : ∀ t, Cl (L t)) (hn : n ≤ 40) (hcap : n ≤ cap) :
    Calls Try.prog 6 #[.slice A n cap] w fun e w' => e = .returned (.bool true) ∧ Below w.heap.size w w' := by
  have hn' : ¬ (40 : Int) < (n : Int) := by omega
  go_enter Try.func6, Try.ntmps6
  go_wp2_with fail
  go_at_call 9
  refine (awake_any _).mono ?_
  rintro e w1 ⟨rfl, hb1⟩
  have hr1 := hrow.below hb1
  go_wp2_with fail
  go_at_call 11
  refine (parts_any A n cap L _ hr1 hL (by omega) hcap).mono ?_
  rintro e w4 ⟨g1, rfl, hg1, hP1, hb4⟩
  go_wp2_with fail
  go_at_call 22
  refine (ref_any A n cap L _ (hr1.below hb4) hL (by omega)).mono ?_
  rintro e w5 ⟨g2, c2, rfl, hQ2, hb5⟩
  have hQ1 := hP1.below' hb5
  have hb0 : Below w.heap.size w w5 := (hb1.trans (hb4.mono hb1.size)).trans (hb5.mono (Nat.le_trans hb1.size hb4.size))
  clear hP1 hb4 hb5 hr1 hb1 hg1
  generalize rel zeros L n = r at *
  have hMle := news_le (r := r) 256
  generalize news r 256 = M at *
  go_wp2_with fail
  go_loopw [5] (fun i wr => ∃ q : Nat, q ≤ M ∧ i = .int .i64 q ∧ PartsAt wr g1 M (partOf r) ∧ PartsAt wr g2 M (partOf r) ∧ Below w.heap.size w wr) (fun i _ => M - (intOf i).toNat)
  case atStart => exact ⟨0, Nat.zero_le _, rfl, hQ1, hQ2, hb0⟩
  case round =>
    clear hQ1 hQ2 hb0
    obtain ⟨q, hq, rfl, hQ1, hQ2, hbr⟩ := hrel
    by_cases hqM : q < M
    · have h1 : (q : Int) < (M : Int) := by omega
      have h0 : (0 : Int) ≤ (q : Int) := by omega
      have heq := equal_same (A := partOf r q) (B := partOf r q) ⟨rfl, rfl, rfl, rfl⟩
      have p0 : wr.cell? ⟨g1, q * 4, none⟩ = some (.int .u64 (partOf r q 0 : Nat)) := hQ1 q hqM 0 (by decide)
      have p1 := hQ1 q hqM 1 (by decide)
      have p2 := hQ1 q hqM 2 (by decide)
      have p3 := hQ1 q hqM 3 (by decide)
      have s0 : wr.cell? ⟨g2, q * 4, none⟩ = some (.int .u64 (partOf r q 0 : Nat)) := hQ2 q hqM 0 (by decide)
      have s1 := hQ2 q hqM 1 (by decide)
      have s2 := hQ2 q hqM 2 (by decide)
      have s3 := hQ2 q hqM 3 (by decide)
      go_wp2_with fail
      go_region
      all_goals
        go_wp2_with fail
        go_roundw
        case rel => exact ⟨q + 1, by omega, by go_num, hQ1.below' (below_drewN (Below.refl _ _) 1), hQ2.below' (below_drewN (Below.refl _ _) 1), below_drewN hbr 1⟩
        case measure => simp [intOf]; omega
    · have hqe : q = M := by omega
      subst hqe
      go_wp2_with fail
      go_ret
      exact ⟨rfl, hbr⟩

end Go.Proofs.Ytbppofhjlgfbiaa
