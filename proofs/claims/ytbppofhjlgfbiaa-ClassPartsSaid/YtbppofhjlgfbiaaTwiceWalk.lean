/- The walk of the statement ClassTwice: called with a list of classes and a byte it returns true and changes nothing that was there.
   Conditions: classes are four words below 2^64 ('Cl'), in a row of memory as they are read. -/
import Derived.Test.YtbppofhjlgfbiaaLawsWalk
import Derived.Test.YtbppofhjlgfbiaaTwiceFacts
import Derived.Test.YtbppofhjlgfbiaaTwiceMore
import Derived.Deep.DeepCutAuto
import Derived.Deep.AppendLies
namespace Go.Proofs.Ytbppofhjlgfbiaa
open Go.RowKit
attribute [local go_sem ↓] Go.wp_at_zero Go.wp_at_succ

set_option maxHeartbeats 4000000 in
set_option maxRecDepth 100000 in
theorem twice_long (A : Option Addr) (n cap s : Nat) (w : World) (hn : 20 < n) :
    Calls Try.prog 3 #[.slice A n cap, .int .u8 s] w fun e w' => e = .returned (.bool true) ∧ Below w.heap.size w w' := by
  have hn' : (20 : Int) < (n : Int) := by omega
  go_enter Try.func3, Try.ntmps3
  go_wp2_with fail
  go_at_call 9
  refine (awake_any _).mono ?_
  rintro e w1 ⟨rfl, hb1⟩
  go_wp2_with fail
  go_at_call 9
  refine (awake_any _).mono ?_
  rintro e w2 ⟨rfl, hb2⟩
  go_wp2_with fail
  go_ret
  exact ⟨rfl, hb1.trans (hb2.mono hb1.size)⟩

set_option maxHeartbeats 4000000 in
set_option maxRecDepth 100000 in
theorem twice_none (A : Option Addr) (cap s : Nat) (w : World) :
    Calls Try.prog 3 #[.slice A 0 cap, .int .u8 s] w fun e w' => e = .returned (.bool true) ∧ Below w.heap.size w w' := by
  go_enter Try.func3, Try.ntmps3
  go_wp2_with fail
  go_at_call 9
  refine (awake_any _).mono ?_
  rintro e w1 ⟨rfl, hb1⟩
  go_wp2_with fail
  go_at_call 9
  refine (awake_any _).mono ?_
  rintro e w2 ⟨rfl, hb2⟩
  go_wp2_with fail
  go_ret
  exact ⟨rfl, hb1.trans (hb2.mono hb1.size)⟩

theorem own_row {w : World} {base g cap n : Nat} {M : Nat → Nat → Nat} (h : w.ownsRow base 26 4 (.slice (some ⟨g, 0, none⟩) n cap) n (rowsOf M n)) : ClassRow w (some ⟨g, 0, none⟩) n M ∧ n ≤ cap := by
  have hc := h.cells (g := g) rfl
  constructor
  · intro h0
    have hcell : ∀ t, t < n → ∀ j, j < 4 → w.cell? ⟨g, 0 + t * 4 + j, none⟩ = some (.int .u64 (M t j : Nat)) := fun t ht j hj => by
      have := hc _ _ (rowsOf_at M j hj n t ht)
      rw [Addr.add_mid] at this
      rw [Nat.add_assoc]
      exact this
    exact ⟨g, 0, rfl, World.block_lt_of_cell? _ _ (hcell 0 h0 0 (by decide)), hcell⟩
  · rcases h.2 with ⟨h1, _⟩ | ⟨g', cap', cur, hv, _, _, hle, _⟩
    · cases h1
    · simp at hv
      omega
theorem own_all {L : Nat → Nat → Nat} {n s base : Nat} {w : World} {v : Value} (h : w.ownsRow base 26 4 v (n + 2) (rowsOf (turned L n s) n ++ (four (cNot (L 0)) ++ four (L 0)))) :
    w.ownsRow base 26 4 v (n + 2) (rowsOf (turned L n s) (n + 2)) := by
  rw [show rowsOf (turned L n s) (n + 2) = (rowsOf (turned L n s) n ++ four (turned L n s n)) ++ four (turned L n s (n + 1)) from rfl, turned_not, turned_first, List.append_assoc]
  exact h
theorem PartsAt.below' {w w' : World} {g M : Nat} {Cs : Nat → Nat → Nat} (h : PartsAt w g M Cs) (hb : Below w.heap.size w w') : PartsAt w' g M Cs := fun q hq j hj => keep_cell hb (h q hq j hj)
theorem PartsAt.alike {w : World} {g M : Nat} {Cs Ds : Nat → Nat → Nat} (h : PartsAt w g M Cs) (e : ∀ q, same4 (Cs q) (Ds q)) : PartsAt w g M Ds := fun q hq j hj => by
  rw [h q hq j hj]
  match j, hj with
  | 0, _ => rw [(e q).1]
  | 1, _ => rw [(e q).2.1]
  | 2, _ => rw [(e q).2.2.1]
  | 3, _ => rw [(e q).2.2.2]
theorem same4.symm {A B : Nat → Nat} (h : same4 A B) : same4 B A := ⟨h.1.symm, h.2.1.symm, h.2.2.1.symm, h.2.2.2.symm⟩
theorem own_next {L : Nat → Nat → Nat} {n s k x base : Nat} {w : World} {v : Value} (hx : (k + s) % n = x) (hk : k < n) (h : w.ownsRow base 26 4 v (k + 1) (rowsOf (turned L n s) k ++ four (L x))) :
    w.ownsRow base 26 4 v (k + 1) (rowsOf (turned L n s) (k + 1)) := by
  rw [show rowsOf (turned L n s) (k + 1) = rowsOf (turned L n s) k ++ four (turned L n s k) from rfl, turned_in hk, hx]
  exact h
set_option maxHeartbeats 4000000 in
set_option maxRecDepth 100000 in
theorem twice_some (A : Option Addr) (n cap s : Nat) (L : Nat → Nat → Nat) (w : World) (hrow : ClassRow w A n L) (hL : ∀ t, Cl (L t)) (hn : n ≤ 20) (hn0 : 0 < n) (hcap : n ≤ cap) (hs : s < 256) :
    Calls Try.prog 3 #[.slice A n cap, .int .u8 s] w fun e w' => e = .returned (.bool true) ∧ Below w.heap.size w w' := by
  have hn' : ¬ (20 : Int) < (n : Int) := by omega
  have hne : ((n : Int) == 0) = false := by simp; omega
  have hnz : ¬ (n : Int) = 0 := by omega
  obtain ⟨b, off, rfl, hblt, hcell⟩ := hrow hn0
  obtain ⟨i0, hi, hz0, hz1, hz2⟩ := info_parts info26
  go_enter Try.func3, Try.ntmps3
  go_wp2_with fail
  go_at_call 9
  refine (awake_any _).mono ?_
  rintro e w1 ⟨rfl, hb1⟩
  go_wp2_with fail
  go_loopw [5, 6] (fun v i wr => ∃ k : Nat, k ≤ n ∧ i = .int .i64 k ∧ wr.ownsRow w.heap.size 26 4 v k (rowsOf (turned L n s) k) ∧ Below w.heap.size w wr) (fun _ i _ => n - (intOf i).toNat)
  case atStart => exact ⟨0, Nat.zero_le _, rfl, World.ownsRow_nil _ _ _ _, hb1⟩
  case round =>
    obtain ⟨k, hk, rfl, hown, hbw⟩ := hrel
    by_cases hlt : k < n
    · have h1 : (k : Int) < (n : Int) := by omega
      have hm : (k + s) % n < n := Nat.mod_lt _ hn0
      have hmod : ((k : Int) + (s : Int)).tmod (n : Int) = (((k + s) % n : Nat) : Int) := by
        rw [Int.tmod_eq_emod_of_nonneg (by omega)]
        simp
      generalize hx : (k + s) % n = x at hm hmod
      have h2 : (x : Int) < (n : Int) := by omega
      have h3 : (0 : Int) ≤ (x : Int) := by omega
      have hc := fun j hj => (hbw.cell (p := ⟨b, off + x * 4 + j, none⟩) hblt).trans (hcell x hm j hj)
      have l0 : wr.cell? ⟨b, off + x * 4, none⟩ = some (.int .u64 (L x 0 : Nat)) := hc 0 (by decide)
      have l1 := hc 1 (by decide)
      have l2 := hc 2 (by decide)
      have l3 := hc 3 (by decide)
      clear hc
      go_wp2_with ((at_builtin; refine wpList_append_lies _ (by rfl) _ _ 22 (by rfl) w.heap.size 26 i0 _ 4 32 Try.underlying22 hi hz0 hz1 hz2 rfl (by decide) _ k (rowsOf (turned L n s) k) (by rfl) (hown.alloc _) ⟨wr.heap.size, 0, none⟩ 1 1 (four (L x)) (by rfl) rfl ?c1 ?c2 (by decide) ?c3 ?c4 ?c5 _ rfl ?_))
      case c1 => exact World.news_of_block (heap_alloc_new wr _)
      case c2 => exact one_four _
      case c3 => unfold maxLen; omega
      case c4 => omega
      case c5 => have := hbw.size; simp; omega
      intro g cap' w2 hown2 hgrow _ _
      have hown3 := own_next hx hlt hown2
      have hbw2 : Below w.heap.size w w2 := (hbw.alloc hbw.size _).grown hgrow (by have := hbw.size; simp; omega) (fun k hk => (hown.lt k hk).1)
      clear hown2 hgrow hown hbw l0 l1 l2 l3
      go_wp2_with fail
      go_roundw
      case rel => exact ⟨k + 1, by omega, by go_num, hown3, hbw2⟩
      case measure => simp [intOf]; omega
    · have hk : k = n := by omega
      subst hk
      have hnot := Cl_not (hL 0)
      go_upto_region 8 with fail
      refine reg8 (L 0) b off k cap _ _ _ _ _ _ _ _ _ _ _ _ _ _ _ _ _ _ _ _ _ _ _ _ _ _ _ _ _ _ _ _ _ _ _ _ _ _ _ _ _ _ _ _ _ _ _ _ _ _ _ _ _ _ _ _ _ _ _ _ _ _ _ _ _ _ _ _ _ _ _ _ _ _ _ _ _ w wr (hL 0) (fun i h4 => (by have := hcell 0 (by omega) i h4; rw [Nat.zero_mul, Nat.add_zero] at this; exact this)) hblt hown hbw (by omega) (by omega) _ ?_
      intro _ _ _ _ _ _ _ _ _ _ g cp w3 hown3 hb3
      obtain ⟨hrow3, hcp⟩ := own_row (own_all hown3)
      have hr3 := hrow.below hb3
      clear hown3 hown hbw
      go_wp2_with fail
      go_at_call 11
      refine (parts_any _ k cap L _ hr3 hL (by omega) hcap).mono ?_
      rintro e w4 ⟨g1, rfl, hg1, hP1, hb4⟩
      go_wp2_with fail
      go_at_call 11
      refine (parts_any _ (k + 2) cp (turned L k s) _ (hrow3.below hb4) (fun t => Cl_turned hL k s t hnot) (by omega) hcp).mono ?_
      rintro e w5 ⟨g2, rfl, hg2, hP2, hb5⟩
      rw [news_turned s hn0] at hP2
      rw [news_turned s hn0]
      have hQ2 := hP2.alike (fun q => (part_turned (L := L) s hn0 q).symm)
      have hQ1 := hP1.below' hb5
      have hb0 : Below w.heap.size w w5 := (hb3.trans (hb4.mono hb3.size)).trans (hb5.mono (Nat.le_trans hb3.size hb4.size))
      clear hP1 hP2 hb4 hb5 hr3 hrow3 hb3
      generalize rel zeros L k = r at *
      have hMle := news_le (r := r) 256
      generalize news r 256 = M at *
      go_wp2_with fail
      go_loopw [9] (fun i wr => ∃ q : Nat, q ≤ M ∧ i = .int .i64 q ∧ PartsAt wr g1 M (partOf r) ∧ PartsAt wr g2 M (partOf r) ∧ Below w.heap.size w wr) (fun i _ => M - (intOf i).toNat)
      case atStart => exact ⟨0, Nat.zero_le _, rfl, hQ1, hQ2, hb0⟩
      case round =>
        clear hQ1 hQ2 hb0
        obtain ⟨q, hq, rfl, hQ1, hQ2, hbr⟩ := hrel
        by_cases hqM : q < M
        · have h1 : (q : Int) < (M : Int) := by omega
          have h0 : (0 : Int) ≤ (q : Int) := by omega
          have heq := equal_same (A := partOf r q) (B := partOf r q) ⟨rfl, rfl, rfl, rfl⟩
          have p0 : wr.cell? ⟨g1, q * 4, none⟩ = some (.int .u64 (partOf r q 0 : Nat)) := hQ1 q hqM 0 (by decide)
          have p1 := hQ1 q hqM 1 (by decide)
          have p2 := hQ1 q hqM 2 (by decide)
          have p3 := hQ1 q hqM 3 (by decide)
          have s0 : wr.cell? ⟨g2, q * 4, none⟩ = some (.int .u64 (partOf r q 0 : Nat)) := hQ2 q hqM 0 (by decide)
          have s1 := hQ2 q hqM 1 (by decide)
          have s2 := hQ2 q hqM 2 (by decide)
          have s3 := hQ2 q hqM 3 (by decide)
          go_wp2_with fail
          go_region
          all_goals
            go_wp2_with fail
            go_roundw
            case rel => exact ⟨q + 1, by omega, by go_num, hQ1.below' (below_drewN (Below.refl _ _) 1), hQ2.below' (below_drewN (Below.refl _ _) 1), below_drewN hbr 1⟩
            case measure => simp [intOf]; omega
        · have hqe : q = M := by omega
          subst hqe
          go_wp2_with fail
          go_ret
          exact ⟨rfl, hbr⟩

end Go.Proofs.Ytbppofhjlgfbiaa
