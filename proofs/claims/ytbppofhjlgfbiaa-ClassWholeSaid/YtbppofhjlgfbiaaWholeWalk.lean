/- The walk of the statement ClassWhole: called with a list of classes it returns true and changes nothing that was there.
   Conditions: classes are four words below 2^64 ('Cl'), in a row of memory as they are read. -/
import Derived.Test.YtbppofhjlgfbiaaLawsWalk
import Derived.Test.YtbppofhjlgfbiaaPartFacts
import Derived.Test.YtbppofhjlgfbiaaWholeAnd
import Derived.Deep.DeepCutAuto
namespace Go.Proofs.Ytbppofhjlgfbiaa
open Go.RowKit
attribute [local go_sem ↓] Go.wp_at_zero Go.wp_at_succ

set_option maxHeartbeats 4000000 in
set_option maxRecDepth 100000 in
theorem whole_long (A : Option Addr) (n cap : Nat) (w : World) (hn : 40 < n) :
    Calls Try.prog 7 #[.slice A n cap] w fun e w' => e = .returned (.bool true) ∧ Below w.heap.size w w' := by
  have hn' : (40 : Int) < (n : Int) := by omega
  go_enter Try.func7, Try.ntmps7
  go_wp2_with fail
  go_at_call 9
  refine (awake_any _).mono ?_
  rintro e w1 ⟨rfl, hb1⟩
  go_wp2_with fail
  go_at_call 9
  refine (awake_any _).mono ?_
  rintro e w2 ⟨rfl, hb2⟩
  go_wp2_with fail
  go_ret
  exact ⟨rfl, hb1.trans (hb2.mono hb1.size)⟩

/-- What lies in memory at the head of a round: the parts, what has been put together of them, the classes. -/
def WH (r : Nat → Nat → Bool) (A : Option Addr) (n : Nat) (L : Nat → Nat → Nat) (w : World) (g b4 i : Nat) (wr : World) : Prop :=
  PartsAt wr g (news r 256) (partOf r) ∧ Cells wr b4 (sumOf r i) ∧ Free wr b4 ∧ ClassRow wr A n L ∧ g < b4 ∧ w.heap.size ≤ b4 ∧ w.heap.size + 2 ≤ wr.heap.size ∧ Below w.heap.size w wr
theorem PartsAt.below {w w' : World} {g M : Nat} {Cs : Nat → Nat → Nat} (h : PartsAt w g M Cs) (hb : Below w.heap.size w w') : PartsAt w' g M Cs := fun q hq j hj => keep_cell hb (h q hq j hj)
theorem WH.below {r : Nat → Nat → Bool} {A : Option Addr} {n : Nat} {L : Nat → Nat → Nat} {w wr w' : World} {g b4 i : Nat} (h : WH r A n L w g b4 i wr) (hb : Below wr.heap.size wr w') : WH r A n L w g b4 i w' := by
  obtain ⟨h1, h2, h3, h4, h5, h6, h7, h8⟩ := h
  exact ⟨h1.below hb, h2.below hb, h3.below h2.lt hb, h4.below hb, h5, h6, Nat.le_trans h7 hb.size, h8.trans (hb.mono h8.size)⟩

theorem keep_set4 {W : World} {b o b' : Nat} {v x0 x1 x2 x3 : Value} (h : W.cell? ⟨b, o, none⟩ = some v) (hne : b < b') :
    ((((W.setCell ⟨b', 0, none⟩ x0).setCell ⟨b', 1, none⟩ x1).setCell ⟨b', 2, none⟩ x2).setCell ⟨b', 3, none⟩ x3).cell? ⟨b, o, none⟩ = some v := by
  have e : ∀ j, (⟨b', j, none⟩ : Addr) ≠ ⟨b, o, none⟩ := fun j => addr_ne (.inl (by omega))
  rw [World.cell?_setCell_other (h := e 3), World.cell?_setCell_other (h := e 2), World.cell?_setCell_other (h := e 1), World.cell?_setCell_other (h := e 0)]
  exact h
theorem keep_bset4 {W w : World} {b' : Nat} {x0 x1 x2 x3 : Value} (h : Below w.heap.size w W) (hb : w.heap.size ≤ b') :
    Below w.heap.size w ((((W.setCell ⟨b', 0, none⟩ x0).setCell ⟨b', 1, none⟩ x1).setCell ⟨b', 2, none⟩ x2).setCell ⟨b', 3, none⟩ x3) :=
  (((h.setCell hb _).setCell hb _).setCell hb _).setCell hb _
theorem mkS {wr W : World} (h : Below wr.heap.size wr W) : (∀ b o, b < wr.heap.size → W.cell? ⟨b, o, none⟩ = wr.cell? ⟨b, o, none⟩) ∧ Below wr.heap.size wr W := ⟨fun b o hb => h.cell (p := ⟨b, o, none⟩) hb, h⟩
theorem cells_made (w : World) (C : Nat → Nat) : Cells (w.alloc (.cells #[.int .u64 (C 0 : Nat), .int .u64 (C 1 : Nat), .int .u64 (C 2 : Nat), .int .u64 (C 3 : Nat)] 26)) w.heap.size C := by
  intro j hj
  match j, hj with
  | 0, _ => simp
  | 1, _ => simp
  | 2, _ => simp
  | 3, _ => simp
theorem Cells.congr {w : World} {b : Nat} {C D : Nat → Nat} (h : Cells w b C) (e : same4 C D) : Cells w b D := fun j hj => by
  rw [h j hj]
  have hj4 : j = 0 ∨ j = 1 ∨ j = 2 ∨ j = 3 := by omega
  rcases hj4 with rfl | rfl | rfl | rfl
  · rw [e.1]
  · rw [e.2.1]
  · rw [e.2.2.1]
  · rw [e.2.2.2]
theorem WH.start {r : Nat → Nat → Bool} {A : Option Addr} {n : Nat} {L : Nat → Nat → Nat} {w w1 w2 : World} {g : Nat} (hr : Alike r) (hrow : ClassRow w A n L) (hb1 : Below w.heap.size w w1) (hg : w1.heap.size ≤ g) (hP : PartsAt w2 g (news r 256) (partOf r)) (hb2 : Below w1.heap.size w1 w2) :
    WH r A n L w g w2.heap.size 0 (w2.alloc (.cells #[.int .u64 0, .int .u64 0, .int .u64 0, .int .u64 0] 26)) := by
  have hb3 := below_alloc w2 (.cells #[.int .u64 0, .int .u64 0, .int .u64 0, .int .u64 0] 26)
  have hlt : g < w2.heap.size := World.block_lt_of_cell? _ _ (hP 0 (news_pos hr) 0 (by decide))
  have h1 := hb1.size
  exact ⟨hP.below hb3, (cells_zero w2).congr (sum_zero r), free_zero w2, ((hrow.below hb1).below hb2).below hb3, hlt, by omega, by simp; omega, (hb1.trans (hb2.mono h1)).alloc (by omega) _⟩
theorem PartsAt.store {w : World} {g M b : Nat} {Cs : Nat → Nat → Nat} {D : Nat → Nat} (h : PartsAt w g M Cs) (hne : b ≠ g) : PartsAt (store4 w b D) g M Cs := fun q hq j hj => by
  unfold store4
  rw [World.cell?_setCell_other (h := addr_ne (.inl hne)), World.cell?_setCell_other (h := addr_ne (.inl hne)), World.cell?_setCell_other (h := addr_ne (.inl hne)), World.cell?_setCell_other (h := addr_ne (.inl hne))]
  exact h q hq j hj
theorem ClassRow.keep {w0 w : World} {A : Option Addr} {n : Nat} {L : Nat → Nat → Nat} (h : ClassRow w0 A n L) (hb : Below w0.heap.size w0 w) : ClassRow w A n L := h.below hb
theorem WH.store {r : Nat → Nat → Bool} {A : Option Addr} {n : Nat} {L : Nat → Nat → Nat} {w wr : World} {g b4 i : Nat} (hrow : ClassRow w A n L) (h : WH r A n L w g b4 i wr) :
    WH r A n L w g b4 (i + 1) (store4 wr b4 (cOr (sumOf r i) (partOf r i))) := by
  obtain ⟨h1, h2, h3, _, h5, h6, h7, h8⟩ := h
  have hB := store4_below (C := cOr (sumOf r i) (partOf r i)) h8 h6
  exact ⟨h1.store (by omega), (store4_same h2).congr (sum_next r i), store4_free h3, hrow.below hB, h5, h6, by rw [store4_size]; exact h7, hB⟩
theorem WH.drew {r : Nat → Nat → Bool} {A : Option Addr} {n : Nat} {L : Nat → Nat → Nat} {w wr : World} {g b4 i : Nat} (h : WH r A n L w g b4 i wr) : WH r A n L w g b4 i wr.drew := h.below (below_drewN (Below.refl _ _) 1)

set_option maxHeartbeats 4000000 in
set_option maxRecDepth 100000 in
theorem whole_short (A : Option Addr) (n cap : Nat) (L : Nat → Nat → Nat) (w : World) (hrow : ClassRow w A n L) (hL : ∀ t, Cl (L t)) (hn : n ≤ 40) (hcap : n ≤ cap) :
    Calls Try.prog 7 #[.slice A n cap] w fun e w' => e = .returned (.bool true) ∧ Below w.heap.size w w' := by
  have hn' : ¬ (40 : Int) < (n : Int) := by omega
  have hal := alike_rel zeros L n
  have hM := news_le (r := rel zeros L n) 256
  go_enter Try.func7, Try.ntmps7
  go_wp2_with fail
  go_at_call 9
  refine (awake_any _).mono ?_
  rintro e w1 ⟨rfl, hb1⟩
  go_wp2_with fail
  go_at_call 11
  refine (parts_any A n cap L _ (hrow.below hb1) hL (by omega) hcap).mono ?_
  rintro e w2 ⟨g, rfl, hg, hP, hb2⟩
  have hst := WH.start hal hrow hb1 hg hP hb2
  go_wp2_with fail
  generalize w2.heap.size = b4 at hst
  generalize hr0 : rel zeros L n = r at *
  go_loopw [5, 6, 7, 8] (fun m i _ _ wr => ∃ q : Nat, q ≤ news r 256 ∧ i = .int .i64 q ∧ m = .int .i64 (cnt (sumOf r q) 256) ∧ WH r A n L w g b4 q wr) (fun _ i _ _ _ => news r 256 - (intOf i).toNat)
  case atStart => exact ⟨0, Nat.zero_le _, rfl, by rw [sum_zero_size]; rfl, hst⟩
  case round =>
    clear hst
    obtain ⟨q, hq, rfl, rfl, hws⟩ := hrel
    by_cases hlt : q < news r 256
    · have h1 : (q : Int) < (news r 256 : Int) := by omega
      have h0 : (0 : Int) ≤ (q : Int) := by omega
      have hE1 := part_some hal hlt
      have hE2 := sum_apart r q
      go_upto_region 9 with fail
      go_cut [39] (fun s wx => s = .bool false ∧ WH r A n L w g b4 q wx)
      case first =>
        have hp := hws.1 q hlt
        have p0 : wr.cell? ⟨g, q * 4, none⟩ = some (.int .u64 (partOf r q 0 : Nat)) := hp 0 (by decide)
        have p1 := hp 1 (by decide)
        have p2 := hp 2 (by decide)
        have p3 := hp 3 (by decide)
        obtain ⟨c0, c1, c2, c3⟩ := hws.2.1.four
        have hst : Below wr.heap.size wr wr.drew := below_drewN (Below.refl _ _) 1
        clear hp
        go_region_held3 (fun w' => w'.cell? ⟨g, q * 4, none⟩ = some (.int .u64 (partOf r q 0 : Nat)) ∧ w'.cell? ⟨g, q * 4 + 1, none⟩ = some (.int .u64 (partOf r q 1 : Nat)) ∧ w'.cell? ⟨g, q * 4 + 2, none⟩ = some (.int .u64 (partOf r q 2 : Nat)) ∧ w'.cell? ⟨g, q * 4 + 3, none⟩ = some (.int .u64 (partOf r q 3 : Nat)) ∧ w'.cell? ⟨b4, 0, none⟩ = some (.int .u64 (sumOf r q 0 : Nat)) ∧ w'.cell? ⟨b4, 1, none⟩ = some (.int .u64 (sumOf r q 1 : Nat)) ∧ w'.cell? ⟨b4, 2, none⟩ = some (.int .u64 (sumOf r q 2 : Nat)) ∧ w'.cell? ⟨b4, 3, none⟩ = some (.int .u64 (sumOf r q 3 : Nat)) ∧ Below wr.heap.size wr w')
          (first
            | go_keep
            | (go_split_ands; refine ⟨?_, ?_, ?_, ?_, ?_, ?_, ?_, ?_, ?_⟩ <;> first | go_keep | exact hst)
            | (go_split_ands; refine ⟨?_, ?_, ?_, ?_, ?_, ?_, ?_, ?_, ?_⟩ <;> first | exact keep_cell hb (by assumption) | exact keep_below hb (by assumption)))
          (first
            | (go_at_call 18; ((with_reducible refine (empty_any (partOf r q) _).mono ?_); rintro e w' ⟨rfl, hb⟩))
            | (go_at_call 12; ((with_reducible refine (and_any (sumOf r q) (partOf r q) _ (Cl_sum r q) (Cl_part r q)).mono ?_); rintro e w' ⟨rfl, hb⟩))
            | (go_at_call 18; ((with_reducible refine (empty_any (cAnd (sumOf r q) (partOf r q)) _).mono ?_); rintro e w' ⟨rfl, hb⟩)))
        all_goals
          go_wp2_with fail
          go_split_ands
          go_meet
          exact ⟨rfl, hws.below (by first | assumption | exact keep_below hb (by assumption))⟩
      case rest =>
        obtain ⟨rfl, hw2⟩ := hcut
        have hcl1 := cnt_le (sumOf r q) 256
        have hcl2 := cnt_le (partOf r q) 256
        go_upto_region 11 with fail
        go_cut [5] (fun s wx => s = .int .i64 (cnt (sumOf r q) 256) ∧ WH r A n L w g b4 (q + 1) wx)
        case first =>
          have hp := hw2.1 q hlt
          have p0 : wc.cell? ⟨g, q * 4, none⟩ = some (.int .u64 (partOf r q 0 : Nat)) := hp 0 (by decide)
          have p1 := hp 1 (by decide)
          have p2 := hp 2 (by decide)
          have p3 := hp 3 (by decide)
          obtain ⟨c0, c1, c2, c3⟩ := hw2.2.1.four
          clear hp
          go_region_with (go_at_call 13; ((with_reducible refine (or_any (sumOf r q) (partOf r q) _ (Cl_sum r q) (Cl_part r q)).mono ?_); rintro e w4 ⟨rfl, hb⟩; have hh := hw2.drew.below hb; obtain ⟨d0, d1, d2, d3⟩ := hh.2.1.four; have f0 := hh.2.2.1 0 (by decide); have f1 := hh.2.2.1 1 (by decide); have f2 := hh.2.2.1 2 (by decide); have f3 := hh.2.2.1 3 (by decide)))
          all_goals
            go_wp2_with fail
            go_meet
            exact ⟨rfl, hh.store hrow⟩
        case rest =>
          obtain ⟨rfl, hw3⟩ := hcut
          have hp := hw3.1 q hlt
          have p0 : wc.cell? ⟨g, q * 4, none⟩ = some (.int .u64 (partOf r q 0 : Nat)) := hp 0 (by decide)
          have p1 := hp 1 (by decide)
          have p2 := hp 2 (by decide)
          have p3 := hp 3 (by decide)
          clear hp hw2 hws hE1 hE2
          go_wp2_with fail
          go_at_call 17
          refine (size_any (partOf r q) _ (Cl_part r q)).mono ?_
          rintro e w5 ⟨rfl, hb5⟩
          have hw5 := hw3.below hb5
          clear hw3 p0 p1 p2 p3
          go_wp2_with fail
          go_loopw [7, 8] (fun k _ wr => ∃ j : Nat, j ≤ n ∧ k = .int .i64 j ∧ WH r A n L w g b4 (q + 1) wr) (fun k _ _ => n - (intOf k).toNat)
          case atStart => exact ⟨0, Nat.zero_le _, rfl, hw5⟩
          case round =>
            clear hw5
            obtain ⟨j, hj, rfl, hwr⟩ := hrel
            by_cases hjn : j < n
            · have hj1 : (j : Int) < (n : Int) := by omega
              have hj0 : (0 : Int) ≤ (j : Int) := by omega
              obtain ⟨b, off, hAe, hblt, hcell⟩ := hwr.2.2.2.1 (by omega)
              subst hAe
              go_upto_region 16 with fail
              go_cut [8] (fun s wx => ∃ bx, s = .pointer (some ⟨bx, 0, none⟩) ∧ Cells wx bx (cAnd (L j) (partOf r q)) ∧ WH r (some ⟨b, off, none⟩) n L w g b4 (q + 1) wx)
              case first =>
                refine reg16 (L j) (partOf r q) b off n cap g q (news r 256) j _ _ _ _ _ _ _ _ _ _ _ _ _ _ _ _ _ _ _ _ _ _ _ _ _ _ _ _ _ _ _ _ _ _ _ _ _ _ _ _ _ _ _ _ _ _ _ _ _ _ _ _ _ _ _ _ _ _ _ _ _ _ _ _ _ _ _ _ _ _ _ _ _ _ _ _ _ _ _ _ _ _ _ _ (hL j) (Cl_part r q) (hcell j hjn) (hwr.1 q hlt) hjn hlt _ ?_
                intro _ _ _ _ _ _ _ _ _ bx w9 hb9 hcx9
                go_wp2_with fail
                go_meet
                exact ⟨_, rfl, hcx9, hwr.below hb9⟩
              case rest =>
                obtain ⟨bx, rfl, hcx, hw7⟩ := hcut
                go_upto_region 17 with fail
                go_cut [78] (fun s wx => s = .bool false ∧ WH r (some ⟨b, off, none⟩) n L w g b4 (q + 1) wx)
                case first =>
                  have hcw := class_whole (L := L) (n := n) (q := q) hjn
                  rw [hr0] at hcw
                  obtain ⟨x0, x1, x2, x3⟩ := hcx.four
                  cases he : emp (cAnd (L j) (partOf r q)) with
                  | true =>
                    clear hcw
                    refine reg17T (cAnd (L j) (partOf r q)) (partOf r q) g q (news r 256) bx _ _ _ _ _ _ _ _ _ _ _ _ _ _ _ _ _ _ _ _ _ _ _ _ _ _ _ _ _ _ _ _ _ _ _ _ _ _ _ _ _ _ _ _ _ _ _ _ _ _ _ _ _ _ _ _ _ _ _ _ _ _ _ _ _ _ _ _ _ _ _ _ _ _ _ _ _ _ _ _ _ _ _ _ _ he hcx (hw7.1 q hlt) hlt _ ?_
                    intro _ _ _ _ _ _ _ _ _ _ w9 hb9
                    go_wp2_with fail
                    go_meet
                    exact ⟨rfl, hw7.below hb9⟩
                  | false =>
                    have hs4 : same4 (cAnd (L j) (partOf r q)) (partOf r q) := by
                      rcases hcw with h | h
                      · rw [he] at h; cases h
                      · exact h
                    clear hcw
                    refine reg17F (cAnd (L j) (partOf r q)) (partOf r q) g q (news r 256) bx _ _ _ _ _ _ _ _ _ _ _ _ _ _ _ _ _ _ _ _ _ _ _ _ _ _ _ _ _ _ _ _ _ _ _ _ _ _ _ _ _ _ _ _ _ _ _ _ _ _ _ _ _ _ _ _ _ _ _ _ _ _ _ _ _ _ _ _ _ _ _ _ _ _ _ _ _ _ _ _ _ _ _ _ _ he hs4 hcx (hw7.1 q hlt) hlt _ ?_
                    intro _ _ _ _ _ _ _ _ _ _ w9 hb9
                    go_wp2_with fail
                    go_meet
                    exact ⟨rfl, hw7.below hb9⟩
                case rest =>
                  obtain ⟨rfl, hw8⟩ := hcut
                  go_wp2_with fail
                  go_roundw
                  case rel => exact ⟨j + 1, by omega, by go_num, hw8⟩
                  case measure => simp [intOf]; omega
            · have hjne : j = n := by omega
              subst hjne
              go_wp2_with fail
              go_roundw
              case rel => exact ⟨q + 1, by omega, by go_num, by rw [← sum_size]; go_num, hwr⟩
              case measure => simp [intOf]; omega
    · have hqe : q = news r 256 := by omega
      subst hqe
      obtain ⟨hc, he⟩ := sum_all hal
      rw [hc]
      obtain ⟨d0, d1, d2, d3⟩ := hws.2.1.four
      go_wp2_with fail
      go_at_call 10
      refine (not_any (sumOf r (news r 256)) _ (Cl_sum r _)).mono ?_
      rintro e w8 ⟨rfl, hb8⟩
      go_wp2_with fail
      go_at_call 18
      refine (empty_any (cNot (sumOf r (news r 256))) _).mono ?_
      rintro e w9 ⟨rfl, hb9⟩
      rw [he]
      go_wp2_with fail
      go_ret
      exact ⟨rfl, ((hws.below hb8).below hb9).2.2.2.2.2.2.2⟩

end Go.Proofs.Ytbppofhjlgfbiaa
