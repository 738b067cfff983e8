/- Of every tree and two numbers the statement PlaceNested returns true, and they read afterwards as before.
   No condition. -/
import Derived.Test.YtinlbckdgdojkaaMPof
import Derived.Test.YtinlbckdgdojkaaMPi
import Derived.Test.YtinlbckdgdojkaaPNReg
import Derived.Deep.DeepCutAuto
import Derived.Deep.RegionHeld3
import Derived.ProofKit
import Derived.OpenShut
import Derived.ChangeOld
import Derived.Below

/- The walk of the statement PlaceNested: called with a tree and two numbers it returns true and changes nothing that was there.
   Conditions: the tree lies in memory, the numbers are of their type. -/
namespace Go.Proofs.Ytinlbckdgdojkaa
open Go.RowKit Go.Shelf
attribute [local go_sem] nodeAgg

/-- Ahead of a round of the innermost loop. -/
def NestK (w : World) (nb bo n : Nat) (x : Value) (wr : World) : Prop := ∃ k : Nat, x = .int .i64 k ∧ n = nb - k ∧ bo ≤ k ∧ k ≤ nb ∧ Below w.heap.size w wr
/-- Ahead of a round of the second loop. -/
def NestM (w : World) (na n : Nat) (x : Value) (wr : World) : Prop := ∃ i : Nat, x = .int .i64 i ∧ n = na - i ∧ i ≤ na ∧ Below w.heap.size w wr
/-- Ahead of a round of the first loop. -/
def NestL (w : World) (na nb n : Nat) (x : Value) (wr : World) : Prop := ∃ i : Nat, x = .int .i64 i ∧ n = na - i ∧ i ≤ na ∧ i ≤ nb ∧ Below w.heap.size w wr
set_option maxHeartbeats 8000000 in
set_option maxRecDepth 100000 in
theorem nested5_walk (a : V) (x0 x1 : Nat) (hx0 : x0 < 256) (hx1 : x1 < 256) (w : World) (R : Nat → Prop) (ha : Laid w R a) :
    Calls Try.prog 6 #[nodeAgg a, .agg #[.int .u8 (x0 : Int), .int .u8 (x1 : Int)]] w fun e w' => e = .returned (.bool true) ∧ Below w.heap.size w w' := by
  obtain ⟨sa, sc, hv0, _⟩ := laid_row' ha
  obtain ⟨sn, hsn⟩ : ∃ sn, sn = a.ps.length := ⟨_, rfl⟩
  rw [← hsn] at hv0
  obtain ⟨w1, hw1, hbw1, hlt1, hbx⟩ := box_new w a (.slice sa sn sc)
  obtain ⟨w2, hw2⟩ : ∃ w2, w1.alloc (.cells #[.int .u8 (x0 : Int), .int .u8 (x1 : Int)] 47) = w2 := ⟨_, rfl⟩
  have hb12 : Below w1.heap.size w1 w2 := hw2 ▸ (Below.refl _ w1).alloc (Nat.le_refl _) _
  have hat : w2.heap[w1.heap.size]? = some (.cells #[.int .u8 (x0 : Int), .int .u8 (x1 : Int)] 47 (0, 0)) := hw2 ▸ heap_alloc_new w1 _
  have hw1s : w1.heap.size = w.heap.size + 1 := by rw [← hw1]; simp
  rw [hw1s] at hat
  have HSa := Lib.hid (fun (W : World) (h : Below w.heap.size w W) => by
    have := size_any 150 (by omega) a W R (laid_low ha h)
    rw [nodeAgg_v hv0] at this
    exact this)
  have HOb := Lib.hid (fun (W : World) (h : Below w.heap.size w W) (hz : szT (erase a) ≤ 300000) (hok : okT (erase a) = false) => by
    have := of_bad a W R (laid_low ha h) hz hok
    rw [nodeAgg_v hv0] at this
    exact this)
  have HOg := Lib.hid (fun (W : World) (h : Below w.heap.size w W) (hz : szT (erase a) ≤ 300000) (hok : okT (erase a) = true) => by
    have := of_good a W R (laid_low ha h) hz hok
    rw [nodeAgg_v hv0] at this
    exact this)
  have HBX := Lib.hid (fun (W : World) (h : Below w2.heap.size w2 W) => hbx W (bhop hb12 h))
  have HAT := Lib.hid (fun (W : World) (h : Below w2.heap.size w2 W) => (h.block _ (Array.getElem?_eq_some_iff.1 hat).1).trans hat)
  have HBW := Lib.hid (show Below w.heap.size w w2 from bhop hbw1 hb12)
  rw [nodeAgg_v hv0]
  clear hbx ha hv0 hsn hlt1 hb12 hat hbw1 hw1s
  subst hw1
  go_enter Try.func6, Try.ntmps6
  go_upto_region 1 with fail
  clear hw2
  go_wp2_with fail
  go_at_call 14
  refine (awake5_any _).mono ?_
  rintro e w3 ⟨rfl, hb3⟩
  obtain ⟨q0, q1, q2, q3, q4, q5, q6, q7⟩ := HBX.out w3 hb3
  have HB3 := Lib.hid hb3
  clear hb3
  go_wp2_with fail
  go_at_call 9
  refine (HSa.out _ (bhop HBW.out HB3.out)).mono ?_
  rintro e w4 ⟨rfl, hb4⟩
  have HB4 := Lib.hid (bhop HB3.out hb4)
  clear hb4 q0 q1 q2 q3 q4 q5 q6 q7
  obtain ⟨q0, q1, q2, q3, q4, q5, q6, q7⟩ := HBX.out w4 HB4.out
  by_cases hA : szT (erase a) ≤ 150
  · have hA2 : min (szT (erase a)) (150 + 1) = szT (erase a) := by omega
    rw [hA2]
    have g1 : ¬ (150 : Int) < ((szT (erase a) : Nat) : Int) := by omega
    have HA := Lib.hid hA
    clear hA hA2
    cases hok : okT (erase a) with
    | false =>
      have HF := Lib.hid (HOb.out w4 (bhop HBW.out HB4.out) (by have := HA.out; omega) hok)
      clear hok
      go_wp2_with fail
      go_at_call 15
      refine HF.out.mono ?_
      rintro e w5 ⟨rfl, hb5⟩
      have HB5 := Lib.hid (bhop HB4.out hb5)
      go_wp2_with fail
      go_ret
      exact ⟨rfl, (bhop HBW.out HB5.out).alloc (bhop HBW.out HB5.out).size _⟩
    | true =>
      have HF := Lib.hid (HOg.out w4 (bhop HBW.out HB4.out) (by have := HA.out; omega) hok)
      clear hok
      go_wp2_with fail
      go_at_call 15
      refine HF.out.mono ?_
      rintro e w5 ⟨hE, hb5⟩
      have HB5 := Lib.hid (bhop HB4.out hb5)
      clear hb5
      rcases hE with ⟨m, r, ta, tn, tc, sA, sN, sC, cA, cN, cC, aA, aN, aC, hR, hrv, rfl⟩ | ⟨hm, rfl⟩
      · obtain ⟨w6, hw6⟩ : ∃ w6, w5.alloc (.cells #[.int .i64 r.kind, .int .u64 (r.set 0 : Nat), .int .u64 (r.set 1 : Nat), .int .u64 (r.set 2 : Nat), .int .u64 (r.set 3 : Nat), .slice ta tn tc, .int .i64 r.lo, .int .i64 r.hi, .slice sA sN sC, .slice cA cN cC, .slice aA aN aC] 40) = w6 := ⟨_, rfl⟩
        have hb56 : Below w5.heap.size w5 w6 := hw6 ▸ (Below.refl _ w5).alloc (Nat.le_refl _) _
        have hmp := (row_cells (hw6 ▸ heap_alloc_new w5 _ : w6.heap[w5.heap.size]? = some (.cells #[.int .i64 r.kind, .int .u64 (r.set 0 : Nat), .int .u64 (r.set 1 : Nat), .int .u64 (r.set 2 : Nat), .int .u64 (r.set 3 : Nat), .slice ta tn tc, .int .i64 r.lo, .int .i64 r.hi, .slice sA sN sC, .slice cA cN cC, .slice aA aN aC] 40 (0, 0)))).1
        have c8 := hmp 8; have c9 := hmp 9; have c10 := hmp 10
        have hmbl : w5.heap.size < w6.heap.size := by rw [← hw6]; simp
        have hL := hR.lists.keep (Chg.of_below (R := fun _ => False) hb56) fun _ _ q => q.elim
        have es := own_n hL.sets
        have ec := own_n hL.scs
        obtain ⟨vs, hvs, hvr⟩ := hL.ars
        have ea := own_n hvs
        have h1 := hR.ars
        have h2 := hR.one
        have h3 := hR.sets
        have h4 := hR.scs
        obtain ⟨Ps, hP⟩ := nest_map hR.some
        have hsa : sN = aN := by omega
        subst hsa
        have HB6 := Lib.hid (show Below w.heap.size w w6 from bhop (bhop HBW.out HB5.out) hb56)
        have HAT6 := Lib.hid (HAT.out w6 (bhop HB5.out hb56))
        have HQ := Lib.hid (And.intro hL (And.intro hvs (And.intro hvr (And.intro hP (And.intro es (And.intro ec (And.intro ea h4)))))))
        have hs1 : 1 ≤ sN := by omega
        have hs2 : sN ≤ 41 := by omega
        have hcN : cN ≤ 700000 := by omega
        clear hb56 hmp hL es ec hvs hvr ea h1 h2 h3 h4 hP hR hrv q0 q1 q2 q3 q4 q5 q6 q7
        go_upto_region 4 with fail
        clear hw6
        by_cases g2 : sN < 2
        · have g3 : (sN : Int) < 2 := by omega
          have hs : sN = 1 := by omega
          subst hs
          clear g2 g3 hs1 hs2
          go_wp2_with fail
          go_ret
          exact ⟨rfl, HB6.out⟩
        · have g3 : ¬ (sN : Int) < 2 := by omega
          obtain ⟨a0, a1⟩ := cells2 HAT6.out
          have hal : w.heap.size + 1 < w6.heap.size := (Array.getElem?_eq_some_iff.1 HAT6.out).1
          have t1 : ¬ ((sN : Int) - 1 = 0) := by omega
          have t2 : IntKind.i64.wrap ((sN : Int) - 1) = (sN : Int) - 1 := by rw [IntKind.wrap_i64]; omega
          obtain ⟨r0, hr0⟩ : ∃ r0, r0 = x0 % (sN - 1) := ⟨_, rfl⟩
          obtain ⟨r1, hr1⟩ : ∃ r1, r1 = x1 % (sN - 1) := ⟨_, rfl⟩
          have hr0' : r0 < sN - 1 := by rw [hr0]; exact Nat.mod_lt _ (by omega)
          have hr1' : r1 < sN - 1 := by rw [hr1]; exact Nat.mod_lt _ (by omega)
          have t3 : (x0 : Int).tmod ((sN : Int) - 1) = (r0 : Int) := by rw [hr0, show ((sN : Int) - 1) = ((sN - 1 : Nat) : Int) by omega]; rfl
          have t4 : (x1 : Int).tmod ((sN : Int) - 1) = (r1 : Int) := by rw [hr1, show ((sN : Int) - 1) = ((sN - 1 : Nat) : Int) by omega]; rfl
          have t5 : IntKind.i64.wrap (r0 : Int) = (r0 : Int) := by rw [IntKind.wrap_i64]; omega
          have t6 : IntKind.i64.wrap (r1 : Int) = (r1 : Int) := by rw [IntKind.wrap_i64]; omega
          have t7 : IntKind.i64.wrap (1 + (r0 : Int)) = ((1 + r0 : Nat) : Int) := by rw [IntKind.wrap_i64]; omega
          have t8 : IntKind.i64.wrap (1 + (r1 : Int)) = ((1 + r1 : Nat) : Int) := by rw [IntKind.wrap_i64]; omega
          have t9 : IntKind.i64.wrap (x0 : Int) = (x0 : Int) := by rw [IntKind.wrap_i64]; omega
          have t10 : IntKind.i64.wrap (x1 : Int) = (x1 : Int) := by rw [IntKind.wrap_i64]; omega
          obtain ⟨la, hla⟩ : ∃ la, m.ars[1 + r0]? = some la := ⟨_, List.getElem?_eq_getElem (by have := HQ.out.2.2.2.2.2.2.1; omega)⟩
          obtain ⟨lb, hlb⟩ : ∃ lb, m.ars[1 + r1]? = some lb := ⟨_, List.getElem?_eq_getElem (by have := HQ.out.2.2.2.2.2.2.1; omega)⟩
          obtain ⟨va, hva, hra⟩ := HQ.out.2.2.1 _ _ hla
          obtain ⟨vb, hvb, hrb⟩ := HQ.out.2.2.1 _ _ hlb
          obtain ⟨vaA, vaC, hvaf⟩ := hra.form
          obtain ⟨vbA, vbC, hvbf⟩ := hrb.form
          obtain ⟨na, hna⟩ : ∃ na, na = la.length := ⟨_, rfl⟩
          obtain ⟨nb, hnb⟩ : ∃ nb, nb = lb.length := ⟨_, rfl⟩
          rw [← hna] at hvaf
          rw [← hnb] at hvbf
          subst hvaf hvbf
          have hvsn := HQ.out.2.1
          rw [← HQ.out.2.2.2.2.2.2.1] at hvsn
          obtain ⟨ga, gc, hgv, _, hgl⟩ := hvsn.form (by omega)
          simp only [Value.slice.injEq, true_and] at hgv
          obtain ⟨rfl, rfl⟩ := hgv
          have y0 : w6.cell? ⟨ga, 1 + r0, none⟩ = some (.slice vaA na vaC) := (hvsn.cellAt _ (by omega)).trans hva
          have y1 : w6.cell? ⟨ga, 1 + r1, none⟩ = some (.slice vbA nb vbC) := (hvsn.cellAt _ (by omega)).trans hvb
          have i1 : (0 : Int) ≤ 1 + (r0 : Int) := by omega
          have i2 : 1 + (r0 : Int) < (sN : Int) := by omega
          have i3 : (0 : Int) ≤ 1 + (r1 : Int) := by omega
          have i4 : 1 + (r1 : Int) < (sN : Int) := by omega
          have i5 : (1 + (r0 : Int)).toNat = 1 + r0 := by omega
          have i6 : (1 + (r1 : Int)).toNat = 1 + r1 := by omega
          have HL := Lib.hid (And.intro hra (And.intro hrb (And.intro hna (And.intro hnb (And.intro (List.mem_of_getElem? hla) (List.mem_of_getElem? hlb))))))
          have hcha := HQ.out.2.2.2.1.ars _ (List.mem_of_getElem? hla)
          have hchb := HQ.out.2.2.2.1.ars _ (List.mem_of_getElem? hlb)
          have hna7 : na ≤ 700000 := by have h1 := ch_len hcha HQ.out.2.2.2.1.inc; have h2 := HQ.out.2.2.2.1.len; have h3 := HQ.out.2.2.2.2.2.1; omega
          have hnb7 : nb ≤ 700000 := by have h1 := ch_len hchb HQ.out.2.2.2.1.inc; have h2 := HQ.out.2.2.2.1.len; have h3 := HQ.out.2.2.2.2.2.1; omega
          have HCH := Lib.hid (And.intro hcha hchb)
          clear hcha hchb hvsn hva hvb hra hrb hna hnb hla hlb hr0 hr1 hr0' hr1' g2 hs1
          go_wp2_with fail
          go_quiet (fail)
          have HB7 := Lib.hid (show Below w6.heap.size w6 (w6.drewN nq) from below_drewN (Below.refl _ _) nq)
          generalize w6.drewN nq = w7 at *
          clear nq
          go_upto_block 0 with fail
          go_cut [9] (fun o wx => ∃ bo : Nat, o = .int .i64 bo ∧ bo ≤ na ∧ bo ≤ nb ∧ (bo = na ∨ bo = nb ∨ ∃ u v, la[bo]? = some u ∧ lb[bo]? = some v ∧ u ≠ v) ∧ Below w6.heap.size w6 wx)
          case first =>
            go_wp2_with fail
            go_loopw [9] (fun x wr => ∃ n, NestL w6 na nb n x wr) (fun x wr => leastOf (fun n => NestL w6 na nb n x wr))
            case atStart => exact ⟨_, 0, rfl, rfl, by omega, by omega, HB7.out⟩
            case round =>
              have hls := (leastOf_spec hrel).1
              obtain ⟨i, rfl, hN, hi1, hi2, hb⟩ := hls
              have HN := Lib.hid hN
              clear hN hrel
              have s1 : (0 : Int) ≤ (i : Int) := by omega
              by_cases g4 : i < na
              · have s2 : (i : Int) < (na : Int) := by omega
                obtain ⟨y1', hy1⟩ : ∃ x, la[i]? = some x := ⟨_, List.getElem?_eq_getElem (by have := HL.out.2.2.1; omega)⟩
                obtain ⟨g, cap, hv, hg, hc, _⟩ := intsR_at (HL.out.1.below hb) hy1
                simp only [Value.slice.injEq] at hv
                obtain ⟨rfl, rfl⟩ := And.intro hv.1 hv.2.2
                clear hv
                by_cases g5 : i < nb
                · have s3 : (i : Int) < (nb : Int) := by omega
                  obtain ⟨y2', hy2⟩ : ∃ x, lb[i]? = some x := ⟨_, List.getElem?_eq_getElem (by have := HL.out.2.2.2.1; omega)⟩
                  obtain ⟨g', cap', hv, hg', hc', _⟩ := intsR_at (HL.out.2.1.below hb) hy2
                  simp only [Value.slice.injEq] at hv
                  obtain ⟨rfl, rfl⟩ := And.intro hv.1 hv.2.2
                  clear hv
                  have HI := Lib.hid (And.intro g4 (And.intro g5 (And.intro hb (And.intro hy1 hy2))))
                  clear hy1 hy2 hb g4 g5 hi1 hi2
                  by_cases he : (y1' : Int) = (y2' : Int)
                  · have he' : ((y1' : Int) == (y2' : Int)) = true := by simp [he]
                    clear he
                    go_wp2_with fail
                    go_quiet (fail)
                    have HP := Lib.hid (show NestL w6 na nb (na - (i + 1)) (.int .i64 ((i : Int) + 1)) (wr.drewN nq) from ⟨i + 1, by push_cast; rfl, rfl, HI.out.1, HI.out.2.1, below_drewN HI.out.2.2.1 _⟩)
                    go_wp2_with fail
                    go_roundw
                    case rel => exact ⟨_, HP.out⟩
                    case measure =>
                      rw [HN.out]
                      refine Nat.lt_of_le_of_lt ((leastOf_spec ⟨_, HP.out⟩).2 _ HP.out) ?_
                      have := HI.out.1
                      omega
                  · have he' : ((y1' : Int) == (y2' : Int)) = false := by simp [he]
                    have hne : y1' ≠ y2' := fun e => he (by rw [e])
                    go_wp2_with fail
                    go_quiet (fail)
                    go_wp2_with fail
                    go_meet
                    exact ⟨i, rfl, by have := HI.out.1; omega, by have := HI.out.2.1; omega, .inr (.inr ⟨_, _, HI.out.2.2.2.1, HI.out.2.2.2.2, hne⟩), below_drewN HI.out.2.2.1 _⟩
                · have s3 : ¬ (i : Int) < (nb : Int) := by omega
                  have HI := Lib.hid (And.intro g4 (And.intro g5 (And.intro hb (And.intro hi1 hi2))))
                  clear hb hi1 hi2 hy1
                  go_wp2_with fail
                  go_quiet (fail)
                  go_wp2_with fail
                  go_meet
                  exact ⟨i, rfl, by have := HI.out.1; omega, HI.out.2.2.2.2, .inr (.inl (by have h1 := HI.out.2.1; have h2 := HI.out.2.2.2.2; omega)), below_drewN HI.out.2.2.1 _⟩
              · have s2 : ¬ (i : Int) < (na : Int) := by omega
                have HI := Lib.hid (And.intro g4 (And.intro hb (And.intro hi1 hi2)))
                clear hb hi1 hi2
                go_wp2_with fail
                go_quiet (fail)
                go_wp2_with fail
                go_meet
                exact ⟨i, rfl, HI.out.2.2.1, HI.out.2.2.2, .inl (by have h1 := HI.out.1; have h2 := HI.out.2.2.1; omega), below_drewN HI.out.2.1 _⟩
          case rest =>
            obtain ⟨bo, rfl, hbo1, hbo2, hbo3, hbc⟩ := hcut
            have HBO := Lib.hid (And.intro hbo3 hbc)
            clear hbo3 hbc HB7
            go_wp2_with fail
            go_loopw [10] (fun x wr => ∃ n, NestM w6 na n x wr) (fun x wr => leastOf (fun n => NestM w6 na n x wr))
            case atStart => exact ⟨_, 0, rfl, rfl, by omega, HBO.out.2⟩
            case round =>
              have hls := (leastOf_spec hrel).1
              obtain ⟨i, rfl, hN, hi1, hb⟩ := hls
              have HN := Lib.hid hN
              clear hN hrel
              have s1 : (0 : Int) ≤ (i : Int) := by omega
              by_cases g4 : i < na
              · have s2 : (i : Int) < (na : Int) := by omega
                obtain ⟨z1, hz1⟩ : ∃ x, la[i]? = some x := ⟨_, List.getElem?_eq_getElem (by have := HL.out.2.2.1; omega)⟩
                obtain ⟨g, cap, hv, hg, hc, _⟩ := intsR_at (HL.out.1.below hb) hz1
                simp only [Value.slice.injEq] at hv
                obtain ⟨rfl, rfl⟩ := And.intro hv.1 hv.2.2
                clear hv
                have d9 : wr.cell? ⟨w5.heap.size, 9, none⟩ = some (.slice cA cN cC) := (hb.cell (p := ⟨w5.heap.size, 9, none⟩) hmbl).trans c9
                have hmbl2 : w5.heap.size < wr.heap.size := Nat.lt_of_lt_of_le hmbl hb.size
                have hz3 : z1 < cN := by have h1 := ch_lt HCH.out.1 hz1; have h2 := HQ.out.2.2.2.1.len; have h3 := HQ.out.2.2.2.2.2.1; omega
                have s3 : ¬ ((z1 : Int) < 0) := by omega
                have s4 : ¬ ((cN : Int) ≤ (z1 : Int)) := by omega
                have s4' : ¬ (cN ≤ z1) := by omega
                have HI := Lib.hid (And.intro hb hz1)
                have HPR := Lib.hid (fun (hp : 0 < i) => show ∃ z0, la[i - 1]? = some z0 ∧ z0 < z1 from ⟨_, List.getElem?_eq_getElem (by have := HL.out.2.2.1; omega), ch_inc HCH.out.1 HQ.out.2.2.2.1.inc hz1 (List.getElem?_eq_getElem (by have := HL.out.2.2.1; omega)) (by omega)⟩)
                clear hi1
                go_upto_region 13 with fail
                go_cut [126] (fun c wx => c = .bool false ∧ Below w6.heap.size w6 wx)
                case first =>
                  by_cases g5 : 0 < i
                  · obtain ⟨z0, hz0, hlt⟩ := HPR.out g5
                    obtain ⟨q, rfl⟩ : ∃ q, i = q + 1 := ⟨i - 1, by omega⟩
                    rw [show q + 1 - 1 = q by omega] at hz0
                    obtain ⟨g', cap', hv, hg', hc', _⟩ := intsR_at (HL.out.1.below hb) hz0
                    simp only [Value.slice.injEq, Option.some.injEq, Addr.mk.injEq] at hv
                    obtain rfl : g = g' := hv.1.1
                    have s6 : ¬ ((z1 : Int) ≤ (z0 : Int)) := by omega
                    have s6' : ¬ (z1 ≤ z0) := by omega
                    have s5 : (0 : Int) < (q : Int) + 1 := by omega
                    have s7 : IntKind.i64.wrap (q : Int) = (q : Int) := by rw [IntKind.wrap_i64]; omega
                    have s7' : IntKind.i64.wrap ((q : Int) + 1 - 1) = (q : Int) := by rw [IntKind.wrap_i64]; omega
                    have s8 : (0 : Int) ≤ (q : Int) := by omega
                    have s9 : (q : Int) < (na : Int) := by omega
                    have s9' : q < na := by omega
                    have s10 : (0 : Int) ≤ (q : Int) + 1 := by omega
                    have s11 : (q : Int) + 1 < (na : Int) := by omega
                    have s12 : q + 1 < na := g4
                    clear hv hb hz1 hz0 hlt s1 s2
                    go_wp2_with fail
                    go_quiet (fail)
                    go_wp2_with fail
                    go_meet
                    exact ⟨rfl, below_drewN HI.out.1 _⟩
                  · obtain rfl : i = 0 := by omega
                    have HS := Lib.hid (fun (W : World) (h : Below wr.heap.size wr W) => (h.cell (p := ⟨g, 0, none⟩) hg).trans hc)
                    have HD := Lib.hid (fun (W : World) (h : Below wr.heap.size wr W) => (h.cell (p := ⟨w5.heap.size, 9, none⟩) hmbl2).trans d9)
                    clear hb hz1 g5 s1 s2 hc d9
                    go_wp2_with fail
                    refine regPN g na vaC w5.heap.size cN cC z1 cA _ _ _ _ _ _ _ _ _ _ _ _ _ _ _ _ _ _ _ _ _ _ _ _ _ _ _ _ _ _ _ _ _ _ _ _ _ _ _ _ _ _ _ _ _ _ _ _ _ _ _ _ _ _ _ _ _ _ _ _ _ _ _ _ _ _ _ _ _ _ _ _ _ _ _ _ _ _ _ _ _ _ _ _ _ _ _ _ _ _ _ _ _ _ _ _ _ _ _ _ _ _ _ _ _ _ _ _ _ _ _ _ _ _ _ _ _ _ _ _ _ _ _ _ _ _ _ _ _ _ _ _ _ _ _ _ _ _ _ _ _ _ _ _ _ _ _ HS.out HD.out g4 (by omega) (by omega) _ ?_
                    intros
                    rename_i hbz
                    dsimp only
                    go_wp2_with fail
                    go_meet
                    exact ⟨rfl, HI.out.1.trans (hbz.mono HI.out.1.size)⟩
                case rest =>
                  obtain ⟨rfl, hbc⟩ := hcut
                  have HBC := Lib.hid hbc
                  have hna1 : i + 1 ≤ na := g4
                  clear hb hbc hc hg d9 hmbl2 hz1
                  go_wp2_with fail
                  go_loopw [11] (fun x wr => ∃ n, NestK w6 nb bo n x wr) (fun x wr => leastOf (fun n => NestK w6 nb bo n x wr))
                  case atStart => exact ⟨_, bo, rfl, rfl, Nat.le_refl _, hbo2, HBC.out⟩
                  case round =>
                    have hls := (leastOf_spec hrel).1
                    obtain ⟨k, rfl, hN2, hk1, hk2, hb⟩ := hls
                    have HN2 := Lib.hid hN2
                    clear hN2 hrel
                    have v1 : (0 : Int) ≤ (k : Int) := by omega
                    have HP := Lib.hid (show NestM w6 na (na - (i + 1)) (.int .i64 ((i : Int) + 1)) wr from ⟨i + 1, by push_cast; rfl, rfl, hna1, hb⟩)
                    by_cases g6 : k < nb
                    · have v2 : (k : Int) < (nb : Int) := by omega
                      by_cases g7 : bo ≤ i
                      · have v3 : (bo : Int) ≤ (i : Int) := by omega
                        obtain ⟨z2, hz2⟩ : ∃ x, lb[k]? = some x := ⟨_, List.getElem?_eq_getElem (by have := HL.out.2.2.2.1; omega)⟩
                        obtain ⟨gg, cap1, hv1, hg1, hc1, _⟩ := intsR_at (HL.out.1.below hb) HI.out.2
                        obtain ⟨g', cap', hv, hg', hc', _⟩ := intsR_at (HL.out.2.1.below hb) hz2
                        simp only [Value.slice.injEq, Option.some.injEq, Addr.mk.injEq] at hv hv1
                        obtain rfl : g = gg := hv1.1.1
                        obtain ⟨rfl, rfl⟩ := And.intro hv.1 hv.2.2
                        clear hv hv1
                        have hne : z1 ≠ z2 := ch_apart HCH.out.1 HCH.out.2 HI.out.2 hz2 g7 hk1 (by rw [← HL.out.2.2.1, ← HL.out.2.2.2.1]; exact HBO.out.1)
                        have v4 : ((z1 : Int) == (z2 : Int)) = false := by simp; omega
                        have HQ2 := Lib.hid (show NestK w6 nb bo (nb - (k + 1)) (.int .i64 ((k : Int) + 1)) wr.drew from ⟨k + 1, by push_cast; rfl, rfl, by omega, g6, hb.drew⟩)
                        have HLT := Lib.hid (show nb - (k + 1) < nb - k by omega)
                        have HB9 := Lib.hid hb
                        clear hne hz2 hb hk2
                        go_wp2_with fail
                        go_region_law (fail)
                        all_goals
                          go_wp2_with fail
                          go_roundw
                          case rel => exact ⟨_, HQ2.out⟩
                          case measure =>
                            rw [HN2.out]
                            exact Nat.lt_of_le_of_lt ((leastOf_spec ⟨_, HQ2.out⟩).2 _ HQ2.out) HLT.out
                      · have v3 : ¬ (bo : Int) ≤ (i : Int) := by omega
                        clear hb hk1 hk2
                        go_wp2_with fail
                        go_roundw
                        case rel => first | exact ⟨_, HP.out⟩ | ((repeat apply Exists.intro); exact ⟨HP.out, rfl⟩)
                        case measure =>
                          rw [HN.out]
                          refine Nat.lt_of_le_of_lt ((leastOf_spec ⟨_, HP.out⟩).2 _ HP.out) ?_
                          omega
                    · have v2 : ¬ (k : Int) < (nb : Int) := by omega
                      clear hb hk1 hk2
                      go_wp2_with fail
                      go_roundw
                      case rel => first | exact ⟨_, HP.out⟩ | ((repeat apply Exists.intro); exact ⟨HP.out, rfl⟩)
                      case measure =>
                        rw [HN.out]
                        refine Nat.lt_of_le_of_lt ((leastOf_spec ⟨_, HP.out⟩).2 _ HP.out) ?_
                        omega
              · have s2 : ¬ (i : Int) < (na : Int) := by omega
                have HI := Lib.hid hb
                clear hb hi1
                go_wp2_with fail
                go_ret
                exact ⟨rfl, bhop HB6.out HI.out⟩
      · clear hm
        go_wp2_with fail
        go_ret
        exact ⟨rfl, (bhop HBW.out HB5.out).alloc (bhop HBW.out HB5.out).size _⟩
  · have hA2 : min (szT (erase a)) (150 + 1) = 151 := by omega
    rw [hA2]
    clear hA hA2
    go_wp2_with fail
    go_at_call 14
    refine (awake5_any _).mono ?_
    rintro e w5 ⟨rfl, hb5⟩
    have HB5 := Lib.hid (bhop HB4.out hb5)
    go_wp2_with fail
    go_ret
    exact ⟨rfl, bhop HBW.out HB5.out⟩

end Go.Proofs.Ytinlbckdgdojkaa

/- Of every tree and two numbers the statement PlaceNested returns true, and they read afterwards as before.
   No condition. -/
namespace Go.Proofs.Ytinlbckdgdojkaa
open Go.ChangeShapes Go.WideShapes Go.ChangeAt Go.RowKit

theorem pnOwn : ownKnob Try.prog.godebug = none := by kernel_rfl
theorem pnLaidOut : laidOutB Try.prog = true := by kernel_rfl
theorem pnAgg (t : V) : nodeAgg t = .agg (ndc t).toArray := rfl

theorem cells2at : Try.prog.cellsOf 47 = 2 := by kernel_rfl
theorem cellsU8 : Try.prog.cellsOf 5 = 1 := by kernel_rfl
theorem list2 {α : Type} (l : List α) (h : l.length = 2) : ∃ a b, l = [a, b] := by
  match l, h with
  | [a, b], _ => exact ⟨a, b, rfl⟩
set_option maxRecDepth 100000 in
theorem open_pair {H : Type} {enc : TypeId × Value → H} {w : World} {base b0 : Nat} {spare : Nat → Bool} {held : Bool} {r : Reach} {v : Value} {d : DataW H} {p : List MemPlace} (hv : Value.okWide Try.prog w r b0 47 v) (h : DataW.Trod enc Try.prog w base spare held 47 v d p) :
    ∃ x0 x1 : Nat, v = .agg #[.int .u8 (x0 : Int), .int .u8 (x1 : Int)] ∧ x0 < 256 ∧ x1 < 256 := by
  obtain ⟨cs, rfl, hsz, _⟩ : ∃ cs, v = .agg cs ∧ cs.size = Try.prog.cellsOf 47 ∧ Row.okWide Try.prog w r b0 47 cs := by
    simpa [Value.okWide, Try.underlying47] using hv
  rw [cells2at] at hsz
  obtain ⟨l⟩ := cs
  obtain ⟨c0, c1, rfl⟩ := list2 l hsz
  obtain ⟨fuel, hf⟩ := h
  obtain ⟨xs, m, _, _, _, hlen, hall⟩ := DataW.trod_array Try.underlying47 hf
  obtain ⟨y0, y1, rfl⟩ := list2 xs hlen
  have h0 := hall 0 (by omega)
  have h1 := hall 1 (by omega)
  rw [cellsU8] at h0 h1
  obtain ⟨x0, e0, _, w0⟩ := DataW.trod_int Try.underlying5 h0
  obtain ⟨x1, e1, _, w1⟩ := DataW.trod_int Try.underlying5 h1
  simp [Value.cells] at e0 e1
  subst e0 e1
  have k0 := bounds_u8 w0
  have k1 := bounds_u8 w1
  refine ⟨x0.toNat, x1.toNat, ?_, by omega, by omega⟩
  rw [Int.toNat_of_nonneg k0.1, Int.toNat_of_nonneg k1.1]

set_option maxRecDepth 100000 in
theorem placeNested_lifted (os : Os) (started : os.Started) (H : Type) (enc : TypeId × Value → H) :
    ReturnsInHanded {} Try.checked os 6 .any (Rows.placeNestedSpec.pre6 enc Try.prog Try.f6 Rows.placeNestedRow.domain false) (Rows.placeNestedSpec.post enc Try.prog Try.f6 false true false false) := by
  refine returnsInHanded_of_change (C := Try.checked) pnOwn started (by kernel_rfl) Try.func6
    (ChangeSpec.witness6 (enc := enc) (C := Try.checked) false ⟨#[], #[.agg #[.int .i64 0, .int .u64 0, .int .u64 0, .int .u64 0, .int .u64 0, .slice none 0 0, .int .i64 0, .int .i64 0], .agg #[.int .u8 0, .int .u8 0]], []⟩ 8 (by kernel_rfl) (by kernel_rfl) (by kernel_rfl) (by kernel_rfl)) ?_
  intro W base args ds gs before hval0 hW hcnd _
  have hval : ∀ (j : Nat) t v, Try.f6.params[j]? = some t → args[j]? = some v → Value.okWide Try.prog W .any base t v := hval0
  have hW' := hW
  obtain ⟨p, q, hA0, hV, rfl, hfz, hnd⟩ := hW
  have hA : DataW.TrodAll enc Try.prog W 0 (fun _ => true) true Try.f6.params.toList args.toList ds p := hA0
  rw [Try.params6] at hA hval
  obtain ⟨v0, vs0, d0, ds0, p0, q0, hargs, rfl, rfl, h0, r0⟩ := trodAll_cons hA
  obtain ⟨v1, vs1, d1, ds1, p1, q1, rfl, rfl, rfl, h1, r1⟩ := trodAll_cons r0
  obtain ⟨rfl, rfl, rfl⟩ := trodAll_nil r1
  obtain rfl : args = #[v0, v1] := by cases args; simp_all
  obtain ⟨rfl, rfl⟩ := trodVars_none hV
  have k0 := h0
  have lt0 : ∀ x ∈ p0, x.block < W.heap.size := by obtain ⟨m, hm⟩ := k0; exact DataW.trod_lt m _ _ _ hm
  have k1 := h1
  have lt1 : ∀ x ∈ p1, x.block < W.heap.size := by obtain ⟨m, hm⟩ := k1; exact DataW.trod_lt m _ _ _ hm
  obtain ⟨x0, x1, rfl, hx0, hx1⟩ := open_pair (hval 1 47 v1 rfl rfl) h1
  obtain ⟨t0, rfl, l0, _⟩ := open_tree (hval 0 27 v0 rfl rfl) h0
  clear hA0 hval0
  rw [← pnAgg] at *
  refine (nested5_walk t0 x0 x1 hx0 hx1 W _ l0).mono fun e W' ⟨he, bel⟩ => ?_
  subst he
  exact ⟨_, rfl, _, _, _, [], _, [], hW', trodAll_mk1 (shut_bool Try.underlying4 _), (trodAll_cons_mk (Below.trod pnLaidOut (by kernel_rfl) (of_decide_eq_true (by kernel_rfl)) k0 bel lt0) (trodAll_cons_mk (Below.trod pnLaidOut (by kernel_rfl) (of_decide_eq_true (by kernel_rfl)) k1 bel lt1) trodAll_mk0)), rfl, bel.frame _, fun h => by cases h⟩

theorem placeNested_holds : Rows.PlaceNestedSaid :=
  OpenClaim.holds_of_wide 6 Try.f6 rfl rfl rfl rfl rfl rfl rfl ⟨rfl, rfl, rfl, rfl, rfl⟩ rfl rfl rfl rfl rfl (by kernel_rfl) Try.func6 (by kernel_rfl)
    (of_decide_eq_true (by kernel_rfl)) (by unfold Func.isWrapper; rw [if_neg (of_decide_eq_false (by kernel_rfl))]; exact ⟨rfl, rfl⟩)
    (fun os started H enc _ => placeNested_lifted os started H enc)
#print axioms placeNested_holds

end Go.Proofs.Ytinlbckdgdojkaa
