/- Of every tree the statement MovesPlain returns true, and it reads afterwards as before; the card: what its row lists is tied to the program's text.
   No condition. -/
import Derived.Test.YtnebfniekeknaaaDoorNM
import Derived.Deep.DeepCutAuto
import Derived.Deep.RegionHeld3
import Derived.Test.YtnebfniekeknaaaDoorMRef
import Derived.Test.YtnebfniekeknaaaDoorCards
import Derived.Test.YtnebfniekeknaaaDoorTie
import Derived.ProofKit
import Derived.LaidMore
import Derived.OpenShut
import Derived.ChangeOld
import Derived.Below
import Derived.SevenTiedAt

/- The walk of the statement MovesPlain: called with a tree it returns true and changes nothing that was there.
   Conditions: the tree lies in memory, and the library's table. -/
namespace Go.Proofs.YtnebfniekeknaaaDoor
open Go.RowKit Go.Shelf
attribute [local go_sem] nodeAgg

set_option maxHeartbeats 8000000 in
set_option maxRecDepth 100000 in
theorem plain6_walk (a : V) (w : World) (R : Nat → Prop) (ha : Laid w R a) (hT : TabE w) (hTl : tabE < w.heap.size) :
    Calls Tryd.prog 7 #[nodeAgg a] w fun e w' => e = .returned (.bool true) ∧ Below w.heap.size w w' := by
  obtain ⟨sa, sc, hv0, _⟩ := laid_row' ha
  obtain ⟨sn, hsn⟩ : ∃ sn, sn = a.ps.length := ⟨_, rfl⟩
  rw [← hsn] at hv0
  obtain ⟨w1, hw1, hbw1, hlt1, hbx⟩ := box_new w a (.slice sa sn sc)
  have HTT := Lib.hid (fun (W : World) (h : Below w.heap.size w W) => And.intro (tab_below hT hTl h) (Nat.lt_of_lt_of_le hTl h.size))
  have HSa := Lib.hid (fun (W : World) (h : Below w.heap.size w W) => by
    have := size_any 100 (by omega) a W R (laid_low ha h)
    rw [nodeAgg_v hv0] at this
    exact this)
  have HTm := Lib.hid (fun (W : World) (h : Below w.heap.size w W) (hz : szT (erase a) ≤ 100) => by
    have := times6_any 100 a W R hz (by omega) (laid_low ha h)
    rw [nodeAgg_v hv0] at this
    exact this)
  have HMn := Lib.hid (fun (W : World) (h : Below w.heap.size w W) (hz : szT (erase a) ≤ 100) (code : Int) (hc : NoMap (erase a) code) => by
    have := make_none a W R (laid_low ha h) (by omega) code hc
    rw [nodeAgg_v hv0] at this
    exact this)
  have HMg := Lib.hid (fun (W : World) (h : Below w.heap.size w W) (hz : szT (erase a) ≤ 100) (hok : okT (erase a) = true) (m : PM) (hm : mapT (simT (erase a)) = some m) => by
    have := make_good a W R (laid_low ha h) (by omega) hok m hm (tab_below hT hTl h) (Nat.lt_of_lt_of_le hTl h.size)
    rw [nodeAgg_v hv0] at this
    exact this)
  have HBX := Lib.hid hbx
  have HBW := Lib.hid hbw1
  rw [nodeAgg_v hv0]
  clear hbx ha hv0 hsn hlt1 hbw1 hT hTl
  go_enter Tryd.func7, Tryd.ntmps7
  go_upto_region 1 with fail
  clear hw1
  go_wp2_with fail
  go_at_call 10
  refine (awake6_any _ (HTT.out _ HBW.out).1 (HTT.out _ HBW.out).2).mono ?_
  rintro e w3 ⟨rfl, hb3⟩
  obtain ⟨q0, q1, q2, q3, q4, q5, q6, q7⟩ := HBX.out w3 hb3
  have HB3 := Lib.hid hb3
  clear hb3
  go_wp2_with fail
  go_at_call 11
  refine (HSa.out _ (bhop HBW.out HB3.out)).mono ?_
  rintro e w4 ⟨rfl, hb4⟩
  have HB4 := Lib.hid (bhop HB3.out hb4)
  clear hb4 q0 q1 q2 q3 q4 q5 q6 q7
  obtain ⟨q0, q1, q2, q3, q4, q5, q6, q7⟩ := HBX.out w4 HB4.out
  by_cases hA : szT (erase a) ≤ 100
  · have hA2 : min (szT (erase a)) (100 + 1) = szT (erase a) := by omega
    rw [hA2]
    have g1 : ¬ (100 : Int) < ((szT (erase a) : Nat) : Int) := by omega
    have HA := Lib.hid hA
    clear hA hA2
    go_wp2_with fail
    go_at_call 20
    refine (HTm.out _ (bhop HBW.out HB4.out) HA.out).mono ?_
    rintro e w5 ⟨rfl, hb5⟩
    have HB5 := Lib.hid (bhop HB4.out hb5)
    clear hb5 q0 q1 q2 q3 q4 q5 q6 q7
    cases hn4 : no4 (erase a) with
    | false =>
      clear hn4
      go_wp2_with fail
      go_at_call 10
      refine (awake6_any _ (HTT.out _ (bhop HBW.out HB5.out)).1 (HTT.out _ (bhop HBW.out HB5.out)).2).mono ?_
      rintro e w6 ⟨rfl, hb6⟩
      have HB6 := Lib.hid (bhop HB5.out hb6)
      go_wp2_with fail
      go_ret
      exact ⟨rfl, bhop HBW.out HB6.out⟩
    | true =>
      have HN4 := Lib.hid hn4
      clear hn4
      obtain ⟨q0, q1, q2, q3, q4, q5, q6, q7⟩ := HBX.out w5 HB5.out
      by_cases hmp : okT (erase a) = true ∧ ∃ m, mapT (simT (erase a)) = some m
      · obtain ⟨hok, m, hm⟩ := hmp
        have HF := Lib.hid (HMg.out w5 (bhop HBW.out HB5.out) HA.out hok m hm)
        clear hok hm
        go_wp2_with fail
        go_at_call 12
        refine HF.out.mono ?_
        rintro e w6 ⟨⟨r, ta, tn, tc, sA, sN, sC, cA, cN, cC, aA, aN, aC, fA, fN, fC, lb, bb, em, vs, L, hR, hrv, rfl⟩, hb6⟩
        have HB6 := Lib.hid (bhop HB5.out hb6)
        have hs : sN = m.sets.length := own_n hR.lists.sets
        obtain rfl : cN = 0 := by
          have h1 := own_n hR.lists.scs
          rw [plain_scs (no4_sim _ HN4.out) hR.map] at h1
          exact h1
        have hs41 : sN ≤ 41 := by have := hR.sets; omega
        obtain ⟨w7, hw7⟩ : ∃ w7, w6.alloc (.cells #[.int .i64 r.kind, .int .u64 (r.set 0 : Nat), .int .u64 (r.set 1 : Nat), .int .u64 (r.set 2 : Nat), .int .u64 (r.set 3 : Nat), .slice ta tn tc, .int .i64 r.lo, .int .i64 r.hi, .slice sA sN sC, .slice cA 0 cC, .slice aA aN aC, .slice fA fN fC, .slice (some ⟨lb, 0, none⟩) sN sN, .slice (some ⟨bb, 0, none⟩) sN sN, .bool em] 39) = w7 := ⟨_, rfl⟩
        have hb67 : Below w6.heap.size w6 w7 := hw7 ▸ (Below.refl _ w6).alloc (Nat.le_refl _) _
        have hmp := (row_cells (hw7 ▸ heap_alloc_new w6 _ : w7.heap[w6.heap.size]? = some (.cells #[.int .i64 r.kind, .int .u64 (r.set 0 : Nat), .int .u64 (r.set 1 : Nat), .int .u64 (r.set 2 : Nat), .int .u64 (r.set 3 : Nat), .slice ta tn tc, .int .i64 r.lo, .int .i64 r.hi, .slice sA sN sC, .slice cA 0 cC, .slice aA aN aC, .slice fA fN fC, .slice (some ⟨lb, 0, none⟩) sN sN, .slice (some ⟨bb, 0, none⟩) sN sN, .bool em] 39 (0, 0)))).1
        have c9 := hmp 9; have c12 := hmp 12
        have hmbl : w6.heap.size < w7.heap.size := by rw [← hw7]; simp
        have hrows := hR.rows.below hb67
        rw [hR.mvv, ← hs] at hrows
        have hmv := hR.moves
        rw [← hs] at hmv
        have HQ := Lib.hid (And.intro hrows hmv)
        have HB7 := Lib.hid (show Below w.heap.size w w7 from bhop (bhop HBW.out HB6.out) hb67)
        have HC := Lib.hid (fun (W : World) (h : Below w7.heap.size w7 W) => show W.cell? ⟨w6.heap.size, 9, none⟩ = some (.slice cA 0 cC) ∧ W.cell? ⟨w6.heap.size, 12, none⟩ = some (.slice (some ⟨lb, 0, none⟩) sN sN) ∧ w6.heap.size < W.heap.size from
          ⟨(h.cell (p := ⟨w6.heap.size, 9, none⟩) hmbl).trans c9, (h.cell (p := ⟨w6.heap.size, 12, none⟩) hmbl).trans c12, Nat.lt_of_lt_of_le hmbl h.size⟩)
        have HM := Lib.hid (fun (p i : Nat) (x : Mv) (hp : p < sN) (hx : (L p)[i]? = some x) => show x.kp = 0 ∧ x.ag = false ∧ p < x.tt from by
          obtain ⟨j, hj, h1, h2, h3, h4⟩ := (hmv p hp).2 x |>.1 (List.mem_of_getElem? hx)
          obtain ⟨k1, k2, k3⟩ := mv_plain (simT (erase a)) 0 0 (no4_sim _ HN4.out) j hj
          exact ⟨h3.trans k1, h4.trans k2, k3 _ _ h1 h2⟩)
        clear hb67 hmp hrows hmv hR hrv hs hb6 c9 c12 hmbl q0 q1 q2 q3 q4 q5 q6 q7
        go_upto_region 4 with fail
        clear hw7
        go_wp2_with fail
        go_loopw [5] (fun x wr => ∃ n, LpO w7 sN n x wr) (fun x wr => leastOf (fun n => LpO w7 sN n x wr))
        case atStart => exact ⟨_, 0, rfl, rfl, by omega, Below.refl _ _⟩
        case round =>
          have hls := (leastOf_spec hrel).1
          obtain ⟨p, rfl, hN, hp1, hb⟩ := hls
          have HN := Lib.hid hN
          have HBp := Lib.hid hb
          clear hN hrel hb
          have s1 : (0 : Int) ≤ (p : Int) := by omega
          obtain ⟨d9, d12, dlt⟩ := HC.out wr HBp.out
          by_cases g4 : p < sN
          · have s2 : (p : Int) < (sN : Int) := by omega
            have s3 : ((p : Int)).toNat = p := by omega
            have HP := Lib.hid (fun (W : World) (h : Below w7.heap.size w7 W) => show LpO w7 sN (sN - (p + 1)) (.int .i64 ((p : Int) + 1)) W from ⟨p + 1, by push_cast; rfl, rfl, by omega, h⟩)
            have hlen := mv_max HQ.out.1 g4
            obtain ⟨A, c, _, _, _⟩ := mv_read HQ.out.1 g4
            clear d9
            go_wp2_with fail
            clear d12 dlt
            go_loopw [6] (fun x wr => ∃ n, LpO w7 (L p).length n x wr) (fun x wr => leastOf (fun n => LpO w7 (L p).length n x wr))
            case atStart => exact ⟨_, 0, rfl, rfl, by omega, HBp.out⟩
            case round =>
              have hls := (leastOf_spec hrel).1
              obtain ⟨i, rfl, hN2, hi1, hb⟩ := hls
              have HN2 := Lib.hid hN2
              have HBi := Lib.hid hb
              clear hN2 hrel
              obtain ⟨d9, d12, dlt⟩ := HC.out wr hb
              obtain ⟨A, c, m1, m2, m3⟩ := mv_read (HQ.out.1.below hb) g4
              obtain ⟨ln, hln⟩ : ∃ ln, ln = (L p).length := ⟨_, rfl⟩
              have HLN := Lib.hid hln
              rw [← hln] at m1 hi1 hlen
              clear hln hb
              have v1 : (0 : Int) ≤ (i : Int) := by omega
              by_cases g5 : i < ln
              · have v2 : (i : Int) < (ln : Int) := by omega
                have v3 : ((i : Int)).toNat = i := by omega
                obtain ⟨x, hx⟩ : ∃ x, (L p)[i]? = some x := ⟨_, List.getElem?_eq_getElem (by have := HLN.out; omega)⟩
                obtain ⟨g, rfl, hg, x0, x1, x2⟩ := m3 i x hx
                obtain ⟨k1, k2, k3⟩ := HM.out p i x g4 hx
                rw [k1] at x1
                rw [k2] at x2
                have v4 : ¬ ((x.tt : Int) ≤ (p : Int)) := by omega
                have v4' : ¬ (x.tt ≤ p) := by omega
                have HQ2 := Lib.hid (fun (W : World) (h : Below w7.heap.size w7 W) => show LpO w7 (L p).length ((L p).length - (i + 1)) (.int .i64 ((i : Int) + 1)) W from ⟨i + 1, by push_cast; rfl, rfl, by have := HLN.out; omega, h⟩)
                have HLT := Lib.hid (show (L p).length - (i + 1) < (L p).length - i by have := HLN.out; omega)
                clear m3 hx k1 k2 k3 hi1 d9
                go_wp2_with fail
                go_quiet (fail)
                go_wp2_with fail
                go_roundw
                case rel => exact ⟨_, HQ2.out _ (below_drewN HBi.out _)⟩
                case measure =>
                  rw [HN2.out]
                  exact Nat.lt_of_le_of_lt ((leastOf_spec ⟨_, HQ2.out _ (below_drewN HBi.out _)⟩).2 _ (HQ2.out _ (below_drewN HBi.out _))) HLT.out
              · have v2 : ¬ (i : Int) < (ln : Int) := by omega
                clear m3 hi1 d9
                go_wp2_with fail
                go_roundw
                case rel => exact ⟨_, HP.out _ HBi.out⟩
                case measure =>
                  rw [HN.out]
                  refine Nat.lt_of_le_of_lt ((leastOf_spec ⟨_, HP.out _ HBi.out⟩).2 _ (HP.out _ HBi.out)) ?_
                  omega
          · have s2 : ¬ (p : Int) < (sN : Int) := by omega
            clear hp1
            go_wp2_with fail
            go_ret
            exact ⟨rfl, bhop HB7.out HBp.out⟩
      · have hno : ∃ code : Int, code ≠ 0 ∧ NoMap (erase a) code := by
          cases hok : okT (erase a) with
          | false => exact ⟨1, by omega, .inl ⟨hok, rfl⟩⟩
          | true =>
            cases hm : mapT (simT (erase a)) with
            | none => exact ⟨3, by omega, .inr ⟨hok, hm, rfl⟩⟩
            | some m => exact absurd ⟨hok, m, hm⟩ hmp
        obtain ⟨code, hc0, hno⟩ := hno
        have HF := Lib.hid (HMn.out w5 (bhop HBW.out HB5.out) HA.out code hno)
        have hc1 : (code == 0) = false := by simp [hc0]
        clear hno hmp
        go_wp2_with fail
        go_at_call 12
        refine HF.out.mono ?_
        rintro e w6 ⟨rfl, hb6⟩
        have HB6 := Lib.hid (bhop HB5.out hb6)
        clear hb6 q0 q1 q2 q3 q4 q5 q6 q7
        go_upto_region 4 with fail
        generalize hw7 : w6.alloc _ = w7
        have hb67 : Below w6.heap.size w6 w7 := hw7 ▸ (Below.refl _ w6).alloc (Nat.le_refl _) _
        have HB7 := Lib.hid (show Below w.heap.size w w7 from bhop (bhop HBW.out HB6.out) hb67)
        have hmp := (row_cells (hw7 ▸ heap_alloc_new w6 _ : w7.heap[w6.heap.size]? = some (.cells #[.int .i64 0, .int .u64 0, .int .u64 0, .int .u64 0, .int .u64 0, .slice none 0 0, .int .i64 0, .int .i64 0, .slice none 0 0, .slice none 0 0, .slice none 0 0, .slice none 0 0, .slice none 0 0, .slice none 0 0, .bool false] 39 (0, 0)))).1
        have c9 := hmp 9; have c12 := hmp 12
        have hmbl : w6.heap.size < w7.heap.size := by rw [← hw7]; simp
        clear hmp hb67 hw7
        go_wp2_with fail
        go_loopw [5] (fun x wr => x = .int .i64 0 ∧ wr = w7) (fun x wr => 0)
        case atStart => exact ⟨rfl, rfl⟩
        case round =>
          obtain ⟨rfl, rfl⟩ := hrel
          go_wp2_with fail
          go_ret
          exact ⟨rfl, HB7.out⟩
  · have hA2 : min (szT (erase a)) (100 + 1) = 101 := by omega
    rw [hA2]
    clear hA hA2
    go_wp2_with fail
    go_at_call 10
    refine (awake6_any _ (HTT.out _ (bhop HBW.out HB4.out)).1 (HTT.out _ (bhop HBW.out HB4.out)).2).mono ?_
    rintro e w5 ⟨rfl, hb5⟩
    have HB5 := Lib.hid (bhop HB4.out hb5)
    go_wp2_with fail
    go_ret
    exact ⟨rfl, bhop HBW.out HB5.out⟩

end Go.Proofs.YtnebfniekeknaaaDoor

/- Of every tree the statement MovesPlain returns true, and it reads afterwards as before; the card: what its row lists is tied to the program's text.
   No condition. -/
namespace Go.Proofs.YtnebfniekeknaaaDoor
open Go.ChangeShapes Go.WideShapes Go.ChangeAt Go.RowKit

theorem movesPlainOwn : ownKnob Tryd.prog.godebug = none := by kernel_rfl
theorem movesPlainLaidOut : laidOutB Tryd.prog = true := by kernel_rfl
theorem movesPlainAgg (t : V) : nodeAgg t = .agg (ndc t).toArray := rfl

/-- The door's own heap meets the condition. -/
theorem movesPlainDoor (os : Os) (args : Array Value) : laidMetH Tryd.prog Rows.movesPlainRow.laid ((World.doorLaid Tryd.prog 400 os).forCall (fun _ _ => 0) ⟨#[], args, []⟩).memory :=
  laidMetH_of_parts3 (fuel := 8) (laidMet_of_run' 8 (by kernel_rfl) (by kernel_rfl)) (by kernel_rfl) (by kernel_rfl)

set_option maxRecDepth 100000 in
theorem movesPlain_lifted (os : Os) (started : os.Started) (H : Type) (enc : TypeId × Value → H) :
    ReturnsInHanded {} Tryd.checked os 7 .any (fun w args => (Rows.movesPlainSpec.pre enc Tryd.prog Tryd.f7 Rows.movesPlainRow.domain false w args ∧ laidMetH Tryd.prog Rows.movesPlainRow.laid w) ∧ sizedMet enc Tryd.prog Tryd.f7 (OpenSpec.ofChange Rows.movesPlainSpec) false w args)
      (Rows.movesPlainSpec.post enc Tryd.prog Tryd.f7 false true false false) := by
  refine returnsInHanded_of_change_and (C := Tryd.checked) (X := fun w _ => laidMetH Tryd.prog Rows.movesPlainRow.laid w) (fun _ _ _ hh h => h.of_heap hh) movesPlainOwn started (by kernel_rfl) Tryd.func7
    (ChangeSpec.witness_shaped (enc := enc) (C := Tryd.checked) (os := os) (X := fun w _ => laidMetH Tryd.prog Rows.movesPlainRow.laid w) false (World.doorLaid Tryd.prog 400 os) #[.agg #[.int .i64 0, .int .u64 0, .int .u64 0, .int .u64 0, .int .u64 0, .slice none 0 0, .int .i64 0, .int .i64 0]] 8 rfl (World.shaped_of_RefB (by kernel_rfl) (by kernel_rfl)) (by kernel_rfl) (by kernel_rfl) (by kernel_rfl) (movesPlainDoor os _)) ?_
  intro W base args ds gs before hval0 hW _ _ hLaid _
  have hval : ∀ (j : Nat) t v, Tryd.f7.params[j]? = some t → args[j]? = some v → Value.okWide Tryd.prog W .any base t v := hval0
  have hW' := hW
  obtain ⟨hT, hTl⟩ := tab_laid hLaid
  obtain ⟨p, q, hA0, hV, rfl, hfz, hnd⟩ := hW
  have hA : DataW.TrodAll enc Tryd.prog W 0 (fun _ => true) true Tryd.f7.params.toList args.toList ds p := hA0
  rw [Tryd.params7] at hA hval
  obtain ⟨v0, vs0, d0, ds0, p0, q0, hargs, rfl, rfl, h0, r0⟩ := trodAll_cons hA
  obtain ⟨rfl, rfl, rfl⟩ := trodAll_nil r0
  obtain rfl : args = #[v0] := by cases args; simp_all
  obtain ⟨rfl, rfl⟩ := trodVars_none hV
  have k0 := h0
  have lt0 : ∀ x ∈ p0, x.block < W.heap.size := by obtain ⟨m, hm⟩ := k0; exact DataW.trod_lt m _ _ _ hm
  obtain ⟨t0, rfl, l0, _⟩ := open_tree (hval 0 27 v0 rfl rfl) h0
  clear hA0 hval0
  rw [← movesPlainAgg] at *
  refine (plain6_walk t0 W _ l0 hT hTl).mono fun e W' ⟨he, bel⟩ => ?_
  subst he
  exact ⟨_, rfl, _, _, _, [], _, [], hW', trodAll_mk1 (shut_bool Tryd.underlying4 _), (trodAll_cons_mk (Below.trod movesPlainLaidOut (by kernel_rfl) (of_decide_eq_true (by kernel_rfl)) k0 bel lt0) trodAll_mk0), rfl, bel.frame _, fun h => by cases h⟩

theorem movesPlain_holds : Rows.MovesPlainSaid :=
  OpenClaim.holds_of_wide 7 Tryd.f7 rfl rfl rfl rfl rfl rfl rfl ⟨rfl, rfl, rfl, rfl, rfl⟩ rfl rfl rfl rfl rfl (by kernel_rfl) Tryd.func7 (by kernel_rfl)
    (of_decide_eq_true (by kernel_rfl)) (by unfold Func.isWrapper; rw [if_neg (of_decide_eq_false (by kernel_rfl))]; exact ⟨rfl, rfl⟩)
    (fun os started H enc _ => movesPlain_lifted os started H enc)

theorem movesPlain_card_holds : Rows.MovesPlainCardSaid :=
  Claim7.holds_tied_plain_at .later [] [.data] true _ false
    movesPlain_holds (fun _ h => by cases h) (by kernel_rfl) (fun _ h => by cases h) movesPlain_row_tie rfl ⟨rfl, rfl⟩ (by kernel_rfl) rfl
    (fun f fn hf hfn => by
      obtain rfl : f = 7 := Option.some.inj ((show Tryd.prog.funcNamed "ostinato/ostinatolaw06.MovesPlain" = some 7 by kernel_rfl).symm.trans hf) |>.symm
      obtain rfl : fn = Tryd.f7 := (Option.some.inj (Tryd.func7.symm.trans hfn)).symm
      exact ⟨by kernel_rfl, fun j t ht => by
        rw [Tryd.params7] at ht
        have hm : t ∈ [27] := by simpa using Array.mem_of_getElem? ht
        have hall : ([27].all fun u => !Tryd.prog.wantsStandIn u) = true := by kernel_rfl
        exact (show Tryd.prog.wantsStandIn t = false by simpa using List.all_eq_true.1 hall t hm)⟩)
    (by kernel_rfl)
#print axioms movesPlain_card_holds

end Go.Proofs.YtnebfniekeknaaaDoor
