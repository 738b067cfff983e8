/- Of every tree the statement PlaceMaps returns true, and it reads afterwards as before.
   No condition. -/
import Derived.Test.YtmpneklgldaggaaMRo
import Derived.Test.YtmpneklgldaggaaMPof
import Derived.Test.YtmpneklgldaggaaMPi
import Derived.Test.YtmpneklgldaggaaMRefF
import Derived.Test.YtmpneklgldaggaaMRefS
import Derived.Test.YtmpneklgldaggaaMSim
import Derived.BigQuiet
import Derived.Deep.DeepCutAuto
import Derived.Deep.RegionHeld3
import Derived.StillTailTactics
import Derived.ProofKit
import Derived.OpenShut
import Derived.ChangeOld
import Derived.Below

/- The walk of the statement PlaceMaps: called with a tree it returns true and changes nothing that was there.
   Conditions: the tree lies in memory. -/
namespace Go.Proofs.Ytmpneklgldaggaa
open Go.RowKit Go.Shelf
attribute [local go_sem] nodeAgg

theorem sc_at {w : World} {B n : Nat} {A : Option Addr} {c : Nat} {l : List (Int × Int)} (h : w.ownsRow B 46 2 (.slice A n c) l.length (l.flatMap sc2)) {i : Nat} {s : Int × Int} (hi : l[i]? = some s) :
    ∃ g, A = some ⟨g, 0, none⟩ ∧ g < w.heap.size ∧ w.cell? ⟨g, i * 2, none⟩ = some (.int .i64 s.1) ∧ w.cell? ⟨g, i * 2 + 1, none⟩ = some (.int .i64 s.2) := by
  have hl : i < l.length := (List.getElem?_eq_some_iff.1 hi).1
  obtain ⟨g, cap, hv, _, hg⟩ := h.form (by omega)
  simp only [Value.slice.injEq] at hv
  obtain ⟨rfl, rfl, rfl⟩ := hv
  have hx : ∀ j, j < 2 → (l.flatMap sc2)[i * 2 + j]? = (sc2 s)[j]? := by
    clear h hg
    intro j hj
    induction l generalizing i with
    | nil => simp at hi
    | cons a l ih =>
      rw [List.flatMap_cons]
      cases i with
      | zero =>
        obtain rfl : a = s := by simpa using hi
        rw [Nat.zero_mul, Nat.zero_add, List.getElem?_append_left (by show j < 2; omega)]
      | succ i =>
        rw [List.getElem?_append_right (by show 2 ≤ _; omega), show (i + 1) * 2 + j - (sc2 a).length = i * 2 + j by show _ - 2 = _; omega]
        exact ih (by simpa using hi) (by simp at hl; omega)
  refine ⟨g, rfl, hg, ?_, ?_⟩
  · exact (h.cellAt (i * 2) (by omega)).trans (hx 0 (by omega))
  · exact (h.cellAt (i * 2 + 1) (by omega)).trans (hx 1 (by omega))

set_option maxHeartbeats 8000000 in
set_option maxRecDepth 100000 in
theorem maps5_walk (a : V) (w : World) (R : Nat → Prop) (ha : Laid w R a) :
    Calls Try.prog 4 #[nodeAgg a] w fun e w' => e = .returned (.bool true) ∧ Below w.heap.size w w' := by
  obtain ⟨sa, sc, hv0, _⟩ := laid_row' ha
  obtain ⟨sn, hsn⟩ : ∃ sn, sn = a.ps.length := ⟨_, rfl⟩
  rw [← hsn] at hv0
  obtain ⟨w2, hw2, hbw, hlt2, hbx⟩ := box_new w a (.slice sa sn sc)
  have HSa := Lib.hid (fun (W : World) (h : Below w.heap.size w W) => by
    have := size_any 150 (by omega) a W R (laid_low ha h)
    rw [nodeAgg_v hv0] at this
    exact this)
  have HOb := Lib.hid (fun (W : World) (h : Below w.heap.size w W) (hz : szT (erase a) ≤ 300000) (hok : okT (erase a) = false) => by
    have := of_bad a W R (laid_low ha h) hz hok
    rw [nodeAgg_v hv0] at this
    exact this)
  have HOg := Lib.hid (fun (W : World) (h : Below w.heap.size w W) (hz : szT (erase a) ≤ 300000) (hok : okT (erase a) = true) => by
    have := of_uni a W R (laid_low ha h) hz hok
    rw [nodeAgg_v hv0] at this
    exact this)
  have HFo := Lib.hid (fun (W : World) (h : Below w.heap.size w W) (hz : szT (erase a) ≤ 1000000) => by
    have := formed_ref 1000000 (Nat.le_refl _) a W R hz (laid_low ha h)
    rw [nodeAgg_v hv0] at this
    exact this)
  have HRo := Lib.hid (fun (W : World) (h : Below w.heap.size w W) (hz : szT (erase a) ≤ 1000) (hok : okT (erase a) = true) => by
    have := refOf_any a W R (laid_low ha h) hz hok
    rw [nodeAgg_v hv0] at this
    exact this)
  have HBX := Lib.hid hbx
  have HBW := Lib.hid hbw
  rw [nodeAgg_v hv0]
  clear hbx ha hv0 hsn hlt2 hbw
  go_enter Try.func4, Try.ntmps4
  go_wp2_with fail
  clear hw2
  go_at_call 11
  refine (awake5_any _).mono ?_
  rintro e w3 ⟨rfl, hb3⟩
  obtain ⟨q0, q1, q2, q3, q4, q5, q6, q7⟩ := HBX.out w3 hb3
  have HB3 := Lib.hid hb3
  clear hb3
  go_wp2_with fail
  go_at_call 6
  refine (HSa.out _ (bhop HBW.out HB3.out)).mono ?_
  rintro e w4 ⟨rfl, hb4⟩
  have HB4 := Lib.hid (bhop HB3.out hb4)
  clear hb4 q0 q1 q2 q3 q4 q5 q6 q7
  obtain ⟨q0, q1, q2, q3, q4, q5, q6, q7⟩ := HBX.out w4 HB4.out
  by_cases hA : szT (erase a) ≤ 150
  · have hA2 : min (szT (erase a)) (150 + 1) = szT (erase a) := by omega
    rw [hA2]
    have g1 : ¬ (150 : Int) < ((szT (erase a) : Nat) : Int) := by omega
    have HA := Lib.hid hA
    clear hA hA2
    cases hok : okT (erase a) with
    | false =>
      have HK := Lib.hid hok
      clear hok
      go_wp2_with fail
      go_at_call 12
      refine (HOb.out w4 (bhop HBW.out HB4.out) (by have := HA.out; omega) HK.out).mono ?_
      rintro e w5 ⟨rfl, hb5⟩
      obtain ⟨w6, hw6⟩ : ∃ w6, w5.alloc (.cells #[.int .i64 0, .int .u64 0, .int .u64 0, .int .u64 0, .int .u64 0, .slice none 0 0, .int .i64 0, .int .i64 0, .slice none 0 0, .slice none 0 0, .slice none 0 0] 40) = w6 := ⟨_, rfl⟩
      have hb6 : Below w5.heap.size w5 w6 := hw6 ▸ (Below.refl _ w5).alloc (Nat.le_refl _) _
      have HB6 := Lib.hid (bhop (bhop HB4.out hb5) hb6)
      have HZ6 := Lib.hid (show ZBM w5.heap.size w6 from hw6 ▸ heap_alloc_new w5 _)
      clear hb5 hb6 q0 q1 q2 q3 q4 q5 q6 q7
      obtain ⟨q0, q1, q2, q3, q4, q5, q6, q7⟩ := HBX.out w6 HB6.out
      have HW6 := Lib.hid hw6
      clear hw6
      go_upto_region 4 with fail
      rw [HW6.out]
      go_wp2_with fail
      go_at_call 8
      refine (HFo.out w6 (bhop HBW.out HB6.out) (by have := HA.out; omega)).mono ?_
      rintro e w7 ⟨rfl, hb7⟩
      rw [HK.out]
      have z8 : w7.cell? ⟨w5.heap.size, 8, none⟩ = some (.slice none 0 0) := (hb7.cell (p := ⟨w5.heap.size, 8, none⟩) (Array.getElem?_eq_some_iff.1 HZ6.out).1).trans ((row_cells HZ6.out).1 8)
      have HB7 := Lib.hid (bhop HB6.out hb7)
      clear hb7 q0 q1 q2 q3 q4 q5 q6 q7
      go_wp2_with fail
      go_ret
      exact ⟨rfl, bhop HBW.out HB7.out⟩
    | true =>
      have HK := Lib.hid hok
      clear hok
      go_wp2_with fail
      go_at_call 12
      refine (HOg.out w4 (bhop HBW.out HB4.out) (by have := HA.out; omega) HK.out).mono ?_
      rintro e w5 ⟨⟨r1, pt, ptn, ptc, pA, pN, pC, pcA, pcN, pcC, paA, paN, paC, hR1, hr1, rfl⟩, hb5⟩
      obtain ⟨w6, hw6⟩ : ∃ w6, w5.alloc (.cells #[.int .i64 r1.kind, .int .u64 (r1.set 0 : Nat), .int .u64 (r1.set 1 : Nat), .int .u64 (r1.set 2 : Nat), .int .u64 (r1.set 3 : Nat), .slice pt ptn ptc, .int .i64 r1.lo, .int .i64 r1.hi, .slice pA pN pC, .slice pcA pcN pcC, .slice paA paN paC] 40) = w6 := ⟨_, rfl⟩
      have hb6 : Below w5.heap.size w5 w6 := hw6 ▸ (Below.refl _ w5).alloc (Nat.le_refl _) _
      have hm6 : w6.heap[w5.heap.size]? = some (.cells #[.int .i64 r1.kind, .int .u64 (r1.set 0 : Nat), .int .u64 (r1.set 1 : Nat), .int .u64 (r1.set 2 : Nat), .int .u64 (r1.set 3 : Nat), .slice pt ptn ptc, .int .i64 r1.lo, .int .i64 r1.hi, .slice pA pN pC, .slice pcA pcN pcC, .slice paA paN paC] 40 (0, 0)) := hw6 ▸ heap_alloc_new w5 _
      have HB6 := Lib.hid (bhop (bhop HB4.out hb5) hb6)
      have H1 := Lib.hid (And.intro hR1 (And.intro hr1 (And.intro hb6 hm6)))
      clear hb5 hb6 hR1 hr1 hm6 q0 q1 q2 q3 q4 q5 q6 q7
      obtain ⟨q0, q1, q2, q3, q4, q5, q6, q7⟩ := HBX.out w6 HB6.out
      obtain ⟨c, hc⟩ : ∃ c, c = codeP (mapT (simT (erase a))) := ⟨_, rfl⟩
      rw [← hc]
      have HC := Lib.hid hc
      clear hc
      go_upto_region 4 with fail
      clear hw6
      go_wp2_with fail
      go_at_call 8
      refine (HFo.out w6 (bhop HBW.out HB6.out) (by have := HA.out; omega)).mono ?_
      rintro e w8 ⟨rfl, hb7⟩
      rw [HK.out]
      have HB8 := Lib.hid hb7
      clear hb7 q0 q1 q2 q3 q4 q5 q6 q7
      obtain ⟨q0, q1, q2, q3, q4, q5, q6, q7⟩ := HBX.out w8 (bhop HB6.out HB8.out)
      go_wp2_with fail
      go_at_call 13
      refine (HRo.out w8 (bhop HBW.out (bhop HB6.out HB8.out)) (by have := HA.out; omega) HK.out).mono ?_
      rintro e w9 ⟨⟨r3, qt, qtn, qtc, qA, qN, qC, qcA, qcN, qcC, qaA, qaN, qaC, hR3, hr3, rfl⟩, hb9⟩
      rw [← HC.out]
      obtain ⟨w10, hw10⟩ : ∃ w10, w9.alloc (.cells #[.int .i64 r3.kind, .int .u64 (r3.set 0 : Nat), .int .u64 (r3.set 1 : Nat), .int .u64 (r3.set 2 : Nat), .int .u64 (r3.set 3 : Nat), .slice qt qtn qtc, .int .i64 r3.lo, .int .i64 r3.hi, .slice qA qN qC, .slice qcA qcN qcC, .slice qaA qaN qaC] 40) = w10 := ⟨_, rfl⟩
      have hb10 : Below w9.heap.size w9 w10 := hw10 ▸ (Below.refl _ w9).alloc (Nat.le_refl _) _
      have hm10 : w10.heap[w9.heap.size]? = some (.cells #[.int .i64 r3.kind, .int .u64 (r3.set 0 : Nat), .int .u64 (r3.set 1 : Nat), .int .u64 (r3.set 2 : Nat), .int .u64 (r3.set 3 : Nat), .slice qt qtn qtc, .int .i64 r3.lo, .int .i64 r3.hi, .slice qA qN qC, .slice qcA qcN qcC, .slice qaA qaN qaC] 40 (0, 0)) := hw10 ▸ heap_alloc_new w9 _
      have hb610 : Below w6.heap.size w6 w10 := bhop HB8.out (bhop hb9 hb10)
      have hma : w10.heap[w5.heap.size]? = some (.cells #[.int .i64 r1.kind, .int .u64 (r1.set 0 : Nat), .int .u64 (r1.set 1 : Nat), .int .u64 (r1.set 2 : Nat), .int .u64 (r1.set 3 : Nat), .slice pt ptn ptc, .int .i64 r1.lo, .int .i64 r1.hi, .slice pA pN pC, .slice pcA pcN pcC, .slice paA paN paC] 40 (0, 0)) := (hb610.block _ (Array.getElem?_eq_some_iff.1 H1.out.2.2.2).1).trans H1.out.2.2.2
      have ra := (row_cells hma).1
      have rb := (row_cells hm10).1
      have a0 := ra 0; have a1 := ra 1; have a2 := ra 2; have a3 := ra 3; have a4 := ra 4; have a5 := ra 5; have a6 := ra 6; have a7 := ra 7; have a8 := ra 8; have a9 := ra 9; have a10 := ra 10
      have d0 := rb 0; have d1 := rb 1; have d2 := rb 2; have d3 := rb 3; have d4 := rb 4; have d5 := rb 5; have d6 := rb 6; have d7 := rb 7; have d8 := rb 8; have d9 := rb 9; have d10 := rb 10
      have hla := (Array.getElem?_eq_some_iff.1 hma).1
      have hlb := (Array.getElem?_eq_some_iff.1 hm10).1
      have hL1 := H1.out.1.lists.keep (Chg.of_below (R := fun _ => False) (bhop H1.out.2.2.1 hb610)) fun _ _ q => q.elim
      have hL3 := hR3.lists.keep (Chg.of_below (R := fun _ => False) hb10) fun _ _ q => q.elim
      obtain ⟨o, ho⟩ : ∃ o, o = (mapT (simT (erase a))).getD pmE := ⟨_, rfl⟩
      rw [← ho] at hL1 hL3
      have hars := hR3.ars
      have hset := hR3.sets
      have hscs := hR3.scs
      rw [← ho] at hars hset hscs
      obtain ⟨vs1, hv1, hr1⟩ := hL1.ars
      obtain ⟨vs3, hv3, hr3'⟩ := hL3.ars
      have e1 := own_n hL1.sets
      have e2 := own_n hL3.sets
      have e3 := own_n hL1.scs
      have e4 := own_n hL3.scs
      have e5 := own_n hv1
      have e6 := own_n hv3
      obtain rfl : pN = qN := by omega
      obtain rfl : pcN = qcN := by omega
      obtain rfl : paN = qaN := by omega
      obtain rfl : pN = paN := by omega
      have hs41 : pN ≤ 41 := by omega
      have hz1 : szT (erase r1) ≤ 1000000 := by
        rw [H1.out.1.tree]
        split
        · decide
        · have := sim_sz (erase a); have := HA.out; omega
      have HSm := Lib.hid (fun (W : World) (h : Below w10.heap.size w10 W) => by
        have := same_ref 1000000 (Nat.le_refl _) r1 r3 W _ _ hz1 (laid_low H1.out.1.laid (bhop (bhop H1.out.2.2.1 hb610) h)) (laid_low hR3.laid (bhop hb10 h))
        rw [nodeAgg_v H1.out.2.1, nodeAgg_v hr3, H1.out.1.tree, hR3.tree, like_refl] at this
        exact this)
      have HLS := Lib.hid (And.intro hL1.sets (And.intro hL3.sets (And.intro hv1 (And.intro hv3 (And.intro hr1 (And.intro hr3' (And.intro e1 (And.intro hars e5))))))))
      have HLC := Lib.hid (And.intro hL1.scs (And.intro hL3.scs e3))
      have HB10 := Lib.hid (show Below w.heap.size w w10 from bhop (bhop HBW.out HB6.out) hb610)
      have hcN : pcN ≤ 700000 := by omega
      have HLN := Lib.hid (show ∀ l ∈ o.ars, l.length ≤ 1000000 by
        intro l hl
        rw [ho] at hl hscs
        cases hq : mapT (simT (erase a)) with
        | none => rw [hq] at hl; simp [pmE] at hl
        | some m =>
          rw [hq] at hl hscs
          obtain ⟨Ps, hP⟩ := nest_map hq
          have h1 := ch_len (hP.ars l hl) hP.inc
          have h2 := hP.len
          simp only [Option.getD_some] at hscs
          omega)
      clear hb9 hb10 hm10 hb610 hma ra rb hL1 hL3 ho hars hset hscs hv1 hr1 hv3 hr3' e1 e2 e3 e4 e5 e6 hR3 hr3 hz1 q0 q1 q2 q3 q4 q5 q6 q7
      go_upto_region 7 with fail
      clear hw10
      go_wp2_with fail
      go_at_call 9
      refine (HSm.out _ (Below.refl _ _)).mono ?_
      rintro e w11 ⟨rfl, hb11⟩
      have c8 : w11.cell? ⟨w5.heap.size, 8, none⟩ = some (.slice pA pN pC) := (hb11.cell (p := ⟨w5.heap.size, 8, none⟩) hla).trans a8
      have c10 : w11.cell? ⟨w5.heap.size, 10, none⟩ = some (.slice paA pN paC) := (hb11.cell (p := ⟨w5.heap.size, 10, none⟩) hla).trans a10
      have f8 : w11.cell? ⟨w9.heap.size, 8, none⟩ = some (.slice qA pN qC) := (hb11.cell (p := ⟨w9.heap.size, 8, none⟩) hlb).trans d8
      have f10 : w11.cell? ⟨w9.heap.size, 10, none⟩ = some (.slice qaA pN qaC) := (hb11.cell (p := ⟨w9.heap.size, 10, none⟩) hlb).trans d10
      have c9 : w11.cell? ⟨w5.heap.size, 9, none⟩ = some (.slice pcA pcN pcC) := (hb11.cell (p := ⟨w5.heap.size, 9, none⟩) hla).trans a9
      have f9 : w11.cell? ⟨w9.heap.size, 9, none⟩ = some (.slice qcA pcN qcC) := (hb11.cell (p := ⟨w9.heap.size, 9, none⟩) hlb).trans d9
      have hla' := Nat.lt_of_lt_of_le hla hb11.size
      have hlb' := Nat.lt_of_lt_of_le hlb hb11.size
      have HB11 := Lib.hid hb11
      clear a0 a1 a2 a3 a4 a5 a6 a7 a8 a9 a10 d0 d1 d2 d3 d4 d5 d6 d7 d8 d9 d10 hla hlb hb11
      go_wp2_with fail
      go_loopw [7] (fun x wr => ∃ n, PSI w11 pN n x wr) (fun x wr => leastOf (fun n => PSI w11 pN n x wr))
      case atStart => exact ⟨_, 0, rfl, rfl, by omega, Below.refl _ _⟩
      case round =>
        have hls := (leastOf_spec hrel).1
        obtain ⟨i, rfl, hN, hi1, hb⟩ := hls
        have HN := Lib.hid hN
        have hb1011 : Below w10.heap.size w10 wr := bhop HB11.out hb
        have g8 : wr.cell? ⟨w5.heap.size, 8, none⟩ = some (.slice pA pN pC) := (hb.cell (p := ⟨w5.heap.size, 8, none⟩) hla').trans c8
        have g10 : wr.cell? ⟨w5.heap.size, 10, none⟩ = some (.slice paA pN paC) := (hb.cell (p := ⟨w5.heap.size, 10, none⟩) hla').trans c10
        have h8 : wr.cell? ⟨w9.heap.size, 8, none⟩ = some (.slice qA pN qC) := (hb.cell (p := ⟨w9.heap.size, 8, none⟩) hlb').trans f8
        have h10 : wr.cell? ⟨w9.heap.size, 10, none⟩ = some (.slice qaA pN qaC) := (hb.cell (p := ⟨w9.heap.size, 10, none⟩) hlb').trans f10
        have s1 : (0 : Int) ≤ (i : Int) := by omega
        by_cases g4 : i < pN
        · have s2 : (i : Int) < (pN : Int) := by omega
          obtain ⟨h1, h2, h3, h4, h5, h6, h7, h9, h11⟩ := HLS.out
          obtain ⟨C, hC⟩ : ∃ C, o.sets[i]? = some C := ⟨_, List.getElem?_eq_getElem (by omega)⟩
          obtain ⟨l, hl⟩ : ∃ l, o.ars[i]? = some l := ⟨_, List.getElem?_eq_getElem (by omega)⟩
          obtain ⟨va, hva, hra⟩ := h5 i l hl
          obtain ⟨vb, hvb, hrb⟩ := h6 i l hl
          obtain ⟨ga, rfl, hga, y0, y1, y2, y3⟩ := cls_at (own_chg h1 (Chg.of_below (R := fun _ => False) hb1011) fun _ _ => id) hC
          obtain ⟨gb, rfl, hgb, z0, z1, z2, z3⟩ := cls_at (own_chg h2 (Chg.of_below (R := fun _ => False) hb1011) fun _ _ => id) hC
          obtain ⟨gc, rfl, hgc, y4⟩ := row_at (own_chg h3 (Chg.of_below (R := fun _ => False) hb1011) fun _ _ => id) hva
          obtain ⟨gd, rfl, hgd, z4⟩ := row_at (own_chg h4 (Chg.of_below (R := fun _ => False) hb1011) fun _ _ => id) hvb
          obtain ⟨A5, C5, hva5⟩ := hra.form
          obtain ⟨A6, C6, hvb6⟩ := hrb.form
          obtain ⟨k, hk⟩ : ∃ k, k = l.length := ⟨_, rfl⟩
          rw [← hk] at hva5 hvb6
          subst hva5 hvb6
          have hll := HLN.out l (List.mem_of_getElem? hl)
          have HSI := Lib.hid (fun (W : World) (h : Below wr.heap.size wr W) => sameInts_any W _ _ _ _ l l ((hra.below hb1011).below h) ((hrb.below hb1011).below h) hll hll)
          have HP := Lib.hid (show ∀ W : World, Below wr.heap.size wr W → PSI w11 pN (pN - (i + 1)) (.int .i64 ((i : Int) + 1)) W from fun W h => ⟨i + 1, by push_cast; rfl, rfl, g4, bhop hb h⟩)
          have HLT := Lib.hid (show pN - (i + 1) < pN - i by omega)
          have he : ∀ W, (Op.equalIn 10000 24 (.agg #[.int .u64 (C 0 : Nat), .int .u64 (C 1 : Nat), .int .u64 (C 2 : Nat), .int .u64 (C 3 : Nat)]) (.agg #[.int .u64 (C 0 : Nat), .int .u64 (C 1 : Nat), .int .u64 (C 2 : Nat), .int .u64 (C 3 : Nat)])).run Try.prog W = .ok true W := fun W => by rw [run_equal4]; simp
          clear h1 h2 h3 h4 h5 h6 h7 h9 h11 hC hl hva hvb hra hrb hk hll hb hb1011 hN hrel hi1 c8 c10 f8 f10 c9 f9
          go_wp2_with fail
          go_still_tail 22, (by kernel_rfl)
          change wpList _ _ _ _ _ wr.drew
          have HD := Lib.hid (show Below wr.heap.size wr wr.drew from (Below.refl _ wr).drew)
          generalize wr.drew = wd at *
          go_wp2_with fail
          go_at_call 14
          refine (HSI.out wd HD.out).mono ?_
          rintro e w12 ⟨rfl, hb12⟩
          rw [show decide True = true from rfl]
          have HQ := Lib.hid (HP.out w12 (bhop HD.out hb12))
          clear hb12
          go_wp2_with fail
          go_roundw
          case rel => exact ⟨_, HQ.out⟩
          case measure =>
            rw [HN.out]
            exact Nat.lt_of_le_of_lt ((leastOf_spec ⟨_, HQ.out⟩).2 _ HQ.out) HLT.out
        · have s2 : ¬ (i : Int) < (pN : Int) := by omega
          obtain ⟨wa, hwa⟩ : ∃ wa, wa = wr := ⟨_, rfl⟩
          subst hwa
          have HI := Lib.hid hb
          have c9a : wa.cell? ⟨w5.heap.size, 9, none⟩ = some (.slice pcA pcN pcC) := (hb.cell (p := ⟨w5.heap.size, 9, none⟩) hla').trans c9
          have f9a : wa.cell? ⟨w9.heap.size, 9, none⟩ = some (.slice qcA pcN qcC) := (hb.cell (p := ⟨w9.heap.size, 9, none⟩) hlb').trans f9
          have hla2 := Nat.lt_of_lt_of_le hla' hb.size
          have hlb2 := Nat.lt_of_lt_of_le hlb' hb.size
          clear hb hi1 hN hrel hb1011 c8 c10 f8 f10 c9 f9
          go_wp2_with fail
          clear g8 g10 h8 h10
          go_loopw [8] (fun x wr => ∃ n, PSI wa pcN n x wr) (fun x wr => leastOf (fun n => PSI wa pcN n x wr))
          case atStart => exact ⟨_, 0, rfl, rfl, by omega, Below.refl _ _⟩
          case round =>
            have hls := (leastOf_spec hrel).1
            obtain ⟨j, rfl, hN, hj1, hb⟩ := hls
            have HN2 := Lib.hid hN
            have g9 : wr.cell? ⟨w5.heap.size, 9, none⟩ = some (.slice pcA pcN pcC) := (hb.cell (p := ⟨w5.heap.size, 9, none⟩) hla2).trans c9a
            have h9 : wr.cell? ⟨w9.heap.size, 9, none⟩ = some (.slice qcA pcN qcC) := (hb.cell (p := ⟨w9.heap.size, 9, none⟩) hlb2).trans f9a
            have s3 : (0 : Int) ≤ (j : Int) := by omega
            by_cases g5 : j < pcN
            · have s4 : (j : Int) < (pcN : Int) := by omega
              have hbw : Below w10.heap.size w10 wr := bhop HB11.out (bhop HI.out hb)
              obtain ⟨s, hs⟩ : ∃ s, o.scs[j]? = some s := ⟨_, List.getElem?_eq_getElem (by have := HLC.out.2.2; omega)⟩
              obtain ⟨ga, rfl, hga, y0, y1⟩ := sc_at (own_chg HLC.out.1 (Chg.of_below (R := fun _ => False) hbw) fun _ _ => id) hs
              obtain ⟨gb, rfl, hgb, z0, z1⟩ := sc_at (own_chg HLC.out.2.1 (Chg.of_below (R := fun _ => False) hbw) fun _ _ => id) hs
              obtain ⟨lo, hlo⟩ : ∃ lo, lo = s.1 := ⟨_, rfl⟩
              obtain ⟨hi', hhi⟩ : ∃ hi', hi' = s.2 := ⟨_, rfl⟩
              rw [← hlo] at y0 z0
              rw [← hhi] at y1 z1
              have HP := Lib.hid (show ∀ W : World, Below wr.heap.size wr W → PSI wa pcN (pcN - (j + 1)) (.int .i64 ((j : Int) + 1)) W from fun W h => ⟨j + 1, by push_cast; rfl, rfl, g5, bhop hb h⟩)
              have HLT := Lib.hid (show pcN - (j + 1) < pcN - j by omega)
              clear hb hbw hs hlo hhi hN hrel hj1 c9a f9a
              go_wp2_with fail
              go_quiet (fail)
              go_wp2_with fail
              go_roundw
              case rel => exact ⟨_, HP.out _ (below_drewN (Below.refl _ _) _)⟩
              case measure =>
                rw [HN2.out]
                exact Nat.lt_of_le_of_lt ((leastOf_spec ⟨_, HP.out _ (below_drewN (Below.refl _ _) _)⟩).2 _ (HP.out _ (below_drewN (Below.refl _ _) _))) HLT.out
            · have s4 : ¬ (j : Int) < (pcN : Int) := by omega
              have HJ := Lib.hid hb
              clear hb hj1
              go_wp2_with fail
              go_ret
              exact ⟨rfl, bhop HB10.out (bhop HB11.out (bhop HI.out HJ.out))⟩
  · have hA2 : min (szT (erase a)) (150 + 1) = 151 := by omega
    rw [hA2]
    clear hA hA2
    go_wp2_with fail
    go_at_call 11
    refine (awake5_any _).mono ?_
    rintro e w5 ⟨rfl, hb5⟩
    have HB5 := Lib.hid (bhop HB4.out hb5)
    go_wp2_with fail
    go_ret
    exact ⟨rfl, bhop HBW.out HB5.out⟩

end Go.Proofs.Ytmpneklgldaggaa

/- Of every tree the statement PlaceMaps returns true, and it reads afterwards as before.
   No condition. -/
namespace Go.Proofs.Ytmpneklgldaggaa
open Go.ChangeShapes Go.WideShapes Go.ChangeAt Go.RowKit

theorem pmOwn : ownKnob Try.prog.godebug = none := by kernel_rfl
theorem pmLaidOut : laidOutB Try.prog = true := by kernel_rfl
theorem psAgg (t : V) : nodeAgg t = .agg (ndc t).toArray := rfl

set_option maxRecDepth 100000 in
theorem placeMaps_lifted (os : Os) (started : os.Started) (H : Type) (enc : TypeId × Value → H) :
    ReturnsInHanded {} Try.checked os 4 .any (Rows.placeMapsSpec.pre6 enc Try.prog Try.f4 Rows.placeMapsRow.domain false) (Rows.placeMapsSpec.post enc Try.prog Try.f4 false true false false) := by
  refine returnsInHanded_of_change (C := Try.checked) pmOwn started (by kernel_rfl) Try.func4
    (ChangeSpec.witness6 (enc := enc) (C := Try.checked) false ⟨#[], #[.agg #[.int .i64 0, .int .u64 0, .int .u64 0, .int .u64 0, .int .u64 0, .slice none 0 0, .int .i64 0, .int .i64 0]], []⟩ 8 (by kernel_rfl) (by kernel_rfl) (by kernel_rfl) (by kernel_rfl)) ?_
  intro W base args ds gs before hval0 hW hcnd _
  have hval : ∀ (j : Nat) t v, Try.f4.params[j]? = some t → args[j]? = some v → Value.okWide Try.prog W .any base t v := hval0
  have hW' := hW
  obtain ⟨p, q, hA0, hV, rfl, hfz, hnd⟩ := hW
  have hA : DataW.TrodAll enc Try.prog W 0 (fun _ => true) true Try.f4.params.toList args.toList ds p := hA0
  rw [Try.params4] at hA hval
  obtain ⟨v0, vs0, d0, ds0, p0, q0, hargs, rfl, rfl, h0, r0⟩ := trodAll_cons hA
  obtain ⟨rfl, rfl, rfl⟩ := trodAll_nil r0
  obtain rfl : args = #[v0] := by cases args; simp_all
  obtain ⟨rfl, rfl⟩ := trodVars_none hV
  have k0 := h0
  have lt0 : ∀ x ∈ p0, x.block < W.heap.size := by obtain ⟨m, hm⟩ := k0; exact DataW.trod_lt m _ _ _ hm
  obtain ⟨t0, rfl, l0, _⟩ := open_tree (hval 0 27 v0 rfl rfl) h0
  clear hA0 hval0
  rw [← psAgg] at *
  refine (maps5_walk t0 W _ l0).mono fun e W' ⟨he, bel⟩ => ?_
  subst he
  exact ⟨_, rfl, _, _, _, [], _, [], hW', trodAll_mk1 (shut_bool Try.underlying4 _), (trodAll_cons_mk (Below.trod pmLaidOut (by kernel_rfl) (of_decide_eq_true (by kernel_rfl)) k0 bel lt0) trodAll_mk0), rfl, bel.frame _, fun h => by cases h⟩

theorem placeMaps_holds : Rows.PlaceMapsSaid :=
  OpenClaim.holds_of_wide 4 Try.f4 rfl rfl rfl rfl rfl rfl rfl ⟨rfl, rfl, rfl, rfl, rfl⟩ rfl rfl rfl rfl rfl (by kernel_rfl) Try.func4 (by kernel_rfl)
    (of_decide_eq_true (by kernel_rfl)) (by unfold Func.isWrapper; rw [if_neg (of_decide_eq_false (by kernel_rfl))]; exact ⟨rfl, rfl⟩)
    (fun os started H enc _ => placeMaps_lifted os started H enc)
#print axioms placeMaps_holds

end Go.Proofs.Ytmpneklgldaggaa
