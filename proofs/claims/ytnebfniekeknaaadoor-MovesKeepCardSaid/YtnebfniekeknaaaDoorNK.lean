/- Of every tree the statement MovesKeep returns true, and it reads afterwards as before; the card: what its row lists is tied to the program's text.
   No condition. -/
import Derived.Test.YtnebfniekeknaaaDoorLA7
import Derived.Test.YtnebfniekeknaaaDoorNM
import Derived.Deep.DeepCutAuto
import Derived.Deep.RegionHeld3
import Derived.Deep.OwnRows
import Derived.Test.YtnebfniekeknaaaDoorMRef
import Derived.Test.YtnebfniekeknaaaDoorCards
import Derived.Test.YtnebfniekeknaaaDoorTie
import Derived.ProofKit
import Derived.LaidMore
import Derived.OpenShut
import Derived.ChangeOld
import Derived.Below
import Derived.SevenTiedAt

/- The walk of the statement MovesKeep: called with a tree it returns true and changes nothing that was there.
   Conditions: the tree lies in memory, and the library's table. -/
namespace Go.Proofs.YtnebfniekeknaaaDoor
open Go.RowKit Go.Shelf
attribute [local go_sem] nodeAgg

set_option maxHeartbeats 8000000 in
set_option maxRecDepth 100000 in
theorem keep6_walk (a : V) (w : World) (R : Nat → Prop) (ha : Laid w R a) (hT : TabE w) (hTl : tabE < w.heap.size) :
    Calls Tryd.prog 6 #[nodeAgg a] w fun e w' => e = .returned (.bool true) ∧ Below w.heap.size w w' := by
  obtain ⟨sa, sc, hv0, _⟩ := laid_row' ha
  obtain ⟨sn, hsn⟩ : ∃ sn, sn = a.ps.length := ⟨_, rfl⟩
  rw [← hsn] at hv0
  obtain ⟨w1, hw1, hbw1, hlt1, hbx⟩ := box_new w a (.slice sa sn sc)
  have HTT := Lib.hid (fun (W : World) (h : Below w.heap.size w W) => And.intro (tab_below hT hTl h) (Nat.lt_of_lt_of_le hTl h.size))
  have HSa := Lib.hid (fun (W : World) (h : Below w.heap.size w W) => by
    have := size_any 100 (by omega) a W R (laid_low ha h)
    rw [nodeAgg_v hv0] at this
    exact this)
  have HMn := Lib.hid (fun (W : World) (h : Below w.heap.size w W) (hz : szT (erase a) ≤ 100) (code : Int) (hc : NoMap (erase a) code) => by
    have := make_none a W R (laid_low ha h) (by omega) code hc
    rw [nodeAgg_v hv0] at this
    exact this)
  have HMg := Lib.hid (fun (W : World) (h : Below w.heap.size w W) (hz : szT (erase a) ≤ 100) (hok : okT (erase a) = true) (m : PM) (hm : mapT (simT (erase a)) = some m) => by
    have := make_good a W R (laid_low ha h) (by omega) hok m hm (tab_below hT hTl h) (Nat.lt_of_lt_of_le hTl h.size)
    rw [nodeAgg_v hv0] at this
    exact this)
  have HBX := Lib.hid hbx
  have HBW := Lib.hid hbw1
  rw [nodeAgg_v hv0]
  clear hbx ha hv0 hsn hlt1 hbw1 hT hTl
  go_enter Tryd.func6, Tryd.ntmps6
  go_upto_region 1 with fail
  clear hw1
  go_wp2_with fail
  go_at_call 10
  refine (awake6_any _ (HTT.out _ HBW.out).1 (HTT.out _ HBW.out).2).mono ?_
  rintro e w3 ⟨rfl, hb3⟩
  obtain ⟨q0, q1, q2, q3, q4, q5, q6, q7⟩ := HBX.out w3 hb3
  have HB3 := Lib.hid hb3
  clear hb3
  go_wp2_with fail
  go_at_call 11
  refine (HSa.out _ (bhop HBW.out HB3.out)).mono ?_
  rintro e w5 ⟨rfl, hb4⟩
  have HB5 := Lib.hid (bhop HB3.out hb4)
  clear hb4 q0 q1 q2 q3 q4 q5 q6 q7
  obtain ⟨q0, q1, q2, q3, q4, q5, q6, q7⟩ := HBX.out w5 HB5.out
  by_cases hA : szT (erase a) ≤ 100
  · have hA2 : min (szT (erase a)) (100 + 1) = szT (erase a) := by omega
    rw [hA2]
    have g1 : ¬ (100 : Int) < ((szT (erase a) : Nat) : Int) := by omega
    have HA := Lib.hid hA
    clear hA hA2
    by_cases hmp : okT (erase a) = true ∧ ∃ m, mapT (simT (erase a)) = some m
    · obtain ⟨hok, m, hm⟩ := hmp
      have HF := Lib.hid (HMg.out w5 (bhop HBW.out HB5.out) HA.out hok m hm)
      have HOK := Lib.hid hok
      clear hok hm
      go_wp2_with fail
      go_at_call 12
      refine HF.out.mono ?_
      rintro e w6 ⟨⟨r, ta, tn, tc, sA, sN, sC, cA, cN, cC, aA, aN, aC, fA, fN, fC, lb, bb, em, vs, L, hR, hrv, rfl⟩, hb6⟩
      have HB6 := Lib.hid (bhop HB5.out hb6)
      have hs : sN = m.sets.length := own_n hR.lists.sets
      have hsa : aN = sN := by
        obtain ⟨vs2, hv2, _⟩ := hR.lists.ars
        have := own_n hv2
        have := hR.ars
        omega
      subst hsa
      have hs41 : aN ≤ 41 := by have := hR.sets; omega
      have hs1 : 1 ≤ aN := by have := hR.one; omega
      obtain ⟨ga, rfl⟩ : ∃ ga, aA = some ⟨ga, 0, none⟩ := by
        obtain ⟨vs2, hv2, _⟩ := hR.lists.ars
        obtain ⟨g, cap, hgv, _⟩ := hv2.form (by have := hR.one; have := hR.ars; omega)
        simp only [Value.slice.injEq] at hgv
        exact ⟨g, hgv.1⟩
      obtain ⟨w7, hw7⟩ : ∃ w7, w6.alloc (.cells #[.int .i64 r.kind, .int .u64 (r.set 0 : Nat), .int .u64 (r.set 1 : Nat), .int .u64 (r.set 2 : Nat), .int .u64 (r.set 3 : Nat), .slice ta tn tc, .int .i64 r.lo, .int .i64 r.hi, .slice sA aN sC, .slice cA cN cC, .slice (some ⟨ga, 0, none⟩) aN aC, .slice fA fN fC, .slice (some ⟨lb, 0, none⟩) aN aN, .slice (some ⟨bb, 0, none⟩) aN aN, .bool em] 39) = w7 := ⟨_, rfl⟩
      have hb67 : Below w6.heap.size w6 w7 := hw7 ▸ (Below.refl _ w6).alloc (Nat.le_refl _) _
      have hmp := (row_cells (hw7 ▸ heap_alloc_new w6 _ : w7.heap[w6.heap.size]? = some (.cells #[.int .i64 r.kind, .int .u64 (r.set 0 : Nat), .int .u64 (r.set 1 : Nat), .int .u64 (r.set 2 : Nat), .int .u64 (r.set 3 : Nat), .slice ta tn tc, .int .i64 r.lo, .int .i64 r.hi, .slice sA aN sC, .slice cA cN cC, .slice (some ⟨ga, 0, none⟩) aN aC, .slice fA fN fC, .slice (some ⟨lb, 0, none⟩) aN aN, .slice (some ⟨bb, 0, none⟩) aN aN, .bool em] 39 (0, 0)))).1
      have c10 := hmp 10; have c11 := hmp 11; have c12 := hmp 12; have c13 := hmp 13
      have hmbl : w6.heap.size < w7.heap.size := by rw [← hw7]; simp
      have HR := Lib.hid (hR.step hb67)
      have HS := Lib.hid hs
      have hrows := HR.out.rows
      rw [HR.out.mvv, ← hs] at hrows
      have HW := Lib.hid hrows
      have HL := Lib.hid HR.out.lists
      have HM := Lib.hid (fun (p : Nat) (x : Mv) (hp : p < aN) (hx : x ∈ L p) => (HR.out.moves p (by omega)).2 x |>.1 hx)
      have HB7 := Lib.hid (show Below w.heap.size w w7 from bhop (bhop HBW.out HB6.out) hb67)
      have HC := Lib.hid (fun (W : World) (h : Below w7.heap.size w7 W) => show W.cell? ⟨w6.heap.size, 10, none⟩ = some (.slice (some ⟨ga, 0, none⟩) aN aC) ∧ W.cell? ⟨w6.heap.size, 11, none⟩ = some (.slice fA fN fC) ∧ W.cell? ⟨w6.heap.size, 12, none⟩ = some (.slice (some ⟨lb, 0, none⟩) aN aN) ∧ W.cell? ⟨w6.heap.size, 13, none⟩ = some (.slice (some ⟨bb, 0, none⟩) aN aN) ∧ w6.heap.size < W.heap.size from
        ⟨(h.cell (p := ⟨w6.heap.size, 10, none⟩) hmbl).trans c10, (h.cell (p := ⟨w6.heap.size, 11, none⟩) hmbl).trans c11, (h.cell (p := ⟨w6.heap.size, 12, none⟩) hmbl).trans c12, (h.cell (p := ⟨w6.heap.size, 13, none⟩) hmbl).trans c13, Nat.lt_of_lt_of_le hmbl h.size⟩)
      clear hb67 hmp hrows hR hrv hs hb6 c10 c11 c12 c13 hmbl q0 q1 q2 q3 q4 q5 q6 q7
      go_upto_region 4 with fail
      clear hw7
      go_wp2_with fail
      go_loopw [5] (fun x wr => ∃ n, LpO w7 aN n x wr) (fun x wr => leastOf (fun n => LpO w7 aN n x wr))
      case atStart => exact ⟨_, 0, rfl, rfl, by omega, Below.refl _ _⟩
      case round =>
        have hls := (leastOf_spec hrel).1
        obtain ⟨p, rfl, hN, hp1, hb⟩ := hls
        have HN := Lib.hid hN
        have HBp := Lib.hid hb
        clear hN hrel hb
        have s1 : (0 : Int) ≤ (p : Int) := by omega
        obtain ⟨d10, d11, d12, d13, dlt⟩ := HC.out wr HBp.out
        clear d10 d11 d13
        by_cases g4 : p < aN
        · have s2 : (p : Int) < (aN : Int) := by omega
          have s3 : ((p : Int)).toNat = p := by omega
          have HP := Lib.hid (fun (W : World) (h : Below w7.heap.size w7 W) => show LpO w7 aN (aN - (p + 1)) (.int .i64 ((p : Int) + 1)) W from ⟨p + 1, by push_cast; rfl, rfl, by omega, h⟩)
          have hlen := mv_max HW.out g4
          go_wp2_with fail
          clear d12 dlt
          go_loopw [6] (fun x wr => ∃ n, LpO w7 (L p).length n x wr) (fun x wr => leastOf (fun n => LpO w7 (L p).length n x wr))
          case atStart => exact ⟨_, 0, rfl, rfl, by omega, HBp.out⟩
          case round =>
            have hls := (leastOf_spec hrel).1
            obtain ⟨i, rfl, hN2, hi1, hb⟩ := hls
            have HN2 := Lib.hid hN2
            have HBi := Lib.hid hb
            clear hN2 hrel
            obtain ⟨d10, d11, d12, d13, dlt⟩ := HC.out wr hb
            clear d11 d13
            obtain ⟨A, c, m1, m2, m3⟩ := mv_read (HW.out.below hb) g4
            obtain ⟨ln, hln⟩ : ∃ ln, ln = (L p).length := ⟨_, rfl⟩
            have HLN := Lib.hid hln
            rw [← hln] at m1 hi1 hlen
            clear hln hb
            have v1 : (0 : Int) ≤ (i : Int) := by omega
            by_cases g5 : i < ln
            · have v2 : (i : Int) < (ln : Int) := by omega
              have v3 : ((i : Int)).toNat = i := by omega
              obtain ⟨x, hx⟩ : ∃ x, (L p)[i]? = some x := ⟨_, List.getElem?_eq_getElem (by have := HLN.out; omega)⟩
              obtain ⟨g, rfl, hg, x0, x1, x2⟩ := m3 i x hx
              obtain ⟨k1, k2, _, k3, k4, cc, la, lbb, f1, f2, f3, f4, f5⟩ := mv_kept HR.out.map (HM.out p x g4 (List.mem_of_getElem? hx))
              rw [← HS.out] at k4
              have HQ2 := Lib.hid (fun (W : World) (h : Below w7.heap.size w7 W) => show LpO w7 (L p).length ((L p).length - (i + 1)) (.int .i64 ((i : Int) + 1)) W from ⟨i + 1, by push_cast; rfl, rfl, by have := HLN.out; omega, h⟩)
              have HLT := Lib.hid (show (L p).length - (i + 1) < (L p).length - i by have := HLN.out; omega)
              obtain ⟨tt, kp, ag⟩ := x
              simp only at k1 k2 k3 k4 f1 f4 x0 x1 x2
              clear m3 hx hi1
              go_upto_region 13 with fail
              generalize hw8 : wr.alloc _ = w8
              have hb8 : Below wr.heap.size wr w8 := hw8 ▸ (Below.refl _ wr).alloc (Nat.le_refl _) _
              have hr8 := (row_cells (hw8 ▸ heap_alloc_new wr _ : w8.heap[wr.heap.size]? = some (.cells #[.int .i64 tt, .int .i64 kp, .bool ag] 45 (0, 0)))).1
              have e0 := hr8 0; have e1 := hr8 1; have e2 := hr8 2
              have e3 : wr.heap.size < w8.heap.size := by rw [← hw8]; simp
              have hB8 : Below w7.heap.size w7 w8 := bhop HBi.out hb8
              have HB8 := Lib.hid hB8
              have HE := Lib.hid (fun (W : World) (h : Below w8.heap.size w8 W) => show W.cell? ⟨wr.heap.size, 0, none⟩ = some (.int .i64 tt) ∧ wr.heap.size < W.heap.size from ⟨(h.cell (p := ⟨wr.heap.size, 0, none⟩) e3).trans e0, Nat.lt_of_lt_of_le e3 h.size⟩)
              clear hw8 hr8 hb8 x0 x1 x2 m1 m2 hg d10 d12 dlt
              obtain ⟨d10, d11, d12, d13, dlt⟩ := HC.out w8 hB8
              clear d11 d12 d13
              obtain ⟨A1, c1, a1, a2, a3, a4⟩ := ar_read (mapL_below HL.out hB8) f2
              obtain ⟨A2, c2, b1, b2, b3, b4⟩ := ar_read (mapL_below HL.out hB8) f4
              obtain ⟨cm, hcm⟩ : ∃ cm, cm = kp + (if ag then 1 else 0) := ⟨_, rfl⟩
              have hcm5 : cm ≤ 5 := by rw [hcm]; split <;> omega
              have hca : cm ≤ la.length := by rw [hcm, ← f1]; exact f3.length_le
              have hcb : cm ≤ lbb.length := by rw [hcm, ← f1]; exact f5.length_le
              obtain ⟨na, hna⟩ : ∃ na, na = la.length := ⟨_, rfl⟩
              obtain ⟨nb, hnb⟩ : ∃ nb, nb = lbb.length := ⟨_, rfl⟩
              rw [← hna] at a1 hca
              rw [← hnb] at b1 hcb
              have HK := Lib.hid (fun (k : Nat) (hk : k < cm) => show ∃ z, la[k]? = some z ∧ lbb[k]? = some z from by
                have hk2 : k < cc.length := by rw [f1, ← hcm]; exact hk
                exact ⟨_, pre_at f3 (List.getElem?_eq_getElem hk2), pre_at f5 (List.getElem?_eq_getElem hk2)⟩)
              have HF2 := Lib.hid (And.intro f2 (And.intro f4 (And.intro hna hnb)))
              have t1 : ¬ ((p : Int) < 1) := by omega
              have t2 : ¬ ((tt : Int) < 1) := by omega
              have t3 : ¬ ((aN : Int) ≤ (tt : Int)) := by omega
              have t4 : ¬ ((kp : Int) < 0) := by omega
              have t5 : ¬ ((na : Int) < (cm : Int)) := by omega
              have t6 : ¬ ((nb : Int) < (cm : Int)) := by omega
              have t7 : (0 : Int) ≤ (tt : Int) := by omega
              have t8 : (tt : Int) < (aN : Int) := by omega
              have t9 : ((tt : Int)).toNat = tt := by omega
              have HG5 := Lib.hid g5
              clear f1 f2 f3 f4 f5 hna hnb a4 b4 g5 v1 v2
              have hT : ag = true → (kp : Int) + 1 = (cm : Int) := by intro h; rw [hcm, h]; simp
              have hF : ag = false → (kp : Int) = (cm : Int) := by intro h; rw [hcm, h]; simp
              cases ag
              all_goals
                clear hcm
                go_upto_region 16 with fail
                try
                  first
                  | rw [hT rfl]
                  | rw [hF rfl]
                clear hT hF
                go_wp2_with fail
                clear d10 dlt e0 e1 e2 a1 a2 b1 b2 t1 t2 t3 t4 t5 t6
                go_loopw [9] (fun x wr => ∃ n, LpO w8 cm n x wr) (fun x wr => leastOf (fun n => LpO w8 cm n x wr))
                case atStart => exact ⟨_, 0, rfl, rfl, by omega, Below.refl _ _⟩
                case round =>
                  have hls := (leastOf_spec hrel).1
                  obtain ⟨k, rfl, hN3, hk1, hb⟩ := hls
                  have HN3 := Lib.hid hN3
                  have HBk := Lib.hid hb
                  clear hN3 hrel hb
                  have u1 : (0 : Int) ≤ (k : Int) := by omega
                  by_cases g6 : k < cm
                  · obtain ⟨z, z1, z2⟩ := HK.out k g6
                    have u2 : (k : Int) < (cm : Int) := by omega
                    obtain ⟨d10, d11, d12, d13, dlt⟩ := HC.out wr (bhop HB8.out HBk.out)
                    clear d11 d12 d13
                    obtain ⟨e0, e3⟩ := HE.out wr HBk.out
                    obtain ⟨A1, c1, a1, a2, a3, a4⟩ := ar_read (mapL_below HL.out (bhop HB8.out HBk.out)) HF2.out.1
                    obtain ⟨A2, c2, b1, b2, b3, b4⟩ := ar_read (mapL_below HL.out (bhop HB8.out HBk.out)) HF2.out.2.1
                    rw [← HF2.out.2.2.1] at a1
                    rw [← HF2.out.2.2.2] at b1
                    obtain ⟨g1', rfl, a5, a6⟩ := a4 k z z1
                    obtain ⟨g2', rfl, b5, b6⟩ := b4 k z z2
                    have u3 : (k : Int) < (na : Int) := by omega
                    have u4 : (k : Int) < (nb : Int) := by omega
                    have HP3 := Lib.hid (fun (W : World) (h : Below w8.heap.size w8 W) => show LpO w8 cm (cm - (k + 1)) (.int .i64 ((k : Int) + 1)) W from ⟨k + 1, by push_cast; rfl, rfl, by omega, h⟩)
                    have HLT3 := Lib.hid (show cm - (k + 1) < cm - k by omega)
                    clear a4 b4 z1 z2 a3 b3
                    go_wp2_with fail
                    go_quiet (fail)
                    go_wp2_with fail
                    go_roundw
                    case rel => exact ⟨_, HP3.out _ (below_drewN HBk.out _)⟩
                    case measure =>
                      rw [HN3.out]
                      exact Nat.lt_of_le_of_lt ((leastOf_spec ⟨_, HP3.out _ (below_drewN HBk.out _)⟩).2 _ (HP3.out _ (below_drewN HBk.out _))) HLT3.out
                  · have u2 : ¬ (k : Int) < (cm : Int) := by omega
                    have u5 := HG5.out
                    clear hk1
                    go_wp2_with fail
                    go_roundw
                    case rel => exact ⟨_, HQ2.out _ (bhop HB8.out HBk.out)⟩
                    case measure =>
                      rw [HN2.out]
                      exact Nat.lt_of_le_of_lt ((leastOf_spec ⟨_, HQ2.out _ (bhop HB8.out HBk.out)⟩).2 _ (HQ2.out _ (bhop HB8.out HBk.out))) HLT.out
            · have v2 : ¬ (i : Int) < (ln : Int) := by omega
              clear m3 hi1 d10
              go_wp2_with fail
              go_roundw
              case rel => exact ⟨_, HP.out _ HBi.out⟩
              case measure =>
                rw [HN.out]
                refine Nat.lt_of_le_of_lt ((leastOf_spec ⟨_, HP.out _ HBi.out⟩).2 _ (HP.out _ HBi.out)) ?_
                omega
        · have s2 : ¬ (p : Int) < (aN : Int) := by omega
          clear hp1
          go_wp2_with fail
          go_ret
          exact ⟨rfl, bhop HB7.out HBp.out⟩
    · have hno : ∃ code : Int, code ≠ 0 ∧ NoMap (erase a) code := by
        cases hok : okT (erase a) with
        | false => exact ⟨1, by omega, .inl ⟨hok, rfl⟩⟩
        | true =>
          cases hm : mapT (simT (erase a)) with
          | none => exact ⟨3, by omega, .inr ⟨hok, hm, rfl⟩⟩
          | some m => exact absurd ⟨hok, m, hm⟩ hmp
      obtain ⟨code, hc0, hno⟩ := hno
      have HF := Lib.hid (HMn.out w5 (bhop HBW.out HB5.out) HA.out code hno)
      have hc1 : (code == 0) = false := by simp [hc0]
      clear hno hmp
      go_wp2_with fail
      go_at_call 12
      refine HF.out.mono ?_
      rintro e w6 ⟨rfl, hb6⟩
      have HB6 := Lib.hid (bhop HB5.out hb6)
      clear hb6 q0 q1 q2 q3 q4 q5 q6 q7
      go_upto_region 4 with fail
      generalize hw7 : w6.alloc _ = w7
      have hb67 : Below w6.heap.size w6 w7 := hw7 ▸ (Below.refl _ w6).alloc (Nat.le_refl _) _
      have HB7 := Lib.hid (show Below w.heap.size w w7 from bhop (bhop HBW.out HB6.out) hb67)
      have hmp := (row_cells (hw7 ▸ heap_alloc_new w6 _ : w7.heap[w6.heap.size]? = some (.cells #[.int .i64 0, .int .u64 0, .int .u64 0, .int .u64 0, .int .u64 0, .slice none 0 0, .int .i64 0, .int .i64 0, .slice none 0 0, .slice none 0 0, .slice none 0 0, .slice none 0 0, .slice none 0 0, .slice none 0 0, .bool false] 39 (0, 0)))).1
      have c12 := hmp 12
      have hmbl : w6.heap.size < w7.heap.size := by rw [← hw7]; simp
      clear hmp hb67 hw7
      go_wp2_with fail
      go_ret
      exact ⟨rfl, HB7.out⟩
  · have hA2 : min (szT (erase a)) (100 + 1) = 101 := by omega
    rw [hA2]
    clear hA hA2
    go_wp2_with fail
    go_at_call 10
    refine (awake6_any _ (HTT.out _ (bhop HBW.out HB5.out)).1 (HTT.out _ (bhop HBW.out HB5.out)).2).mono ?_
    rintro e w5 ⟨rfl, hb5⟩
    have HB5 := Lib.hid (bhop HB5.out hb5)
    go_wp2_with fail
    go_ret
    exact ⟨rfl, bhop HBW.out HB5.out⟩

end Go.Proofs.YtnebfniekeknaaaDoor

/- Of every tree the statement MovesKeep returns true, and it reads afterwards as before; the card: what its row lists is tied to the program's text.
   No condition. -/
namespace Go.Proofs.YtnebfniekeknaaaDoor
open Go.ChangeShapes Go.WideShapes Go.ChangeAt Go.RowKit

theorem movesKeepOwn : ownKnob Tryd.prog.godebug = none := by kernel_rfl
theorem movesKeepLaidOut : laidOutB Tryd.prog = true := by kernel_rfl
theorem movesKeepAgg (t : V) : nodeAgg t = .agg (ndc t).toArray := rfl

/-- The door's own heap meets the condition. -/
theorem movesKeepDoor (os : Os) (args : Array Value) : laidMetH Tryd.prog Rows.movesKeepRow.laid ((World.doorLaid Tryd.prog 400 os).forCall (fun _ _ => 0) ⟨#[], args, []⟩).memory :=
  laidMetH_of_parts3 (fuel := 8) (laidMet_of_run' 8 (by kernel_rfl) (by kernel_rfl)) (by kernel_rfl) (by kernel_rfl)

set_option maxRecDepth 100000 in
theorem movesKeep_lifted (os : Os) (started : os.Started) (H : Type) (enc : TypeId × Value → H) :
    ReturnsInHanded {} Tryd.checked os 6 .any (fun w args => (Rows.movesKeepSpec.pre enc Tryd.prog Tryd.f6 Rows.movesKeepRow.domain false w args ∧ laidMetH Tryd.prog Rows.movesKeepRow.laid w) ∧ sizedMet enc Tryd.prog Tryd.f6 (OpenSpec.ofChange Rows.movesKeepSpec) false w args)
      (Rows.movesKeepSpec.post enc Tryd.prog Tryd.f6 false true false false) := by
  refine returnsInHanded_of_change_and (C := Tryd.checked) (X := fun w _ => laidMetH Tryd.prog Rows.movesKeepRow.laid w) (fun _ _ _ hh h => h.of_heap hh) movesKeepOwn started (by kernel_rfl) Tryd.func6
    (ChangeSpec.witness_shaped (enc := enc) (C := Tryd.checked) (os := os) (X := fun w _ => laidMetH Tryd.prog Rows.movesKeepRow.laid w) false (World.doorLaid Tryd.prog 400 os) #[.agg #[.int .i64 0, .int .u64 0, .int .u64 0, .int .u64 0, .int .u64 0, .slice none 0 0, .int .i64 0, .int .i64 0]] 8 rfl (World.shaped_of_RefB (by kernel_rfl) (by kernel_rfl)) (by kernel_rfl) (by kernel_rfl) (by kernel_rfl) (movesKeepDoor os _)) ?_
  intro W base args ds gs before hval0 hW _ _ hLaid _
  have hval : ∀ (j : Nat) t v, Tryd.f6.params[j]? = some t → args[j]? = some v → Value.okWide Tryd.prog W .any base t v := hval0
  have hW' := hW
  obtain ⟨hT, hTl⟩ := tab_laid hLaid
  obtain ⟨p, q, hA0, hV, rfl, hfz, hnd⟩ := hW
  have hA : DataW.TrodAll enc Tryd.prog W 0 (fun _ => true) true Tryd.f6.params.toList args.toList ds p := hA0
  rw [Tryd.params6] at hA hval
  obtain ⟨v0, vs0, d0, ds0, p0, q0, hargs, rfl, rfl, h0, r0⟩ := trodAll_cons hA
  obtain ⟨rfl, rfl, rfl⟩ := trodAll_nil r0
  obtain rfl : args = #[v0] := by cases args; simp_all
  obtain ⟨rfl, rfl⟩ := trodVars_none hV
  have k0 := h0
  have lt0 : ∀ x ∈ p0, x.block < W.heap.size := by obtain ⟨m, hm⟩ := k0; exact DataW.trod_lt m _ _ _ hm
  obtain ⟨t0, rfl, l0, _⟩ := open_tree (hval 0 27 v0 rfl rfl) h0
  clear hA0 hval0
  rw [← movesKeepAgg] at *
  refine (keep6_walk t0 W _ l0 hT hTl).mono fun e W' ⟨he, bel⟩ => ?_
  subst he
  exact ⟨_, rfl, _, _, _, [], _, [], hW', trodAll_mk1 (shut_bool Tryd.underlying4 _), (trodAll_cons_mk (Below.trod movesKeepLaidOut (by kernel_rfl) (of_decide_eq_true (by kernel_rfl)) k0 bel lt0) trodAll_mk0), rfl, bel.frame _, fun h => by cases h⟩

theorem movesKeep_holds : Rows.MovesKeepSaid :=
  OpenClaim.holds_of_wide 6 Tryd.f6 rfl rfl rfl rfl rfl rfl rfl ⟨rfl, rfl, rfl, rfl, rfl⟩ rfl rfl rfl rfl rfl (by kernel_rfl) Tryd.func6 (by kernel_rfl)
    (of_decide_eq_true (by kernel_rfl)) (by unfold Func.isWrapper; rw [if_neg (of_decide_eq_false (by kernel_rfl))]; exact ⟨rfl, rfl⟩)
    (fun os started H enc _ => movesKeep_lifted os started H enc)

theorem movesKeep_card_holds : Rows.MovesKeepCardSaid :=
  Claim7.holds_tied_plain_at .later [] [.data] true _ false
    movesKeep_holds (fun _ h => by cases h) (by kernel_rfl) (fun _ h => by cases h) movesKeep_row_tie rfl ⟨rfl, rfl⟩ (by kernel_rfl) rfl
    (fun f fn hf hfn => by
      obtain rfl : f = 6 := Option.some.inj ((show Tryd.prog.funcNamed "ostinato/ostinatolaw06.MovesKeep" = some 6 by kernel_rfl).symm.trans hf) |>.symm
      obtain rfl : fn = Tryd.f6 := (Option.some.inj (Tryd.func6.symm.trans hfn)).symm
      exact ⟨by kernel_rfl, fun j t ht => by
        rw [Tryd.params6] at ht
        have hm : t ∈ [27] := by simpa using Array.mem_of_getElem? ht
        have hall : ([27].all fun u => !Tryd.prog.wantsStandIn u) = true := by kernel_rfl
        exact (show Tryd.prog.wantsStandIn t = false by simpa using List.all_eq_true.1 hall t hm)⟩)
    (by kernel_rfl)
#print axioms movesKeep_card_holds

end Go.Proofs.YtnebfniekeknaaaDoor
