/- Of every tree the statement CoreAgain returns true, and it reads afterwards as before.
   No condition. -/
import Derived.Test.YteaejdkmgicdhaaMSimA
import Derived.Test.YteaejdkmgicdhaaMWk
import Derived.Test.YteaejdkmgicdhaaMVN
import Derived.Test.YteaejdkmgicdhaaMForm
import Derived.Test.YteaejdkmgicdhaaMRefF
import Derived.Test.YteaejdkmgicdhaaMRefS
import Derived.Test.YteaejdkmgicdhaaMRef
import Derived.Test.YteaejdkmgicdhaaCARegF
import Derived.Test.YteaejdkmgicdhaaCARegT
import Derived.Deep.DeepCutAuto
import Derived.ProofKit
import Derived.OpenShut
import Derived.ChangeOld
import Derived.Below

/- The walk of the statement CoreAgain: called with a tree it returns true and changes nothing that was there.
   Conditions: the tree lies in memory. -/
namespace Go.Proofs.Yteaejdkmgicdhaa
open Go.RowKit Go.Shelf
attribute [local go_sem] nodeAgg

set_option maxHeartbeats 8000000 in
set_option maxRecDepth 100000 in
theorem again4_walk (a : V) (w : World) (R : Nat → Prop) (ha : Laid w R a) :
    Calls Try.prog 6 #[nodeAgg a] w fun e w' => e = .returned (.bool true) ∧ Below w.heap.size w w' := by
  obtain ⟨sa, sc, hv0, _⟩ := laid_row' ha
  obtain ⟨sn, hsn⟩ : ∃ sn, sn = a.ps.length := ⟨_, rfl⟩
  rw [← hsn] at hv0
  obtain ⟨w2, hw2, hbw, hlt2, hbx⟩ := box_new w a (.slice sa sn sc)
  have HSa := Lib.hid (fun (W : World) (h : Below w.heap.size w W) => by
    have := size_any 100 (by omega) a W R (laid_low ha h)
    rw [nodeAgg_v hv0] at this
    exact this)
  have HFo := Lib.hid (fun (W : World) (h : Below w.heap.size w W) (hz : szT (erase a) ≤ 1000000) => by
    have := formed_ref 1000000 (Nat.le_refl _) a W R hz (laid_low ha h)
    rw [nodeAgg_v hv0] at this
    exact this)
  have HSi := Lib.hid (fun (W : World) (h : Below w.heap.size w W) (hz : szT (erase a) ≤ 300000) (hok : okT (erase a) = true) => by
    have := simple_good a W R (laid_low ha h) hz hok
    rw [nodeAgg_v hv0] at this
    exact this)
  have HVo := Lib.hid (fun (W : World) (h : Below w.heap.size w W) (hz : szT (erase a) ≤ 100000) => by
    have := void_any a W R (laid_low ha h) hz
    rw [nodeAgg_v hv0] at this
    exact this)
  have HNu := Lib.hid (fun (W : World) (h : Below w.heap.size w W) (hz : szT (erase a) ≤ 100000) => by
    have := nullable_any a W R (laid_low ha h) hz
    rw [nodeAgg_v hv0] at this
    exact this)
  have HPl := Lib.hid (fun (W : World) (h : Below w.heap.size w W) (hz : szT (erase a) ≤ 1000000) => by
    have := places_ref 1000000 (Nat.le_refl _) a W R hz (laid_low ha h)
    rw [nodeAgg_v hv0] at this
    exact this)
  have HDe := Lib.hid (fun (W : World) (h : Below w.heap.size w W) (hz : szT (erase a) ≤ 1000000) => by
    have := depth_ref 1000000 (Nat.le_refl _) a W R hz (laid_low ha h)
    rw [nodeAgg_v hv0] at this
    exact this)
  have HBX := Lib.hid hbx
  have HBW := Lib.hid (And.intro hbw hlt2)
  rw [nodeAgg_v hv0]
  clear hbx ha hv0 hsn hlt2
  go_enter Try.func6, Try.ntmps6
  go_wp2_with fail
  clear hw2 hbw
  go_at_call 12
  refine (awake4_any _).mono ?_
  rintro e w3 ⟨rfl, hb3⟩
  obtain ⟨x0, x1, x2, x3, x4, x5, x6, x7⟩ := HBX.out w3 hb3
  have HB3 := Lib.hid hb3
  clear hb3
  go_wp2_with fail
  go_at_call 13
  refine (HSa.out _ (bhop HBW.out.1 HB3.out)).mono ?_
  rintro e w4 ⟨rfl, hb4⟩
  have HB4 := Lib.hid (bhop HB3.out hb4)
  clear hb4 x0 x1 x2 x3 x4 x5 x6 x7
  obtain ⟨x0, x1, x2, x3, x4, x5, x6, x7⟩ := HBX.out w4 HB4.out
  by_cases hA : szT (erase a) ≤ 100
  · have hA2 : min (szT (erase a)) (100 + 1) = szT (erase a) := by omega
    rw [hA2]
    have g1 : ¬ (100 : Int) < ((szT (erase a) : Nat) : Int) := by omega
    have HA := Lib.hid hA
    clear hA hA2
    go_wp2_with fail
    go_at_call 14
    refine (HFo.out _ (bhop HBW.out.1 HB4.out) (by have := HA.out; omega)).mono ?_
    rintro e w5 ⟨rfl, hb5⟩
    have HB5 := Lib.hid (bhop HB4.out hb5)
    clear hb5 x0 x1 x2 x3 x4 x5 x6 x7
    obtain ⟨x0, x1, x2, x3, x4, x5, x6, x7⟩ := HBX.out w5 HB5.out
    cases hok : okT (erase a) with
    | false =>
      clear hok x0 x1 x2 x3 x4 x5 x6 x7
      go_wp2_with fail
      go_at_call 12
      refine (awake4_any _).mono ?_
      rintro e w6 ⟨rfl, hb6⟩
      have HB6 := Lib.hid (bhop HB5.out hb6)
      go_wp2_with fail
      go_ret
      exact ⟨rfl, bhop HBW.out.1 HB6.out⟩
    | true =>
      have HK := Lib.hid hok
      clear hok
      go_wp2_with fail
      go_at_call 15
      refine (HSi.out _ (bhop HBW.out.1 HB5.out) (by have := HA.out; omega) HK.out).mono ?_
      rintro e w6 ⟨⟨r, rfl, herr, hresr⟩, hb⟩
      have hlr := hresr.laid
      obtain ⟨sar, scr, hvr, _⟩ := laid_row' hlr
      obtain ⟨snr, hsnr⟩ : ∃ s, s = r.ps.length := ⟨_, rfl⟩
      rw [← hsnr] at hvr
      rw [nodeAgg_v hvr]
      have HB6 := Lib.hid (bhop HB5.out hb)
      have HRr := Lib.hid (And.intro herr (And.intro hlr hvr))
      clear hb herr hresr hlr hvr hsnr x0 x1 x2 x3 x4 x5 x6 x7
      obtain ⟨w7, hw7, hb7, hlt7, hbx7⟩ := box_new w6 r (.slice sar snr scr)
      have HX7 := Lib.hid hbx7
      have HB7 := Lib.hid (And.intro (bhop HB6.out hb7) (laid_low HRr.out.2.1 hb7))
      have HSZ := Lib.hid (show szT (erase r) ≤ 100 by rw [HRr.out.1]; exact Nat.le_trans (sim_sz _) HA.out)
      have HOKR := Lib.hid (show okT (erase r) = true by rw [HRr.out.1]; exact (sim_ws _ HK.out).ok)
      obtain ⟨z0, z1, z2, z3, z4, z5, z6, z7⟩ := hbx7 w7 (Below.refl _ _)
      have HSr := Lib.hid (by
        have := simple_good r w7 _ HB7.out.2 (by have := HSZ.out; omega) HOKR.out
        rw [nodeAgg_v HRr.out.2.2] at this
        exact this)
      clear hb7 hlt7 hbx7
      go_upto_region 4 with fail
      clear hw7
      go_wp2_with fail
      go_at_call 15
      refine (HSr.out).mono ?_
      rintro e w8 ⟨⟨q, rfl, herq, hresq⟩, hb⟩
      have hlq := hresq.laid
      obtain ⟨saq, scq, hvq, _⟩ := laid_row' hlq
      obtain ⟨snq, hsnq⟩ : ∃ s, s = q.ps.length := ⟨_, rfl⟩
      rw [← hsnq] at hvq
      rw [nodeAgg_v hvq]
      have HB8 := Lib.hid (And.intro (bhop HB7.out.1 hb) hb)
      have HRq := Lib.hid (And.intro herq (And.intro hlq hvq))
      clear hb herq hresq hlq hvq hsnq z0 z1 z2 z3 z4 z5 z6 z7
      obtain ⟨w9, hw9, hb9, hlt9, hbx9⟩ := box_new w8 q (.slice saq snq scq)
      have HX9 := Lib.hid hbx9
      have HB9 := Lib.hid (And.intro (bhop HB8.out.1 hb9) (And.intro (bhop HB8.out.2 hb9) (laid_low HRq.out.2.1 hb9)))
      have HQE := Lib.hid (show erase q = erase r by rw [HRq.out.1, HRr.out.1, sim_sim HK.out])
      have HLr := Lib.hid (fun (W : World) (h : Below w9.heap.size w9 W) => laid_low HB7.out.2 (bhop HB9.out.2.1 h))
      have HLq := Lib.hid (fun (W : World) (h : Below w9.heap.size w9 W) => laid_low HB9.out.2.2 h)
      have HBa := Lib.hid (fun (W : World) (h : Below w9.heap.size w9 W) => bhop HBW.out.1 (bhop HB9.out.1 h))
      have C1 := Lib.hid (fun (W : World) (h : Below w9.heap.size w9 W) => by
        have := formed_ref 1000000 (Nat.le_refl _) r W _ (by have := HSZ.out; omega) (HLr.out W h)
        rw [nodeAgg_v HRr.out.2.2, HOKR.out] at this
        exact this)
      have C2 := Lib.hid (fun (W : World) (h : Below w9.heap.size w9 W) => by
        have := same_ref 1000000 (Nat.le_refl _) r q W _ _ (by have := HSZ.out; omega) (HLr.out W h) (HLq.out W h)
        rw [nodeAgg_v HRr.out.2.2, nodeAgg_v HRq.out.2.2, HQE.out, like_self] at this
        exact this)
      have C3 := Lib.hid (fun (W : World) (h : Below w9.heap.size w9 W) => by
        have := void_any r W _ (HLr.out W h) (by have := HSZ.out; omega)
        rw [nodeAgg_v HRr.out.2.2, HOKR.out, Bool.true_and, show vdV r = vdT (erase r) from rfl, HRr.out.1, vd_simT HK.out] at this
        exact this)
      have C4 := Lib.hid (fun (W : World) (h : Below w9.heap.size w9 W) => by
        have := HVo.out W (HBa.out W h) (by have := HA.out; omega)
        rw [HK.out, Bool.true_and, show vdV a = vdT (erase a) from rfl] at this
        exact this)
      have C5 := Lib.hid (fun (W : World) (h : Below w9.heap.size w9 W) => by
        have := nullable_any r W _ (HLr.out W h) (by have := HSZ.out; omega)
        rw [nodeAgg_v HRr.out.2.2, HOKR.out, Bool.true_and, show nuV r = nuT (erase r) from rfl, HRr.out.1, nu_simT HK.out] at this
        exact this)
      have C6 := Lib.hid (fun (W : World) (h : Below w9.heap.size w9 W) => by
        have := HNu.out W (HBa.out W h) (by have := HA.out; omega)
        rw [HK.out, Bool.true_and, show nuV a = nuT (erase a) from rfl] at this
        exact this)
      have C7 := Lib.hid (fun (W : World) (h : Below w9.heap.size w9 W) => by
        have := places_ref 1000000 (Nat.le_refl _) r W _ (by have := HSZ.out; omega) (HLr.out W h)
        rw [nodeAgg_v HRr.out.2.2] at this
        exact this)
      have C8 := Lib.hid (fun (W : World) (h : Below w9.heap.size w9 W) => HPl.out W (HBa.out W h) (by have := HA.out; omega))
      have C9 := Lib.hid (fun (W : World) (h : Below w9.heap.size w9 W) => by
        have := depth_ref 1000000 (Nat.le_refl _) r W _ (by have := HSZ.out; omega) (HLr.out W h)
        rw [nodeAgg_v HRr.out.2.2] at this
        exact this)
      have C10 := Lib.hid (fun (W : World) (h : Below w9.heap.size w9 W) => HDe.out W (HBa.out W h) (by have := HA.out; omega))
      have k1 : ((plcT (erase r) : Nat) : Int) ≤ ((plcT (erase a) : Nat) : Int) := by have := sim_plc _ HK.out; rw [HRr.out.1]; omega
      have k2 : ((dptT (erase r) : Nat) : Int) ≤ ((dptT (erase a) : Nat) : Int) := by have := sim_dpt (erase a); rw [HRr.out.1]; omega
      have HXa := Lib.hid (fun (W : World) (h : Below w9.heap.size w9 W) => HBX.out W (bhop HB9.out.1 h))
      have HXr := Lib.hid (fun (W : World) (h : Below w9.heap.size w9 W) => HX7.out W (bhop HB9.out.2.1 h))
      obtain ⟨x0, x1, x2, x3, x4, x5, x6, x7⟩ := HXa.out w9 (Below.refl _ _)
      obtain ⟨z0, z1, z2, z3, z4, z5, z6, z7⟩ := HXr.out w9 (Below.refl _ _)
      obtain ⟨v0, v1, v2, v3, v4, v5, v6, v7⟩ := hbx9 w9 (Below.refl _ _)
      clear hb9 hlt9 hbx9
      go_upto_region 5 with fail
      clear hw9
      clear HSa HFo HSi HVo HNu HPl HDe HSr HRq HLr HLq HBa HX7
      generalize vdT (erase a) = vv at *
      generalize nuT (erase a) = uu at *
      generalize plcT (erase r) = p1 at *
      generalize plcT (erase a) = p2 at *
      generalize dptT (erase r) = d1 at *
      generalize dptT (erase a) = d2 at *
      cases vv with
      | false =>
        refine regAgF a.kind a.lo a.hi r.kind r.lo r.hi q.kind q.lo q.hi a.set r.set q.set sa sar saq sn sc snr scr snq scq _ _ _ p1 p2 d1 d2 uu _ _ _ _ _ _ _ _ _ _ _ _ _ _ _ _ _ _ _ _ _ _ _ _ _ _ _ _ _ _ _ _ _ _ _ _ _ _ _ _ _ _ _ _ _ _ _ _ _ _ _ _ _ _ _ _ _ _ _ _ _ _ _ _ _ _ _ _ _ _ _ _ _ w9
          (fun W h => HXa.out W h) (fun W h => HXr.out W h) (fun W h => HX9.out W h) k1 k2 C1.out C2.out C3.out C4.out C5.out C6.out C7.out C8.out C9.out C10.out _ ?_
        intro y0 y1 y2 y3 y4 y5 y6 y7 y8 y9 y10 y11 y12 y13 y14 y15 y16 y17 y18 y19 y20 y21 y22 y23 y24 y25 y26 y27 y28 y29 y30 y31 y32 y33 y34 y35 y36 y37 y38 y39 y40 y41 y42 y43 y44 y45 y46 u0 hb
        clear x0 x1 x2 x3 x4 x5 x6 x7 z0 z1 z2 z3 z4 z5 z6 z7 v0 v1 v2 v3 v4 v5 v6 v7
        have HP0 := Lib.hid hb
        clear hb
        go_wp2_with fail
        go_ret
        exact ⟨rfl, bhop HBW.out.1 (bhop HB9.out.1 HP0.out)⟩
      | true =>
        refine regAgT a.kind a.lo a.hi r.kind r.lo r.hi q.kind q.lo q.hi a.set r.set q.set sa sar saq sn sc snr scr snq scq _ _ _ d1 d2 uu _ _ _ _ _ _ _ _ _ _ _ _ _ _ _ _ _ _ _ _ _ _ _ _ _ _ _ _ _ _ _ _ _ _ _ _ _ _ _ _ _ _ _ _ _ _ _ _ _ _ _ _ _ _ _ _ _ _ _ _ _ _ _ _ _ _ _ _ _ _ _ _ _ w9
          (fun W h => HXa.out W h) (fun W h => HXr.out W h) (fun W h => HX9.out W h) k2 C1.out C2.out C3.out C4.out C5.out C6.out C9.out C10.out _ ?_
        intro y0 y1 y2 y3 y4 y5 y6 y7 y8 y9 y10 y11 y12 y13 y14 y15 y16 y17 y18 y19 y20 y21 y22 y23 y24 y25 y26 y27 y28 y29 y30 y31 y32 y33 y34 y35 y36 y37 y38 y39 y40 y41 y42 y43 y44 y45 y46 u0 hb
        clear x0 x1 x2 x3 x4 x5 x6 x7 z0 z1 z2 z3 z4 z5 z6 z7 v0 v1 v2 v3 v4 v5 v6 v7
        have HP0 := Lib.hid hb
        clear hb
        go_wp2_with fail
        go_ret
        exact ⟨rfl, bhop HBW.out.1 (bhop HB9.out.1 HP0.out)⟩
  · have hA2 : min (szT (erase a)) (100 + 1) = 101 := by omega
    rw [hA2]
    clear hA hA2 x0 x1 x2 x3 x4 x5 x6 x7
    go_wp2_with fail
    go_at_call 12
    refine (awake4_any _).mono ?_
    rintro e w5 ⟨rfl, hb5⟩
    have HB5 := Lib.hid (bhop HB4.out hb5)
    go_wp2_with fail
    go_ret
    exact ⟨rfl, bhop HBW.out.1 HB5.out⟩

end Go.Proofs.Yteaejdkmgicdhaa

/- Of every tree the statement CoreAgain returns true, and it reads afterwards as before.
   No condition. -/
namespace Go.Proofs.Yteaejdkmgicdhaa
open Go.ChangeShapes Go.WideShapes Go.ChangeAt Go.RowKit

theorem trOwn : ownKnob Try.prog.godebug = none := by kernel_rfl
theorem trLaidOut : laidOutB Try.prog = true := by kernel_rfl
theorem nodeAgg_ndc (t : V) : nodeAgg t = .agg (ndc t).toArray := rfl

set_option maxRecDepth 100000 in
theorem coreAgain_lifted (os : Os) (started : os.Started) (H : Type) (enc : TypeId × Value → H) :
    ReturnsInHanded {} Try.checked os 6 .any (Rows.coreAgainSpec.pre6 enc Try.prog Try.f6 Rows.coreAgainRow.domain false) (Rows.coreAgainSpec.post enc Try.prog Try.f6 false true false false) := by
  refine returnsInHanded_of_change (C := Try.checked) trOwn started (by kernel_rfl) Try.func6
    (ChangeSpec.witness6 (enc := enc) (C := Try.checked) false ⟨#[], #[.agg #[.int .i64 0, .int .u64 0, .int .u64 0, .int .u64 0, .int .u64 0, .slice none 0 0, .int .i64 0, .int .i64 0]], []⟩ 8 (by kernel_rfl) (by kernel_rfl) (by kernel_rfl) (by kernel_rfl)) ?_
  intro W base args ds gs before hval0 hW hcnd _
  have hval : ∀ (j : Nat) t v, Try.f6.params[j]? = some t → args[j]? = some v → Value.okWide Try.prog W .any base t v := hval0
  have hW' := hW
  obtain ⟨p, q, hA0, hV, rfl, hfz, hnd⟩ := hW
  have hA : DataW.TrodAll enc Try.prog W 0 (fun _ => true) true Try.f6.params.toList args.toList ds p := hA0
  rw [Try.params6] at hA hval
  obtain ⟨v0, vs0, d0, ds0, p0, q0, hargs, rfl, rfl, h0, r0⟩ := trodAll_cons hA
  obtain ⟨rfl, rfl, rfl⟩ := trodAll_nil r0
  obtain rfl : args = #[v0] := by cases args; simp_all
  obtain ⟨rfl, rfl⟩ := trodVars_none hV
  have k0 := h0
  have lt0 : ∀ x ∈ p0, x.block < W.heap.size := by obtain ⟨m, hm⟩ := k0; exact DataW.trod_lt m _ _ _ hm
  obtain ⟨t0, rfl, l0, _⟩ := open_tree (hval 0 27 v0 rfl rfl) h0
  clear hA0 hval0
  rw [← nodeAgg_ndc] at *
  refine (again4_walk t0 W _ l0).mono fun e W' ⟨he, bel⟩ => ?_
  subst he
  exact ⟨_, rfl, _, _, _, [], _, [], hW', trodAll_mk1 (shut_bool Try.underlying4 _), (trodAll_cons_mk (Below.trod trLaidOut (by kernel_rfl) (of_decide_eq_true (by kernel_rfl)) k0 bel lt0) trodAll_mk0), rfl, bel.frame _, fun h => by cases h⟩

theorem coreAgain_holds : Rows.CoreAgainSaid :=
  OpenClaim.holds_of_wide 6 Try.f6 rfl rfl rfl rfl rfl rfl rfl ⟨rfl, rfl, rfl, rfl, rfl⟩ rfl rfl rfl rfl rfl (by kernel_rfl) Try.func6 (by kernel_rfl)
    (of_decide_eq_true (by kernel_rfl)) (by unfold Func.isWrapper; rw [if_neg (of_decide_eq_false (by kernel_rfl))]; exact ⟨rfl, rfl⟩)
    (fun os started H enc _ => coreAgain_lifted os started H enc)
#print axioms coreAgain_holds

end Go.Proofs.Yteaejdkmgicdhaa
