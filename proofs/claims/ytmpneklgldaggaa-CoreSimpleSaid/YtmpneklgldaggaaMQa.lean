/- Of every tree the statement CoreSimple returns true, and it reads afterwards as before.
   No condition. -/
import Derived.Test.YtmpneklgldaggaaMQk
import Derived.Test.YtmpneklgldaggaaMWk
import Derived.Test.YtmpneklgldaggaaMForm
import Derived.Test.YtmpneklgldaggaaMRefF
import Derived.Test.YtmpneklgldaggaaMRefS
import Derived.Deep.DeepCutAuto
import Derived.Deep.RegionWith
import Derived.ProofKit
import Derived.OpenShut
import Derived.ChangeOld
import Derived.Below

/- The document's own Simple of every formed tree: a contract.
   Conditions: the tree lies in memory, is formed, and has at most 300000 nodes. -/
namespace Go.Proofs.Ytmpneklgldaggaa
open Go.RowKit

theorem refSim_any (N : Nat) : N ≤ 300000 → ∀ (t : V) (w : World) (R : Nat → Prop), szT (erase t) ≤ N → Laid w R t → okF t →
    Calls Try.prog 10 #[nodeAgg t] w (SimR (erase t) w) := by
  induction N with
  | zero => intro _ t w R h; have := sz_pos (erase t); omega
  | succ N ih =>
    intro hN t w R hz ht hok
    cases hv : vdV t with
    | true => exact refSim_void t w R ht hok (by omega) hv
    | false =>
      by_cases hk : t.kind < 2
      · exact refSim_leaf t w R ht hok (by omega) hv hk
      · refine refSim_big t w R ht hok (by omega) hv hk fun p hp W hW => ?_
        have h1 := sz_mem hp
        have h2 := sz_eq t
        exact ih (by omega) p W R (by omega) (laid_low (laid_kidQ ht hp) hW) (hok.part hp)

end Go.Proofs.Ytmpneklgldaggaa

/- The walk of the statement CoreSimple: called with a tree it returns true and changes nothing that was there.
   Conditions: the tree lies in memory. -/
namespace Go.Proofs.Ytmpneklgldaggaa
open Go.RowKit Go.Shelf
attribute [local go_sem] nodeAgg

set_option maxHeartbeats 8000000 in
set_option maxRecDepth 100000 in
theorem simple4_walk (a : V) (w : World) (R : Nat → Prop) (ha : Laid w R a) :
    Calls Try.prog 3 #[nodeAgg a] w fun e w' => e = .returned (.bool true) ∧ Below w.heap.size w w' := by
  obtain ⟨sa, sc, hv0, _⟩ := laid_row' ha
  obtain ⟨sn, hsn⟩ : ∃ sn, sn = a.ps.length := ⟨_, rfl⟩
  rw [← hsn] at hv0
  obtain ⟨w2, hw2, hbw, hlt2, hbx⟩ := box_new w a (.slice sa sn sc)
  have HSa := Lib.hid (fun (W : World) (h : Below w.heap.size w W) => by
    have := size_any 100 (by omega) a W R (laid_low ha h)
    rw [nodeAgg_v hv0] at this
    exact this)
  have HFo := Lib.hid (fun (W : World) (h : Below w.heap.size w W) (hz : szT (erase a) ≤ 1000000) => by
    have := formed_ref 1000000 (Nat.le_refl _) a W R hz (laid_low ha h)
    rw [nodeAgg_v hv0] at this
    exact this)
  have HSb := Lib.hid (fun (W : World) (h : Below w.heap.size w W) (hz : szT (erase a) ≤ 300000) (hok : okT (erase a) = false) => by
    have := simple_bad a W R (laid_low ha h) hz hok
    rw [nodeAgg_v hv0, show nodeAgg zeroV = .agg #[.int .i64 0, .int .u64 0, .int .u64 0, .int .u64 0, .int .u64 0, .slice none 0 0, .int .i64 0, .int .i64 0] from rfl] at this
    exact this)
  have HSi := Lib.hid (fun (W : World) (h : Below w.heap.size w W) (hz : szT (erase a) ≤ 300000) (hok : okT (erase a) = true) => by
    have := simple_good a W R (laid_low ha h) hz hok
    rw [nodeAgg_v hv0] at this
    exact this)
  have HRs := Lib.hid (fun (W : World) (h : Below w.heap.size w W) (hz : szT (erase a) ≤ 300000) (hok : okT (erase a) = true) => by
    have := refSim_any 300000 (Nat.le_refl _) a W R hz (laid_low ha h) hok
    rw [nodeAgg_v hv0] at this
    exact this)
  have HS0 := Lib.hid (fun (W : World) => by
    have := same_ref 1000000 (Nat.le_refl _) zeroV zeroV W (fun _ => True) (fun _ => True) (by decide) (zeroV_laid _ _) (zeroV_laid _ _)
    rw [show nodeAgg zeroV = .agg #[.int .i64 0, .int .u64 0, .int .u64 0, .int .u64 0, .int .u64 0, .slice none 0 0, .int .i64 0, .int .i64 0] from rfl, like_self] at this
    exact this)
  have HBX := Lib.hid hbx
  have HBW := Lib.hid hbw
  rw [nodeAgg_v hv0]
  clear hbx ha hv0 hsn hlt2 hbw
  go_enter Try.func3, Try.ntmps3
  go_wp2_with fail
  clear hw2
  go_at_call 5
  refine (awake4_any _).mono ?_
  rintro e w3 ⟨rfl, hb3⟩
  obtain ⟨q0, q1, q2, q3, q4, q5, q6, q7⟩ := HBX.out w3 hb3
  have HB3 := Lib.hid hb3
  clear hb3
  go_wp2_with fail
  go_at_call 6
  refine (HSa.out _ (bhop HBW.out HB3.out)).mono ?_
  rintro e w4 ⟨rfl, hb4⟩
  have HB4 := Lib.hid (bhop HB3.out hb4)
  clear hb4 q0 q1 q2 q3 q4 q5 q6 q7
  obtain ⟨q0, q1, q2, q3, q4, q5, q6, q7⟩ := HBX.out w4 HB4.out
  by_cases hA : szT (erase a) ≤ 100
  · have hA2 : min (szT (erase a)) (100 + 1) = szT (erase a) := by omega
    rw [hA2]
    have g1 : ¬ (100 : Int) < ((szT (erase a) : Nat) : Int) := by omega
    have HA := Lib.hid hA
    clear hA hA2
    cases hok : okT (erase a) with
    | false =>
      have HK := Lib.hid hok
      clear hok
      go_wp2_with fail
      go_at_call 7
      refine (HSb.out w4 (bhop HBW.out HB4.out) (by have := HA.out; omega) HK.out).mono ?_
      rintro e w5 ⟨rfl, hb5⟩
      obtain ⟨w6, hw6⟩ : ∃ w6, w5.alloc (.cells #[.int .i64 0, .int .u64 0, .int .u64 0, .int .u64 0, .int .u64 0, .slice none 0 0, .int .i64 0, .int .i64 0] 27) = w6 := ⟨_, rfl⟩
      have hb6 : Below w5.heap.size w5 w6 := hw6 ▸ (Below.refl _ w5).alloc (Nat.le_refl _) _
      have hz6 : ZB8 w5.heap.size w6 := hw6 ▸ heap_alloc_new w5 _
      have HB6 := Lib.hid (bhop (bhop HB4.out hb5) hb6)
      have HZ6 := Lib.hid hz6
      clear hb5 hb6 hz6 q0 q1 q2 q3 q4 q5 q6 q7
      obtain ⟨q0, q1, q2, q3, q4, q5, q6, q7⟩ := HBX.out w6 HB6.out
      have HW6 := Lib.hid hw6
      clear hw6
      go_upto_region 4 with fail
      rw [HW6.out]
      go_wp2_with fail
      go_at_call 8
      refine (HFo.out w6 (bhop HBW.out HB6.out) (by have := HA.out; omega)).mono ?_
      rintro e w7 ⟨rfl, hb7⟩
      rw [HK.out]
      have hz7 : ZB8 w5.heap.size w7 := (hb7.block _ (Array.getElem?_eq_some_iff.1 HZ6.out).1).trans HZ6.out
      obtain ⟨⟨s0, s1, s2, s3, s4, s5, s6, s7⟩, f0, f1, f2, f3, f4, f5, f6, f7, hl⟩ := hz7.cells
      have HB7 := Lib.hid (bhop HB6.out hb7)
      clear hb7 hz7 q0 q1 q2 q3 q4 q5 q6 q7
      go_wp2_with fail
      go_at_call 9
      refine (HS0.out w7).mono ?_
      rintro e w8 ⟨rfl, hb8⟩
      have HB8 := Lib.hid (bhop HB7.out hb8)
      go_wp2_with fail
      go_ret
      exact ⟨rfl, bhop HBW.out HB8.out⟩
    | true =>
      have HK := Lib.hid hok
      clear hok
      go_wp2_with fail
      go_at_call 7
      refine (HSi.out w4 (bhop HBW.out HB4.out) (by have := HA.out; omega) HK.out).mono ?_
      rintro e w5 ⟨⟨r, rfl, her, hres⟩, hb5⟩
      have hlr := hres.laid
      obtain ⟨ra, rc, hrv, _⟩ := laid_row' hlr
      obtain ⟨rn, hrn⟩ : ∃ s, s = r.ps.length := ⟨_, rfl⟩
      rw [← hrn] at hrv
      rw [nodeAgg_v hrv]
      have HR := Lib.hid (And.intro her (And.intro hlr hrv))
      have HB5 := Lib.hid (bhop HB4.out hb5)
      clear her hres hlr hrv hrn hb5 q0 q1 q2 q3 q4 q5 q6 q7
      obtain ⟨w6, hw6, hb6, hlt6, hbx6⟩ := box_new w5 r (.slice ra rn rc)
      have HXr := Lib.hid hbx6
      have HB6 := Lib.hid (bhop HB5.out hb6)
      have HLr := Lib.hid (laid_low HR.out.2.1 hb6)
      clear hb6 hlt6 hbx6
      obtain ⟨q0, q1, q2, q3, q4, q5, q6, q7⟩ := HBX.out w6 HB6.out
      go_upto_region 4 with fail
      clear hw6
      go_wp2_with fail
      go_at_call 8
      refine (HFo.out w6 (bhop HBW.out HB6.out) (by have := HA.out; omega)).mono ?_
      rintro e w7 ⟨rfl, hb7⟩
      rw [HK.out]
      have HB67 := Lib.hid hb7
      have HB7 := Lib.hid (bhop HB6.out hb7)
      clear hb7 q0 q1 q2 q3 q4 q5 q6 q7
      obtain ⟨q0, q1, q2, q3, q4, q5, q6, q7⟩ := HBX.out w7 HB7.out
      have HSm : ∀ (s : V) (ya : Option Addr) (yn yc : Nat) (wq : World) (Q : Nat → Prop), erase s = simT (erase a) → Laid wq Q s → s.v = .slice ya yn yc → Below w7.heap.size w7 wq → Calls Try.prog 9 #[.agg #[.int .i64 r.kind, .int .u64 (r.set 0 : Nat), .int .u64 (r.set 1 : Nat), .int .u64 (r.set 2 : Nat), .int .u64 (r.set 3 : Nat), .slice ra rn rc, .int .i64 r.lo, .int .i64 r.hi], .agg #[.int .i64 s.kind, .int .u64 (s.set 0 : Nat), .int .u64 (s.set 1 : Nat), .int .u64 (s.set 2 : Nat), .int .u64 (s.set 3 : Nat), .slice ya yn yc, .int .i64 s.lo, .int .i64 s.hi]] wq fun e w' => e = .returned (.bool true) ∧ Below wq.heap.size wq w' := fun s ya yn yc wq Q hes hls hsv hW => by
        have := same_ref 1000000 (Nat.le_refl _) r s wq _ _ (by rw [HR.out.1]; have := sim_sz (erase a); have := HA.out; omega) (laid_low HLr.out (bhop HB67.out hW)) hls
        rw [nodeAgg_v HR.out.2.2, nodeAgg_v hsv, HR.out.1, hes, like_self] at this
        exact this
      obtain ⟨x0, x1, x2, x3, x4, x5, x6, x7⟩ := HXr.out w7 HB67.out
      go_wp2_with fail
      go_region_with (first
        | (go_at_call 10; refine (HRs.out _ (bhop HBW.out (bhop HB7.out (by first | exact Below.refl _ _ | exact (Below.refl _ _).drew | exact below_drewN (Below.refl _ _) _))) (by have := HA.out; omega) HK.out).mono ?_; rintro e w8 ⟨⟨s, rfl, hes, hls⟩, hb8⟩; replace hb8 : Below w7.heap.size w7 w8 := (by first | exact hb8 | exact bhop (Below.refl _ _).drew hb8 | exact bhop (below_drewN (Below.refl _ _) _) hb8); obtain ⟨ya, yn, yc, hsv⟩ := hls.slice; rw [nodeAgg_v hsv]; have HS8 := Lib.hid (And.intro hes (And.intro (hls.mono (R' := fun _ => True) fun _ _ _ => trivial) (And.intro hsv hb8))); clear hes hls hsv hb8; clear x0 x1 x2 x3 x4 x5 x6 x7; obtain ⟨x0, x1, x2, x3, x4, x5, x6, x7⟩ := HXr.out w8 (bhop HB67.out HS8.out.2.2.2))
        | (go_at_call 9; refine (HSm s ya yn yc _ _ HS8.out.1 (laid_low HS8.out.2.1 (by first | exact Below.refl _ _ | exact (Below.refl _ _).drew | exact below_drewN (Below.refl _ _) _)) HS8.out.2.2.1 (bhop HS8.out.2.2.2 (by first | exact Below.refl _ _ | exact (Below.refl _ _).drew | exact below_drewN (Below.refl _ _) _))).mono ?_; rintro e w9 ⟨rfl, hb9⟩; have HB9 := Lib.hid (show Below w7.heap.size w7 w9 from bhop HS8.out.2.2.2 (by first | exact hb9 | exact bhop (Below.refl _ _).drew hb9 | exact bhop (below_drewN (Below.refl _ _) _) hb9)); clear hb9))
      all_goals
        go_wp2_with fail
        go_ret
        exact ⟨rfl, bhop HBW.out (bhop HB7.out (by first | exact HB9.out | exact HB9.out.drew | exact below_drewN HB9.out _))⟩
  · have hA2 : min (szT (erase a)) (100 + 1) = 101 := by omega
    rw [hA2]
    clear hA hA2 q0 q1 q2 q3 q4 q5 q6 q7
    go_wp2_with fail
    go_at_call 5
    refine (awake4_any _).mono ?_
    rintro e w5 ⟨rfl, hb5⟩
    have HB5 := Lib.hid (bhop HB4.out hb5)
    go_wp2_with fail
    go_ret
    exact ⟨rfl, bhop HBW.out HB5.out⟩

end Go.Proofs.Ytmpneklgldaggaa

/- Of every tree the statement CoreSimple returns true, and it reads afterwards as before.
   No condition. -/
namespace Go.Proofs.Ytmpneklgldaggaa
open Go.ChangeShapes Go.WideShapes Go.ChangeAt Go.RowKit

theorem trOwn : ownKnob Try.prog.godebug = none := by kernel_rfl
theorem trLaidOut : laidOutB Try.prog = true := by kernel_rfl
theorem nodeAgg_ndc (t : V) : nodeAgg t = .agg (ndc t).toArray := rfl

set_option maxRecDepth 100000 in
theorem coreSimple_lifted (os : Os) (started : os.Started) (H : Type) (enc : TypeId × Value → H) :
    ReturnsInHanded {} Try.checked os 3 .any (Rows.coreSimpleSpec.pre6 enc Try.prog Try.f3 Rows.coreSimpleRow.domain false) (Rows.coreSimpleSpec.post enc Try.prog Try.f3 false true false false) := by
  refine returnsInHanded_of_change (C := Try.checked) trOwn started (by kernel_rfl) Try.func3
    (ChangeSpec.witness6 (enc := enc) (C := Try.checked) false ⟨#[], #[.agg #[.int .i64 0, .int .u64 0, .int .u64 0, .int .u64 0, .int .u64 0, .slice none 0 0, .int .i64 0, .int .i64 0]], []⟩ 8 (by kernel_rfl) (by kernel_rfl) (by kernel_rfl) (by kernel_rfl)) ?_
  intro W base args ds gs before hval0 hW hcnd _
  have hval : ∀ (j : Nat) t v, Try.f3.params[j]? = some t → args[j]? = some v → Value.okWide Try.prog W .any base t v := hval0
  have hW' := hW
  obtain ⟨p, q, hA0, hV, rfl, hfz, hnd⟩ := hW
  have hA : DataW.TrodAll enc Try.prog W 0 (fun _ => true) true Try.f3.params.toList args.toList ds p := hA0
  rw [Try.params3] at hA hval
  obtain ⟨v0, vs0, d0, ds0, p0, q0, hargs, rfl, rfl, h0, r0⟩ := trodAll_cons hA
  obtain ⟨rfl, rfl, rfl⟩ := trodAll_nil r0
  obtain rfl : args = #[v0] := by cases args; simp_all
  obtain ⟨rfl, rfl⟩ := trodVars_none hV
  have k0 := h0
  have lt0 : ∀ x ∈ p0, x.block < W.heap.size := by obtain ⟨m, hm⟩ := k0; exact DataW.trod_lt m _ _ _ hm
  obtain ⟨t0, rfl, l0, _⟩ := open_tree (hval 0 27 v0 rfl rfl) h0
  clear hA0 hval0
  rw [← nodeAgg_ndc] at *
  refine (simple4_walk t0 W _ l0).mono fun e W' ⟨he, bel⟩ => ?_
  subst he
  exact ⟨_, rfl, _, _, _, [], _, [], hW', trodAll_mk1 (shut_bool Try.underlying4 _), (trodAll_cons_mk (Below.trod trLaidOut (by kernel_rfl) (of_decide_eq_true (by kernel_rfl)) k0 bel lt0) trodAll_mk0), rfl, bel.frame _, fun h => by cases h⟩

theorem coreSimple_holds : Rows.CoreSimpleSaid :=
  OpenClaim.holds_of_wide 3 Try.f3 rfl rfl rfl rfl rfl rfl rfl ⟨rfl, rfl, rfl, rfl, rfl⟩ rfl rfl rfl rfl rfl (by kernel_rfl) Try.func3 (by kernel_rfl)
    (of_decide_eq_true (by kernel_rfl)) (by unfold Func.isWrapper; rw [if_neg (of_decide_eq_false (by kernel_rfl))]; exact ⟨rfl, rfl⟩)
    (fun os started H enc _ => coreSimple_lifted os started H enc)
#print axioms coreSimple_holds

end Go.Proofs.Ytmpneklgldaggaa
