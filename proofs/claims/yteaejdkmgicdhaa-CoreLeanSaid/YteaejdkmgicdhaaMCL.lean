/- Of every tree the statement CoreLean returns true, and it reads afterwards as before.
   No condition. -/
import Derived.Test.YteaejdkmgicdhaaMLean
import Derived.Test.YteaejdkmgicdhaaMWk
import Derived.Test.YteaejdkmgicdhaaMForm
import Derived.Test.YteaejdkmgicdhaaMRefF
import Derived.Deep.DeepCutAuto
import Derived.ProofKit
import Derived.OpenShut
import Derived.ChangeOld
import Derived.Below

/- The walk of the statement CoreLean: called with a tree it returns true and changes nothing that was there.
   Conditions: the tree lies in memory. -/
namespace Go.Proofs.Yteaejdkmgicdhaa
open Go.RowKit Go.Shelf
attribute [local go_sem] nodeAgg

set_option maxHeartbeats 8000000 in
set_option maxRecDepth 100000 in
theorem lean4_walk (a : V) (w : World) (R : Nat → Prop) (ha : Laid w R a) :
    Calls Try.prog 7 #[nodeAgg a] w fun e w' => e = .returned (.bool true) ∧ Below w.heap.size w w' := by
  obtain ⟨sa, sc, hv0, _⟩ := laid_row' ha
  obtain ⟨sn, hsn⟩ : ∃ sn, sn = a.ps.length := ⟨_, rfl⟩
  rw [← hsn] at hv0
  obtain ⟨w2, hw2, hbw, hlt2, hbx⟩ := box_new w a (.slice sa sn sc)
  have HSa := Lib.hid (fun (W : World) (h : Below w.heap.size w W) => by
    have := size_any 100 (by omega) a W R (laid_low ha h)
    rw [nodeAgg_v hv0] at this
    exact this)
  have HFo := Lib.hid (fun (W : World) (h : Below w.heap.size w W) (hz : szT (erase a) ≤ 1000000) => by
    have := formed_ref 1000000 (Nat.le_refl _) a W R hz (laid_low ha h)
    rw [nodeAgg_v hv0] at this
    exact this)
  have HSi := Lib.hid (fun (W : World) (h : Below w.heap.size w W) (hz : szT (erase a) ≤ 300000) (hok : okT (erase a) = true) => by
    have := simple_good a W R (laid_low ha h) hz hok
    rw [nodeAgg_v hv0] at this
    exact this)
  have HBX := Lib.hid hbx
  have HBW := Lib.hid (And.intro hbw hlt2)
  rw [nodeAgg_v hv0]
  clear hbx ha hv0 hsn hlt2
  go_enter Try.func7, Try.ntmps7
  go_wp2_with fail
  clear hw2 hbw
  go_at_call 12
  refine (awake4_any _).mono ?_
  rintro e w3 ⟨rfl, hb3⟩
  obtain ⟨x0, x1, x2, x3, x4, x5, x6, x7⟩ := HBX.out w3 hb3
  have HB3 := Lib.hid hb3
  clear hb3
  go_wp2_with fail
  go_at_call 13
  refine (HSa.out _ (bhop HBW.out.1 HB3.out)).mono ?_
  rintro e w4 ⟨rfl, hb4⟩
  have HB4 := Lib.hid (bhop HB3.out hb4)
  clear hb4 x0 x1 x2 x3 x4 x5 x6 x7
  obtain ⟨x0, x1, x2, x3, x4, x5, x6, x7⟩ := HBX.out w4 HB4.out
  by_cases hA : szT (erase a) ≤ 100
  · have hA2 : min (szT (erase a)) (100 + 1) = szT (erase a) := by omega
    rw [hA2]
    have g1 : ¬ (100 : Int) < ((szT (erase a) : Nat) : Int) := by omega
    have HA := Lib.hid hA
    clear hA hA2
    go_wp2_with fail
    go_at_call 14
    refine (HFo.out _ (bhop HBW.out.1 HB4.out) (by have := HA.out; omega)).mono ?_
    rintro e w5 ⟨rfl, hb5⟩
    have HB5 := Lib.hid (bhop HB4.out hb5)
    clear hb5 x0 x1 x2 x3 x4 x5 x6 x7
    obtain ⟨x0, x1, x2, x3, x4, x5, x6, x7⟩ := HBX.out w5 HB5.out
    cases hok : okT (erase a) with
    | false =>
      clear hok x0 x1 x2 x3 x4 x5 x6 x7
      go_wp2_with fail
      go_at_call 12
      refine (awake4_any _).mono ?_
      rintro e w6 ⟨rfl, hb6⟩
      have HB6 := Lib.hid (bhop HB5.out hb6)
      go_wp2_with fail
      go_ret
      exact ⟨rfl, bhop HBW.out.1 HB6.out⟩
    | true =>
      have HK := Lib.hid hok
      clear hok
      go_wp2_with fail
      go_at_call 15
      refine (HSi.out _ (bhop HBW.out.1 HB5.out) (by have := HA.out; omega) HK.out).mono ?_
      rintro e w6 ⟨⟨r, rfl, herr, hresr⟩, hb⟩
      have hlr := hresr.laid
      obtain ⟨sar, scr, hvr, _⟩ := laid_row' hlr
      obtain ⟨snr, hsnr⟩ : ∃ s, s = r.ps.length := ⟨_, rfl⟩
      rw [← hsnr] at hvr
      rw [nodeAgg_v hvr]
      have HB6 := Lib.hid (bhop HB5.out hb)
      have HRr := Lib.hid (And.intro herr (And.intro hlr hvr))
      clear hb herr hresr hlr hvr hsnr x0 x1 x2 x3 x4 x5 x6 x7
      obtain ⟨w7, hw7, hb7, hlt7, hbx7⟩ := box_new w6 r (.slice sar snr scr)
      have HX7 := Lib.hid hbx7
      have HB7 := Lib.hid (And.intro (bhop HB6.out hb7) (laid_low HRr.out.2.1 hb7))
      obtain ⟨z0, z1, z2, z3, z4, z5, z6, z7⟩ := hbx7 w7 (Below.refl _ _)
      clear hb7 hlt7 hbx7
      have hsz6 : szT (erase r) ≤ 100 := by rw [HRr.out.1]; exact Nat.le_trans (sim_sz _) HA.out
      have HVr := Lib.hid (fun (W : World) (h : Below w7.heap.size w7 W) => by
        have := void_any r W _ (laid_low HB7.out.2 h) (by omega)
        rw [nodeAgg_v HRr.out.2.2] at this
        exact this)
      have HSZ := Lib.hid hsz6
      clear hsz6
      cases hvd : vdT (erase a) with
      | true =>
        have her : erase r = emptyT := HRr.out.1.trans (sim_void hvd)
        have hk1 : r.kind = 1 := by rw [← erase_kind, her]; rfl
        have hvt : (okT (erase r) && vdV r) = true := by rw [show vdV r = vdT (erase r) from rfl, her]; decide
        rw [hvt] at HVr
        have HK1 := Lib.hid hk1
        clear hvd her hvt hk1
        go_upto_region 4 with fail
        clear hw7
        go_wp2_with fail
        go_at_call 17
        refine (HVr.out _ (Below.refl _ _)).mono ?_
        rintro e w8 ⟨rfl, hb8⟩
        have HB8 := Lib.hid (bhop HB7.out.1 hb8)
        clear z0 z1 z2 z3 z4 z5 z6 z7
        obtain ⟨z0, z1, z2, z3, z4, z5, z6, z7⟩ := HX7.out w8 hb8
        rw [HK1.out] at z0
        clear hb8
        go_wp2_with fail
        go_ret
        exact ⟨rfl, bhop HBW.out.1 HB8.out⟩
      | false =>
        have hth : Thin (erase r) := by rw [HRr.out.1]; exact sim_thin HK.out hvd
        have hvt : (okT (erase r) && vdV r) = false := by rw [show vdV r = vdT (erase r) from rfl, ln_vd hth.ln, Bool.and_false]
        rw [hvt] at HVr
        have HTh := Lib.hid (fun (W : World) (h : Below w7.heap.size w7 W) => by
          have := thin_any 90000 (Nat.le_refl _) r W _ (by have := HSZ.out; omega) (laid_low HB7.out.2 h) hth
          rw [nodeAgg_v HRr.out.2.2] at this
          exact this)
        clear hvd hth hvt
        go_upto_region 4 with fail
        clear hw7
        go_wp2_with fail
        go_at_call 17
        refine (HVr.out _ (Below.refl _ _)).mono ?_
        rintro e w8 ⟨rfl, hb8⟩
        have HB8 := Lib.hid (And.intro (bhop HB7.out.1 hb8) hb8)
        clear z0 z1 z2 z3 z4 z5 z6 z7
        obtain ⟨z0, z1, z2, z3, z4, z5, z6, z7⟩ := HX7.out w8 hb8
        clear hb8
        go_wp2_with fail
        go_at_call 23
        refine (HTh.out _ HB8.out.2).mono ?_
        rintro e w9 ⟨rfl, hb9⟩
        have HB9 := Lib.hid (bhop HB8.out.1 hb9)
        clear hb9
        go_wp2_with fail
        go_ret
        exact ⟨rfl, bhop HBW.out.1 HB9.out⟩
  · have hA2 : min (szT (erase a)) (100 + 1) = 101 := by omega
    rw [hA2]
    clear hA hA2 x0 x1 x2 x3 x4 x5 x6 x7
    go_wp2_with fail
    go_at_call 12
    refine (awake4_any _).mono ?_
    rintro e w5 ⟨rfl, hb5⟩
    have HB5 := Lib.hid (bhop HB4.out hb5)
    go_wp2_with fail
    go_ret
    exact ⟨rfl, bhop HBW.out.1 HB5.out⟩

end Go.Proofs.Yteaejdkmgicdhaa

/- Of every tree the statement CoreLean returns true, and it reads afterwards as before.
   No condition. -/
namespace Go.Proofs.Yteaejdkmgicdhaa
open Go.ChangeShapes Go.WideShapes Go.ChangeAt Go.RowKit

theorem trOwn : ownKnob Try.prog.godebug = none := by kernel_rfl
theorem trLaidOut : laidOutB Try.prog = true := by kernel_rfl
theorem nodeAgg_ndc (t : V) : nodeAgg t = .agg (ndc t).toArray := rfl

set_option maxRecDepth 100000 in
theorem coreLean_lifted (os : Os) (started : os.Started) (H : Type) (enc : TypeId × Value → H) :
    ReturnsInHanded {} Try.checked os 7 .any (Rows.coreLeanSpec.pre6 enc Try.prog Try.f7 Rows.coreLeanRow.domain false) (Rows.coreLeanSpec.post enc Try.prog Try.f7 false true false false) := by
  refine returnsInHanded_of_change (C := Try.checked) trOwn started (by kernel_rfl) Try.func7
    (ChangeSpec.witness6 (enc := enc) (C := Try.checked) false ⟨#[], #[.agg #[.int .i64 0, .int .u64 0, .int .u64 0, .int .u64 0, .int .u64 0, .slice none 0 0, .int .i64 0, .int .i64 0]], []⟩ 8 (by kernel_rfl) (by kernel_rfl) (by kernel_rfl) (by kernel_rfl)) ?_
  intro W base args ds gs before hval0 hW hcnd _
  have hval : ∀ (j : Nat) t v, Try.f7.params[j]? = some t → args[j]? = some v → Value.okWide Try.prog W .any base t v := hval0
  have hW' := hW
  obtain ⟨p, q, hA0, hV, rfl, hfz, hnd⟩ := hW
  have hA : DataW.TrodAll enc Try.prog W 0 (fun _ => true) true Try.f7.params.toList args.toList ds p := hA0
  rw [Try.params7] at hA hval
  obtain ⟨v0, vs0, d0, ds0, p0, q0, hargs, rfl, rfl, h0, r0⟩ := trodAll_cons hA
  obtain ⟨rfl, rfl, rfl⟩ := trodAll_nil r0
  obtain rfl : args = #[v0] := by cases args; simp_all
  obtain ⟨rfl, rfl⟩ := trodVars_none hV
  have k0 := h0
  have lt0 : ∀ x ∈ p0, x.block < W.heap.size := by obtain ⟨m, hm⟩ := k0; exact DataW.trod_lt m _ _ _ hm
  obtain ⟨t0, rfl, l0, _⟩ := open_tree (hval 0 27 v0 rfl rfl) h0
  clear hA0 hval0
  rw [← nodeAgg_ndc] at *
  refine (lean4_walk t0 W _ l0).mono fun e W' ⟨he, bel⟩ => ?_
  subst he
  exact ⟨_, rfl, _, _, _, [], _, [], hW', trodAll_mk1 (shut_bool Try.underlying4 _), (trodAll_cons_mk (Below.trod trLaidOut (by kernel_rfl) (of_decide_eq_true (by kernel_rfl)) k0 bel lt0) trodAll_mk0), rfl, bel.frame _, fun h => by cases h⟩

theorem coreLean_holds : Rows.CoreLeanSaid :=
  OpenClaim.holds_of_wide 7 Try.f7 rfl rfl rfl rfl rfl rfl rfl ⟨rfl, rfl, rfl, rfl, rfl⟩ rfl rfl rfl rfl rfl (by kernel_rfl) Try.func7 (by kernel_rfl)
    (of_decide_eq_true (by kernel_rfl)) (by unfold Func.isWrapper; rw [if_neg (of_decide_eq_false (by kernel_rfl))]; exact ⟨rfl, rfl⟩)
    (fun os started H enc _ => coreLean_lifted os started H enc)
#print axioms coreLean_holds

end Go.Proofs.Yteaejdkmgicdhaa
