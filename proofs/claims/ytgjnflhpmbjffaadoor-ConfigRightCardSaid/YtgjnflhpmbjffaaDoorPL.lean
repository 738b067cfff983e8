/- Of every tree, config and truth the statement ConfigRight returns true, and they read afterwards as before; the card: what its row lists is tied to the program's text.
   No condition. -/
import Derived.Test.YtgjnflhpmbjffaaDoorPZ
import Derived.Test.YtgjnflhpmbjffaaDoorPJ
import Derived.Test.YtgjnflhpmbjffaaDoorPM
import Derived.Test.YtgjnflhpmbjffaaDoorPG
import Derived.Test.YtgjnflhpmbjffaaDoorMRef
import Derived.Test.YtgjnflhpmbjffaaDoorCards
import Derived.Test.YtgjnflhpmbjffaaDoorTie
import Derived.ProofKit
import Derived.LaidMore
import Derived.OpenShut
import Derived.ChangeOld
import Derived.Below
import Derived.SevenTiedAt

/- The walk of the statement ConfigRight: called with a tree, a config and a truth it returns true and changes nothing that was there.
   Conditions: the tree lies in memory, and the library's table. -/
namespace Go.Proofs.YtgjnflhpmbjffaaDoor
open Go.RowKit Go.Shelf
attribute [local go_sem] nodeAgg
theorem AuL.cfg {w w' : World} {B cb : Nat} {m : PM} {a : Au} {fl : List Nat} {la : Nat} (h : AuL w B m a fl la) (hc : Chg (fun k => k = cb) w w') (hcb : TyB w cb 61) : AuL w' B m a fl la :=
 ⟨h.lists.keep hc fun x ty q _ hty => by subst q; rw [hty.eq hcb]; decide, h.wf, h.first.keep hc fun x q _ hty => by subst q; have := hty.eq hcb; revert this; decide, h.fin, own_chg h.last hc fun b hb q => by
  subst q
  have := (own_ty h.last hb).eq hcb
  revert this
  decide, h.sets, h.ars, h.one, h.most⟩
set_option maxHeartbeats 8000000 in
set_option maxRecDepth 100000 in
theorem right7_walk (t : V) (p : Int) (x : Nat → Int) (sb : Bool) (w : World) (R : Nat → Prop) (ht : Laid w R t) (hT : TabE w) (hTl : tabE < w.heap.size) :
  Calls Tryd.prog 5 #[nodeAgg t, .agg #[.int .i64 p, .int .i64 (x 0), .int .i64 (x 1), .int .i64 (x 2), .int .i64 (x 3)], .bool sb] w fun e w' => e = .returned (.bool true) ∧ Below w.heap.size w w' := by
 obtain ⟨sa, sc, hv0, _⟩ := laid_row' ht
 obtain ⟨sn, hsn⟩ : ∃ sn, sn = t.ps.length := ⟨_, rfl⟩
 rw [← hsn] at hv0
 obtain ⟨w0, hw0, hb0, hlt0, hbx⟩ := box_new w t (.slice sa sn sc)
 obtain ⟨w1, hw1, hb1, hc1⟩ := cf_box w0 p x
 have hs0 : w0.heap.size = w.heap.size + 1 := by rw [← hw0]; simp
 rw [hs0] at hc1
 have hw01 : (w.alloc (.cells #[.int .i64 t.kind, .int .u64 (t.set 0 : Nat), .int .u64 (t.set 1 : Nat), .int .u64 (t.set 2 : Nat), .int .u64 (t.set 3 : Nat), .slice sa sn sc, .int .i64 t.lo, .int .i64 t.hi] 27)).alloc (.cells #[.int .i64 p, .int .i64 (x 0), .int .i64 (x 1), .int .i64 (x 2), .int .i64 (x 3)] 61) = w1 := by rw [hw0]; exact hw1
 have HB := Lib.hid (bhop hb0 hb1)
 have HTT := Lib.hid (fun (W : World) (h : Below w1.heap.size w1 W) => show TabE W ∧ tabE < W.heap.size from ⟨tab_below hT hTl (bhop HB.out h), Nat.lt_of_lt_of_le hTl (bhop HB.out h).size⟩)
 have HBX := Lib.hid (fun (W : World) (h : Below w1.heap.size w1 W) => hbx W (bhop hb1 h))
 have HCX := Lib.hid (fun (W : World) (h : Below w1.heap.size w1 W) => hc1.below h)
 have HAU := Lib.hid (fun (W : World) (h : Below w1.heap.size w1 W) => by
  have := auto_any t W R (laid_low ht (bhop HB.out h)) (HTT.out W h).1 (HTT.out W h).2
  rw [nodeAgg_v hv0] at this
  exact this)
 rw [nodeAgg_v hv0]
 clear hbx ht hv0 hsn hlt0 hb0 hb1 hc1 hs0 hw0 hw1 hT hTl
 go_enter Tryd.func5, Tryd.ntmps5
 go_upto_region 1 with fail
 clear hw01
 go_wp2_with fail
 go_at_call 17
 refine (awake7_any _ (HTT.out _ (Below.refl _ _)).1 (HTT.out _ (Below.refl _ _)).2).mono ?_
 rintro e w2 ⟨rfl, hb2⟩
 have HB2 := Lib.hid hb2
 clear hb2
 obtain ⟨q0, q1, q2, q3, q4, q5, q6, q7⟩ := HBX.out w2 HB2.out
 have HF := Lib.hid (HAU.out w2 HB2.out)
 go_wp2_with fail
 go_at_call 18
 refine Calls.mono HF.out ?_
 rintro e w3 ⟨hh, hb3⟩
 have HB3 := Lib.hid (bhop HB2.out hb3)
 clear q0 q1 q2 q3 q4 q5 q6 q7
 rcases hh with ⟨rfl, _⟩ | ⟨B, a, m, L, hG, rfl⟩
 ·clear hb3
  go_wp2_with fail
  go_ret
  exact ⟨rfl, (bhop HB.out HB3.out).alloc (bhop HB.out HB3.out).size _⟩
 ·obtain ⟨w4, hw4, hb4, ha4⟩ := au_box w3 a
  have hau := hG.au
  generalize bitsL (mvT (simT (erase t)) 0 0).1.fi = fl at hau
  generalize (mvT (simT (erase t)) 0 0).1.la = la at hau
  have HB4 := Lib.hid (bhop HB3.out hb4)
  have HA4 := Lib.hid (And.intro ha4 (hau.below hb4))
  obtain ⟨z0, z1, z2, z3, z4, z5, z6, z7, z8, z9, z10, z11, z12, z13, z14⟩ := ha4.all
  obtain ⟨d0, d1, d2, d3, d4⟩ := (HCX.out w4 HB4.out).five
  have HN := Lib.hid (near_any w4 (hau.below hb4) p x sb)
  obtain ⟨ab, hab⟩ : ∃ ab, ab = w3.heap.size := ⟨_, rfl⟩
  have habl : w.heap.size + 1 < ab := by rw [hab]; exact (HCX.out w3 HB3.out).lt
  have HAB := Lib.hid habl
  clear hG hau hb3 hb4 ha4 habl
  rw [← hab] at HA4 z0 z1 z2 z3 z4 z5 z6 z7 z8 z9 z10 z11 z12 z13 z14
  go_upto_region 4 with fail
  clear hw4
  rw [← hab]
  clear hab
  go_wp2_with fail
  go_at_call 19
  refine HN.out.mono ?_
  rintro e w5 ⟨⟨p', x', rfl⟩, hb5⟩
  have HB5 := Lib.hid (bhop HB4.out hb5)
  have HA5 := Lib.hid (And.intro (HA4.out.1.below hb5) (HA4.out.2.below hb5))
  clear hb5 z0 z1 z2 z3 z4 z5 z6 z7 z8 z9 z10 z11 z12 z13 z14 d0 d1 d2 d3 d4
  have hcx := HCX.out w5 HB5.out
  have HC5 := Lib.hid hcx
  obtain ⟨d0, d1, d2, d3, d4⟩ := hcx.five
  have zf := hcx.cell.2.2
  have zl := hcx.lt
  have zg0 := zf 0; have zg1 := zf 1; have zg2 := zf 2; have zg3 := zf 3; have zg4 := zf 4
  clear hcx zf
  go_upto_region 7 with fail
  have hf := set5_heap HC5.out p' x'
  have hch := set5_chg w5 (w.heap.size + 1) (.int .i64 p') (.int .i64 (x' 0)) (.int .i64 (x' 1)) (.int .i64 (x' 2)) (.int .i64 (x' 3))
  generalize (((((w5.setCell ⟨w.heap.size + 1, 0, none⟩ (.int .i64 p')).setCell ⟨w.heap.size + 1, 1, none⟩ (.int .i64 (x' 0))).setCell ⟨w.heap.size + 1, 2, none⟩ (.int .i64 (x' 1))).setCell ⟨w.heap.size + 1, 3, none⟩ (.int .i64 (x' 2))).setCell ⟨w.heap.size + 1, 4, none⟩ (.int .i64 (x' 3))) = w6 at *
  have HB6 := Lib.hid (show Below w.heap.size w w6 from (bhop HB.out HB5.out).trans (hch.below (bhop HB.out HB5.out).size fun k hk e => by omega))
  have hA6 : AuB w6 ab a := ⟨(hch.block ab HA5.out.1.lt (by have := HAB.out; show ¬ ab = _; omega)).trans HA5.out.1.blk⟩
  have hL6 := HA5.out.2.cfg hch ⟨_, _, HC5.out⟩
  have HG := Lib.hid (fun (W : World) (h : Below w6.heap.size w6 W) => show AuB W ab a ∧ AuL W B m a fl la ∧ CfB W (w.heap.size + 1) p' x' from ⟨hA6.below h, hL6.below h, hf.below h⟩)
  clear hf hch hA6 hL6 d0 d1 d2 d3 d4 zg0 zg1 zg2 zg3 zg4 zl
  obtain ⟨z0, z1, z2, z3, z4, z5, z6, z7, z8, z9, z10, z11, z12, z13, z14⟩ := (HG.out w6 (Below.refl _ _)).1.all
  obtain ⟨d0, d1, d2, d3, d4⟩ := (HG.out w6 (Below.refl _ _)).2.2.five
  have HRR := Lib.hid (refRight_any w6 (HG.out w6 (Below.refl _ _)).2.1 p' x')
  go_wp2_with fail
  go_at_call 20
  refine HRR.out.mono ?_
  rintro e w7 ⟨rfl, hb7⟩
  have HB7 := Lib.hid hb7
  clear hb7 z0 z1 z2 z3 z4 z5 z6 z7 z8 z9 z10 z11 z12 z13 z14 d0 d1 d2 d3 d4
  obtain ⟨z0, z1, z2, z3, z4, z5, z6, z7, z8, z9, z10, z11, z12, z13, z14⟩ := (HG.out w7 HB7.out).1.all
  obtain ⟨d0, d1, d2, d3, d4⟩ := (HG.out w7 HB7.out).2.2.five
  have HPR := Lib.hid (right_any w7 (HG.out w7 HB7.out).2.1 p' x')
  go_wp2_with fail
  go_at_call 21
  refine HPR.out.mono ?_
  rintro e w8 ⟨rfl, hb8⟩
  have HB8 := Lib.hid (bhop HB7.out hb8)
  clear hb8 z0 z1 z2 z3 z4 z5 z6 z7 z8 z9 z10 z11 z12 z13 z14 d0 d1 d2 d3 d4
  obtain ⟨z0, z1, z2, z3, z4, z5, z6, z7, z8, z9, z10, z11, z12, z13, z14⟩ := (HG.out w8 HB8.out).1.all
  obtain ⟨d0, d1, d2, d3, d4⟩ := (HG.out w8 HB8.out).2.2.five
  have HPA := Lib.hid (accepts_any w8 (HG.out w8 HB8.out).2.1 p' x')
  cases hr : rightB m p' x' with
  | false =>
   have HAC := Lib.hid (acc_not (la := la) hr)
   clear hr
   go_wp2_with fail
   go_at_call 22
   refine HPA.out.mono ?_
   rintro e w9 ⟨rfl, hb9⟩
   rw [HAC.out]
   have HB9 := Lib.hid (bhop HB8.out hb9)
   clear hb9
   go_wp2_with fail
   go_ret
   exact ⟨rfl, bhop HB6.out HB9.out⟩
  | true =>
   obtain ⟨q, rfl, hq1, hq2⟩ := right_pos hr
   have hL8 := (HG.out w8 HB8.out).2.1
   rw [hL8.ars] at hq2
   obtain ⟨l, hl, _, _⟩ := hL8.at hq2
   have HAC := Lib.hid ((acc_at (la := la) hr hl).trans (Bool.and_comm _ _))
   have HLQ := Lib.hid hl
   clear hr hl hL8 hq1 hq2
   go_wp2_with fail
   go_at_call 22
   refine HPA.out.mono ?_
   rintro e w9 ⟨rfl, hb9⟩
   rw [HAC.out]
   have HB9 := Lib.hid (bhop HB8.out hb9)
   clear hb9 z0 z1 z2 z3 z4 z5 z6 z7 z8 z9 z10 z11 z12 z13 z14 d0 d1 d2 d3 d4
   obtain ⟨z0, z1, z2, z3, z4, z5, z6, z7, z8, z9, z10, z11, z12, z13, z14⟩ := (HG.out w9 HB9.out).1.all
   obtain ⟨d0, d1, d2, d3, d4⟩ := (HG.out w9 HB9.out).2.2.five
   have HRA := Lib.hid (refAccepts_any w9 (HG.out w9 HB9.out).2.1 HLQ.out x')
   obtain ⟨ac, hac⟩ : ∃ ac, ac = (leftB m l x' 0 && la.testBit q) := ⟨_, rfl⟩
   rw [← hac] at HRA ⊢
   clear hac
   go_wp2_with fail
   go_at_call 23
   refine HRA.out.mono ?_
   rintro e wa ⟨rfl, hba⟩
   have HBa := Lib.hid (bhop HB9.out hba)
   clear hba
   cases ac with
   | false =>
    go_wp2_with fail
    go_ret
    exact ⟨rfl, bhop HB6.out HBa.out⟩
   | true =>
    go_wp2_with fail
    go_ret
    exact ⟨rfl, bhop HB6.out HBa.out⟩
end Go.Proofs.YtgjnflhpmbjffaaDoor

/- Of every tree, config and truth the statement ConfigRight returns true, and they read afterwards as before; the card: what its row lists is tied to the program's text.
   No condition. -/
namespace Go.Proofs.YtgjnflhpmbjffaaDoor
open Go.ChangeShapes Go.WideShapes Go.ChangeAt Go.RowKit
theorem configRightOwn : ownKnob Tryd.prog.godebug = none := by kernel_rfl
theorem configRightLaidOut : laidOutB Tryd.prog = true := by kernel_rfl
theorem configRightAgg (t : V) : nodeAgg t = .agg (ndc t).toArray := rfl
def fnX (x0 x1 x2 x3 : Int) : Nat → Int
 | 0 => x0
 | 1 => x1
 | 2 => x2
 | _ => x3
theorem configRightDoor (os : Os) (args : Array Value) : laidMetH Tryd.prog Rows.configRightRow.laid ((World.doorLaid Tryd.prog 400 os).forCall (fun _ _ => 0) ⟨#[], args, []⟩).memory :=
 laidMetH_of_parts3 (fuel := 8) (laidMet_of_run' 8 (by kernel_rfl) (by kernel_rfl)) (by kernel_rfl) (by kernel_rfl)
set_option maxRecDepth 100000 in
theorem configRight_lifted (os : Os) (started : os.Started) (H : Type) (enc : TypeId × Value → H) :
  ReturnsInHanded {} Tryd.checked os 5 .any (fun w args => (Rows.configRightSpec.pre enc Tryd.prog Tryd.f5 Rows.configRightRow.domain false w args ∧ laidMetH Tryd.prog Rows.configRightRow.laid w) ∧ sizedMet enc Tryd.prog Tryd.f5 (OpenSpec.ofChange Rows.configRightSpec) false w args)
   (Rows.configRightSpec.post enc Tryd.prog Tryd.f5 false true false false) := by
 refine returnsInHanded_of_change_and (C := Tryd.checked) (X := fun w _ => laidMetH Tryd.prog Rows.configRightRow.laid w) (fun _ _ _ hh h => h.of_heap hh) configRightOwn started (by kernel_rfl) Tryd.func5
  (ChangeSpec.witness_shaped (enc := enc) (C := Tryd.checked) (os := os) (X := fun w _ => laidMetH Tryd.prog Rows.configRightRow.laid w) false (World.doorLaid Tryd.prog 400 os) #[.agg #[.int .i64 0, .int .u64 0, .int .u64 0, .int .u64 0, .int .u64 0, .slice none 0 0, .int .i64 0, .int .i64 0], .agg #[.int .i64 0, .int .i64 0, .int .i64 0, .int .i64 0, .int .i64 0], .bool false] 8 rfl (World.shaped_of_RefB (by kernel_rfl) (by kernel_rfl)) (by kernel_rfl) (by kernel_rfl) (by kernel_rfl) (configRightDoor os _)) ?_
 intro W base args ds gs before hval0 hW _ _ hLaid _
 have hval : ∀ (j : Nat) t v, Tryd.f5.params[j]? = some t → args[j]? = some v → Value.okWide Tryd.prog W .any base t v := hval0
 have hW' := hW
 obtain ⟨hT, hTl⟩ := tab_laid hLaid
 obtain ⟨p, q, hA0, hV, rfl, hfz, hnd⟩ := hW
 have hA : DataW.TrodAll enc Tryd.prog W 0 (fun _ => true) true Tryd.f5.params.toList args.toList ds p := hA0
 rw [Tryd.params5] at hA hval
 obtain ⟨v0, vs0, d0, ds0, p0, q0, hargs, rfl, rfl, h0, r0⟩ := trodAll_cons hA
 obtain ⟨v1, vs1, d1, ds1, p1, q1, rfl, rfl, rfl, h1, r1⟩ := trodAll_cons r0
 obtain ⟨v2, vs2, d2, ds2, p2, q2, rfl, rfl, rfl, h2, r2⟩ := trodAll_cons r1
 obtain ⟨rfl, rfl, rfl⟩ := trodAll_nil r2
 obtain rfl : args = #[v0, v1, v2] := by cases args; simp_all
 obtain ⟨rfl, rfl⟩ := trodVars_none hV
 have k0 := h0
 have k1 := h1
 have k2 := h2
 have lt0 : ∀ x ∈ p0, x.block < W.heap.size := by obtain ⟨m, hm⟩ := k0; exact DataW.trod_lt m _ _ _ hm
 have lt1 : ∀ x ∈ p1, x.block < W.heap.size := by obtain ⟨m, hm⟩ := k1; exact DataW.trod_lt m _ _ _ hm
 have lt2 : ∀ x ∈ p2, x.block < W.heap.size := by obtain ⟨m, hm⟩ := k2; exact DataW.trod_lt m _ _ _ hm
 obtain ⟨c0, c1, c2, c3, c4, rfl⟩ := open_cfg (hval 1 61 v1 rfl rfl) h1
 obtain ⟨sb, rfl, _⟩ := open_bool Tryd.underlying4 (hval 2 4 v2 rfl rfl) h2
 obtain ⟨t0, rfl, l0, _⟩ := open_tree (hval 0 27 v0 rfl rfl) h0
 clear hA0 hval0
 rw [← configRightAgg] at *
 refine (right7_walk t0 c0 (fnX c1 c2 c3 c4) sb W _ l0 hT hTl).mono fun e W' ⟨he, bel⟩ => ?_
 subst he
 exact ⟨_, rfl, _, _, _, [], _, [], hW', trodAll_mk1 (shut_bool Tryd.underlying4 _), (trodAll_cons_mk (Below.trod configRightLaidOut (by kernel_rfl) (of_decide_eq_true (by kernel_rfl)) k0 bel lt0) (trodAll_cons_mk (Below.trod configRightLaidOut (by kernel_rfl) (of_decide_eq_true (by kernel_rfl)) k1 bel lt1) (trodAll_cons_mk (Below.trod configRightLaidOut (by kernel_rfl) (of_decide_eq_true (by kernel_rfl)) k2 bel lt2) trodAll_mk0))), rfl, bel.frame _, fun h => by cases h⟩
theorem configRight_holds : Rows.ConfigRightSaid :=
 OpenClaim.holds_of_wide 5 Tryd.f5 rfl rfl rfl rfl rfl rfl rfl ⟨rfl, rfl, rfl, rfl, rfl⟩ rfl rfl rfl rfl rfl (by kernel_rfl) Tryd.func5 (by kernel_rfl)
  (of_decide_eq_true (by kernel_rfl)) (by unfold Func.isWrapper; rw [if_neg (of_decide_eq_false (by kernel_rfl))]; exact ⟨rfl, rfl⟩)
  (fun os started H enc _ => configRight_lifted os started H enc)
theorem configRight_card_holds : Rows.ConfigRightCardSaid :=
 Claim7.holds_tied_plain_at .later [] [.data] true _ false
  configRight_holds (fun _ h => by cases h) (by kernel_rfl) (fun _ h => by cases h) configRight_row_tie rfl ⟨rfl, rfl⟩ (by kernel_rfl) rfl
  (fun f fn hf hfn => by
   obtain rfl : f = 5 := Option.some.inj ((show Tryd.prog.funcNamed "ostinato/ostinatolaw07.ConfigRight" = some 5 by kernel_rfl).symm.trans hf) |>.symm
   obtain rfl : fn = Tryd.f5 := (Option.some.inj (Tryd.func5.symm.trans hfn)).symm
   exact ⟨by kernel_rfl, fun j t ht => by
    rw [Tryd.params5] at ht
    have hm : t ∈ [27, 61, 4] := by simpa using Array.mem_of_getElem? ht
    have hall : ([27, 61, 4].all fun u => !Tryd.prog.wantsStandIn u) = true := by kernel_rfl
    exact (show Tryd.prog.wantsStandIn t = false by simpa using List.all_eq_true.1 hall t hm)⟩)
  (by kernel_rfl)
#print axioms configRight_card_holds
end Go.Proofs.YtgjnflhpmbjffaaDoor
