/- Of every input the statement NaiveBehind returns true, and it reads afterwards as before; the card: what its row lists is tied to the program's text.
   No condition. -/
import Derived.Test.YtnmjicfpmkoldaaGreatDoorNQ
import Derived.Test.YtnmjicfpmkoldaaGreatDoorN5
import Derived.Test.YtnmjicfpmkoldaaGreatDoorN1
import Derived.StillTailTactics
import Derived.Test.YtnmjicfpmkoldaaGreatDoorPM
import Derived.Test.YtnmjicfpmkoldaaGreatDoorMRef
import Derived.Test.YtnmjicfpmkoldaaGreatDoorCards
import Derived.Test.YtnmjicfpmkoldaaGreatDoorTie
import Derived.ProofKit
import Derived.LaidMore
import Derived.OpenShut
import Derived.ChangeOld
import Derived.Below
import Derived.SevenTiedAt

/- The walk of the statement NaiveBehind: called with a tree and a word it returns true and changes nothing that was there.
   Conditions: the tree and the word lie in memory, the tree's sets are four words below 2^64, and the library's table lies there. -/

namespace Go.Proofs.YtnmjicfpmkoldaaGreatDoor
open Go.RowKit Go.Maps Go.Shelf
attribute [local go_sem] nodeAgg
set_option maxHeartbeats 8000000 in
set_option maxRecDepth 100000 in
theorem behind8_walk (t:V) (v1:Value) (u:List Nat) (w:World) (R:Nat→Prop) (ht:Laid w R t) (hgd:Good t) (hT:TabE w) (hTl:tabE<w.heap.size) (hu:WrdR w v1 u) :
  Calls Tryz.prog 5 #[nodeAgg t,v1] w fun e w'=>e=.returned (.bool true)∧Below w.heap.size w w':=by
 obtain ⟨sa,sc,hv0,_⟩:=laid_row' ht
 obtain ⟨sn,hsn⟩ : ∃ sn,sn=t.ps.length:=⟨_,rfl⟩
 rw [← hsn] at hv0
 have HTT:=Lib.hid (fun (W:World) (h:Below w.heap.size w W)=>show TabE W∧tabE<W.heap.size from ⟨tab_below hT hTl h,Nat.lt_of_lt_of_le hTl h.size⟩)
 have HAU:=Lib.hid (fun (W:World) (h:Below w.heap.size w W)=>by
  have:=auto_any t W R (laid_low ht h) (HTT.out W h).1 (HTT.out W h).2
  rw [nodeAgg_v hv0] at this
  exact this)
 have HW:=Lib.hid (fun (W:World) (h:Below w.heap.size w W)=>hu.below h)
 have HGD:=Lib.hid hgd
 obtain ⟨A1,c1,rfl,hu0⟩:=hu
 obtain ⟨un,hun⟩ : ∃ n,n=u.length:=⟨_,rfl⟩
 have HL:=Lib.hid hun
 have H256:=Lib.hid (show ∀ x∈u,x<256 from fun x hx=>by obtain ⟨i,hi⟩:=List.mem_iff_getElem?.1 hx;exact (hu0 i x hi).1)
 rw [← hun] at HW ⊢
 rw [nodeAgg_v hv0]
 have HAW:=Lib.hid (fun (W:World) (h:Below w.heap.size w W)=>awake8_any W (HTT.out W h).1 (HTT.out W h).2)
 obtain ⟨w0,hw0,hb0,hlt0,hbx⟩:=box_new w t (.slice sa sn sc)
 have HBX:=Lib.hid hbx
 have HB0:=Lib.hid hb0
 clear ht hv0 hsn hT hTl hu0 hun hgd hbx hb0 hlt0
 go_enter Tryz.func5,Tryz.ntmps5
 go_upto_region 1 with fail
 clear hw0
 go_wp2_with fail
 go_at_call 9
 refine (HAW.out _ HB0.out).mono ?_
 rintro e w2 ⟨rfl,hb2⟩
 have HB2:=Lib.hid (bhop HB0.out hb2)
 obtain ⟨q0,q1,q2,q3,q4,q5,q6,q7⟩:=HBX.out w2 hb2
 clear hb2
 by_cases h1:40<un
 ·have h1':(40:Int)<(un:Int):=by omega
  go_wp2_with fail
  go_at_call 9
  refine (HAW.out _ HB2.out).mono ?_
  rintro e w3 ⟨rfl,hb3⟩
  have HB3:=Lib.hid (bhop HB2.out hb3)
  clear hb3
  go_wp2_with fail
  go_ret
  exact ⟨rfl,HB3.out⟩
 have h1':¬ (40:Int)<(un:Int):=by omega
 go_wp2_with fail
 go_at_call 10
 refine Calls.mono (HAU.out w2 HB2.out) ?_
 rintro e w3 ⟨hh,hb3⟩
 have HB3:=Lib.hid (bhop HB2.out hb3)
 rcases hh with ⟨rfl,_⟩ | ⟨B,a,m,L,hG,rfl⟩
 ·clear hb3
  go_wp2_with fail
  go_ret
  exact ⟨rfl,HB3.out.alloc HB3.out.size _⟩
 obtain ⟨w4,hw4,hb4,ha4⟩:=au_box w3 a
 have hau:=hG.au
 obtain ⟨vs,hrw⟩:=hG.rows
 have hmv:=hG.mvl
 have hCl:∀ C∈m.sets,Cl C:=map_cl HGD.out hG.map
 have hfs:(bitsL (mvT (simT (erase t)) 0 0).1.fi).Pairwise (· < ·):=List.Pairwise.filter _ List.pairwise_lt_range
 generalize bitsL (mvT (simT (erase t)) 0 0).1.fi=fl at hau hfs
 generalize (mvT (simT (erase t)) 0 0).1.la=la at hau
 have hfl:fl.length≤41:=by have:=fl_few hfs fun q hq=>(hau.fin q hq).2;have:=hau.most;omega
 have HB4:=Lib.hid (bhop HB3.out hb4)
 have HF:=Lib.hid (fun (W:World) (h:Below w4.heap.size w4 W)=>show AuB W w3.heap.size a∧AuL W B m a fl la∧RowsM W B a.n (.slice (some ⟨a.mb,0,none⟩) a.n a.n) vs L∧True from ⟨ha4.below h,hau.below (bhop hb4 h),hrw.below (bhop hb4 h),trivial⟩)
 have HP:=Lib.hid (AuP.mk hCl hmv hau.wf hfl (fun q hq=>⟨(hau.fin q hq).1,by rw [hau.ars];exact (hau.fin q hq).2⟩) hfs (by rw [hau.ars];exact hau.most))
 have HU4:=Lib.hid (show u.length≤40 by have:=HL.out;omega)
 obtain ⟨z0,z1,z2,z3,z4,z5,z6,z7,z8,z9,z10,z11,z12,z13,z14⟩:=ha4.all
 clear hG hau hrw hmv hCl hfs hfl hb3 hb4 ha4
 go_upto_region 4 with fail
 clear hw4
 have HRb:=Lib.hid (fun (W:World) (h:Below w4.heap.size w4 W)=>refBehind_any W (HF.out W h).2.1 (HF.out W h).2.2.1 HP.out _ u (HW.out W (bhop HB4.out h)) HU4.out)
 have HBh:=Lib.hid (fun (W:World) (h:Below w4.heap.size w4 W)=>behind_any W (HF.out W h).2.1 (HF.out W h).2.2.1 HP.out.cls HP.out.few HP.out.mvl _ u (HW.out W (bhop HB4.out h)) HU4.out)
 have HMo:=Lib.hid (fun (W:World) (h:Below w4.heap.size w4 W)=>most_any W (HF.out W h).2.1 (HF.out W h).2.2.1 HP.out.cls HP.out.few HP.out.mvl _ u (HW.out W (bhop HB4.out h)) HU4.out)
 go_wp2_with fail
 go_at_call 13
 refine (HRb.out w4 (Below.refl _ _)).mono ?_
 rintro e w5 ⟨A5,c5,out,z,rfl,o1,o2,o3,o4,_,o6,hb5⟩
 have HB5:=Lib.hid hb5
 have HO:=Lib.hid (And.intro o1 (And.intro o2 (And.intro o3 (And.intro o4 o6))))
 obtain ⟨on,hon⟩ : ∃ n,n=out.length:=⟨_,rfl⟩
 have HON:=Lib.hid hon
 rw [← hon]
 clear o1 o2 o3 o4 o6 hon hb5 z0 z1 z2 z3 z4 z5 z6 z7 z8 z9 z10 z11 z12 z13 z14
 obtain ⟨z0,z1,z2,z3,z4,z5,z6,z7,z8,z9,z10,z11,z12,z13,z14⟩:=(HF.out w5 HB5.out).1.all
 go_wp2_with fail
 go_at_call 11
 refine (HBh.out w5 HB5.out).mono ?_
 rintro e w6 ⟨A6,c6,l,rfl,l1,l2,l3,l4,hb6⟩
 have hxy:∀ k,k∈l↔k∈out:=fun k=>by
  rw [l2 k,HO.out.2.1 k]
  exact ⟨fun h=>h.2,fun h=>⟨ok_63 HP.out.wf HP.out.most (bhS_ok HP.out.wf HP.out.fin HP.out.mvl _ k h),h⟩⟩
 have hlx:(sortC l).length=out.length:=by rw [(sortC_perm l).length_eq];exact same_len l1 HO.out.1 hxy
 have HSo:=Lib.hid (sortedR_true w6 A6 A5 c6 c5 (sortC l) out (own_cfs l4) (HO.out.2.2.1.below hb6) hlx (by have:=HO.out.2.2.2.2;omega) (fun x hx=>(hxy x).1 ((sortC_perm l).mem_iff.1 hx)) (sortC_lt l1))
 rw [hlx,← HON.out] at HSo
 rw [hlx,← HON.out]
 have HB6:=Lib.hid (bhop HB5.out hb6)
 clear hxy hlx l1 l2 l3 l4 hb6 z0 z1 z2 z3 z4 z5 z6 z7 z8 z9 z10 z11 z12 z13 z14
 go_wp2_with fail
 go_at_call 14
 refine HSo.out.mono ?_
 rintro e w7 ⟨rfl,hb7⟩
 have HB7:=Lib.hid (bhop HB6.out hb7)
 clear hb7
 obtain ⟨z0,z1,z2,z3,z4,z5,z6,z7,z8,z9,z10,z11,z12,z13,z14⟩:=(HF.out w7 HB7.out).1.all
 go_wp2_with fail
 go_at_call 15
 refine (HMo.out w7 HB7.out).mono ?_
 rintro e w8 ⟨z',rfl,hz',hb8⟩
 obtain rfl:=mst_one hz' HO.out.2.2.2.1
 have HB8:=Lib.hid (bhop HB7.out hb8)
 clear hz' hb8
 go_wp2_with fail
 go_ret
 exact ⟨rfl,bhop HB4.out HB8.out⟩
end Go.Proofs.YtnmjicfpmkoldaaGreatDoor

/- Of every input the statement NaiveBehind returns true, and it reads afterwards as before; the card: what its row lists is tied to the program's text.
   No condition. -/
namespace Go.Proofs.YtnmjicfpmkoldaaGreatDoor
open Go.ChangeShapes Go.WideShapes Go.ChangeAt Go.RowKit
theorem naiveBehindOwn:ownKnob Tryz.prog.godebug=none:=by kernel_rfl
theorem naiveBehindLaidOut:laidOutB Tryz.prog=true:=by kernel_rfl
theorem naiveBehindAgg (t:V):nodeAgg t=.agg (ndc t).toArray:=rfl
theorem naiveBehindDoor (os:Os) (args:Array Value):laidMetH Tryz.prog Rows.naiveBehindRow.laid ((World.doorLaid Tryz.prog 400 os).forCall (fun _ _=>0) ⟨#[],args,[]⟩).memory :=
 laidMetH_of_parts3 (fuel:=8) (laidMet_of_run' 8 (by kernel_rfl) (by kernel_rfl)) (by kernel_rfl) (by kernel_rfl)
set_option maxRecDepth 100000 in
theorem naiveBehind_lifted (os:Os) (started:os.Started) (H:Type) (enc:TypeId×Value→H) :
  ReturnsInHanded {} Tryz.checked os 5 .any (fun w args=>(Rows.naiveBehindSpec.pre enc Tryz.prog Tryz.f5 Rows.naiveBehindRow.domain false w args∧laidMetH Tryz.prog Rows.naiveBehindRow.laid w)∧sizedMet enc Tryz.prog Tryz.f5 (OpenSpec.ofChange Rows.naiveBehindSpec) false w args)
   (Rows.naiveBehindSpec.post enc Tryz.prog Tryz.f5 false true false false):=by
 refine returnsInHanded_of_change_and (C:=Tryz.checked) (X:=fun w _=>laidMetH Tryz.prog Rows.naiveBehindRow.laid w) (fun _ _ _ hh h=>h.of_heap hh) naiveBehindOwn started (by kernel_rfl) Tryz.func5
  (ChangeSpec.witness_shaped (enc:=enc) (C:=Tryz.checked) (os:=os) (X:=fun w _=>laidMetH Tryz.prog Rows.naiveBehindRow.laid w) false (World.doorLaid Tryz.prog 400 os) #[.agg #[.int .i64 0,.int .u64 0,.int .u64 0,.int .u64 0,.int .u64 0,.slice none 0 0,.int .i64 0,.int .i64 0],.slice none 0 0] 8 rfl (World.shaped_of_RefB (by kernel_rfl) (by kernel_rfl)) (by kernel_rfl) (by kernel_rfl) (by kernel_rfl) (naiveBehindDoor os _)) ?_
 intro W base args ds gs before hval0 hW _ _ hLaid _
 have hval:∀ (j:Nat) t v,Tryz.f5.params[j]? = some t→args[j]? = some v→Value.okWide Tryz.prog W .any base t v:=hval0
 have hW':=hW
 obtain ⟨hT,hTl⟩:=tab_laid hLaid
 obtain ⟨p,q,hA0,hV,rfl,hfz,hnd⟩:=hW
 have hA:DataW.TrodAll enc Tryz.prog W 0 (fun _=>true) true Tryz.f5.params.toList args.toList ds p:=hA0
 rw [Tryz.params5] at hA hval
 obtain ⟨v0,vs0,d0,ds0,p0,q0,hargs,rfl,rfl,h0,rr0⟩:=trodAll_cons hA
 obtain ⟨v1,vs1,d1,ds1,p1,q1,rfl,rfl,rfl,h1,rr1⟩:=trodAll_cons rr0
 obtain ⟨rfl,rfl,rfl⟩:=trodAll_nil rr1
 obtain rfl:args=#[v0,v1]:=by cases args;simp_all
 obtain ⟨rfl,rfl⟩:=trodVars_none hV
 have k0:=h0
 have lt0:∀ x∈p0,x.block<W.heap.size:=by obtain ⟨m,hm⟩:=k0;exact DataW.trod_lt m _ _ _ hm
 have k1:=h1
 have lt1:∀ x∈p1,x.block<W.heap.size:=by obtain ⟨m,hm⟩:=k1;exact DataW.trod_lt m _ _ _ hm
 obtain ⟨t0,rfl,l0,gd0⟩:=open_tree (hval 0 27 v0 rfl rfl) h0
 obtain ⟨wd1,hwd1,_⟩:=open_bytes8 (hval 1 28 v1 rfl rfl) h1
 clear hA0 hval0
 rw [← naiveBehindAgg] at *
 refine (behind8_walk t0 v1 wd1 W _ l0 gd0 hT hTl hwd1).mono fun e W' ⟨he,bel⟩=>?_
 subst he
 exact ⟨_,rfl,_,_,_,[],_,[],hW',trodAll_mk1 (shut_bool Tryz.underlying4 _),(trodAll_cons_mk (Below.trod naiveBehindLaidOut (by kernel_rfl) (of_decide_eq_true (by kernel_rfl)) k0 bel lt0) (trodAll_cons_mk (Below.trod naiveBehindLaidOut (by kernel_rfl) (of_decide_eq_true (by kernel_rfl)) k1 bel lt1) trodAll_mk0)),rfl,bel.frame _,fun h=>by cases h⟩
theorem naiveBehind_holds:Rows.NaiveBehindSaid :=
 OpenClaim.holds_of_wide 5 Tryz.f5 rfl rfl rfl rfl rfl rfl rfl ⟨rfl,rfl,rfl,rfl,rfl⟩ rfl rfl rfl rfl rfl (by kernel_rfl) Tryz.func5 (by kernel_rfl)
  (of_decide_eq_true (by kernel_rfl)) (by unfold Func.isWrapper;rw [if_neg (of_decide_eq_false (by kernel_rfl))];exact ⟨rfl,rfl⟩)
  (fun os started H enc _=>naiveBehind_lifted os started H enc)
theorem naiveBehind_card_holds:Rows.NaiveBehindCardSaid :=
 Claim7.holds_tied_plain_at .later [] [.data] true _ false
  naiveBehind_holds (fun _ h=>by cases h) (by kernel_rfl) (fun _ h=>by cases h) naiveBehind_row_tie rfl ⟨rfl,rfl⟩ (by kernel_rfl) rfl
  (fun f fn hf hfn=>by
   obtain rfl:f=5:=Option.some.inj ((show Tryz.prog.funcNamed "ostinato/ostinatolaw08.NaiveBehind" = some 5 by kernel_rfl).symm.trans hf) |>.symm
   obtain rfl:fn=Tryz.f5:=(Option.some.inj (Tryz.func5.symm.trans hfn)).symm
   exact ⟨by kernel_rfl,fun j t ht=>by
    rw [Tryz.params5] at ht
    have hm:t∈[27,28]:=by simpa using Array.mem_of_getElem? ht
    have hall:([27,28].all fun u=>!Tryz.prog.wantsStandIn u)=true:=by kernel_rfl
    exact (show Tryz.prog.wantsStandIn t=false by simpa using List.all_eq_true.1 hall t hm)⟩)
  (by kernel_rfl)
#print axioms naiveBehind_card_holds
end Go.Proofs.YtnmjicfpmkoldaaGreatDoor
