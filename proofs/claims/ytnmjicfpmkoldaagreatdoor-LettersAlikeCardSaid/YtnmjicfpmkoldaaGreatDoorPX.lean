/- What is entered: the contract.
   Conditions: the automaton lies in memory. -/
import Derived.Test.YtnmjicfpmkoldaaGreatDoorPG
import Derived.Deep.DeepCutAuto
import Derived.Deep.RegionWith
import Derived.Deep.LoopGhost
import Derived.BigQuiet
import Derived.StillTailTactics

/- A scope around a position, its greatest count, whether scopes may be left, what is entered: contracts.
   Conditions: the automaton lies in memory. -/
namespace Go.Proofs.YtnmjicfpmkoldaaGreatDoor
open Go.RowKit Go.Shelf
set_option maxHeartbeats 4000000 in
set_option maxRecDepth 100000 in
theorem scope_any {B:Nat} {m:PM} {a:Au} {fl:List Nat} {la ab p i:Nat} {l:List Nat} (w:World) (hA:AuB w ab a) (hL:AuL w B m a fl la) (hp:m.ars[p]? = some l) (hi:i<l.length) :
  Calls Tryz.prog 77 #[.pointer (some ⟨ab,0,none⟩),.int .i64 p,.int .i64 i] w fun e w'=>e=.returned (.agg #[.int .i64 (scA m l i).1,.int .i64 (scA m l i).2])∧Below w.heap.size w w':=by
 obtain ⟨w2,hw2⟩ : ∃ w2,w.alloc (.cells #[.int .i64 0,.int .i64 0] 117)=w2:=⟨_,rfl⟩
 have hb2:Below w.heap.size w w2:=hw2▸(Below.refl _ w).alloc (Nat.le_refl _) _
 have e1:ZB2 w.heap.size w2:=by rw [← hw2];exact heap_alloc_new w _
 have hpn:p<a.n:=by rw [← hL.ars];exact (List.getElem?_eq_some_iff.1 hp).1
 obtain ⟨g,c,k,gs,h1,h2,h3,h4,h5,h6,_⟩:=(hL.below hb2).sc hp hi
 obtain ⟨_,c9,c10,_⟩:=(hA.below hb2).cells
 rw [h3] at c9
 obtain ⟨sl,hsl⟩ : ∃ sl,sl=(scA m l i).1:=⟨_,rfl⟩
 obtain ⟨sh,hsh⟩ : ∃ sh,sh=(scA m l i).2:=⟨_,rfl⟩
 rw [← hsl] at h5 ⊢
 rw [← hsh] at h6 ⊢
 obtain ⟨ln,hln⟩ : ∃ ln,ln=l.length:=⟨_,rfl⟩
 rw [← hln] at h1 hi
 have v1:(0:Int)≤(p:Int):=by omega
 have v2:(p:Int)<(a.n:Int):=by omega
 have v3:((p:Int)).toNat=p:=by omega
 have v4:(0:Int)≤(i:Int):=by omega
 have v5:(i:Int)<(ln:Int):=by omega
 have v6:((i:Int)).toNat=i:=by omega
 have v7:(0:Int)≤(k:Int):=by omega
 have v8:(k:Int)<(a.cN:Int):=by omega
 have v9:((k:Int)).toNat=k:=by omega
 have HB:=Lib.hid (And.intro hb2 e1)
 clear hb2 e1 h3 h4 hsl hsh hln hi hpn hp hA hL
 go_enter Tryz.func77,Tryz.ntmps77
 go_upto_region 1 with fail
 clear hw2
 go_still_tail 18,(by kernel_rfl)
 change wpList _ _ _ _ _ w2.drew
 have HX:=Lib.hid (show ZB2 w.heap.size w2.drew∧Below w.heap.size w w2.drew from ⟨HB.out.2,HB.out.1.drew⟩)
 generalize w2.drew=w3 at *
 obtain ⟨⟨s0,s1⟩,f0,f1,hl⟩:=HX.out.1.cells
 go_wp2_with fail
 have hf:=set2_heap HX.out.1 (.int .i64 sl) (.int .i64 sh)
 have hch:=set2_chg w3 w.heap.size (.int .i64 sl) (.int .i64 sh)
 generalize ((w3.setCell ⟨w.heap.size,0,none⟩ (.int .i64 sl)).setCell ⟨w.heap.size,1,none⟩ (.int .i64 sh))=w4 at *
 obtain ⟨r0,r1⟩:=cells2 hf
 refine bodyPost_ret (v:=.agg #[.int .i64 sl,.int .i64 sh]) (by simp [results,Tryz.results77,go_sem,r0,r1]) rfl ⟨rfl,?_⟩
 exact HX.out.2.trans (hch.below (by have:=HX.out.2.size;omega) fun k hk e=>by omega)
set_option maxHeartbeats 2000000 in
set_option maxRecDepth 100000 in
theorem greatest_any (lo hi:Int) (w:World) (h:hi<0→hi = -1) :
  Calls Tryz.prog 76 #[.agg #[.int .i64 lo,.int .i64 hi]] w fun e w'=>e=.returned (.int .i64 (topS (lo,hi)))∧Below w.heap.size w w':=by
 by_cases g:hi = -1
 ·subst g
  have ht:topS (lo,-1)=lo:=rfl
  rw [ht]
  clear ht h
  go_enter Tryz.func76,Tryz.ntmps76
  go_wp2_with fail
  go_ret
  exact ⟨rfl,(Below.refl _ w).alloc (Nat.le_refl _) _⟩
 ·have ht:topS (lo,hi)=hi:=by
   unfold topS
   rw [if_neg (by intro h1;exact g (h h1))]
  rw [ht]
  clear ht h
  go_enter Tryz.func76,Tryz.ntmps76
  go_wp2_with fail
  go_ret
  exact ⟨rfl,(Below.refl _ w).alloc (Nat.le_refl _) _⟩
set_option maxHeartbeats 2000000 in
set_option maxRecDepth 100000 in
theorem refTop_any (lo hi:Int) (w:World) :
  Calls Tryz.prog 55 #[.agg #[.int .i64 lo,.int .i64 hi]] w fun e w'=>e=.returned (.int .i64 (topS (lo,hi)))∧Below w.heap.size w w':=by
 by_cases g:hi<0
 ·have ht:topS (lo,hi)=lo:=by unfold topS;rw [if_pos g]
  rw [ht]
  clear ht
  go_enter Tryz.func55,Tryz.ntmps55
  go_wp2_with fail
  go_ret
  exact ⟨rfl,(Below.refl _ w).alloc (Nat.le_refl _) _⟩
 ·have ht:topS (lo,hi)=hi:=by unfold topS;rw [if_neg g]
  rw [ht]
  clear ht
  go_enter Tryz.func55,Tryz.ntmps55
  go_wp2_with fail
  go_ret
  exact ⟨rfl,(Below.refl _ w).alloc (Nat.le_refl _) _⟩
def LvI (w:World) (m:PM) (l:List Nat) (x:Nat→Int) (but n:Nat) (z:Value) (wr:World):Prop:=∃ i:Nat,z=.int .i64 i∧n=5 - i∧i≤4∧leftB m l x i=leftB m l x but∧Below w.heap.size w wr
set_option maxHeartbeats 8000000 in
set_option maxRecDepth 100000 in
theorem leaves_any {B:Nat} {m:PM} {a:Au} {fl:List Nat} {la ab p:Nat} {l:List Nat} (w:World) (hA:AuB w ab a) (hL:AuL w B m a fl la) (hp:m.ars[p]? = some l) (x:Nat→Int) (but:Nat) (h4:but≤4) :
  Calls Tryz.prog 54 #[.pointer (some ⟨ab,0,none⟩),.agg #[.int .i64 p,.int .i64 (x 0),.int .i64 (x 1),.int .i64 (x 2),.int .i64 (x 3)],.int .i64 but] w fun e w'=>e=.returned (.bool (leftB m l x but))∧Below w.heap.size w w':=by
 obtain ⟨w2,hw2,hb2,hc2⟩:=cf_box w p x
 have hpn:p<a.n:=by rw [← hL.ars];exact (List.getElem?_eq_some_iff.1 hp).1
 have hl4:l.length≤4:=(hL.wf.ars _ (List.mem_of_getElem? hp)).1
 have HF:=Lib.hid (fun (W:World) (h:Below w2.heap.size w2 W)=>show AuB W ab a∧AuL W B m a fl la∧CfB W w.heap.size p x from ⟨hA.below (bhop hb2 h),hL.below (bhop hb2 h),hc2.below h⟩)
 have HP:=Lib.hid hp
 have HB:=Lib.hid hb2
 have v1:(0:Int)≤(p:Int):=by omega
 have v2:(p:Int)<(a.n:Int):=by omega
 have v3:((p:Int)).toNat=p:=by omega
 obtain ⟨ln,hln⟩ : ∃ ln,ln=l.length:=⟨_,rfl⟩
 have HLN:=Lib.hid hln
 rw [← hln] at hl4
 clear hb2 hc2 hA hL hp hpn hln
 go_enter Tryz.func54,Tryz.ntmps54
 go_upto_region 1 with fail
 clear hw2
 go_wp2_with fail
 go_loopw [7] (fun z wr=>∃ n,LvI w2 m l x but n z wr) (fun z wr=>leastOf (fun n=>LvI w2 m l x but n z wr))
 case atStart=>exact ⟨_,but,rfl,rfl,h4,rfl,Below.refl _ _⟩
 case round =>
  have hls:=(leastOf_spec hrel).1
  obtain ⟨i,rfl,hN,hi4,he,hb⟩:=hls
  have HN:=Lib.hid hN
  have HE:=Lib.hid he
  have HR:=Lib.hid hb
  clear hN he hrel h4
  obtain ⟨fA,fL,fC⟩:=HF.out wr hb
  obtain ⟨A,c,r1,_⟩:=fL.row HP.out
  obtain ⟨_,_,c10,_⟩:=fA.cells
  obtain ⟨d0,_⟩:=fC.five
  have s1:(0:Int)≤(i:Int):=by omega
  have s3:((i:Int)).toNat=i:=by omega
  by_cases g:i<ln
  ·have s2:(i:Int)<(ln:Int):=by omega
   rw [← HLN.out] at r1
   have gi:i<l.length:=by have:=HLN.out;omega
   have hst:=left_step (m:=m) (x:=x) gi
   obtain ⟨sl,hsl⟩ : ∃ sl,sl=(scA m l i).1:=⟨_,rfl⟩
   rw [← hsl] at hst
   obtain ⟨v,hv⟩ : ∃ v,v=x i:=⟨_,rfl⟩
   rw [← hv] at hst
   have HST:=Lib.hid hst
   have HLT:=Lib.hid (show 5 - (i+1)<5 - i by omega)
   have HI4:=Lib.hid (show i+1≤4 by omega)
   have HSC:=Lib.hid (fun (W:World) (h:Below w2.heap.size w2 W)=>by
    have:=scope_any W (HF.out W h).1 (HF.out W h).2.1 HP.out gi
    rw [← hsl] at this
    exact this)
   have HCL:=Lib.hid (fun (W:World) (h:Below w2.heap.size w2 W)=>show W.cell? ⟨w.heap.size,1+i,none⟩=some (.int .i64 v) from hv▸(HF.out W h).2.2.cell.2.1 i (by omega))
   have d1:=HCL.out _ HR.out
   clear fA fL fC hb hst hsl hv gi hi4
   go_wp2_with fail
   go_quiet (fail)
   go_wp2_with fail
   clear r1 c10
   go_region_with (first
    | (go_at_call 77;refine (HSC.out _ (by first | exact HR.out | exact HR.out.drew | exact (below_drewN HR.out _).drew)).mono ?_;rintro e w3 ⟨rfl,hb3⟩;have HB3:=Lib.hid ((by first | exact bhop HR.out hb3 | exact bhop HR.out.drew hb3 | exact bhop (below_drewN HR.out _).drew hb3:Below w2.heap.size w2 w3));have d2:=HCL.out _ HB3.out;clear hb3 d1 d0)
    | (go_at_call 78;refine (done_any _ _ _ _).mono ?_;rintro e w4 ⟨rfl,hb4⟩;have HB4:=Lib.hid (bhop HB3.out hb4);clear hb4))
   all_goals
    by_cases g2:sl≤v
    ·have HP2:=Lib.hid (show LvI w2 m l x but (5 - (i+1)) (.int .i64 ((i:Int)+1)) w4 from ⟨i+1,by push_cast;rfl,rfl,HI4.out,by rw [← HE.out,HST.out,decide_eq_true g2,Bool.true_and],HB4.out⟩)
     rw [decide_eq_true g2]
     clear g2
     go_wp2_with fail
     go_roundw
     case rel=>exact ⟨_,HP2.out⟩
     case measure =>
      rw [HN.out]
      exact Nat.lt_of_le_of_lt ((leastOf_spec ⟨_,HP2.out⟩).2 _ HP2.out) HLT.out
    ·have HD:=Lib.hid (show leftB m l x but=false by rw [← HE.out,HST.out,decide_eq_false g2,Bool.false_and])
     rw [decide_eq_false g2]
     clear g2
     go_wp2_with fail
     go_ret
     exact ⟨by rw [HD.out];rfl,bhop HB.out HB4.out⟩
  ·have s2:¬ (i:Int)<(ln:Int):=by omega
   rw [← HLN.out] at r1
   have HD:=Lib.hid (show leftB m l x but=true by rw [← HE.out];exact left_end (by have:=HLN.out;omega))
   clear fA fL fC hb
   go_wp2_with fail
   go_quiet (fail)
   go_wp2_with fail
   go_ret
   exact ⟨by rw [HD.out];rfl,bhop HB.out (below_drewN HR.out _)⟩
end Go.Proofs.YtnmjicfpmkoldaaGreatDoor

/- What is entered: the contract.
   Conditions: the automaton lies in memory. -/
namespace Go.Proofs.YtnmjicfpmkoldaaGreatDoor
open Go.RowKit Go.Shelf
def entX (l:List Nat) (x:Nat→Int) (but:Nat):Nat→Int:=fun j=>if but≤j∧j<l.length then 1 else x j
theorem ent_put {l:List Nat} {x:Nat→Int} {but i:Nat} (h1:but≤i) (hi:i<l.length):putX (fun j=>if but≤j∧j<i then 1 else x j) i 1=fun j=>if but≤j∧j<i+1 then 1 else x j:=by
 funext j
 show (if j=i then (1:Int) else if but≤j∧j<i then 1 else x j)=if but≤j∧j<i+1 then 1 else x j
 by_cases e:j=i
 ·subst e;rw [if_pos rfl,if_pos ⟨h1,by omega⟩]
 ·rw [if_neg e]
  by_cases g:but≤j∧j<i
  ·rw [if_pos g,if_pos (by omega)]
  ·rw [if_neg g,if_neg (by omega)]
def EtI (w:World) (cb rb:Nat) (p:Nat) (l:List Nat) (x:Nat→Int) (but n:Nat) (z:Value) (wr:World):Prop:=∃ i:Nat,z=.int .i64 i∧n=5 - i∧i≤4∧but≤i∧(i≤l.length∨i=but)∧CfB wr cb p (fun j=>if but≤j∧j<i then 1 else x j)∧CfB wr rb 0 (fun _=>0)∧Below w.heap.size w wr
set_option maxHeartbeats 8000000 in
set_option maxRecDepth 100000 in
theorem entered_any {B:Nat} {m:PM} {a:Au} {fl:List Nat} {la ab p:Nat} {l:List Nat} (w:World) (hA:AuB w ab a) (hL:AuL w B m a fl la) (hp:m.ars[p]? = some l) (x:Nat→Int) (but:Nat) (h4:but≤4) :
  Calls Tryz.prog 69 #[.pointer (some ⟨ab,0,none⟩),.agg #[.int .i64 p,.int .i64 (x 0),.int .i64 (x 1),.int .i64 (x 2),.int .i64 (x 3)],.int .i64 but] w fun e w'=>e=.returned (.agg #[.int .i64 p,.int .i64 ((entX l x but) 0),.int .i64 ((entX l x but) 1),.int .i64 ((entX l x but) 2),.int .i64 ((entX l x but) 3)])∧Below w.heap.size w w':=by
 obtain ⟨w1,hw1,hb1,hc1⟩:=cf_box w p x
 obtain ⟨w2,hw2,hb2,hc2⟩:=cf_box w1 0 (fun _=>0)
 have hs1:w1.heap.size=w.heap.size+1:=by rw [← hw1];simp
 have hpn:p<a.n:=by rw [← hL.ars];exact (List.getElem?_eq_some_iff.1 hp).1
 have hl4:l.length≤4:=(hL.wf.ars _ (List.mem_of_getElem? hp)).1
 have HF:=Lib.hid (fun (W:World) (h:Below w.heap.size w W)=>show AuB W ab a∧AuL W B m a fl la from ⟨hA.below h,hL.below h⟩)
 have HB:=Lib.hid (And.intro (bhop hb1 hb2) (And.intro (hc1.below hb2) hc2))
 have HP:=Lib.hid hp
 rw [hs1] at HB
 have hw12:(w.alloc (.cells #[.int .i64 p,.int .i64 (x 0),.int .i64 (x 1),.int .i64 (x 2),.int .i64 (x 3)] 55)).alloc (.cells #[.int .i64 0,.int .i64 0,.int .i64 0,.int .i64 0,.int .i64 0] 55)=w2:=by rw [hw1];exact hw2
 have v1:(0:Int)≤(p:Int):=by omega
 have v2:(p:Int)<(a.n:Int):=by omega
 have v3:((p:Int)).toNat=p:=by omega
 obtain ⟨ln,hln⟩ : ∃ ln,ln=l.length:=⟨_,rfl⟩
 have HLN:=Lib.hid hln
 rw [← hln] at hl4
 clear hb1 hb2 hc1 hc2 hA hL hp hpn hln hw1 hw2 hs1
 go_enter Tryz.func69,Tryz.ntmps69
 go_upto_region 1 with fail
 clear hw12
 go_wp2_with fail
 go_loopw [7] (fun z wr=>∃ n,EtI w w.heap.size (w.heap.size+1) p l x but n z wr) (fun z wr=>leastOf (fun n=>EtI w w.heap.size (w.heap.size+1) p l x but n z wr))
 case atStart=>exact ⟨_,but,rfl,rfl,h4,Nat.le_refl _,.inr rfl,by
  have:=HB.out.2.1
  rw [show (fun j=>if but≤j∧j<but then 1 else x j)=x from funext fun j=>if_neg (by omega)]
  exact this,HB.out.2.2,HB.out.1⟩
 case round =>
  have hls:=(leastOf_spec hrel).1
  obtain ⟨i,rfl,hN,hi4,hbi,hil,hcf,hzf,hb⟩:=hls
  have HN:=Lib.hid hN
  have HC:=Lib.hid (And.intro hcf hzf)
  have HR:=Lib.hid hb
  have HBI:=Lib.hid hbi
  clear hN hrel h4
  obtain ⟨fA,fL⟩:=HF.out wr hb
  obtain ⟨A,c,r1,_⟩:=fL.row HP.out
  obtain ⟨_,_,c10,_⟩:=fA.cells
  obtain ⟨d0,d1,d2,d3,d4⟩:=hcf.five
  have s1:(0:Int)≤(i:Int):=by omega
  have s3:((i:Int)).toNat=i:=by omega
  rw [← HLN.out] at r1
  by_cases g:i<ln
  ·have s2:(i:Int)<(ln:Int):=by omega
   have s4:(i:Int)<4:=by omega
   have e1:=hcf.cell.2.1 i (by omega)
   have e2:=hcf.cell.2.2 (1+i)
   have e3:=hcf.lt
   have HP2:=Lib.hid (fun (k:Nat)=>show EtI w w.heap.size (w.heap.size+1) p l x but (5 - (i+1)) (.int .i64 ((i:Int)+1)) ((wr.drewN k).setCell ⟨w.heap.size,1+i,none⟩ (.int .i64 1)) from
    ⟨i+1,by push_cast;rfl,rfl,by omega,by omega,.inl (by have:=HLN.out;omega),by
     have h1:CfB (wr.drewN k) w.heap.size p _:=hcf.below (below_drewN (Below.refl _ _) k)
     have:=h1.put (i:=i) (by omega) 1
     rw [ent_put (l:=l) HBI.out (by have:=HLN.out;omega)] at this
     exact this,by
     have h1:CfB (wr.drewN k) (w.heap.size+1) 0 _:=hzf.below (below_drewN (Below.refl _ _) k)
     unfold CfB at *
     rw [← h1]
     exact heap_setCell_other _ _ _ _ (by simp),(below_drewN hb k).setCell (Nat.le_refl _) _⟩)
   have HLT:=Lib.hid (show 5 - (i+1)<5 - i by omega)
   clear fA fL hb hcf hzf hi4 hil hbi d1 d2 d3 d4
   go_wp2_with fail
   go_quiet (fail)
   go_wp2_with fail
   go_roundw
   case rel=>exact ⟨_,HP2.out _⟩
   case measure =>
    rw [HN.out]
    exact Nat.lt_of_le_of_lt ((leastOf_spec ⟨_,HP2.out _⟩).2 _ (HP2.out _)) HLT.out
  ·have s2:¬ (i:Int)<(ln:Int):=by omega
   have hx:(fun j=>if but≤j∧j<i then 1 else x j)=entX l x but:=by
    funext j
    show (if but≤j∧j<i then (1:Int) else x j)=if but≤j∧j<l.length then 1 else x j
    rcases hil with h | h
    ·rw [show i=l.length by have:=HLN.out;omega]
    ·have:=HLN.out
     rw [if_neg (by omega),if_neg (by omega)]
   rw [hx] at hcf
   clear d1 d2 d3 d4
   obtain ⟨_,d1,d2,d3,d4⟩:=hcf.five
   obtain ⟨⟨z0,z1,z2,z3,z4⟩,zf,zl⟩:=And.intro hzf.five (And.intro hzf.cell.2.2 hzf.lt)
   have HX:=Lib.hid (And.intro hcf hzf)
   have HE:=Lib.hid (fun (k:Nat)=>show CfB (wr.drewN k) (w.heap.size+1) 0 (fun _=>0) from hzf.below (below_drewN (Below.refl _ _) k))
   have zg0:=zf 0;have zg1:=zf 1;have zg2:=zf 2;have zg3:=zf 3;have zg4:=zf 4
   clear fA fL hb hzf hcf hx hil hbi hi4 zf
   go_wp2_with fail
   go_quiet (fail)
   go_wp2_with fail
   have hf:=set5_heap (HE.out nq) (p:Int) (entX l x but)
   have hch:=set5_chg (wr.drewN nq) (w.heap.size+1) (.int .i64 p) (.int .i64 (entX l x but 0)) (.int .i64 (entX l x but 1)) (.int .i64 (entX l x but 2)) (.int .i64 (entX l x but 3))
   generalize ((((((wr.drewN nq).setCell ⟨w.heap.size+1,0,none⟩ (.int .i64 p)).setCell ⟨w.heap.size+1,1,none⟩ (.int .i64 (entX l x but 0))).setCell ⟨w.heap.size+1,2,none⟩ (.int .i64 (entX l x but 1))).setCell ⟨w.heap.size+1,3,none⟩ (.int .i64 (entX l x but 2))).setCell ⟨w.heap.size+1,4,none⟩ (.int .i64 (entX l x but 3)))=w4 at *
   obtain ⟨r0,r1,r2,r3,r4⟩:=hf.five
   refine bodyPost_ret (v:=.agg #[.int .i64 p,.int .i64 ((entX l x but) 0),.int .i64 ((entX l x but) 1),.int .i64 ((entX l x but) 2),.int .i64 ((entX l x but) 3)]) (by simp [results,Tryz.results69,go_sem,r0,r1,r2,r3,r4]) rfl ⟨rfl,?_⟩
   exact (below_drewN HR.out nq).trans (hch.below (by have:=(below_drewN HR.out nq).size;omega) fun k hk e=>by omega)
end Go.Proofs.YtnmjicfpmkoldaaGreatDoor
