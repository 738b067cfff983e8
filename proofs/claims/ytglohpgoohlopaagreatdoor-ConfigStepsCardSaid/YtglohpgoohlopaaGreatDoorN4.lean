/- Of every tree, config and byte the statement ConfigSteps returns true, and they read afterwards as before; the card: what its row lists is tied to the program's text.
   No condition. -/
import Derived.Test.YtglohpgoohlopaaGreatDoorN2
import Derived.Test.YtglohpgoohlopaaGreatDoorN1
import Derived.Test.YtglohpgoohlopaaGreatDoorPY
import Derived.Test.YtglohpgoohlopaaGreatDoorPM
import Derived.Test.YtglohpgoohlopaaGreatDoorN3
import Derived.Deep.AppendLies
import Derived.Test.YtglohpgoohlopaaGreatDoorPG
import Derived.Test.YtglohpgoohlopaaGreatDoorRows
import Derived.WalkKit
import Derived.KernelRfl
import Derived.Test.YtglohpgoohlopaaGreatDoorPZ
import Derived.Test.YtglohpgoohlopaaGreatDoorPJ
import Derived.StillTailTactics
import Derived.Test.YtglohpgoohlopaaGreatDoorMRef
import Derived.Test.YtglohpgoohlopaaGreatDoorCards
import Derived.Test.YtglohpgoohlopaaGreatDoorTie
import Derived.ProofKit
import Derived.LaidMore
import Derived.OpenShut
import Derived.ChangeOld
import Derived.Below
import Derived.SevenTiedAt

/- config.Step at a right config: a contract.
   Conditions: the automaton lies in memory; its moves go where it has positions; what they make are ints. -/
namespace Go.Proofs.YtglohpgoohlopaaGreatDoor
open Go.RowKit Go.Maps Go.Shelf
attribute [local go_sem] Oper.semAt_some
def StM (m:PM) (lf:List Nat) (x:Nat→Int) (b:Nat) (j:Mv) (k:Kc):Prop:=hasB (m.sets.getD j.tt zeros) b=true∧∃ y,madeX m lf (m.ars.getD j.tt []) x j.kp j.ag=some y∧k=kcOf (j.tt:Nat) y
def StS (m:PM) (lf:List Nat) (x:Nat→Int) (b:Nat) (l:List Mv) (k:Kc):Prop:=∃ j∈l,StM m lf x b j k
def StI (w:World) (mb:Nat) (m:PM) (lf:List Nat) (x:Nat→Int) (b:Nat) (l:List Mv) (n:Nat) (z:Value) (wr:World):Prop:=∃ i:Nat,z=.int .i64 i∧n=l.length - i∧i≤l.length∧CfgS wr mb i (StS m lf x b (l.take i))∧Chg (fun y=>y=mb) w wr
theorem sts_snoc {m:PM} {lf:List Nat} {x:Nat→Int} {b:Nat} {l:List Mv} {i:Nat} {j:Mv} (hj:l[i]? = some j) (k:Kc):StS m lf x b (l.take (i+1)) k↔StS m lf x b (l.take i) k∨StM m lf x b j k:=by
 have e:l.take (i+1)=l.take i ++ [j]:=by rw [List.take_add_one,hj];rfl
 unfold StS
 rw [e]
 constructor
 ·rintro ⟨q,hq,h⟩
  rcases List.mem_append.1 hq with hq | hq
  ·exact .inl ⟨q,hq,h⟩
  ·rw [List.mem_singleton.1 hq] at h;exact .inr h
 ·rintro (⟨q,hq,h⟩ | h)
  ·exact ⟨q,List.mem_append.2 (.inl hq),h⟩
  ·exact ⟨j,List.mem_append.2 (.inr (by simp)),h⟩
theorem sts_skip {m:PM} {lf:List Nat} {x:Nat→Int} {b:Nat} {l:List Mv} {i:Nat} {j:Mv} (hj:l[i]? = some j) (hn:∀ k,¬ StM m lf x b j k) (k:Kc):StS m lf x b (l.take i) k↔StS m lf x b (l.take (i+1)) k:=by
 rw [sts_snoc hj]
 exact ⟨.inl,fun h=>h.elim id fun h=>(hn k h).elim⟩
set_option maxHeartbeats 8000000 in
set_option maxRecDepth 100000 in
theorem step_yes {B:Nat} {m:PM} {a:Au} {fl:List Nat} {la:Nat} (w:World) (hL:AuL w B m a fl la) {vs:List Value} {L:Nat→List Mv} (hrows:RowsM w B a.n (.slice (some ⟨a.mb,0,none⟩) a.n a.n) vs L) {p:Nat} {lf:List Nat} (hp:m.ars[p]? = some lf) (x:Nat→Int) (hr:rightB m (p:Int) x=true) (hC:∀ C∈m.sets,Cl C)
  (hM:∀ j∈L p,j.tt<a.n∧j.kp+(if j.ag then 1 else 0)≤lf.length∧∀ lt y,m.ars[j.tt]? = some lt→madeX m lf lt x j.kp j.ag=some y→Kc63 (kcOf (j.tt:Nat) y)) (hlen:(L p).length<1000000000000) (b:Nat) (hb:b<256) :
  Calls Tryz.prog 16 #[.agg #[.int .i64 a.k,.int .u64 (a.s0:Nat),.int .u64 (a.s1:Nat),.int .u64 (a.s2:Nat),.int .u64 (a.s3:Nat),.slice a.ta a.tn a.tc,.int .i64 a.lo,.int .i64 a.hi,.slice a.sA a.n a.sC,.slice a.cA a.cN a.cC,.slice (some ⟨a.ga,0,none⟩) a.n a.aC,.slice a.fA a.fN a.fC,.slice (some ⟨a.mb,0,none⟩) a.n a.n,.slice (some ⟨a.lb,0,none⟩) a.n a.n,.bool a.em],.agg #[.int .i64 p,.int .i64 (x 0),.int .i64 (x 1),.int .i64 (x 2),.int .i64 (x 3)],.int .u8 b] w fun e w' =>
   ∃ v l,e=.returned v∧l.Nodup∧(∀ k,k∈l↔Kc63 k∧StS m lf x b (L p) k)∧l.length≤(L p).length∧w'.ownsRow w.heap.size 30 5 v (sortC l).length ((sortC l).flatMap kcc)∧Below w.heap.size w w':=by
 obtain ⟨w2,hw2,hb2,ha2,hc2⟩:=au_cf_box w a p x
 have hpn:p<a.n:=by rw [← hL.ars];exact (List.getElem?_eq_some_iff.1 hp).1
 have HF:=Lib.hid (fun (W:World) (h:Below w2.heap.size w2 W)=>show AuB W w.heap.size a∧AuL W B m a fl la∧CfB W (w.heap.size+1) p x from ⟨ha2.below h,hL.below (bhop hb2 h),hc2.below h⟩)
 have HB:=Lib.hid hb2
 have HR:=Lib.hid (fun (W:World) (h:Below w2.heap.size w2 W)=>by
  have:=right_any W (hL.below (bhop hb2 h)) p x
  rw [hr] at this
  exact this)
 obtain ⟨A,c,m1,m2,_⟩:=mv_read hrows hpn
 have HRW:=Lib.hid (fun (W:World) (h:Below w2.heap.size w2 W)=>hrows.below (bhop hb2 h))
 obtain ⟨ln,hln⟩ : ∃ ln,ln=(L p).length:=⟨_,rfl⟩
 have HLN:=Lib.hid (And.intro hln hlen)
 rw [← hln] at m1
 have HM:=Lib.hid (fun (W:World) (h:Below w2.heap.size w2 W)=>show W.cell? ⟨a.mb,p,none⟩=some (.slice A ln c) from ((bhop hb2 h).cell (p:=⟨a.mb,p,none⟩) m2).trans m1)
 have HP:=Lib.hid (And.intro hp (And.intro hM hC))
 have HCN:=Lib.hid (show cntsB m lf x=true from by rw [← right_at (by have h:=right_pos hr;obtain ⟨q,h1,h2,_⟩:=h;omega) hp];exact hr)
 obtain ⟨z0,z1,z2,z3,z4,z5,z6,z7,z8,z9,z10,z11,z12,z13,z14⟩:=ha2.all
 obtain ⟨d0,d1,d2,d3,d4⟩:=hc2.five
 have v1:(0:Int)≤(p:Int):=by omega
 have v2:(p:Int)<(a.n:Int):=by omega
 have v3:((p:Int)).toNat=p:=by omega
 clear hb2 ha2 hc2 hL hr hp hpn m1 m2 hln hrows hM hC hlen
 go_enter Tryz.func16,Tryz.ntmps16
 go_upto_region 1 with fail
 clear hw2
 go_wp2_with fail
 go_at_call 25
 refine (HR.out _ (Below.refl _ _)).mono ?_
 rintro e w3 ⟨rfl,hb3⟩
 have HB3:=Lib.hid hb3
 clear hb3 z0 z1 z2 z3 z4 z5 z6 z7 z8 z9 z10 z11 z12 z13 z14 d0 d1 d2 d3 d4
 have hmm:=@run_makeMap Tryz.prog
 go_upto_region 4 with fail
 clear hmm
 obtain ⟨w4,hw4⟩ : ∃ w4,w3.alloc (.map #[] 0)=w4:=⟨_,rfl⟩
 have hb4:Below w3.heap.size w3 w4:=hw4▸(Below.refl _ w3).alloc (Nat.le_refl _) _
 have hb24:=bhop HB3.out hb4
 have hs4:w4.heap.size=w3.heap.size+1:=by rw [← hw4];simp
 have h0:CfgS w4 w3.heap.size 0 (StS m lf x b ((L p).take 0)):=by
  have h1:CfgS w4 w3.heap.size 0 (fun _=>False):=by rw [← hw4];exact ⟨_,World.ownsMap_made (H:=Unit) w3 Tryz.prog 30 unitElem,cfsAre_nil⟩
  exact h1.iff fun k=>⟨fun h=>h.elim,by rintro ⟨j,hj,_⟩;simp at hj⟩
 obtain ⟨mb,hmb⟩ : ∃ mb,mb=w3.heap.size:=⟨_,rfl⟩
 obtain ⟨z0,z1,z2,z3,z4,z5,z6,z7,z8,z9,z10,z11,z12,z13,z14⟩:=(HF.out w4 hb24).1.all
 obtain ⟨d0,d1,d2,d3,d4⟩:=(HF.out w4 hb24).2.2.five
 have m1':=HM.out w4 hb24
 have H4:=Lib.hid (And.intro hb24 (And.intro hs4 (And.intro h0 hmb)))
 clear hb4 hb24 hs4
 rw [← hmb] at h0
 simp only [hw4]
 clear hw4
 go_wp2_with fail
 clear z0 z1 z2 z3 z4 z5 z6 z7 z8 z9 z10 z11 z12 z13 z14 d0 d1 d2 d3 d4 m1'
 go_loopw [24] (fun z wr=>∃ n,StI w4 mb m lf x b (L p) n z wr) (fun z wr=>leastOf (fun n=>StI w4 mb m lf x b (L p) n z wr))
 case atStart=>exact ⟨_,0,rfl,rfl,Nat.zero_le _,h0,Chg.refl _ _⟩
 case round =>
  have hls:=(leastOf_spec hrel).1
  obtain ⟨i,rfl,hN,hif,hcf,hch⟩:=hls
  have hbr:Below w2.heap.size w2 wr:=H4.out.1.trans (hch.below (by have:=H4.out.2.1;have:=HB3.out.size;omega) fun k hk e=>by have:=H4.out.2.2.2;have:=HB3.out.size;have e:k=mb:=e;omega)
  have HN:=Lib.hid hN
  have HCF:=Lib.hid (And.intro hcf hch)
  have HR2:=Lib.hid hbr
  clear hN hrel hcf h0 hch
  have s1:(0:Int)≤(i:Int):=by omega
  have s3:((i:Int)).toNat=i:=by omega
  by_cases g:i<ln
  ·have s2:(i:Int)<(ln:Int):=by omega
   have gi:i<(L p).length:=by have:=HLN.out.1;omega
   obtain ⟨j,hj⟩ : ∃ j,(L p)[i]? = some j:=⟨_,List.getElem?_eq_getElem gi⟩
   obtain ⟨A',c',n1,_,n3⟩:=mv_read (HRW.out wr hbr) (by omega:p<a.n)
   obtain ⟨rfl,rfl⟩ : A=A'∧c=c':=by
    have:=(HM.out wr hbr).symm.trans n1
    simp only [Option.some.injEq,Value.slice.injEq] at this
    exact ⟨this.1,this.2.2⟩
   obtain ⟨gg,rfl,hgl,y0,y1,y2⟩:=n3 i j hj
   obtain ⟨fA,fL,fC⟩:=HF.out wr hbr
   obtain ⟨hjt,hjk,hj63⟩:=HP.out.2.1 j (List.mem_of_getElem? hj)
   obtain ⟨C,hCt⟩ : ∃ C,m.sets[j.tt]? = some C:=⟨_,List.getElem?_eq_getElem (by rw [fL.sets];exact hjt)⟩
   obtain ⟨lt,hlt⟩ : ∃ lt,m.ars[j.tt]? = some lt:=⟨_,List.getElem?_eq_getElem (by rw [fL.ars];exact hjt)⟩
   obtain ⟨tt,htt⟩ : ∃ tt,tt=j.tt:=⟨_,rfl⟩
   obtain ⟨kp,hkp⟩ : ∃ kp,kp=j.kp:=⟨_,rfl⟩
   obtain ⟨ag,hag⟩ : ∃ ag,ag=j.ag:=⟨_,rfl⟩
   rw [← htt] at y0
   rw [← hkp] at y1
   rw [← hag] at y2
   have HJ:=Lib.hid (And.intro hj (And.intro hjt (And.intro hjk (And.intro hj63 (And.intro hCt (And.intro hlt (And.intro htt (And.intro hkp (And.intro hag (And.intro hif gi))))))))))
   clear fA fL fC hj hjt hjk hj63 hCt hlt htt hkp hag n1 n3 hif gi
   go_upto_region 7 with fail
   obtain ⟨w5,hw5⟩ : ∃ w5,wr.alloc (.cells #[.int .i64 tt,.int .i64 kp,.bool ag] 77)=w5:=⟨_,rfl⟩
   have hb5:Below wr.heap.size wr w5:=hw5▸(Below.refl _ wr).alloc (Nat.le_refl _) _
   have hb25:=bhop hbr hb5
   have hm5:MvB w5 wr.heap.size tt kp ag:=by rw [← hw5];exact heap_alloc_new wr _
   obtain ⟨fA,fL,fC⟩:=HF.out w5 hb25
   have hsz:=fL.lists.sets
   rw [own_num hsz] at hsz
   obtain ⟨gs,hgs,hgsl,e0,e1,e2,e3⟩:=cls_at hsz HJ.out.2.2.2.2.1
   have hsn:=own_num fL.lists.sets
   obtain ⟨c8,_⟩:=fA.cells
   rw [hgs] at c8
   rw [← HJ.out.2.2.2.2.2.2.1] at e0 e1 e2 e3
   obtain ⟨k0,k1,k2⟩:=hm5.cells
   have u1:(0:Int)≤(tt:Int):=by omega
   have u2:(tt:Int)<(a.n:Int):=by have:=HJ.out.2.1;have:=HJ.out.2.2.2.2.2.2.1;omega
   have u3:((tt:Int)).toNat=tt:=by omega
   have HCl:Hid (Cl C):=Lib.hid (HP.out.2.2 C (List.mem_of_getElem? HJ.out.2.2.2.2.1))
   have hib:i<1000000000000:=by have:=HLN.out.2;have:=HJ.out.2.2.2.2.2.2.2.2.2.2;omega
   have HN2:=Lib.hid HN.out
   have HLT:=Lib.hid (show (L p).length - (i+1)<(L p).length - i by have:=HJ.out.2.2.2.2.2.2.2.2.2.2;omega)
   have HH0:=Lib.hid (show hasB (m.sets.getD j.tt zeros) b=hasB C b by rw [List.getD_eq_getElem?_getD,HJ.out.2.2.2.2.1];rfl)
   have HLT2:=Lib.hid (show m.ars.getD j.tt []=lt by rw [List.getD_eq_getElem?_getD,HJ.out.2.2.2.2.2.1];rfl)
   have HNX:=Lib.hid (fun (W:World) (h:Below wr.heap.size wr W) (hn:∀ k,¬ StM m lf x b j k)=>show StI w4 mb m lf x b (L p) ((L p).length - (i+1)) (.int .i64 ((i:Int)+1)) W from
    ⟨i+1,by push_cast;rfl,rfl,HJ.out.2.2.2.2.2.2.2.2.2.2,((HCF.out.1.at (h.block _ HCF.out.1.lt)).mono (Nat.le_succ i)).iff fun k=>sts_skip HJ.out.1 hn k,HCF.out.2.trans (Chg.of_below (R:=fun _=>False) h) fun _ _ q=>q.elim⟩)
   have H5:=Lib.hid (And.intro hb5 (And.intro hb25 hm5))
   clear hsz hsn hgs fA fL fC hb5 hb25 hm5 hbr y0 y1 y2
   simp only [hw5]
   clear hw5
   go_wp2_with fail
   go_at_call 29
   refine (chas_any C b _ HCl.out hb).mono ?_
   rintro e w6 ⟨rfl,hb6⟩
   have HB6:=Lib.hid (bhop H5.out.2.1 hb6)
   have HB56:=Lib.hid hb6
   clear hb6 k0 k1 k2 c8 e0 e1 e2 e3
   cases hh:hasB C b with
   | true =>
    have HH:=Lib.hid hh
    clear hh
    obtain ⟨k0,k1,k2⟩:=(H5.out.2.2.below HB56.out).cells
    obtain ⟨d0,d1,d2,d3,d4⟩:=(HF.out w6 HB6.out).2.2.five
    obtain ⟨r,hr⟩ : ∃ r,madeX m lf lt x kp ag=r:=⟨_,rfl⟩
    have HMR:=Lib.hid hr
    clear hr
    go_wp2_with fail
    refine (made_any w6 (HF.out w6 HB6.out).1 (HF.out w6 HB6.out).2.1 HP.out.1 (show m.ars[tt]? = some lt from by rw [HJ.out.2.2.2.2.2.2.1];exact HJ.out.2.2.2.2.2.1) (show kp+(if ag then 1 else 0)≤lf.length from by rw [HJ.out.2.2.2.2.2.2.2.1,HJ.out.2.2.2.2.2.2.2.2.1];exact HJ.out.2.2.1) x HCN.out r HMR.out).mono ?_
    rintro e w7 ⟨rfl,hb7⟩
    have HB7:=Lib.hid (bhop HB6.out hb7)
    have HB57:=Lib.hid (bhop HB56.out hb7)
    clear hb7 k0 k1 k2 d0 d1 d2 d3 d4
    cases r with
    | none =>
     simp only [mdP,mdX,Option.isSome_none,Option.getD_none,Bool.false_eq_true,if_false]
     have HP1:=Lib.hid (fun (W:World) (h:Below w7.heap.size w7 W)=>HNX.out W (bhop (bhop H5.out.1 HB57.out) h) fun k hk=>by
      obtain ⟨_,y,hy,_⟩:=hk
      rw [HLT2.out,← HJ.out.2.2.2.2.2.2.2.1,← HJ.out.2.2.2.2.2.2.2.2.1,HMR.out] at hy;cases hy)
     have HP2:=Lib.hid (HP1.out _ ((Below.refl _ w7).alloc (Nat.le_refl _) (.cells #[.int .i64 0,.int .i64 0,.int .i64 0,.int .i64 0,.int .i64 0] 30)))
     go_wp2_with fail
     go_roundw
     case rel=>exact ⟨_,HP2.out⟩
     case measure =>
      rw [HN.out]
      exact Nat.lt_of_le_of_lt ((leastOf_spec ⟨_,HP2.out⟩).2 _ HP2.out) HLT.out
    | some y =>
     simp only [mdP,mdX,Option.isSome_some,Option.getD_some,if_true]
     obtain ⟨w8,hw8⟩ : ∃ w8,w7.alloc (.cells #[.int .i64 tt,.int .i64 (y 0),.int .i64 (y 1),.int .i64 (y 2),.int .i64 (y 3)] 30)=w8:=⟨_,rfl⟩
     have hb8:Below w7.heap.size w7 w8:=hw8▸(Below.refl _ w7).alloc (Nat.le_refl _) _
     have hbr8:Below wr.heap.size wr w8:=bhop (bhop H5.out.1 HB57.out) hb8
     have hS8:CfgS w8 w3.heap.size i (StS m lf x b ((L p).take i)):=by
      have h:=HCF.out.1.at (hbr8.block _ HCF.out.1.lt)
      rw [H4.out.2.2.2] at h
      exact h
     have hk63:Kc63 ⟨(tt:Nat),y 0,y 1,y 2,y 3⟩:=by
      have h:=HJ.out.2.2.2.1 lt y HJ.out.2.2.2.2.2.1 (by rw [← HJ.out.2.2.2.2.2.2.2.1,← HJ.out.2.2.2.2.2.2.2.2.1];exact HMR.out)
      rw [← HJ.out.2.2.2.2.2.2.1] at h
      exact h
     obtain ⟨w9,hr9,hm9,hc9⟩:=put_kc hS8 (by unfold maxLen;omega) ⟨(tt:Nat),y 0,y 1,y 2,y 3⟩ hk63
     have HP1:=Lib.hid (show StI w4 mb m lf x b (L p) ((L p).length - (i+1)) (.int .i64 ((i:Int)+1)) w9 from
      ⟨i+1,by push_cast;rfl,rfl,HJ.out.2.2.2.2.2.2.2.2.2.2,by
       rw [H4.out.2.2.2]
       refine hm9.iff fun k=>?_
       rw [sts_snoc HJ.out.1]
       refine or_congr Iff.rfl ⟨fun h=>⟨by rw [HH0.out];exact HH.out,y,by rw [HLT2.out,← HJ.out.2.2.2.2.2.2.2.1,← HJ.out.2.2.2.2.2.2.2.2.1];exact HMR.out,by rw [h,← HJ.out.2.2.2.2.2.2.1];rfl⟩,?_⟩
       rintro ⟨_,y2,h2,h3⟩
       rw [HLT2.out,← HJ.out.2.2.2.2.2.2.2.1,← HJ.out.2.2.2.2.2.2.2.2.1,HMR.out] at h2
       obtain rfl:=Option.some.inj h2
       rw [h3,← HJ.out.2.2.2.2.2.2.1];rfl,
      ((HCF.out.2.trans (Chg.of_below (R:=fun _=>False) hbr8) fun _ _ q=>q.elim).trans hc9 fun k _ e=>by rw [H4.out.2.2.2];exact e)⟩)
     obtain ⟨q0,q1,q2,q3,q4⟩:=CfB.five (show CfB w8 w7.heap.size (tt:Nat) y from by rw [← hw8];exact heap_alloc_new w7 _)
     clear hb8 hbr8 hS8 hk63 hm9 hc9
     go_wp2_with fail
     go_roundw
     case rel=>exact ⟨_,HP1.out⟩
     case measure =>
      rw [HN.out]
      exact Nat.lt_of_le_of_lt ((leastOf_spec ⟨_,HP1.out⟩).2 _ HP1.out) HLT.out
   | false =>
    have HP1:=Lib.hid (HNX.out w6 (bhop H5.out.1 HB56.out) fun k hk=>by
     have:=hk.1
     rw [HH0.out,hh] at this;cases this)
    clear hh
    go_wp2_with fail
    go_roundw
    case rel=>exact ⟨_,HP1.out⟩
    case measure =>
     rw [HN.out]
     exact Nat.lt_of_le_of_lt ((leastOf_spec ⟨_,HP1.out⟩).2 _ HP1.out) HLT.out
  ·have s2:¬ (i:Int)<(ln:Int):=by omega
   have hil:i=(L p).length:=by have:=HLN.out.1;omega
   have hS:CfgS wr w3.heap.size (L p).length (StS m lf x b (L p)):=by
    have h:=HCF.out.1
    rw [hil,List.take_length,H4.out.2.2.2] at h
    exact h
   obtain ⟨w5,hw5⟩ : ∃ w5,w5=wr.alloc (.cells #[.map (some w3.heap.size)] 74):=⟨_,rfl⟩
   have HS:=Lib.hid (sorted_keys hS HLN.out.2 hw5)
   have hb5:Below wr.heap.size wr w5:=by rw [hw5];exact (Below.refl _ wr).alloc (Nat.le_refl _) _
   have HE:=Lib.hid (bhop hbr hb5)
   clear hS hb5 hbr hil hif
   go_wp2_with fail
   go_at_call 36
   refine (keysC_any w3.heap.size wr).mono ?_
   rintro e w5' ⟨rfl,rfl⟩
   rw [← hw5]
   clear hw5
   go_wp2_with fail
   go_at_call 35
   refine HS.out.mono ?_
   rintro e w6 ⟨v,l,rfl,h1,h2,h3,h4,h5⟩
   have HR6:=Lib.hid (And.intro h1 (And.intro h2 (And.intro h3 (And.intro h4 h5))))
   clear h1 h2 h3 h4 h5
   go_wp2_with fail
   go_ret
   have hbw:=bhop HB.out HE.out
   exact ⟨_,_,rfl,HR6.out.1,HR6.out.2.1,HR6.out.2.2.1,own_low HR6.out.2.2.2.1 hbw.size,bhop hbw HR6.out.2.2.2.2⟩
end Go.Proofs.YtglohpgoohlopaaGreatDoor

/- The document's Step at a right config: a contract.
   Conditions: the automaton lies in memory; its moves go where it has positions. -/
namespace Go.Proofs.YtglohpgoohlopaaGreatDoor
open Go.RowKit Go.Maps Go.Shelf
attribute [local go_sem] Oper.semAt_some
theorem infoKc:(Tryz.prog.info? 30).map (fun i=>(i.zero,i.size,i.bytes))=some (some (.agg #[.int .i64 0,.int .i64 0,.int .i64 0,.int .i64 0,.int .i64 0]),5,40):=by kernel_rfl
def RsI (w:World) (m:PM) (lf:List Nat) (x:Nat→Int) (b:Nat) (l:List Mv) (v z:Value) (wr:World):Prop:=∃ (i:Nat) (out:List Kc),z=.int .i64 i∧i≤l.length∧wr.ownsRow w.heap.size 30 5 v out.length (out.flatMap kcc)∧out.Nodup∧out.length≤i∧(∀ k,k∈out↔StS m lf x b (l.take i) k)∧Below w.heap.size w wr
def RsO (w:World) (m:PM) (lf:List Nat) (x:Nat→Int) (b:Nat) (l:List Mv) (e:Ending) (w':World):Prop:=∃ (v:Value) (out:List Kc),e=.returned v∧out.Nodup∧(∀ k,k∈out↔StS m lf x b l k)∧out.length≤l.length∧w'.ownsRow w.heap.size 30 5 v out.length (out.flatMap kcc)∧Below w.heap.size w w'
theorem own_pushK {w wr w2:World} {H g cap:Nat} {q:Kc} {acc:List Kc} {v:Value} {o:Obj} (hown:wr.ownsRow H 30 5 v acc.length (acc.flatMap kcc)) (hb:Below H w wr) (hH:H≤wr.heap.size) (h:w2.ownsRow H 30 5 (.slice (some ⟨g,0,none⟩) (acc.length+1) cap) (acc.length+1) (acc.flatMap kcc ++ kcc q)) (hgrow:(wr.alloc o).grownBy w2 v.ownBlock) :
  w2.ownsRow H 30 5 (.slice (some ⟨g,0,none⟩) (acc.length+1) cap) (acc ++ [q]).length ((acc ++ [q]).flatMap kcc)∧Below H w w2:=by
 refine ⟨by rw [List.length_append,List.flatMap_append];simpa using h,?_⟩
 have hc:Chg (fun k=>H≤k) wr w2:=((Chg.refl (fun k=>H≤k) wr).alloc o).grown hgrow (fun k hk _=>(World.ownsRow.lt hown k hk).1)
 exact hb.trans (hc.below hH fun k hk e=>by omega)
theorem rs_skip {m:PM} {lf:List Nat} {x:Nat→Int} {b i:Nat} {l:List Mv} {out:List Kc} {j:Mv} (hj:l[i]? = some j) (hall:∀ k,k∈out↔StS m lf x b (l.take i) k) (hn:∀ k,StM m lf x b j k→k∈out):∀ k,k∈out↔StS m lf x b (l.take (i+1)) k:=fun k=>by
 rw [sts_snoc hj,← hall k]
 exact ⟨.inl,fun h=>h.elim id (hn k)⟩
set_option maxHeartbeats 8000000 in
set_option maxRecDepth 100000 in
theorem refStep_any {B:Nat} {m:PM} {a:Au} {fl:List Nat} {la:Nat} (w:World) (hL:AuL w B m a fl la) {vs:List Value} {L:Nat→List Mv} (hrows:RowsM w B a.n (.slice (some ⟨a.mb,0,none⟩) a.n a.n) vs L) {p:Nat} {lf:List Nat} (hp:m.ars[p]? = some lf) (x:Nat→Int) (hcn:cntsB m lf x=true) (hC:∀ C∈m.sets,Cl C)
  (hM:∀ j∈L p,j.tt<a.n∧j.kp+(if j.ag then 1 else 0)≤lf.length) (hlen:(L p).length<1000000000) (b:Nat) (hb:b<256) :
  Calls Tryz.prog 17 #[.agg #[.int .i64 a.k,.int .u64 (a.s0:Nat),.int .u64 (a.s1:Nat),.int .u64 (a.s2:Nat),.int .u64 (a.s3:Nat),.slice a.ta a.tn a.tc,.int .i64 a.lo,.int .i64 a.hi,.slice a.sA a.n a.sC,.slice a.cA a.cN a.cC,.slice (some ⟨a.ga,0,none⟩) a.n a.aC,.slice a.fA a.fN a.fC,.slice (some ⟨a.mb,0,none⟩) a.n a.n,.slice (some ⟨a.lb,0,none⟩) a.n a.n,.bool a.em],.agg #[.int .i64 p,.int .i64 (x 0),.int .i64 (x 1),.int .i64 (x 2),.int .i64 (x 3)],.int .u8 b] w (RsO w m lf x b (L p)):=by
 obtain ⟨i0,hi,hz0,hz1,hz2⟩:=info_parts infoKc
 obtain ⟨w2,hw2,hb2,ha2,hc2⟩:=au_cf_box w a p x
 have hpn:p<a.n:=by rw [← hL.ars];exact (List.getElem?_eq_some_iff.1 hp).1
 have HF:=Lib.hid (fun (W:World) (h:Below w2.heap.size w2 W)=>show AuB W w.heap.size a∧AuL W B m a fl la∧CfB W (w.heap.size+1) p x from ⟨ha2.below h,hL.below (bhop hb2 h),hc2.below h⟩)
 have HB:=Lib.hid hb2
 obtain ⟨A,c,m1,m2,_⟩:=mv_read hrows hpn
 have HRW:=Lib.hid (fun (W:World) (h:Below w2.heap.size w2 W)=>hrows.below (bhop hb2 h))
 obtain ⟨ln,hln⟩ : ∃ ln,ln=(L p).length:=⟨_,rfl⟩
 have HLN:=Lib.hid (And.intro hln hlen)
 rw [← hln] at m1
 have HM:=Lib.hid (fun (W:World) (h:Below w2.heap.size w2 W)=>show W.cell? ⟨a.mb,p,none⟩=some (.slice A ln c) from ((bhop hb2 h).cell (p:=⟨a.mb,p,none⟩) m2).trans m1)
 have HP:=Lib.hid (And.intro hp (And.intro hM (And.intro hC hcn)))
 have v1:(0:Int)≤(p:Int):=by omega
 have v2:(p:Int)<(a.n:Int):=by omega
 have v3:((p:Int)).toNat=p:=by omega
 have wb:IntKind.i64.wrap (b:Int)=(b:Int):=by rw [IntKind.wrap_i64];omega
 clear hb2 ha2 hc2 hL hcn hp hpn m1 m2 hln hrows hM hC hlen
 go_enter Tryz.func17,Tryz.ntmps17
 go_upto_region 1 with fail
 clear hw2
 go_wp2_with fail
 go_loopw [7,8] (fun v z wr=>RsI w2 m lf x b (L p) v z wr) (fun _ z _=>match z with | .int _ z=>(L p).length - z.toNat | _=>0)
 case atStart=>exact ⟨0,[],rfl,Nat.zero_le _,World.ownsRow_nil _ _ _ _,List.nodup_nil,Nat.le_refl _,fun k=>⟨fun h=>(by cases h),by rintro ⟨j,hj,_⟩;simp at hj⟩,Below.refl _ _⟩
 case round =>
  obtain ⟨i,out,rfl,hif,hown,hnd,hol,hall,hbr⟩:=hrel
  obtain ⟨oA,oc,rfl⟩:=own_form hown
  have HO:=Lib.hid (And.intro hown (And.intro hnd (And.intro hol (And.intro hall hbr))))
  have s1:(0:Int)≤(i:Int):=by omega
  have s3:((i:Int)).toNat=i:=by omega
  obtain ⟨on,hon⟩ : ∃ n,n=out.length:=⟨_,rfl⟩
  have HON:=Lib.hid hon
  have hm12:=(HF.out wr hbr).1.cells.2.2.2.2.1
  have d0:=(HF.out wr hbr).2.2.five.1
  have m1':=HM.out wr hbr
  by_cases g:i<ln
  ·have s2:(i:Int)<(ln:Int):=by omega
   have gi:i<(L p).length:=by have:=HLN.out.1;omega
   have hib:i<1000000000:=by have:=HLN.out;omega
   have wk:IntKind.i64.wrap ((i:Int)+1)=(i:Int)+1:=by rw [IntKind.wrap_i64];omega
   obtain ⟨j,hj⟩ : ∃ j,(L p)[i]? = some j:=⟨_,List.getElem?_eq_getElem gi⟩
   obtain ⟨A',c',n1,_,n3⟩:=mv_read (HRW.out wr hbr) (by omega:p<a.n)
   obtain ⟨rfl,rfl⟩ : A=A'∧c=c':=by
    have:=(HM.out wr hbr).symm.trans n1
    simp only [Option.some.injEq,Value.slice.injEq] at this
    exact ⟨this.1,this.2.2⟩
   obtain ⟨gg,rfl,hgl,y0,y1,y2⟩:=n3 i j hj
   obtain ⟨fA,fL,fC⟩:=HF.out wr hbr
   obtain ⟨hjt,hjk⟩:=HP.out.2.1 j (List.mem_of_getElem? hj)
   obtain ⟨C,hCt⟩ : ∃ C,m.sets[j.tt]? = some C:=⟨_,List.getElem?_eq_getElem (by rw [fL.sets];exact hjt)⟩
   obtain ⟨lt,hlt⟩ : ∃ lt,m.ars[j.tt]? = some lt:=⟨_,List.getElem?_eq_getElem (by rw [fL.ars];exact hjt)⟩
   obtain ⟨tt,htt⟩ : ∃ tt,tt=j.tt:=⟨_,rfl⟩
   obtain ⟨kp,hkp⟩ : ∃ kp,kp=j.kp:=⟨_,rfl⟩
   obtain ⟨ag,hag⟩ : ∃ ag,ag=j.ag:=⟨_,rfl⟩
   rw [← htt] at y0
   rw [← hkp] at y1
   rw [← hag] at y2
   rw [← htt] at hCt hlt hjt
   rw [← hkp,← hag] at hjk
   have HJ:=Lib.hid (And.intro hj (And.intro hjt (And.intro hjk (And.intro hCt (And.intro hlt (And.intro htt (And.intro hkp (And.intro hag gi))))))))
   obtain ⟨w5,hw5⟩ : ∃ w5,wr.alloc (.cells #[.int .i64 tt,.int .i64 kp,.bool ag] 77)=w5:=⟨_,rfl⟩
   have hb5:Below wr.heap.size wr w5:=hw5▸(Below.refl _ wr).alloc (Nat.le_refl _) _
   have hm5:MvB w5 wr.heap.size tt kp ag:=by rw [← hw5];exact heap_alloc_new wr _
   obtain ⟨r,hr⟩ : ∃ r,madeX m lf lt x kp ag=r:=⟨_,rfl⟩
   have HMR:=Lib.hid hr
   have HMY:=Lib.hid (fun (W:World) (h:Below w2.heap.size w2 W)=>refMay_any W (HF.out W h).2.1 HP.out.1 hlt hjk x HP.out.2.2.2 r hr)
   have HCl:Hid (Cl C):=Lib.hid (HP.out.2.2.1 C (List.mem_of_getElem? hCt))
   have HH0:=Lib.hid (show hasB (m.sets.getD j.tt zeros) b=hasB C b by rw [← htt,List.getD_eq_getElem?_getD,hCt];rfl)
   have HLT2:=Lib.hid (show m.ars.getD j.tt []=lt by rw [← htt,List.getD_eq_getElem?_getD,hlt];rfl)
   have H5:=Lib.hid (And.intro hb5 (And.intro (bhop hbr hb5) hm5))
   clear fA fL fC hj hjt hjk hCt hlt htt hkp hag n1 n3 hif gi hown hnd hol hall hbr hb5 hm5 hr hon
   go_upto_region 6 with fail
   clear hw5 y0 y1 y2 m1' hm12 d0
   obtain ⟨k0,k1,k2⟩:=H5.out.2.2.cells
   obtain ⟨z0,z1,z2,z3,z4,z5,z6,z7,z8,z9,z10,z11,z12,z13,z14⟩:=(HF.out w5 H5.out.2.1).1.all
   obtain ⟨d0,d1,d2,d3,d4⟩:=(HF.out w5 H5.out.2.1).2.2.five
   go_wp2_with fail
   go_at_call 38
   refine (HMY.out w5 H5.out.2.1).mono ?_
   rintro e w6 ⟨rfl,hb6⟩
   have HB6:=Lib.hid (And.intro (bhop H5.out.1 hb6) (bhop H5.out.2.1 hb6))
   have HM6:=Lib.hid (H5.out.2.2.below hb6)
   clear hb6 k0 k1 k2 z0 z1 z2 z3 z4 z5 z6 z7 z8 z9 z10 z11 z12 z13 z14 d0 d1 d2 d3 d4
   obtain ⟨w7,hw7,hb7,hc7⟩ : ∃ w7,w6.alloc (.cells #[.int .i64 (mdP tt r),.int .i64 ((mdX r) 0),.int .i64 ((mdX r) 1),.int .i64 ((mdX r) 2),.int .i64 ((mdX r) 3)] 30)=w7∧Below w6.heap.size w6 w7∧CfB w7 w6.heap.size (mdP tt r) (mdX r):=⟨_,rfl,(Below.refl _ w6).alloc (Nat.le_refl _) _,heap_alloc_new w6 _⟩
   have HB7:=Lib.hid (And.intro (bhop HB6.out.1 hb7) (bhop HB6.out.2 hb7))
   have HM7:=Lib.hid (And.intro (HM6.out.below hb7) hc7)
   obtain ⟨nb,hnb⟩ : ∃ n,n=w6.heap.size:=⟨_,rfl⟩
   rw [← hnb] at HM7
   clear hb7 hc7
   cases r with
   | none =>
    have HSK:=Lib.hid (show ∀ k,StM m lf x b j k→k∈out from fun k hk=>by
     obtain ⟨_,y,hy,_⟩:=hk
     rw [HLT2.out,← HJ.out.2.2.2.2.2.2.1,← HJ.out.2.2.2.2.2.2.2.1,HMR.out] at hy;cases hy)
    have HWW:=Lib.hid (And.intro HB7.out.1 (bhop HB7.out.2 (Below.refl _ _)))
    simp only [mdP,mdX,Option.isSome_none,Option.getD_none,Bool.false_eq_true,if_false] at hw7 ⊢
    have HW7:=Lib.hid hw7
    clear hw7
    go_upto_region 7 with fail
    rw [HW7.out]
    go_wp2_with fail
    go_roundw
    case rel=>exact ⟨i+1,out,by push_cast;rfl,HJ.out.2.2.2.2.2.2.2.2,own_chg HO.out.1 (Chg.of_below (R:=fun _=>False) HWW.out.1) fun _ _=>id,HO.out.2.1,by have:=HO.out.2.2.1;omega,rs_skip HJ.out.1 HO.out.2.2.2.1 HSK.out,HWW.out.2⟩
    case measure=>have:=HJ.out.2.2.2.2.2.2.2.2;simp;omega
   | some y =>
    simp only [mdP,mdX,Option.isSome_some,Option.getD_some,if_true] at hw7 HM7 ⊢
    go_upto_region 7 with fail
    rw [← hnb]
    clear hw7 hnb
    obtain ⟨k0,k1,k2⟩:=HM7.out.1.cells
    obtain ⟨fA,fL,_⟩:=HF.out w7 HB7.out.2
    have hsz:=fL.lists.sets
    rw [own_num hsz] at hsz
    obtain ⟨gs,hgs,hgsl,e0,e1,e2,e3⟩:=cls_at hsz HJ.out.2.2.2.1
    have c8:=fA.cells.1
    rw [hgs] at c8
    have u1:(0:Int)≤(tt:Int):=by omega
    have u2:(tt:Int)<(a.n:Int):=by have:=HJ.out.2.1;omega
    have u3:((tt:Int)).toNat=tt:=by omega
    obtain ⟨d0,d1,d2,d3,d4⟩:=HM7.out.2.five
    clear hsz hgs fA fL
    go_wp2_with fail
    go_at_call 32
    refine (rhas_any C b _ HCl.out hb).mono ?_
    rintro e w8 ⟨rfl,hb8⟩
    have HB8:=Lib.hid (And.intro (bhop HB7.out.1 hb8) (bhop HB7.out.2 hb8))
    have HM8:=Lib.hid (HM7.out.2.below hb8)
    clear hb8 k0 k1 k2 e0 e1 e2 e3 c8 d0 d1 d2 d3 d4
    cases hh:hasB C b with
    | false =>
     have HSK:=Lib.hid (show ∀ k,StM m lf x b j k→k∈out from fun k hk=>by
      have:=hk.1
      rw [HH0.out,hh] at this;cases this)
     have HWW:=Lib.hid (And.intro HB8.out.1 HB8.out.2)
     clear hh
     go_wp2_with fail
     go_roundw
     case rel=>exact ⟨i+1,out,by push_cast;rfl,HJ.out.2.2.2.2.2.2.2.2,own_chg HO.out.1 (Chg.of_below (R:=fun _=>False) HWW.out.1) fun _ _=>id,HO.out.2.1,by have:=HO.out.2.2.1;omega,rs_skip HJ.out.1 HO.out.2.2.2.1 HSK.out,HWW.out.2⟩
     case measure=>have:=HJ.out.2.2.2.2.2.2.2.2;simp;omega
    | true =>
     obtain ⟨k,hk⟩ : ∃ k,k=kcOf (tt:Nat) y:=⟨_,rfl⟩
     have HST:=Lib.hid (show StM m lf x b j k from ⟨by rw [HH0.out];exact hh,y,by rw [HLT2.out,← HJ.out.2.2.2.2.2.2.1,← HJ.out.2.2.2.2.2.2.2.1];exact HMR.out,by rw [hk,← HJ.out.2.2.2.2.2.1]⟩)
     have HSU:=Lib.hid (show ∀ k',StM m lf x b j k'→k'=k from fun k' hk'=>by
      obtain ⟨_,y2,h2,h3⟩:=hk'
      rw [HLT2.out,← HJ.out.2.2.2.2.2.2.1,← HJ.out.2.2.2.2.2.2.2.1,HMR.out] at h2
      obtain rfl:=Option.some.inj h2
      rw [h3,hk,← HJ.out.2.2.2.2.2.1])
     have HKc:=Lib.hid hk
     have own8:=own_chg HO.out.1 (Chg.of_below (R:=fun _=>False) HB8.out.1) fun _ _=>id
     have HHC:=Lib.hid (hasC_any w8 oA oc out (own_cfs own8) (by have:=HO.out.2.2.1;omega) k)
     obtain ⟨d0,d1,d2,d3,d4⟩:=HM8.out.five
     have hp0:k.p=(tt:Int):=by rw [hk];rfl
     have hp1:k.a=y 0:=by rw [hk];rfl
     have hp2:k.b=y 1:=by rw [hk];rfl
     have hp3:k.c=y 2:=by rw [hk];rfl
     have hp4:k.d=y 3:=by rw [hk];rfl
     rw [← hp0] at d0
     rw [← hp1] at d1
     rw [← hp2] at d2
     rw [← hp3] at d3
     rw [← hp4] at d4
     clear hh hk own8 hp0 hp1 hp2 hp3 hp4
     go_wp2_with fail
     go_at_call 24
     refine HHC.out.mono ?_
     rintro e w9 ⟨rfl,hb9⟩
     have HB9:=Lib.hid (And.intro (bhop HB8.out.1 hb9) (bhop HB8.out.2 hb9))
     obtain ⟨q0,q1,q2,q3,q4⟩:=HM8.out.five
     have e0:=(hb9.cell (p:=⟨nb,0,none⟩) HM8.out.lt).trans d0
     have e1:=(hb9.cell (p:=⟨nb,1,none⟩) HM8.out.lt).trans d1
     have e2:=(hb9.cell (p:=⟨nb,2,none⟩) HM8.out.lt).trans d2
     have e3:=(hb9.cell (p:=⟨nb,3,none⟩) HM8.out.lt).trans d3
     have e4:=(hb9.cell (p:=⟨nb,4,none⟩) HM8.out.lt).trans d4
     clear hb9 d0 d1 d2 d3 d4 q0 q1 q2 q3 q4
     cases hk2:hasK out k with
     | true =>
      have HSK:=Lib.hid (show ∀ k',StM m lf x b j k'→k'∈out from fun k' hk'=>by rw [HSU.out k' hk'];exact hasK_iff.1 hk2)
      have HWW:=Lib.hid (And.intro HB9.out.1 HB9.out.2)
      clear hk2 e0 e1 e2 e3 e4
      go_wp2_with fail
      go_roundw
      case rel=>exact ⟨i+1,out,by push_cast;rfl,HJ.out.2.2.2.2.2.2.2.2,own_chg HO.out.1 (Chg.of_below (R:=fun _=>False) HWW.out.1) fun _ _=>id,HO.out.2.1,by have:=HO.out.2.2.1;omega,rs_skip HJ.out.1 HO.out.2.2.2.1 HSK.out,HWW.out.2⟩
      case measure=>have:=HJ.out.2.2.2.2.2.2.2.2;simp;omega
     | false =>
      have hkn:k ∉ out:=fun h=>by rw [hasK_iff.2 h] at hk2;cases hk2
      have HKN:=Lib.hid hkn
      have own9:=own_chg HO.out.1 (Chg.of_below (R:=fun _=>False) HB9.out.1) fun _ _=>id
      have hob:out.length≤1000000000:=by have:=HO.out.2.2.1;omega
      have HSz:=Lib.hid HB9.out.2.size
      have own10:w9.ownsRow w2.heap.size 30 5 (.slice oA on oc) on (out.flatMap kcc):=by rw [HON.out];exact own9
      have HO10:=Lib.hid own10
      have hob2:on≤1000000000:=by rw [HON.out];exact hob
      rw [← HON.out]
      clear hk2 hkn own9 hob
      go_upto_region 8 with fail
      go_wp2_with ((at_builtin;refine wpList_append_lies _ (by rfl) _ _ 45 (by rfl) w2.heap.size 30 i0 _ 5 40 Tryz.underlying45 hi hz0 hz1 hz2 rfl (by decide) (.slice oA on oc) on (out.flatMap kcc) (by rfl) (World.ownsRow.alloc own10 _) ⟨w9.heap.size,0,none⟩ 1 1 [.int .i64 k.p,.int .i64 k.a,.int .i64 k.b,.int .i64 k.c,.int .i64 k.d] (by rfl) rfl (World.news_of_block (heap_alloc_new w9 _)) (by simp [Value.oneCell']) (by decide) ?c3 ?c4 ?c5 _ rfl ?_))
      case c3=>unfold maxLen;omega
      case c4=>omega
      case c5=>have:=HSz.out;simp;omega
      intro gB cpB wB hown2 hgrow _ _
      have HA:=Lib.hid (own_pushK (q:=k) (acc:=out) (v:=.slice oA on oc) (by rw [← HON.out];exact HO10.out) HB9.out.2 HB9.out.2.size (by rw [← HON.out];exact hown2) hgrow)
      clear hown2 hgrow e0 e1 e2 e3 e4 own10
      go_wp2_with fail
      go_roundw
      case rel=>exact ⟨i+1,out ++ [k],by push_cast;rfl,HJ.out.2.2.2.2.2.2.2.2,by rw [HON.out];exact HA.out.1,List.nodup_append.2 ⟨HO.out.2.1,by simp,fun u hu v hv e=>by
       rw [List.mem_singleton.1 hv] at e
       exact HKN.out (e▸hu)⟩,by have:=HO.out.2.2.1;simp;omega,fun k'=>by
        rw [sts_snoc HJ.out.1,← HO.out.2.2.2.1 k',List.mem_append,List.mem_singleton]
        exact or_congr Iff.rfl ⟨fun h=>h▸HST.out,HSU.out k'⟩,HA.out.2⟩
      case measure=>have:=HJ.out.2.2.2.2.2.2.2.2;simp;omega
  ·have s2:¬ (i:Int)<(ln:Int):=by omega
   have hil:i=(L p).length:=by have:=HLN.out.1;omega
   have HE:=Lib.hid (show ∀ k,k∈out↔StS m lf x b (L p) k by rw [hil,List.take_length] at hall;exact hall)
   have HLL:=Lib.hid (show out.length≤(L p).length by omega)
   clear hil hif hall hown hnd hol hbr
   go_wp2_with fail
   go_ret
   exact ⟨_,out,rfl,HO.out.2.1,HE.out,HLL.out,own_low HO.out.1 HB.out.size,bhop HB.out HO.out.2.2.2.2⟩
end Go.Proofs.YtglohpgoohlopaaGreatDoor

/- Few moves, few first positions; a right config's numbers; two lists of configs behind a byte: plain facts.
   Conditions: those that each theorem states. -/
namespace Go.Proofs.YtglohpgoohlopaaGreatDoor
open Go.RowKit
theorem fl_few {fl:List Nat} {n:Nat} (hs:fl.Pairwise (· < ·)) (h:∀ q∈fl,q<n):fl.length≤n:=by
 have h1:fl.Nodup:=hs.imp fun h=>Nat.ne_of_lt h
 have h2:=h1.length_le_of_subset (l₂:=List.range n) fun q hq=>List.mem_range.2 (h q hq)
 rwa [List.length_range] at h2
theorem mv_few {l:List Mv} {n:Nat} (hs:l.Pairwise mvLt) (h:∀ x∈l,x.kp≤4∧x.tt<n):l.length≤n * 10:=by
 have h1:(l.map fun x=>x.tt * 10+x.kp * 2+(if x.ag then 1 else 0)).Nodup:=by
  rw [List.Nodup,List.pairwise_map]
  refine hs.imp_of_mem fun {x y} hx hy hlt e=>?_
  obtain ⟨a1,_⟩:=h x hx
  obtain ⟨b1,_⟩:=h y hy
  obtain ⟨t,k,g⟩:=x
  obtain ⟨t',k',g'⟩:=y
  have a1:k≤4:=a1
  have b1:k'≤4:=b1
  have e:t * 10+k * 2+(if g then 1 else 0)=t' * 10+k' * 2+(if g' then 1 else 0):=e
  have e3:g=g':=by
   cases g <;> cases g' <;> simp at e ⊢ <;> omega
  subst e3
  obtain ⟨rfl,rfl⟩ : t=t'∧k=k':=by
   cases g <;> simp at e <;> omega
  exact mvLt_irr _ hlt
 have h2:=h1.length_le_of_subset (l₂:=List.range (n * 10)) fun q hq=>by
  obtain ⟨x,hx,rfl⟩:=List.mem_map.1 hq
  obtain ⟨a1,a2⟩:=h x hx
  rw [List.mem_range]
  split <;> omega
 rwa [List.length_map,List.length_range] at h2
theorem right_kc {m:PM} {p:Int} {x:Nat→Int}:rightB m (kcOf p x).p (kcOf p x).x=rightB m p x:=rfl
theorem step_same {m:PM} {lf:List Nat} {x:Nat→Int} {b:Nat} {l:List Mv} {u v:List Kc} (hu:u.Nodup) (hv:v.Nodup) (h1:∀ k,k∈u↔Kc63 k∧StS m lf x b l k) (h2:∀ k,k∈v↔StS m lf x b l k) (h63:∀ k,StS m lf x b l k→Kc63 k) :
  (sortC u).length=v.length∧(∀ k∈sortC u,k∈v)∧(sortC u).Pairwise kcLt:=by
 have hm:∀ k,k∈u↔k∈v:=fun k=>by
  rw [h1,h2]
  exact ⟨fun h=>h.2,fun h=>⟨h63 k h,h⟩⟩
 refine ⟨(sortC_perm u).length_eq.trans (same_len hu hv hm),fun k hk=>(hm k).1 ((sortC_perm u).mem_iff.1 hk),sortC_lt hu⟩
end Go.Proofs.YtglohpgoohlopaaGreatDoor

/- Two drawn regions of the walk of ConfigSteps: an automaton and a config are loaded, and the document's Right is called.
   Conditions: what they load lies in memory; what Right answers. -/
namespace Go.Proofs.YtglohpgoohlopaaGreatDoor
open Go.RowKit
abbrev opsregRta:Array Oper:=#[{ dst:=some 40,op:=Op.load 41 (Operand.tmp 7),type:=41,pos := "law.go:98",after:=#[],guard:=none },
 { dst:=some 41,op:=Op.move (Operand.tmp 9),type:=45,pos := "law.go:98",after:=#[],guard:=none },
 { dst:=some 42,op:=Op.move (Operand.tmp 10),type:=3,pos := "law.go:98",after:=#[],guard:=none },
 { dst:=some 43,op:=Op.indexAddr 45 (Operand.tmp 41) (Operand.tmp 42),type:=0,pos := "law.go:98",after:=#[{ on:=1,ground:=Ground.data },{ on:=2,ground:=Ground.data }],guard:=none },
 { dst:=some 44,op:=Op.load 30 (Operand.tmp 43),type:=30,pos := "law.go:98",after:=#[{ on:=3,ground:=Ground.data }],guard:=none },
 { dst:=some 45,op:=Op.call { callee:=Callee.value (Operand.func 15),args:=#[Operand.tmp 40,Operand.tmp 44],argTypes:=#[41,30] },type:=4,pos := "law.go:98",after:=#[{ on:=0,ground:=Ground.data },{ on:=4,ground:=Ground.data }],guard:=none },
 { dst:=some 46,op:=Op.unOp UnOp.not 4 (Operand.tmp 45),type:=4,pos := "law.go:98",after:=#[{ on:=5,ground:=Ground.data }],guard:=none }]
def WregRta (ca:Array Value) (ab g ln c i:Nat) (x0 x1 x2 x3 x4:Int) (D:List Deferred) (v0 v1 v2 v3 v4 v5 v6 v8 v11 v12 v13 v14 v15 v16 v17 v18 v19 v20 v21 v22 v23 v24 v25 v26 v27 v28 v29 v30 v31 v32 v33 v34 v35 v36 v37 v38 v39 v47 v48 v49 v50 v51 v52 v53 v54 v55 v56 v57 v58 v59 v60 v61 v62 v63 v64 v65 v66 v67 v68 v69 v70 v71 v72 v73 v74 v75 v76 v77 v78 v79:Value) (w0:World) (l:Nat→Bool) (a:Act) (w:World):Prop :=
 ∃ (y0 y1 y2 y3 y4 y5 y6:Value),a = { tmps:=#[v0,v1,v2,v3,v4,v5,v6,.pointer (some ⟨ab,0,none⟩),v8,.slice (some ⟨g,0,none⟩) ln c,.int .i64 (i:Int),v11,v12,v13,v14,v15,v16,v17,v18,v19,v20,v21,v22,v23,v24,v25,v26,v27,v28,v29,v30,v31,v32,v33,v34,v35,v36,v37,v38,v39,y0,y1,y2,y3,y4,y5,y6,v47,v48,v49,v50,v51,v52,v53,v54,v55,v56,v57,v58,v59,v60,v61,v62,v63,v64,v65,v66,v67,v68,v69,v70,v71,v72,v73,v74,v75,v76,v77,v78,v79],defers:=D }∧Below w0.heap.size w0 w ∧
  (l 0=true→y0=.agg ca)∧(l 1=true→y1=.slice (some ⟨g,0,none⟩) ln c)∧(l 2=true→y2=.int .i64 (i:Int))∧(l 3=true→y3=.pointer (some ⟨g,i * 5,none⟩))∧(l 4=true→y4=.agg #[.int .i64 x0,.int .i64 x1,.int .i64 x2,.int .i64 x3,.int .i64 x4])∧(l 5=true→y5=.bool true)∧(l 6=true→y6=.bool false)
set_option maxHeartbeats 8000000 in
set_option maxRecDepth 100000 in
theorem regRta (ca:Array Value) (ab g ln c i:Nat) (x0 x1 x2 x3 x4:Int) (D:List Deferred) (v0 v1 v2 v3 v4 v5 v6 v8 v11 v12 v13 v14 v15 v16 v17 v18 v19 v20 v21 v22 v23 v24 v25 v26 v27 v28 v29 v30 v31 v32 v33 v34 v35 v36 v37 v38 v39 v47 v48 v49 v50 v51 v52 v53 v54 v55 v56 v57 v58 v59 v60 v61 v62 v63 v64 v65 v66 v67 v68 v69 v70 v71 v72 v73 v74 v75 v76 v77 v78 v79 wy0 wy1 wy2 wy3 wy4 wy5 wy6:Value) (w:World) (s1:(0:Int)≤(i:Int)) (s2:(i:Int)<(ln:Int)) (s3:((i:Int)).toNat=i) (hA:∀ w',Below w.heap.size w w'→w'.heap[ab]? = some (.cells ca 41 (0,0))) (sA:(Tryz.prog.info? 41).map (·.size)=some ca.size) (hx:∀ w',Below w.heap.size w w'→w'.cell? ⟨g,i * 5,none⟩=some (.int .i64 x0)∧w'.cell? ⟨g,i * 5+1,none⟩=some (.int .i64 x1)∧w'.cell? ⟨g,i * 5+2,none⟩=some (.int .i64 x2)∧w'.cell? ⟨g,i * 5+3,none⟩=some (.int .i64 x3)∧w'.cell? ⟨g,i * 5+4,none⟩=some (.int .i64 x4)) (hc:∀ w',Below w.heap.size w w'→Calls Tryz.prog 15 #[.agg ca,.agg #[.int .i64 x0,.int .i64 x1,.int .i64 x2,.int .i64 x3,.int .i64 x4]] w' fun e w2=>e=.returned (.bool true)∧Below w'.heap.size w' w2) (Q:Exit→Act→World→Prop)
  (hQ:∀ (y0 y1 y2 y3 y4 y5:Value) (w':World),Below w.heap.size w w'→Q .normal { tmps:=#[v0,v1,v2,v3,v4,v5,v6,.pointer (some ⟨ab,0,none⟩),v8,.slice (some ⟨g,0,none⟩) ln c,.int .i64 (i:Int),v11,v12,v13,v14,v15,v16,v17,v18,v19,v20,v21,v22,v23,v24,v25,v26,v27,v28,v29,v30,v31,v32,v33,v34,v35,v36,v37,v38,v39,y0,y1,y2,y3,y4,y5,.bool false,v47,v48,v49,v50,v51,v52,v53,v54,v55,v56,v57,v58,v59,v60,v61,v62,v63,v64,v65,v66,v67,v68,v69,v70,v71,v72,v73,v74,v75,v76,v77,v78,v79],defers:=D } w') :
  (Code.region 13 opsregRta true).wp Tryz.prog Q { tmps:=#[v0,v1,v2,v3,v4,v5,v6,.pointer (some ⟨ab,0,none⟩),v8,.slice (some ⟨g,0,none⟩) ln c,.int .i64 (i:Int),v11,v12,v13,v14,v15,v16,v17,v18,v19,v20,v21,v22,v23,v24,v25,v26,v27,v28,v29,v30,v31,v32,v33,v34,v35,v36,v37,v38,v39,wy0,wy1,wy2,wy3,wy4,wy5,wy6,v47,v48,v49,v50,v51,v52,v53,v54,v55,v56,v57,v58,v59,v60,v61,v62,v63,v64,v65,v66,v67,v68,v69,v70,v71,v72,v73,v74,v75,v76,v77,v78,v79],defers:=D } w:=by
 refine wp_region_inv (by kernel_rfl) (WregRta ca ab g ln c i x0 x1 x2 x3 x4 D v0 v1 v2 v3 v4 v5 v6 v8 v11 v12 v13 v14 v15 v16 v17 v18 v19 v20 v21 v22 v23 v24 v25 v26 v27 v28 v29 v30 v31 v32 v33 v34 v35 v36 v37 v38 v39 v47 v48 v49 v50 v51 v52 v53 v54 v55 v56 v57 v58 v59 v60 v61 v62 v63 v64 v65 v66 v67 v68 v69 v70 v71 v72 v73 v74 v75 v76 v77 v78 v79 w) ?hacy ?h0 ?hstep ?hdone
 case hacy=>kernel_rfl
 case h0=>exact ⟨wy0,wy1,wy2,wy3,wy4,wy5,wy6,rfl,below_drewN (Below.refl _ _) 1,(fun p=>by cases p),(fun p=>by cases p),(fun p=>by cases p),(fun p=>by cases p),(fun p=>by cases p),(fun p=>by cases p),(fun p=>by cases p)⟩
 case hdone =>
  intro l a w1 hI hall
  obtain ⟨y0,y1,y2,y3,y4,y5,y6,rfl,hb,h0,h1,h2,h3,h4,h5,h6⟩:=hI
  obtain rfl:=h6 (hall 6 (by decide))
  exact hQ _ _ _ _ _ _ _ hb
 case hstep =>
  intro l a w1 i o hI ho hl hall
  obtain ⟨y0,y1,y2,y3,y4,y5,y6,rfl,hb,h0,h1,h2,h3,h4,h5,h6⟩:=hI
  have hi:i<7:=(Array.getElem?_eq_some_iff.1 ho).1
  match i,hi with
  | 0,_ =>
   have ho':=ho
   simp [opsregRta] at ho
   subst ho
   refine wpOp_one ho' rfl fun K hK=>?_
   refine wp_load_row 41 (.tmp 7) rfl ab rfl 41 ca (0,0) _ (hA w1 hb) Tryz.underlying41 rfl sA ?_
   exact hK _ _ ⟨_,y1,y2,y3,y4,y5,y6,rfl,hb,fun _=>(by first | rfl | simp),h1,h2,h3,h4,h5,h6⟩
  | 1,_ =>
   have ho':=ho
   simp [opsregRta] at ho
   subst ho
   refine wpOp_one ho' rfl fun K hK=>?_
   go_simp
   exact hK _ _ ⟨y0,_,y2,y3,y4,y5,y6,rfl,hb,h0,fun _=>(by first | rfl | simp),h2,h3,h4,h5,h6⟩
  | 2,_ =>
   have ho':=ho
   simp [opsregRta] at ho
   subst ho
   refine wpOp_one ho' rfl fun K hK=>?_
   go_simp
   exact hK _ _ ⟨y0,y1,_,y3,y4,y5,y6,rfl,hb,h0,h1,fun _=>(by first | rfl | simp),h3,h4,h5,h6⟩
  | 3,_ =>
   have ho':=ho
   simp [opsregRta] at ho
   subst ho
   obtain rfl:=h1 (hall ⟨1,.data⟩ (by simp) rfl)
   obtain rfl:=h2 (hall ⟨2,.data⟩ (by simp) rfl)
   refine wpOp_one ho' rfl fun K hK=>?_
   go_simp
   exact hK _ _ ⟨y0,_,_,_,y4,y5,y6,rfl,hb,h0,fun _=>rfl,fun _=>rfl,fun _=>(by first | rfl | simp),h4,h5,h6⟩
  | 4,_ =>
   have ho':=ho
   simp [opsregRta] at ho
   subst ho
   obtain rfl:=h3 (hall ⟨3,.data⟩ (by simp) rfl)
   refine wpOp_one ho' rfl fun K hK=>?_
   obtain ⟨q0,q1,q2,q3,q4⟩:=hx w1 hb
   go_simp
   exact hK _ _ ⟨y0,y1,y2,_,_,y5,y6,rfl,hb,h0,h1,h2,fun _=>rfl,fun _=>(by first | rfl | simp),h5,h6⟩
  | 5,_ =>
   have ho':=ho
   simp [opsregRta] at ho
   subst ho
   obtain rfl:=h0 (hall ⟨0,.data⟩ (by simp) rfl)
   obtain rfl:=h4 (hall ⟨4,.data⟩ (by simp) rfl)
   refine wpOp_one ho' rfl fun K hK=>?_
   go_simp
   go_at_call 15
   refine (hc _ hb).mono ?_
   rintro e w2 ⟨rfl,hb2⟩
   exact hK _ _ ⟨_,y1,y2,y3,_,_,y6,rfl,(hb.trans (hb2.mono hb.size)),fun _=>rfl,h1,h2,h3,fun _=>rfl,fun _=>(by first | rfl | simp),h6⟩
  | 6,_ =>
   have ho':=ho
   simp [opsregRta] at ho
   subst ho
   obtain rfl:=h5 (hall ⟨5,.data⟩ (by simp) rfl)
   refine wpOp_one ho' rfl fun K hK=>?_
   go_simp
   exact hK _ _ ⟨y0,y1,y2,y3,y4,_,_,rfl,hb,h0,h1,h2,h3,h4,fun _=>rfl,fun _=>(by first | rfl | simp)⟩
  | k+7,hi=>omega
abbrev opsregRtb:Array Oper:=#[{ dst:=some 67,op:=Op.load 41 (Operand.tmp 7),type:=41,pos := "law.go:107",after:=#[],guard:=none },
 { dst:=some 68,op:=Op.move (Operand.tmp 11),type:=45,pos := "law.go:107",after:=#[],guard:=none },
 { dst:=some 69,op:=Op.move (Operand.tmp 12),type:=3,pos := "law.go:107",after:=#[],guard:=none },
 { dst:=some 70,op:=Op.indexAddr 45 (Operand.tmp 68) (Operand.tmp 69),type:=0,pos := "law.go:107",after:=#[{ on:=1,ground:=Ground.data },{ on:=2,ground:=Ground.data }],guard:=none },
 { dst:=some 71,op:=Op.load 30 (Operand.tmp 70),type:=30,pos := "law.go:107",after:=#[{ on:=3,ground:=Ground.data }],guard:=none },
 { dst:=some 72,op:=Op.call { callee:=Callee.value (Operand.func 15),args:=#[Operand.tmp 67,Operand.tmp 71],argTypes:=#[41,30] },type:=4,pos := "law.go:107",after:=#[{ on:=0,ground:=Ground.data },{ on:=4,ground:=Ground.data }],guard:=none },
 { dst:=some 73,op:=Op.unOp UnOp.not 4 (Operand.tmp 72),type:=4,pos := "law.go:107",after:=#[{ on:=5,ground:=Ground.data }],guard:=none }]
def WregRtb (ca:Array Value) (ab g ln c i:Nat) (x0 x1 x2 x3 x4:Int) (D:List Deferred) (v0 v1 v2 v3 v4 v5 v6 v8 v9 v10 v13 v14 v15 v16 v17 v18 v19 v20 v21 v22 v23 v24 v25 v26 v27 v28 v29 v30 v31 v32 v33 v34 v35 v36 v37 v38 v39 v40 v41 v42 v43 v44 v45 v46 v47 v48 v49 v50 v51 v52 v53 v54 v55 v56 v57 v58 v59 v60 v61 v62 v63 v64 v65 v66 v74 v75 v76 v77 v78 v79:Value) (w0:World) (l:Nat→Bool) (a:Act) (w:World):Prop :=
 ∃ (y0 y1 y2 y3 y4 y5 y6:Value),a = { tmps:=#[v0,v1,v2,v3,v4,v5,v6,.pointer (some ⟨ab,0,none⟩),v8,v9,v10,.slice (some ⟨g,0,none⟩) ln c,.int .i64 (i:Int),v13,v14,v15,v16,v17,v18,v19,v20,v21,v22,v23,v24,v25,v26,v27,v28,v29,v30,v31,v32,v33,v34,v35,v36,v37,v38,v39,v40,v41,v42,v43,v44,v45,v46,v47,v48,v49,v50,v51,v52,v53,v54,v55,v56,v57,v58,v59,v60,v61,v62,v63,v64,v65,v66,y0,y1,y2,y3,y4,y5,y6,v74,v75,v76,v77,v78,v79],defers:=D }∧Below w0.heap.size w0 w ∧
  (l 0=true→y0=.agg ca)∧(l 1=true→y1=.slice (some ⟨g,0,none⟩) ln c)∧(l 2=true→y2=.int .i64 (i:Int))∧(l 3=true→y3=.pointer (some ⟨g,i * 5,none⟩))∧(l 4=true→y4=.agg #[.int .i64 x0,.int .i64 x1,.int .i64 x2,.int .i64 x3,.int .i64 x4])∧(l 5=true→y5=.bool true)∧(l 6=true→y6=.bool false)
set_option maxHeartbeats 8000000 in
set_option maxRecDepth 100000 in
theorem regRtb (ca:Array Value) (ab g ln c i:Nat) (x0 x1 x2 x3 x4:Int) (D:List Deferred) (v0 v1 v2 v3 v4 v5 v6 v8 v9 v10 v13 v14 v15 v16 v17 v18 v19 v20 v21 v22 v23 v24 v25 v26 v27 v28 v29 v30 v31 v32 v33 v34 v35 v36 v37 v38 v39 v40 v41 v42 v43 v44 v45 v46 v47 v48 v49 v50 v51 v52 v53 v54 v55 v56 v57 v58 v59 v60 v61 v62 v63 v64 v65 v66 v74 v75 v76 v77 v78 v79 wy0 wy1 wy2 wy3 wy4 wy5 wy6:Value) (w:World) (s1:(0:Int)≤(i:Int)) (s2:(i:Int)<(ln:Int)) (s3:((i:Int)).toNat=i) (hA:∀ w',Below w.heap.size w w'→w'.heap[ab]? = some (.cells ca 41 (0,0))) (sA:(Tryz.prog.info? 41).map (·.size)=some ca.size) (hx:∀ w',Below w.heap.size w w'→w'.cell? ⟨g,i * 5,none⟩=some (.int .i64 x0)∧w'.cell? ⟨g,i * 5+1,none⟩=some (.int .i64 x1)∧w'.cell? ⟨g,i * 5+2,none⟩=some (.int .i64 x2)∧w'.cell? ⟨g,i * 5+3,none⟩=some (.int .i64 x3)∧w'.cell? ⟨g,i * 5+4,none⟩=some (.int .i64 x4)) (hc:∀ w',Below w.heap.size w w'→Calls Tryz.prog 15 #[.agg ca,.agg #[.int .i64 x0,.int .i64 x1,.int .i64 x2,.int .i64 x3,.int .i64 x4]] w' fun e w2=>e=.returned (.bool true)∧Below w'.heap.size w' w2) (Q:Exit→Act→World→Prop)
  (hQ:∀ (y0 y1 y2 y3 y4 y5:Value) (w':World),Below w.heap.size w w'→Q .normal { tmps:=#[v0,v1,v2,v3,v4,v5,v6,.pointer (some ⟨ab,0,none⟩),v8,v9,v10,.slice (some ⟨g,0,none⟩) ln c,.int .i64 (i:Int),v13,v14,v15,v16,v17,v18,v19,v20,v21,v22,v23,v24,v25,v26,v27,v28,v29,v30,v31,v32,v33,v34,v35,v36,v37,v38,v39,v40,v41,v42,v43,v44,v45,v46,v47,v48,v49,v50,v51,v52,v53,v54,v55,v56,v57,v58,v59,v60,v61,v62,v63,v64,v65,v66,y0,y1,y2,y3,y4,y5,.bool false,v74,v75,v76,v77,v78,v79],defers:=D } w') :
  (Code.region 21 opsregRtb true).wp Tryz.prog Q { tmps:=#[v0,v1,v2,v3,v4,v5,v6,.pointer (some ⟨ab,0,none⟩),v8,v9,v10,.slice (some ⟨g,0,none⟩) ln c,.int .i64 (i:Int),v13,v14,v15,v16,v17,v18,v19,v20,v21,v22,v23,v24,v25,v26,v27,v28,v29,v30,v31,v32,v33,v34,v35,v36,v37,v38,v39,v40,v41,v42,v43,v44,v45,v46,v47,v48,v49,v50,v51,v52,v53,v54,v55,v56,v57,v58,v59,v60,v61,v62,v63,v64,v65,v66,wy0,wy1,wy2,wy3,wy4,wy5,wy6,v74,v75,v76,v77,v78,v79],defers:=D } w:=by
 refine wp_region_inv (by kernel_rfl) (WregRtb ca ab g ln c i x0 x1 x2 x3 x4 D v0 v1 v2 v3 v4 v5 v6 v8 v9 v10 v13 v14 v15 v16 v17 v18 v19 v20 v21 v22 v23 v24 v25 v26 v27 v28 v29 v30 v31 v32 v33 v34 v35 v36 v37 v38 v39 v40 v41 v42 v43 v44 v45 v46 v47 v48 v49 v50 v51 v52 v53 v54 v55 v56 v57 v58 v59 v60 v61 v62 v63 v64 v65 v66 v74 v75 v76 v77 v78 v79 w) ?hacy ?h0 ?hstep ?hdone
 case hacy=>kernel_rfl
 case h0=>exact ⟨wy0,wy1,wy2,wy3,wy4,wy5,wy6,rfl,below_drewN (Below.refl _ _) 1,(fun p=>by cases p),(fun p=>by cases p),(fun p=>by cases p),(fun p=>by cases p),(fun p=>by cases p),(fun p=>by cases p),(fun p=>by cases p)⟩
 case hdone =>
  intro l a w1 hI hall
  obtain ⟨y0,y1,y2,y3,y4,y5,y6,rfl,hb,h0,h1,h2,h3,h4,h5,h6⟩:=hI
  obtain rfl:=h6 (hall 6 (by decide))
  exact hQ _ _ _ _ _ _ _ hb
 case hstep =>
  intro l a w1 i o hI ho hl hall
  obtain ⟨y0,y1,y2,y3,y4,y5,y6,rfl,hb,h0,h1,h2,h3,h4,h5,h6⟩:=hI
  have hi:i<7:=(Array.getElem?_eq_some_iff.1 ho).1
  match i,hi with
  | 0,_ =>
   have ho':=ho
   simp [opsregRtb] at ho
   subst ho
   refine wpOp_one ho' rfl fun K hK=>?_
   refine wp_load_row 41 (.tmp 7) rfl ab rfl 41 ca (0,0) _ (hA w1 hb) Tryz.underlying41 rfl sA ?_
   exact hK _ _ ⟨_,y1,y2,y3,y4,y5,y6,rfl,hb,fun _=>(by first | rfl | simp),h1,h2,h3,h4,h5,h6⟩
  | 1,_ =>
   have ho':=ho
   simp [opsregRtb] at ho
   subst ho
   refine wpOp_one ho' rfl fun K hK=>?_
   go_simp
   exact hK _ _ ⟨y0,_,y2,y3,y4,y5,y6,rfl,hb,h0,fun _=>(by first | rfl | simp),h2,h3,h4,h5,h6⟩
  | 2,_ =>
   have ho':=ho
   simp [opsregRtb] at ho
   subst ho
   refine wpOp_one ho' rfl fun K hK=>?_
   go_simp
   exact hK _ _ ⟨y0,y1,_,y3,y4,y5,y6,rfl,hb,h0,h1,fun _=>(by first | rfl | simp),h3,h4,h5,h6⟩
  | 3,_ =>
   have ho':=ho
   simp [opsregRtb] at ho
   subst ho
   obtain rfl:=h1 (hall ⟨1,.data⟩ (by simp) rfl)
   obtain rfl:=h2 (hall ⟨2,.data⟩ (by simp) rfl)
   refine wpOp_one ho' rfl fun K hK=>?_
   go_simp
   exact hK _ _ ⟨y0,_,_,_,y4,y5,y6,rfl,hb,h0,fun _=>rfl,fun _=>rfl,fun _=>(by first | rfl | simp),h4,h5,h6⟩
  | 4,_ =>
   have ho':=ho
   simp [opsregRtb] at ho
   subst ho
   obtain rfl:=h3 (hall ⟨3,.data⟩ (by simp) rfl)
   refine wpOp_one ho' rfl fun K hK=>?_
   obtain ⟨q0,q1,q2,q3,q4⟩:=hx w1 hb
   go_simp
   exact hK _ _ ⟨y0,y1,y2,_,_,y5,y6,rfl,hb,h0,h1,h2,fun _=>rfl,fun _=>(by first | rfl | simp),h5,h6⟩
  | 5,_ =>
   have ho':=ho
   simp [opsregRtb] at ho
   subst ho
   obtain rfl:=h0 (hall ⟨0,.data⟩ (by simp) rfl)
   obtain rfl:=h4 (hall ⟨4,.data⟩ (by simp) rfl)
   refine wpOp_one ho' rfl fun K hK=>?_
   go_simp
   go_at_call 15
   refine (hc _ hb).mono ?_
   rintro e w2 ⟨rfl,hb2⟩
   exact hK _ _ ⟨_,y1,y2,y3,_,_,y6,rfl,(hb.trans (hb2.mono hb.size)),fun _=>rfl,h1,h2,h3,fun _=>rfl,fun _=>(by first | rfl | simp),h6⟩
  | 6,_ =>
   have ho':=ho
   simp [opsregRtb] at ho
   subst ho
   obtain rfl:=h5 (hall ⟨5,.data⟩ (by simp) rfl)
   refine wpOp_one ho' rfl fun K hK=>?_
   go_simp
   exact hK _ _ ⟨y0,y1,y2,y3,y4,_,_,rfl,hb,h0,h1,h2,h3,h4,fun _=>rfl,fun _=>(by first | rfl | simp)⟩
  | k+7,hi=>omega
end Go.Proofs.YtglohpgoohlopaaGreatDoor

/- The walk of the statement ConfigSteps: called with a tree, a config and a byte it returns true and changes nothing that was there.
   Conditions: the tree lies in memory, its sets are four words below 2^64, and the library's table lies there. -/
namespace Go.Proofs.YtglohpgoohlopaaGreatDoor
open Go.RowKit Go.Shelf
attribute [local go_sem] nodeAgg
structure MvG (B:Nat) (w:World) (m:PM) (a:Au) (lf:List Nat) (x:Nat→Int) (l:List Mv):Prop where
  few:l.length≤410
  made:∀ j∈l,j.tt<a.n∧j.kp+(if j.ag then 1 else 0)≤lf.length∧∀ lt y,m.ars[j.tt]? = some lt→madeX m lf lt x j.kp j.ag=some y→Kc63 (kcOf (j.tt:Nat) y)∧rightB m (j.tt:Nat) y=true
set_option maxHeartbeats 8000000 in
set_option maxRecDepth 100000 in
theorem steps7_walk (t:V) (p:Int) (x:Nat→Int) (b:Nat) (hb:b<256) (w:World) (R:Nat→Prop) (ht:Laid w R t) (hgd:Good t) (hT:TabE w) (hTl:tabE<w.heap.size) :
    Calls Tryz.prog 3 #[nodeAgg t,.agg #[.int .i64 p,.int .i64 (x 0),.int .i64 (x 1),.int .i64 (x 2),.int .i64 (x 3)],.int .u8 (b:Nat)] w fun e w'=>e=.returned (.bool true)∧Below w.heap.size w w':=by
  obtain ⟨sa,sc,hv0,_⟩:=laid_row' ht
  obtain ⟨sn,hsn⟩ : ∃ sn,sn=t.ps.length:=⟨_,rfl⟩
  rw [← hsn] at hv0
  obtain ⟨w0,hw0,hb0,hlt0,hbx⟩:=box_new w t (.slice sa sn sc)
  obtain ⟨w1,hw1,hb1,hc1⟩:=cf_box w0 p x
  have hs0:w0.heap.size=w.heap.size+1:=by rw [← hw0];simp
  rw [hs0] at hc1
  have hw01:(w.alloc (.cells #[.int .i64 t.kind,.int .u64 (t.set 0:Nat),.int .u64 (t.set 1:Nat),.int .u64 (t.set 2:Nat),.int .u64 (t.set 3:Nat),.slice sa sn sc,.int .i64 t.lo,.int .i64 t.hi] 27)).alloc (.cells #[.int .i64 p,.int .i64 (x 0),.int .i64 (x 1),.int .i64 (x 2),.int .i64 (x 3)] 30)=w1:=by rw [hw0];exact hw1
  have HB:=Lib.hid (bhop hb0 hb1)
  have HTT:=Lib.hid (fun (W:World) (h:Below w1.heap.size w1 W)=>show TabE W∧tabE<W.heap.size from ⟨tab_below hT hTl (bhop HB.out h),Nat.lt_of_lt_of_le hTl (bhop HB.out h).size⟩)
  have HBX:=Lib.hid (fun (W:World) (h:Below w1.heap.size w1 W)=>hbx W (bhop hb1 h))
  have HCX:=Lib.hid (fun (W:World) (h:Below w1.heap.size w1 W)=>hc1.below h)
  have HAU:=Lib.hid (fun (W:World) (h:Below w1.heap.size w1 W)=>by
    have:=auto_any t W R (laid_low ht (bhop HB.out h)) (HTT.out W h).1 (HTT.out W h).2
    rw [nodeAgg_v hv0] at this
    exact this)
  rw [nodeAgg_v hv0]
  clear hbx ht hv0 hsn hlt0 hb0 hb1 hc1 hs0 hw0 hw1 hT hTl
  go_enter Tryz.func3,Tryz.ntmps3
  go_upto_region 1 with fail
  clear hw01
  go_wp2_with fail
  go_at_call 9
  refine (awake7_any _ (HTT.out _ (Below.refl _ _)).1 (HTT.out _ (Below.refl _ _)).2).mono ?_
  rintro e w2 ⟨rfl,hb2⟩
  have HB2:=Lib.hid hb2
  clear hb2
  obtain ⟨q0,q1,q2,q3,q4,q5,q6,q7⟩:=HBX.out w2 HB2.out
  have HF:=Lib.hid (HAU.out w2 HB2.out)
  go_wp2_with fail
  go_at_call 10
  refine Calls.mono HF.out ?_
  rintro e w3 ⟨hh,hb3⟩
  have HB3:=Lib.hid (bhop HB2.out hb3)
  clear q0 q1 q2 q3 q4 q5 q6 q7
  rcases hh with ⟨rfl,_⟩ | ⟨B,a,m,L,hG,rfl⟩
  · clear hb3
    go_wp2_with fail
    go_ret
    exact ⟨rfl,(bhop HB.out HB3.out).alloc (bhop HB.out HB3.out).size _⟩
  · obtain ⟨w4,hw4,hb4,ha4⟩:=au_box w3 a
    have hau:=hG.au
    obtain ⟨vs,hrw⟩:=hG.rows
    have HGM:=Lib.hid (And.intro hG.map hG.moves)
    have hCl:∀ C∈m.sets,Cl C:=map_cl hgd hG.map
    have hfs:(bitsL (mvT (simT (erase t)) 0 0).1.fi).Pairwise (· < ·):=List.Pairwise.filter _ List.pairwise_lt_range
    generalize bitsL (mvT (simT (erase t)) 0 0).1.fi=fl at hau hfs
    have HFS:=Lib.hid (And.intro hfs (And.intro hCl (show fl.length≤41 by have:=fl_few hfs fun q hq=>(hau.fin q hq).2;have:=hau.most;omega)))
    clear hfs hCl
    generalize (mvT (simT (erase t)) 0 0).1.la=la at hau
    have HB4:=Lib.hid (bhop HB3.out hb4)
    have HA4:=Lib.hid (And.intro ha4 (And.intro (hau.below hb4) (hrw.below hb4)))
    obtain ⟨z0,z1,z2,z3,z4,z5,z6,z7,z8,z9,z10,z11,z12,z13,z14⟩:=ha4.all
    obtain ⟨d0,d1,d2,d3,d4⟩:=(HCX.out w4 HB4.out).five
    have HN:=Lib.hid (near_any w4 (hau.below hb4) p x true)
    obtain ⟨ab,hab⟩ : ∃ ab,ab=w3.heap.size:=⟨_,rfl⟩
    have habl:w.heap.size+1<ab:=by rw [hab];exact (HCX.out w3 HB3.out).lt
    have HAB:=Lib.hid habl
    clear hG hau hb3 hb4 ha4 habl hrw
    rw [← hab] at HA4 z0 z1 z2 z3 z4 z5 z6 z7 z8 z9 z10 z11 z12 z13 z14
    go_upto_region 4 with fail
    clear hw4
    rw [← hab]
    clear hab
    go_wp2_with fail
    go_at_call 11
    refine HN.out.mono ?_
    rintro e w5 ⟨⟨p',x',rfl⟩,hb5⟩
    have HB5:=Lib.hid (bhop HB4.out hb5)
    have HA5:=Lib.hid (And.intro (HA4.out.1.below hb5) (And.intro (HA4.out.2.1.below hb5) (HA4.out.2.2.below hb5)))
    clear hb5 z0 z1 z2 z3 z4 z5 z6 z7 z8 z9 z10 z11 z12 z13 z14 d0 d1 d2 d3 d4
    have hcx:=HCX.out w5 HB5.out
    have HC5:=Lib.hid hcx
    obtain ⟨d0,d1,d2,d3,d4⟩:=hcx.five
    have zf:=hcx.cell.2.2
    have zl:=hcx.lt
    have zg0:=zf 0;have zg1:=zf 1;have zg2:=zf 2;have zg3:=zf 3;have zg4:=zf 4
    clear hcx zf
    go_upto_region 7 with fail
    have hf:=set5_heap HC5.out p' x'
    have hch:=set5_chg w5 (w.heap.size+1) (.int .i64 p') (.int .i64 (x' 0)) (.int .i64 (x' 1)) (.int .i64 (x' 2)) (.int .i64 (x' 3))
    generalize (((((w5.setCell ⟨w.heap.size+1,0,none⟩ (.int .i64 p')).setCell ⟨w.heap.size+1,1,none⟩ (.int .i64 (x' 0))).setCell ⟨w.heap.size+1,2,none⟩ (.int .i64 (x' 1))).setCell ⟨w.heap.size+1,3,none⟩ (.int .i64 (x' 2))).setCell ⟨w.heap.size+1,4,none⟩ (.int .i64 (x' 3)))=w6 at *
    have HB6:=Lib.hid (show Below w.heap.size w w6 from (bhop HB.out HB5.out).trans (hch.below (bhop HB.out HB5.out).size fun k hk e=>by omega))
    have hA6:AuB w6 ab a:=⟨(hch.block ab HA5.out.1.lt (by have:=HAB.out;show ¬ ab=_;omega)).trans HA5.out.1.blk⟩
    have hL6:=HA5.out.2.1.cfg hch ⟨_,_,HC5.out⟩
    have hR6:=rowsM_cfg HA5.out.2.2 hch ⟨_,_,HC5.out⟩
    have HG:=Lib.hid (fun (W:World) (h:Below w6.heap.size w6 W)=>show AuB W ab a∧AuL W B m a fl la∧CfB W (w.heap.size+1) p' x'∧RowsM W B a.n (.slice (some ⟨a.mb,0,none⟩) a.n a.n) vs L from ⟨hA6.below h,hL6.below h,hf.below h,hR6.below h⟩)
    clear hf hch hA6 hL6 hR6 d0 d1 d2 d3 d4 zg0 zg1 zg2 zg3 zg4 zl
    obtain ⟨z0,z1,z2,z3,z4,z5,z6,z7,z8,z9,z10,z11,z12,z13,z14⟩:=(HG.out w6 (Below.refl _ _)).1.all
    go_wp2_with fail
    go_at_call 12
    refine (begin_any w6 (HG.out w6 (Below.refl _ _)).2.1 HFS.out.2.1 HFS.out.2.2 b hb).mono ?_
    rintro e w7 ⟨⟨A1,c1,rfl,hown1⟩,hb7⟩
    obtain ⟨nb,hnb⟩ : ∃ n,n=(bgL m b fl).length:=⟨_,rfl⟩
    have HNa:=Lib.hid (show nb≤41 by have:=bg_len m b fl;have:=HFS.out.2.2;omega)
    have HEa:=Lib.hid (show nb=((bgL m b fl).map kcB).length by rw [List.length_map];exact hnb)
    have HNB:=Lib.hid hnb
    have C1:CfsR w7 A1 ((bgL m b fl).map kcB):=own_cfs (c:=c1) (by rw [List.length_map,← cfc_kcc];exact hown1)
    have HC1:=Lib.hid C1
    have HB7:=Lib.hid hb7
    rw [← hnb]
    clear hown1 hb7 hnb C1 z0 z1 z2 z3 z4 z5 z6 z7 z8 z9 z10 z11 z12 z13 z14
    obtain ⟨z0,z1,z2,z3,z4,z5,z6,z7,z8,z9,z10,z11,z12,z13,z14⟩:=(HG.out w7 HB7.out).1.all
    go_wp2_with fail
    go_at_call 14
    refine (refBegin_any w7 (HG.out w7 HB7.out).2.1 HFS.out.2.1 HFS.out.2.2 b hb).mono ?_
    rintro e w8 ⟨⟨A2,c2,rfl,hown2⟩,hb8⟩
    have C2:CfsR w8 A2 ((bgL m b fl).map kcB):=own_cfs (c:=c2) (by rw [List.length_map,← cfc_kcc];exact hown2)
    have HSo:=Lib.hid (sortedR_true w8 A1 A2 c1 c2 _ _ (HC1.out.below hb8) C2 rfl (by have:=HNa.out;have:=HEa.out;omega) (fun _ h=>h) (bg_rise HFS.out.1))
    rw [← HEa.out] at HSo
    rw [← HNB.out]
    have HB8:=Lib.hid (bhop HB7.out hb8)
    have HC8:=Lib.hid (HC1.out.below hb8)
    clear hown2 hb8 C2 z0 z1 z2 z3 z4 z5 z6 z7 z8 z9 z10 z11 z12 z13 z14
    go_wp2_with fail
    go_at_call 13
    refine HSo.out.mono ?_
    rintro e w9 ⟨rfl,hb9⟩
    have HB9:=Lib.hid (bhop HB8.out hb9)
    have HC9:=Lib.hid (fun (W:World) (h:Below w9.heap.size w9 W)=>(HC8.out.below hb9).below h)
    have HRA:=Lib.hid (show ∀ k∈(bgL m b fl).map kcB,rightB m k.p k.x=true from fun k hk=>by
      obtain ⟨c,hc,rfl⟩:=List.mem_map.1 hk
      have hL:=(HG.out w6 (Below.refl _ _)).2.1
      show rightB m (kcOf (c.p:Nat) c.x).p (kcOf (c.p:Nat) c.x).x=true
      rw [right_kc]
      exact bg_right hL.wf (fun q hq=>⟨(hL.fin q hq).1,by rw [hL.ars];exact (hL.fin q hq).2⟩) c hc)
    clear hb9
    go_wp2_with fail
    go_loopw [10] (fun z wr=>∃ i:Nat,z=.int .i64 i∧i≤nb∧Below w9.heap.size w9 wr) (fun z _=>match z with | .int _ z=>nb - z.toNat | _=>0)
    case atStart=>exact ⟨0,rfl,Nat.zero_le _,Below.refl _ _⟩
    case round =>
     as_aux_lemma =>
      obtain ⟨i,rfl,hi1,hbr⟩:=hrel
      have HRa:=Lib.hid hbr
      have HXa:=Lib.hid (bhop HB9.out hbr)
      have s1:(0:Int)≤(i:Int):=by omega
      have s3:((i:Int)).toNat=i:=by omega
      have wk:IntKind.i64.wrap ((i:Int)+1)=(i:Int)+1:=by have:=HNa.out;rw [IntKind.wrap_i64];omega
      by_cases g5:i<nb
      · have s2:(i:Int)<(nb:Int):=by omega
        obtain ⟨k,hk⟩ : ∃ k,((bgL m b fl).map kcB)[i]? = some k:=⟨_,List.getElem?_eq_getElem (by have:=HEa.out;omega)⟩
        obtain ⟨g,rfl,_⟩:=HC9.out wr hbr i k hk
        have HKX:=Lib.hid (fun (W:World) (h:Below wr.heap.size wr W)=>show W.cell? ⟨g,i * 5,none⟩=some (.int .i64 k.p)∧W.cell? ⟨g,i * 5+1,none⟩=some (.int .i64 k.a)∧W.cell? ⟨g,i * 5+2,none⟩=some (.int .i64 k.b)∧W.cell? ⟨g,i * 5+3,none⟩=some (.int .i64 k.c)∧W.cell? ⟨g,i * 5+4,none⟩=some (.int .i64 k.d) from by
          obtain ⟨g2,h1,_,h3⟩:=HC9.out W (bhop hbr h) i k hk
          obtain rfl:g=g2:=by simpa using h1
          exact h3)
        have HRK:=Lib.hid (fun (W:World) (h:Below w6.heap.size w6 W)=>show Calls Tryz.prog 15 #[.agg #[.int .i64 a.k,.int .u64 (a.s0:Nat),.int .u64 (a.s1:Nat),.int .u64 (a.s2:Nat),.int .u64 (a.s3:Nat),.slice a.ta a.tn a.tc,.int .i64 a.lo,.int .i64 a.hi,.slice a.sA a.n a.sC,.slice a.cA a.cN a.cC,.slice (some ⟨a.ga,0,none⟩) a.n a.aC,.slice a.fA a.fN a.fC,.slice (some ⟨a.mb,0,none⟩) a.n a.n,.slice (some ⟨a.lb,0,none⟩) a.n a.n,.bool a.em],.agg #[.int .i64 k.p,.int .i64 k.a,.int .i64 k.b,.int .i64 k.c,.int .i64 k.d]] W fun e w'=>e=.returned (.bool true)∧Below W.heap.size W w' from by
          have:=refRight_any W (HG.out W h).2.1 k.p k.x
          rw [HRA.out k (List.mem_of_getElem? hk)] at this
          exact this)
        have HI:=Lib.hid (show i+1≤nb from g5)
        clear hk hi1 hbr
        go_upto_region 13 with fail
        refine regRta #[.int .i64 a.k,.int .u64 (a.s0:Nat),.int .u64 (a.s1:Nat),.int .u64 (a.s2:Nat),.int .u64 (a.s3:Nat),.slice a.ta a.tn a.tc,.int .i64 a.lo,.int .i64 a.hi,.slice a.sA a.n a.sC,.slice a.cA a.cN a.cC,.slice (some ⟨a.ga,0,none⟩) a.n a.aC,.slice a.fA a.fN a.fC,.slice (some ⟨a.mb,0,none⟩) a.n a.n,.slice (some ⟨a.lb,0,none⟩) a.n a.n,.bool a.em] ab g nb c1 i k.p k.a k.b k.c k.d _ _ _ _ _ _ _ _ _ _ _ _ _ _ _ _ _ _ _ _ _ _ _ _ _ _ _ _ _ _ _ _ _ _ _ _ _ _ _ _ _ _ _ _ _ _ _ _ _ _ _ _ _ _ _ _ _ _ _ _ _ _ _ _ _ _ _ _ _ _ _ _ _ _ _ _ _ _ wr s1 s2 s3 (fun W h=>(HG.out W (bhop HXa.out h)).1.blk) (by kernel_rfl) (fun W h=>HKX.out W h) (fun W h=>HRK.out W (bhop HXa.out h)) _ ?_
        intros
        rename_i w20 hb20
        have HB20:=Lib.hid hb20
        clear hb20
        go_wp2_with fail
        go_roundw
        case rel=>exact ⟨i+1,by push_cast;rfl,HI.out,bhop HRa.out HB20.out⟩
        case measure=>have:=HI.out;simp;omega
      · have s2:¬ (i:Int)<(nb:Int):=by omega
        clear hi1 hbr
        as_aux_lemma =>
          obtain ⟨z0,z1,z2,z3,z4,z5,z6,z7,z8,z9,z10,z11,z12,z13,z14⟩:=(HG.out wr HXa.out).1.all
          obtain ⟨d0,d1,d2,d3,d4⟩:=(HG.out wr HXa.out).2.2.1.five
          have HRR:=Lib.hid (refRight_any wr (HG.out wr HXa.out).2.1 p' x')
          cases hr:rightB m p' x' with
          | false =>
           as_aux_lemma =>
            rw [hr] at HRR
            have HRF:=Lib.hid hr
            clear hr
            go_wp2_with fail
            go_at_call 15
            refine HRR.out.mono ?_
            rintro e w10 ⟨rfl,hb10⟩
            have HB10:=Lib.hid (bhop HXa.out hb10)
            clear hb10 z0 z1 z2 z3 z4 z5 z6 z7 z8 z9 z10 z11 z12 z13 z14 d0 d1 d2 d3 d4
            obtain ⟨z0,z1,z2,z3,z4,z5,z6,z7,z8,z9,z10,z11,z12,z13,z14⟩:=(HG.out w10 HB10.out).1.all
            obtain ⟨d0,d1,d2,d3,d4⟩:=(HG.out w10 HB10.out).2.2.1.five
            go_wp2_with fail
            go_at_call 16
            refine (step_not w10 (HG.out w10 HB10.out).2.1 p' x' HRF.out b).mono ?_
            rintro e w11 ⟨rfl,hb11⟩
            have HB11:=Lib.hid (bhop HB10.out hb11)
            clear hb11 z0 z1 z2 z3 z4 z5 z6 z7 z8 z9 z10 z11 z12 z13 z14 d0 d1 d2 d3 d4
            go_wp2_with fail
            go_ret
            exact ⟨rfl,bhop HB6.out HB11.out⟩
          | true =>
           as_aux_lemma =>
            rw [hr] at HRR
            obtain ⟨q,rfl,hq1,hq2⟩:=right_pos hr
            have hL6:=(HG.out w6 (Below.refl _ _)).2.1
            rw [hL6.ars] at hq2
            obtain ⟨lf,hl,hlm,_⟩:=hL6.at hq2
            have hcn:cntsB m lf x'=true:=by rw [← right_at hq1 hl];exact hr
            have HMG:=Lib.hid (show MvG B w6 m a lf x' (L q) from by
              obtain ⟨h1,h2⟩:=HGM.out.2 q hq2
              refine ⟨?_,fun j hj=>?_⟩
              · have:=mv_few (n:=41) h1 fun j hj=>by
                  obtain ⟨e1,_,_,_,e5,_⟩:=mv_kept HGM.out.1 ((h2 j).1 hj)
                  exact ⟨e1,by have:=hL6.sets;have:=hL6.most;omega⟩
                omega
              · have hsj:=(h2 j).1 hj
                obtain ⟨_,_,_,f4,f5,cc,la',lt,k1,k2,k3,k4,k5⟩:=mv_kept HGM.out.1 hsj
                obtain rfl:lf=la':=Option.some.inj (hl.symm.trans k2)
                refine ⟨by have:=hL6.sets;omega,by have:=k3.length_le;rw [k1] at this;exact this,fun lt2 y h3 hy=>?_⟩
                obtain rfl:lt=lt2:=Option.some.inj (k4.symm.trans h3)
                have h4:=made_right hL6.wf (List.mem_of_getElem? hl) (List.mem_of_getElem? k4) ⟨k3,k5⟩ k1 hcn hy
                exact ⟨cnts_63 hL6.wf (List.mem_of_getElem? k4) h4 (by have:=hL6.sets;have:=hL6.most;omega),(right_at f4 k4).trans h4⟩)
            have HRT:=Lib.hid (And.intro hr (And.intro hl (And.intro hlm (And.intro hq2 (And.intro hcn hL6.wf)))))
            clear hr hl hlm hL6 hq1 hq2 hcn
            go_wp2_with fail
            go_at_call 15
            refine HRR.out.mono ?_
            rintro e w10 ⟨rfl,hb10⟩
            have HB10:=Lib.hid (bhop HXa.out hb10)
            clear hb10 z0 z1 z2 z3 z4 z5 z6 z7 z8 z9 z10 z11 z12 z13 z14 d0 d1 d2 d3 d4
            obtain ⟨z0,z1,z2,z3,z4,z5,z6,z7,z8,z9,z10,z11,z12,z13,z14⟩:=(HG.out w10 HB10.out).1.all
            obtain ⟨d0,d1,d2,d3,d4⟩:=(HG.out w10 HB10.out).2.2.1.five
            go_wp2_with fail
            go_at_call 16
            refine (step_yes w10 (HG.out w10 HB10.out).2.1 (HG.out w10 HB10.out).2.2.2 HRT.out.2.1 x' HRT.out.1 HFS.out.2.1 (fun j hj=>⟨(HMG.out.made j hj).1,(HMG.out.made j hj).2.1,fun lt y h1 h2=>((HMG.out.made j hj).2.2 lt y h1 h2).1⟩) (by have:=HMG.out.few;omega) b hb).mono ?_
            rintro e w11 ⟨v,l1,rfl,n1,n2,n3,n4,hb11⟩
            obtain ⟨A3,c3,rfl⟩:=own_form n4
            have HC10:=Lib.hid (fun (W:World) (h:Below w11.heap.size w11 W)=>(own_cfs n4).below h)
            obtain ⟨nc,hnc⟩ : ∃ n,n=(sortC l1).length:=⟨_,rfl⟩
            have HEb:=Lib.hid hnc
            have HNb:=Lib.hid (show nc≤410 by have:=(sortC_perm l1).length_eq;have:=HMG.out.few;omega)
            have HS1:=Lib.hid (And.intro n1 n2)
            have HRB:=Lib.hid (show ∀ k∈sortC l1,rightB m k.p k.x=true from fun k hk=>by
              obtain ⟨_,j,hj,_,y,hy,rfl⟩:=(n2 k).1 ((sortC_perm l1).mem_iff.1 hk)
              have hjt:j.tt<m.ars.length:=by rw [(HG.out w10 HB10.out).2.1.ars];exact (HMG.out.made j hj).1
              rw [show m.ars.getD j.tt []=m.ars[j.tt] by rw [List.getD_eq_getElem?_getD,List.getElem?_eq_getElem hjt];rfl] at hy
              rw [right_kc]
              exact ((HMG.out.made j hj).2.2 _ y (List.getElem?_eq_getElem hjt) hy).2)
            have HB11:=Lib.hid (bhop HB10.out hb11)
            rw [← hnc]
            clear n1 n2 n3 n4 hb11 hnc z0 z1 z2 z3 z4 z5 z6 z7 z8 z9 z10 z11 z12 z13 z14 d0 d1 d2 d3 d4
            go_wp2_with fail
            go_loopw [12] (fun z wr=>∃ i:Nat,z=.int .i64 i∧i≤nc∧Below w11.heap.size w11 wr) (fun z _=>match z with | .int _ z=>nc - z.toNat | _=>0)
            case atStart=>exact ⟨0,rfl,Nat.zero_le _,Below.refl _ _⟩
            case round =>
             as_aux_lemma =>
              obtain ⟨i,rfl,hi1,hbr⟩:=hrel
              have HRb:=Lib.hid hbr
              have HXb:=Lib.hid (bhop HB11.out hbr)
              have s1:(0:Int)≤(i:Int):=by omega
              have s3:((i:Int)).toNat=i:=by omega
              have wk:IntKind.i64.wrap ((i:Int)+1)=(i:Int)+1:=by have:=HNb.out;rw [IntKind.wrap_i64];omega
              by_cases g5:i<nc
              · have s2:(i:Int)<(nc:Int):=by omega
                obtain ⟨k,hk⟩ : ∃ k,(sortC l1)[i]? = some k:=⟨_,List.getElem?_eq_getElem (by have:=HEb.out;omega)⟩
                obtain ⟨g,rfl,_⟩:=HC10.out wr hbr i k hk
                have HKX:=Lib.hid (fun (W:World) (h:Below wr.heap.size wr W)=>show W.cell? ⟨g,i * 5,none⟩=some (.int .i64 k.p)∧W.cell? ⟨g,i * 5+1,none⟩=some (.int .i64 k.a)∧W.cell? ⟨g,i * 5+2,none⟩=some (.int .i64 k.b)∧W.cell? ⟨g,i * 5+3,none⟩=some (.int .i64 k.c)∧W.cell? ⟨g,i * 5+4,none⟩=some (.int .i64 k.d) from by
                  obtain ⟨g2,h1,_,h3⟩:=HC10.out W (bhop hbr h) i k hk
                  obtain rfl:g=g2:=by simpa using h1
                  exact h3)
                have HRK:=Lib.hid (fun (W:World) (h:Below w6.heap.size w6 W)=>show Calls Tryz.prog 15 #[.agg #[.int .i64 a.k,.int .u64 (a.s0:Nat),.int .u64 (a.s1:Nat),.int .u64 (a.s2:Nat),.int .u64 (a.s3:Nat),.slice a.ta a.tn a.tc,.int .i64 a.lo,.int .i64 a.hi,.slice a.sA a.n a.sC,.slice a.cA a.cN a.cC,.slice (some ⟨a.ga,0,none⟩) a.n a.aC,.slice a.fA a.fN a.fC,.slice (some ⟨a.mb,0,none⟩) a.n a.n,.slice (some ⟨a.lb,0,none⟩) a.n a.n,.bool a.em],.agg #[.int .i64 k.p,.int .i64 k.a,.int .i64 k.b,.int .i64 k.c,.int .i64 k.d]] W fun e w'=>e=.returned (.bool true)∧Below W.heap.size W w' from by
                  have:=refRight_any W (HG.out W h).2.1 k.p k.x
                  rw [HRB.out k (List.mem_of_getElem? hk)] at this
                  exact this)
                have HI:=Lib.hid (show i+1≤nc from g5)
                clear hk hi1 hbr
                go_upto_region 21 with fail
                refine regRtb #[.int .i64 a.k,.int .u64 (a.s0:Nat),.int .u64 (a.s1:Nat),.int .u64 (a.s2:Nat),.int .u64 (a.s3:Nat),.slice a.ta a.tn a.tc,.int .i64 a.lo,.int .i64 a.hi,.slice a.sA a.n a.sC,.slice a.cA a.cN a.cC,.slice (some ⟨a.ga,0,none⟩) a.n a.aC,.slice a.fA a.fN a.fC,.slice (some ⟨a.mb,0,none⟩) a.n a.n,.slice (some ⟨a.lb,0,none⟩) a.n a.n,.bool a.em] ab g nc c3 i k.p k.a k.b k.c k.d _ _ _ _ _ _ _ _ _ _ _ _ _ _ _ _ _ _ _ _ _ _ _ _ _ _ _ _ _ _ _ _ _ _ _ _ _ _ _ _ _ _ _ _ _ _ _ _ _ _ _ _ _ _ _ _ _ _ _ _ _ _ _ _ _ _ _ _ _ _ _ _ _ _ _ _ _ _ wr s1 s2 s3 (fun W h=>(HG.out W (bhop HXb.out h)).1.blk) (by kernel_rfl) (fun W h=>HKX.out W h) (fun W h=>HRK.out W (bhop HXb.out h)) _ ?_
                intros
                rename_i w20 hb20
                have HB20:=Lib.hid hb20
                clear hb20
                go_wp2_with fail
                go_roundw
                case rel=>exact ⟨i+1,by push_cast;rfl,HI.out,bhop HRb.out HB20.out⟩
                case measure=>have:=HI.out;simp;omega
              · have s2:¬ (i:Int)<(nc:Int):=by omega
                clear hi1 hbr
                as_aux_lemma =>
                  obtain ⟨z0,z1,z2,z3,z4,z5,z6,z7,z8,z9,z10,z11,z12,z13,z14⟩:=(HG.out wr HXb.out).1.all
                  obtain ⟨d0,d1,d2,d3,d4⟩:=(HG.out wr HXb.out).2.2.1.five
                  go_wp2_with fail
                  go_at_call 17
                  refine (refStep_any wr (HG.out wr HXb.out).2.1 (HG.out wr HXb.out).2.2.2 HRT.out.2.1 x' HRT.out.2.2.2.2.1 HFS.out.2.1 (fun j hj=>⟨(HMG.out.made j hj).1,(HMG.out.made j hj).2.1⟩) (by have:=HMG.out.few;omega) b hb).mono ?_
                  rintro e w13 ⟨v2,out,rfl,o1,o2,o3,o4,hb13⟩
                  obtain ⟨A4,c4,rfl⟩:=own_form o4
                  obtain ⟨t1,t2,t3⟩:=step_same HS1.out.1 o1 HS1.out.2 o2 (fun k hk=>by
                    obtain ⟨j,hj,_,y,hy,rfl⟩:=hk
                    have hjt:j.tt<m.ars.length:=by rw [(HG.out wr HXb.out).2.1.ars];exact (HMG.out.made j hj).1
                    rw [show m.ars.getD j.tt []=m.ars[j.tt] by rw [List.getD_eq_getElem?_getD,List.getElem?_eq_getElem hjt];rfl] at hy
                    exact ((HMG.out.made j hj).2.2 _ y (List.getElem?_eq_getElem hjt) hy).1)
                  have HSo:=Lib.hid (sortedR_true w13 A3 A4 c3 c4 (sortC l1) out ((HC10.out wr HRb.out).below hb13) (own_cfs o4) t1 (by have:=HEb.out;have:=HNb.out;omega) t2 t3)
                  rw [← HEb.out] at HSo
                  have HB13:=Lib.hid (bhop HXb.out hb13)
                  clear t1 t2 t3 o1 o2 o3 o4 hb13 z0 z1 z2 z3 z4 z5 z6 z7 z8 z9 z10 z11 z12 z13 z14 d0 d1 d2 d3 d4
                  go_wp2_with fail
                  go_at_call 13
                  refine HSo.out.mono ?_
                  rintro e w14 ⟨rfl,hb14⟩
                  have HB14:=Lib.hid (bhop HB13.out hb14)
                  clear hb14
                  go_wp2_with fail
                  go_ret
                  exact ⟨rfl,bhop HB6.out HB14.out⟩
end Go.Proofs.YtglohpgoohlopaaGreatDoor

/- Of every tree, config and byte the statement ConfigSteps returns true, and they read afterwards as before; the card: what its row lists is tied to the program's text.
   No condition. -/
namespace Go.Proofs.YtglohpgoohlopaaGreatDoor
open Go.ChangeShapes Go.WideShapes Go.ChangeAt Go.RowKit
theorem configStepsOwn:ownKnob Tryz.prog.godebug=none:=by kernel_rfl
theorem configStepsLaidOut:laidOutB Tryz.prog=true:=by kernel_rfl
theorem configStepsAgg (t:V):nodeAgg t=.agg (ndc t).toArray:=rfl
def fnX (x0 x1 x2 x3:Int):Nat→Int
 | 0=>x0
 | 1=>x1
 | 2=>x2
 | _=>x3
theorem configStepsDoor (os:Os) (args:Array Value):laidMetH Tryz.prog Rows.configStepsRow.laid ((World.doorLaid Tryz.prog 400 os).forCall (fun _ _=>0) ⟨#[],args,[]⟩).memory :=
 laidMetH_of_parts3 (fuel:=8) (laidMet_of_run' 8 (by kernel_rfl) (by kernel_rfl)) (by kernel_rfl) (by kernel_rfl)
set_option maxRecDepth 100000 in
theorem configSteps_lifted (os:Os) (started:os.Started) (H:Type) (enc:TypeId×Value→H) :
  ReturnsInHanded {} Tryz.checked os 3 .any (fun w args=>(Rows.configStepsSpec.pre enc Tryz.prog Tryz.f3 Rows.configStepsRow.domain false w args∧laidMetH Tryz.prog Rows.configStepsRow.laid w)∧sizedMet enc Tryz.prog Tryz.f3 (OpenSpec.ofChange Rows.configStepsSpec) false w args)
   (Rows.configStepsSpec.post enc Tryz.prog Tryz.f3 false true false false):=by
 refine returnsInHanded_of_change_and (C:=Tryz.checked) (X:=fun w _=>laidMetH Tryz.prog Rows.configStepsRow.laid w) (fun _ _ _ hh h=>h.of_heap hh) configStepsOwn started (by kernel_rfl) Tryz.func3
  (ChangeSpec.witness_shaped (enc:=enc) (C:=Tryz.checked) (os:=os) (X:=fun w _=>laidMetH Tryz.prog Rows.configStepsRow.laid w) false (World.doorLaid Tryz.prog 400 os) #[.agg #[.int .i64 0,.int .u64 0,.int .u64 0,.int .u64 0,.int .u64 0,.slice none 0 0,.int .i64 0,.int .i64 0],.agg #[.int .i64 0,.int .i64 0,.int .i64 0,.int .i64 0,.int .i64 0],.int .u8 0] 8 rfl (World.shaped_of_RefB (by kernel_rfl) (by kernel_rfl)) (by kernel_rfl) (by kernel_rfl) (by kernel_rfl) (configStepsDoor os _)) ?_
 intro W base args ds gs before hval0 hW _ _ hLaid _
 have hval:∀ (j:Nat) t v,Tryz.f3.params[j]? = some t→args[j]? = some v→Value.okWide Tryz.prog W .any base t v:=hval0
 have hW':=hW
 obtain ⟨hT,hTl⟩:=tab_laid hLaid
 obtain ⟨p,q,hA0,hV,rfl,hfz,hnd⟩:=hW
 have hA:DataW.TrodAll enc Tryz.prog W 0 (fun _=>true) true Tryz.f3.params.toList args.toList ds p:=hA0
 rw [Tryz.params3] at hA hval
 obtain ⟨v0,vs0,d0,ds0,p0,q0,hargs,rfl,rfl,h0,r0⟩:=trodAll_cons hA
 obtain ⟨v1,vs1,d1,ds1,p1,q1,rfl,rfl,rfl,h1,r1⟩:=trodAll_cons r0
 obtain ⟨v2,vs2,d2,ds2,p2,q2,rfl,rfl,rfl,h2,r2⟩:=trodAll_cons r1
 obtain ⟨rfl,rfl,rfl⟩:=trodAll_nil r2
 obtain rfl:args=#[v0,v1,v2]:=by cases args;simp_all
 obtain ⟨rfl,rfl⟩:=trodVars_none hV
 have k0:=h0
 have k1:=h1
 have k2:=h2
 have lt0:∀ x∈p0,x.block<W.heap.size:=by obtain ⟨m,hm⟩:=k0;exact DataW.trod_lt m _ _ _ hm
 have lt1:∀ x∈p1,x.block<W.heap.size:=by obtain ⟨m,hm⟩:=k1;exact DataW.trod_lt m _ _ _ hm
 have lt2:∀ x∈p2,x.block<W.heap.size:=by obtain ⟨m,hm⟩:=k2;exact DataW.trod_lt m _ _ _ hm
 obtain ⟨c0,c1,c2,c3,c4,rfl⟩:=open_cfg (hval 1 30 v1 rfl rfl) h1
 obtain ⟨n2,rfl,rfl,rfl,w2⟩:=open_int Tryz.underlying5 (hval 2 5 v2 rfl rfl) h2
 have b2:=bounds_u8 w2
 obtain ⟨t0,rfl,l0,gd0⟩:=open_tree (hval 0 27 v0 rfl rfl) h0
 clear hA0 hval0
 rw [← configStepsAgg] at *
 have hwalk:=steps7_walk t0 c0 (fnX c1 c2 c3 c4) n2.toNat (by omega) W _ l0 gd0 hT hTl
 rw [Int.toNat_of_nonneg b2.1] at hwalk
 refine hwalk.mono fun e W' ⟨he,bel⟩=>?_
 subst he
 exact ⟨_,rfl,_,_,_,[],_,[],hW',trodAll_mk1 (shut_bool Tryz.underlying4 _),(trodAll_cons_mk (Below.trod configStepsLaidOut (by kernel_rfl) (of_decide_eq_true (by kernel_rfl)) k0 bel lt0) (trodAll_cons_mk (Below.trod configStepsLaidOut (by kernel_rfl) (of_decide_eq_true (by kernel_rfl)) k1 bel lt1) (trodAll_cons_mk (Below.trod configStepsLaidOut (by kernel_rfl) (of_decide_eq_true (by kernel_rfl)) k2 bel lt2) trodAll_mk0))),rfl,bel.frame _,fun h=>by cases h⟩
theorem configSteps_holds:Rows.ConfigStepsSaid :=
 OpenClaim.holds_of_wide 3 Tryz.f3 rfl rfl rfl rfl rfl rfl rfl ⟨rfl,rfl,rfl,rfl,rfl⟩ rfl rfl rfl rfl rfl (by kernel_rfl) Tryz.func3 (by kernel_rfl)
  (of_decide_eq_true (by kernel_rfl)) (by unfold Func.isWrapper;rw [if_neg (of_decide_eq_false (by kernel_rfl))];exact ⟨rfl,rfl⟩)
  (fun os started H enc _=>configSteps_lifted os started H enc)
theorem configSteps_card_holds:Rows.ConfigStepsCardSaid :=
 Claim7.holds_tied_plain_at .later [] [.data] true _ false
  configSteps_holds (fun _ h=>by cases h) (by kernel_rfl) (fun _ h=>by cases h) configSteps_row_tie rfl ⟨rfl,rfl⟩ (by kernel_rfl) rfl
  (fun f fn hf hfn=>by
   obtain rfl:f=3:=Option.some.inj ((show Tryz.prog.funcNamed "ostinato/ostinatolaw07.ConfigSteps" = some 3 by kernel_rfl).symm.trans hf) |>.symm
   obtain rfl:fn=Tryz.f3:=(Option.some.inj (Tryz.func3.symm.trans hfn)).symm
   exact ⟨by kernel_rfl,fun j t ht=>by
    rw [Tryz.params3] at ht
    have hm:t∈[27,30,5]:=by simpa using Array.mem_of_getElem? ht
    have hall:([27,30,5].all fun u=>!Tryz.prog.wantsStandIn u)=true:=by kernel_rfl
    exact (show Tryz.prog.wantsStandIn t=false by simpa using List.all_eq_true.1 hall t hm)⟩)
  (by kernel_rfl)
#print axioms configSteps_card_holds
end Go.Proofs.YtglohpgoohlopaaGreatDoor
