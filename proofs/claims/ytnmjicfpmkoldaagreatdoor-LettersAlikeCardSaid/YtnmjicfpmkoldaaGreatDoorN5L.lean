/- How a word, an argument of the statements of stage 8, is opened: a list of bytes in memory.
   Conditions: none but the reading itself. -/
import Derived.Test.YtnmjicfpmkoldaaGreatDoorN2L
import Derived.Test.YtnmjicfpmkoldaaGreatDoorN1L
import Derived.Test.YtnmjicfpmkoldaaGreatDoorPY
import Derived.Test.YtnmjicfpmkoldaaGreatDoorPM
import Derived.Test.YtnmjicfpmkoldaaGreatDoorPG
import Derived.Test.YtnmjicfpmkoldaaGreatDoorPZ
import Derived.Deep.Slices
import Derived.Laws.IdiomArrays
import Derived.OpenShut

/- config.Step at a right config: a contract.
   Conditions: the automaton lies in memory; its moves go where it has positions; what they make are ints. -/
namespace Go.Proofs.YtnmjicfpmkoldaaGreatDoor
open Go.RowKit Go.Maps Go.Shelf
attribute [local go_sem] Oper.semAt_some
def StM (m:PM) (lf:List Nat) (x:Nat→Int) (b:Nat) (j:Mv) (k:Kc):Prop:=hasB (m.sets.getD j.tt zeros) b=true∧∃ y,madeX m lf (m.ars.getD j.tt []) x j.kp j.ag=some y∧k=kcOf (j.tt:Nat) y
def StS (m:PM) (lf:List Nat) (x:Nat→Int) (b:Nat) (l:List Mv) (k:Kc):Prop:=∃ j∈l,StM m lf x b j k
def StI (w:World) (mb:Nat) (m:PM) (lf:List Nat) (x:Nat→Int) (b:Nat) (l:List Mv) (n:Nat) (z:Value) (wr:World):Prop:=∃ i:Nat,z=.int .i64 i∧n=l.length - i∧i≤l.length∧CfgS wr mb i (StS m lf x b (l.take i))∧Chg (fun y=>y=mb) w wr
theorem sts_snoc {m:PM} {lf:List Nat} {x:Nat→Int} {b:Nat} {l:List Mv} {i:Nat} {j:Mv} (hj:l[i]? = some j) (k:Kc):StS m lf x b (l.take (i+1)) k↔StS m lf x b (l.take i) k∨StM m lf x b j k:=by
 have e:l.take (i+1)=l.take i ++ [j]:=by rw [List.take_add_one,hj];rfl
 unfold StS
 rw [e]
 constructor
 ·rintro ⟨q,hq,h⟩
  rcases List.mem_append.1 hq with hq | hq
  ·exact .inl ⟨q,hq,h⟩
  ·rw [List.mem_singleton.1 hq] at h;exact .inr h
 ·rintro (⟨q,hq,h⟩ | h)
  ·exact ⟨q,List.mem_append.2 (.inl hq),h⟩
  ·exact ⟨j,List.mem_append.2 (.inr (by simp)),h⟩
theorem sts_skip {m:PM} {lf:List Nat} {x:Nat→Int} {b:Nat} {l:List Mv} {i:Nat} {j:Mv} (hj:l[i]? = some j) (hn:∀ k,¬ StM m lf x b j k) (k:Kc):StS m lf x b (l.take i) k↔StS m lf x b (l.take (i+1)) k:=by
 rw [sts_snoc hj]
 exact ⟨.inl,fun h=>h.elim id fun h=>(hn k h).elim⟩
set_option maxHeartbeats 8000000 in
set_option maxRecDepth 100000 in
theorem step_yes {B:Nat} {m:PM} {a:Au} {fl:List Nat} {la:Nat} (w:World) (hL:AuL w B m a fl la) {vs:List Value} {L:Nat→List Mv} (hrows:RowsM w B a.n (.slice (some ⟨a.mb,0,none⟩) a.n a.n) vs L) {p:Nat} {lf:List Nat} (hp:m.ars[p]? = some lf) (x:Nat→Int) (hr:rightB m (p:Int) x=true) (hC:∀ C∈m.sets,Cl C)
  (hM:∀ j∈L p,j.tt<a.n∧j.kp+(if j.ag then 1 else 0)≤lf.length∧∀ lt y,m.ars[j.tt]? = some lt→madeX m lf lt x j.kp j.ag=some y→Kc63 (kcOf (j.tt:Nat) y)) (hlen:(L p).length<1000000000000) (b:Nat) (hb:b<256) :
  Calls Tryz.prog 70 #[.agg #[.int .i64 a.k,.int .u64 (a.s0:Nat),.int .u64 (a.s1:Nat),.int .u64 (a.s2:Nat),.int .u64 (a.s3:Nat),.slice a.ta a.tn a.tc,.int .i64 a.lo,.int .i64 a.hi,.slice a.sA a.n a.sC,.slice a.cA a.cN a.cC,.slice (some ⟨a.ga,0,none⟩) a.n a.aC,.slice a.fA a.fN a.fC,.slice (some ⟨a.mb,0,none⟩) a.n a.n,.slice (some ⟨a.lb,0,none⟩) a.n a.n,.bool a.em],.agg #[.int .i64 p,.int .i64 (x 0),.int .i64 (x 1),.int .i64 (x 2),.int .i64 (x 3)],.int .u8 b] w fun e w' =>
   ∃ v l,e=.returned v∧l.Nodup∧(∀ k,k∈l↔Kc63 k∧StS m lf x b (L p) k)∧l.length≤(L p).length∧w'.ownsRow w.heap.size 55 5 v (sortC l).length ((sortC l).flatMap kcc)∧Below w.heap.size w w':=by
 obtain ⟨w2,hw2,hb2,ha2,hc2⟩:=au_cf_box w a p x
 have hpn:p<a.n:=by rw [← hL.ars];exact (List.getElem?_eq_some_iff.1 hp).1
 have HF:=Lib.hid (fun (W:World) (h:Below w2.heap.size w2 W)=>show AuB W w.heap.size a∧AuL W B m a fl la∧CfB W (w.heap.size+1) p x from ⟨ha2.below h,hL.below (bhop hb2 h),hc2.below h⟩)
 have HB:=Lib.hid hb2
 have HR:=Lib.hid (fun (W:World) (h:Below w2.heap.size w2 W)=>by
  have:=right_any W (hL.below (bhop hb2 h)) p x
  rw [hr] at this
  exact this)
 obtain ⟨A,c,m1,m2,_⟩:=mv_read hrows hpn
 have HRW:=Lib.hid (fun (W:World) (h:Below w2.heap.size w2 W)=>hrows.below (bhop hb2 h))
 obtain ⟨ln,hln⟩ : ∃ ln,ln=(L p).length:=⟨_,rfl⟩
 have HLN:=Lib.hid (And.intro hln hlen)
 rw [← hln] at m1
 have HM:=Lib.hid (fun (W:World) (h:Below w2.heap.size w2 W)=>show W.cell? ⟨a.mb,p,none⟩=some (.slice A ln c) from ((bhop hb2 h).cell (p:=⟨a.mb,p,none⟩) m2).trans m1)
 have HP:=Lib.hid (And.intro hp (And.intro hM hC))
 have HCN:=Lib.hid (show cntsB m lf x=true from by rw [← right_at (by have h:=right_pos hr;obtain ⟨q,h1,h2,_⟩:=h;omega) hp];exact hr)
 obtain ⟨z0,z1,z2,z3,z4,z5,z6,z7,z8,z9,z10,z11,z12,z13,z14⟩:=ha2.all
 obtain ⟨d0,d1,d2,d3,d4⟩:=hc2.five
 have v1:(0:Int)≤(p:Int):=by omega
 have v2:(p:Int)<(a.n:Int):=by omega
 have v3:((p:Int)).toNat=p:=by omega
 clear hb2 ha2 hc2 hL hr hp hpn m1 m2 hln hrows hM hC hlen
 go_enter Tryz.func70,Tryz.ntmps70
 go_upto_region 1 with fail
 clear hw2
 go_wp2_with fail
 go_at_call 53
 refine (HR.out _ (Below.refl _ _)).mono ?_
 rintro e w3 ⟨rfl,hb3⟩
 have HB3:=Lib.hid hb3
 clear hb3 z0 z1 z2 z3 z4 z5 z6 z7 z8 z9 z10 z11 z12 z13 z14 d0 d1 d2 d3 d4
 have hmm:=@run_makeMap Tryz.prog
 go_upto_region 4 with fail
 clear hmm
 obtain ⟨w4,hw4⟩ : ∃ w4,w3.alloc (.map #[] 0)=w4:=⟨_,rfl⟩
 have hb4:Below w3.heap.size w3 w4:=hw4▸(Below.refl _ w3).alloc (Nat.le_refl _) _
 have hb24:=bhop HB3.out hb4
 have hs4:w4.heap.size=w3.heap.size+1:=by rw [← hw4];simp
 have h0:CfgS w4 w3.heap.size 0 (StS m lf x b ((L p).take 0)):=by
  have h1:CfgS w4 w3.heap.size 0 (fun _=>False):=by rw [← hw4];exact ⟨_,World.ownsMap_made (H:=Unit) w3 Tryz.prog 55 unitElem,cfsAre_nil⟩
  exact h1.iff fun k=>⟨fun h=>h.elim,by rintro ⟨j,hj,_⟩;simp at hj⟩
 obtain ⟨mb,hmb⟩ : ∃ mb,mb=w3.heap.size:=⟨_,rfl⟩
 obtain ⟨z0,z1,z2,z3,z4,z5,z6,z7,z8,z9,z10,z11,z12,z13,z14⟩:=(HF.out w4 hb24).1.all
 obtain ⟨d0,d1,d2,d3,d4⟩:=(HF.out w4 hb24).2.2.five
 have m1':=HM.out w4 hb24
 have H4:=Lib.hid (And.intro hb24 (And.intro hs4 (And.intro h0 hmb)))
 clear hb4 hb24 hs4
 rw [← hmb] at h0
 simp only [hw4]
 clear hw4
 go_wp2_with fail
 clear z0 z1 z2 z3 z4 z5 z6 z7 z8 z9 z10 z11 z12 z13 z14 d0 d1 d2 d3 d4 m1'
 go_loopw [24] (fun z wr=>∃ n,StI w4 mb m lf x b (L p) n z wr) (fun z wr=>leastOf (fun n=>StI w4 mb m lf x b (L p) n z wr))
 case atStart=>exact ⟨_,0,rfl,rfl,Nat.zero_le _,h0,Chg.refl _ _⟩
 case round =>
  have hls:=(leastOf_spec hrel).1
  obtain ⟨i,rfl,hN,hif,hcf,hch⟩:=hls
  have hbr:Below w2.heap.size w2 wr:=H4.out.1.trans (hch.below (by have:=H4.out.2.1;have:=HB3.out.size;omega) fun k hk e=>by have:=H4.out.2.2.2;have:=HB3.out.size;have e:k=mb:=e;omega)
  have HN:=Lib.hid hN
  have HCF:=Lib.hid (And.intro hcf hch)
  have HR2:=Lib.hid hbr
  clear hN hrel hcf h0 hch
  have s1:(0:Int)≤(i:Int):=by omega
  have s3:((i:Int)).toNat=i:=by omega
  by_cases g:i<ln
  ·have s2:(i:Int)<(ln:Int):=by omega
   have gi:i<(L p).length:=by have:=HLN.out.1;omega
   obtain ⟨j,hj⟩ : ∃ j,(L p)[i]? = some j:=⟨_,List.getElem?_eq_getElem gi⟩
   obtain ⟨A',c',n1,_,n3⟩:=mv_read (HRW.out wr hbr) (by omega:p<a.n)
   obtain ⟨rfl,rfl⟩ : A=A'∧c=c':=by
    have:=(HM.out wr hbr).symm.trans n1
    simp only [Option.some.injEq,Value.slice.injEq] at this
    exact ⟨this.1,this.2.2⟩
   obtain ⟨gg,rfl,hgl,y0,y1,y2⟩:=n3 i j hj
   obtain ⟨fA,fL,fC⟩:=HF.out wr hbr
   obtain ⟨hjt,hjk,hj63⟩:=HP.out.2.1 j (List.mem_of_getElem? hj)
   obtain ⟨C,hCt⟩ : ∃ C,m.sets[j.tt]? = some C:=⟨_,List.getElem?_eq_getElem (by rw [fL.sets];exact hjt)⟩
   obtain ⟨lt,hlt⟩ : ∃ lt,m.ars[j.tt]? = some lt:=⟨_,List.getElem?_eq_getElem (by rw [fL.ars];exact hjt)⟩
   obtain ⟨tt,htt⟩ : ∃ tt,tt=j.tt:=⟨_,rfl⟩
   obtain ⟨kp,hkp⟩ : ∃ kp,kp=j.kp:=⟨_,rfl⟩
   obtain ⟨ag,hag⟩ : ∃ ag,ag=j.ag:=⟨_,rfl⟩
   rw [← htt] at y0
   rw [← hkp] at y1
   rw [← hag] at y2
   have HJ:=Lib.hid (And.intro hj (And.intro hjt (And.intro hjk (And.intro hj63 (And.intro hCt (And.intro hlt (And.intro htt (And.intro hkp (And.intro hag (And.intro hif gi))))))))))
   clear fA fL fC hj hjt hjk hj63 hCt hlt htt hkp hag n1 n3 hif gi
   go_upto_region 7 with fail
   obtain ⟨w5,hw5⟩ : ∃ w5,wr.alloc (.cells #[.int .i64 tt,.int .i64 kp,.bool ag] 80)=w5:=⟨_,rfl⟩
   have hb5:Below wr.heap.size wr w5:=hw5▸(Below.refl _ wr).alloc (Nat.le_refl _) _
   have hb25:=bhop hbr hb5
   have hm5:MvB w5 wr.heap.size tt kp ag:=by rw [← hw5];exact heap_alloc_new wr _
   obtain ⟨fA,fL,fC⟩:=HF.out w5 hb25
   have hsz:=fL.lists.sets
   rw [own_num hsz] at hsz
   obtain ⟨gs,hgs,hgsl,e0,e1,e2,e3⟩:=cls_at hsz HJ.out.2.2.2.2.1
   have hsn:=own_num fL.lists.sets
   obtain ⟨c8,_⟩:=fA.cells
   rw [hgs] at c8
   rw [← HJ.out.2.2.2.2.2.2.1] at e0 e1 e2 e3
   obtain ⟨k0,k1,k2⟩:=hm5.cells
   have u1:(0:Int)≤(tt:Int):=by omega
   have u2:(tt:Int)<(a.n:Int):=by have:=HJ.out.2.1;have:=HJ.out.2.2.2.2.2.2.1;omega
   have u3:((tt:Int)).toNat=tt:=by omega
   have HCl:Hid (Cl C):=Lib.hid (HP.out.2.2 C (List.mem_of_getElem? HJ.out.2.2.2.2.1))
   have hib:i<1000000000000:=by have:=HLN.out.2;have:=HJ.out.2.2.2.2.2.2.2.2.2.2;omega
   have HN2:=Lib.hid HN.out
   have HLT:=Lib.hid (show (L p).length - (i+1)<(L p).length - i by have:=HJ.out.2.2.2.2.2.2.2.2.2.2;omega)
   have HH0:=Lib.hid (show hasB (m.sets.getD j.tt zeros) b=hasB C b by rw [List.getD_eq_getElem?_getD,HJ.out.2.2.2.2.1];rfl)
   have HLT2:=Lib.hid (show m.ars.getD j.tt []=lt by rw [List.getD_eq_getElem?_getD,HJ.out.2.2.2.2.2.1];rfl)
   have HNX:=Lib.hid (fun (W:World) (h:Below wr.heap.size wr W) (hn:∀ k,¬ StM m lf x b j k)=>show StI w4 mb m lf x b (L p) ((L p).length - (i+1)) (.int .i64 ((i:Int)+1)) W from
    ⟨i+1,by push_cast;rfl,rfl,HJ.out.2.2.2.2.2.2.2.2.2.2,((HCF.out.1.at (h.block _ HCF.out.1.lt)).mono (Nat.le_succ i)).iff fun k=>sts_skip HJ.out.1 hn k,HCF.out.2.trans (Chg.of_below (R:=fun _=>False) h) fun _ _ q=>q.elim⟩)
   have H5:=Lib.hid (And.intro hb5 (And.intro hb25 hm5))
   clear hsz hsn hgs fA fL fC hb5 hb25 hm5 hbr y0 y1 y2
   simp only [hw5]
   clear hw5
   go_wp2_with fail
   go_at_call 37
   refine (chas_any C b _ HCl.out hb).mono ?_
   rintro e w6 ⟨rfl,hb6⟩
   have HB6:=Lib.hid (bhop H5.out.2.1 hb6)
   have HB56:=Lib.hid hb6
   clear hb6 k0 k1 k2 c8 e0 e1 e2 e3
   cases hh:hasB C b with
   | true =>
    have HH:=Lib.hid hh
    clear hh
    obtain ⟨k0,k1,k2⟩:=(H5.out.2.2.below HB56.out).cells
    obtain ⟨d0,d1,d2,d3,d4⟩:=(HF.out w6 HB6.out).2.2.five
    obtain ⟨r,hr⟩ : ∃ r,madeX m lf lt x kp ag=r:=⟨_,rfl⟩
    have HMR:=Lib.hid hr
    clear hr
    go_wp2_with fail
    refine (made_any w6 (HF.out w6 HB6.out).1 (HF.out w6 HB6.out).2.1 HP.out.1 (show m.ars[tt]? = some lt from by rw [HJ.out.2.2.2.2.2.2.1];exact HJ.out.2.2.2.2.2.1) (show kp+(if ag then 1 else 0)≤lf.length from by rw [HJ.out.2.2.2.2.2.2.2.1,HJ.out.2.2.2.2.2.2.2.2.1];exact HJ.out.2.2.1) x HCN.out r HMR.out).mono ?_
    rintro e w7 ⟨rfl,hb7⟩
    have HB7:=Lib.hid (bhop HB6.out hb7)
    have HB57:=Lib.hid (bhop HB56.out hb7)
    clear hb7 k0 k1 k2 d0 d1 d2 d3 d4
    cases r with
    | none =>
     simp only [mdP,mdX,Option.isSome_none,Option.getD_none,Bool.false_eq_true,if_false]
     have HP1:=Lib.hid (fun (W:World) (h:Below w7.heap.size w7 W)=>HNX.out W (bhop (bhop H5.out.1 HB57.out) h) fun k hk=>by
      obtain ⟨_,y,hy,_⟩:=hk
      rw [HLT2.out,← HJ.out.2.2.2.2.2.2.2.1,← HJ.out.2.2.2.2.2.2.2.2.1,HMR.out] at hy;cases hy)
     have HP2:=Lib.hid (HP1.out _ ((Below.refl _ w7).alloc (Nat.le_refl _) (.cells #[.int .i64 0,.int .i64 0,.int .i64 0,.int .i64 0,.int .i64 0] 55)))
     go_wp2_with fail
     go_roundw
     case rel=>exact ⟨_,HP2.out⟩
     case measure =>
      rw [HN.out]
      exact Nat.lt_of_le_of_lt ((leastOf_spec ⟨_,HP2.out⟩).2 _ HP2.out) HLT.out
    | some y =>
     simp only [mdP,mdX,Option.isSome_some,Option.getD_some,if_true]
     obtain ⟨w8,hw8⟩ : ∃ w8,w7.alloc (.cells #[.int .i64 tt,.int .i64 (y 0),.int .i64 (y 1),.int .i64 (y 2),.int .i64 (y 3)] 55)=w8:=⟨_,rfl⟩
     have hb8:Below w7.heap.size w7 w8:=hw8▸(Below.refl _ w7).alloc (Nat.le_refl _) _
     have hbr8:Below wr.heap.size wr w8:=bhop (bhop H5.out.1 HB57.out) hb8
     have hS8:CfgS w8 w3.heap.size i (StS m lf x b ((L p).take i)):=by
      have h:=HCF.out.1.at (hbr8.block _ HCF.out.1.lt)
      rw [H4.out.2.2.2] at h
      exact h
     have hk63:Kc63 ⟨(tt:Nat),y 0,y 1,y 2,y 3⟩:=by
      have h:=HJ.out.2.2.2.1 lt y HJ.out.2.2.2.2.2.1 (by rw [← HJ.out.2.2.2.2.2.2.2.1,← HJ.out.2.2.2.2.2.2.2.2.1];exact HMR.out)
      rw [← HJ.out.2.2.2.2.2.2.1] at h
      exact h
     obtain ⟨w9,hr9,hm9,hc9⟩:=put_kc hS8 (by unfold maxLen;omega) ⟨(tt:Nat),y 0,y 1,y 2,y 3⟩ hk63
     have HP1:=Lib.hid (show StI w4 mb m lf x b (L p) ((L p).length - (i+1)) (.int .i64 ((i:Int)+1)) w9 from
      ⟨i+1,by push_cast;rfl,rfl,HJ.out.2.2.2.2.2.2.2.2.2.2,by
       rw [H4.out.2.2.2]
       refine hm9.iff fun k=>?_
       rw [sts_snoc HJ.out.1]
       refine or_congr Iff.rfl ⟨fun h=>⟨by rw [HH0.out];exact HH.out,y,by rw [HLT2.out,← HJ.out.2.2.2.2.2.2.2.1,← HJ.out.2.2.2.2.2.2.2.2.1];exact HMR.out,by rw [h,← HJ.out.2.2.2.2.2.2.1];rfl⟩,?_⟩
       rintro ⟨_,y2,h2,h3⟩
       rw [HLT2.out,← HJ.out.2.2.2.2.2.2.2.1,← HJ.out.2.2.2.2.2.2.2.2.1,HMR.out] at h2
       obtain rfl:=Option.some.inj h2
       rw [h3,← HJ.out.2.2.2.2.2.2.1];rfl,
      ((HCF.out.2.trans (Chg.of_below (R:=fun _=>False) hbr8) fun _ _ q=>q.elim).trans hc9 fun k _ e=>by rw [H4.out.2.2.2];exact e)⟩)
     obtain ⟨q0,q1,q2,q3,q4⟩:=CfB.five (show CfB w8 w7.heap.size (tt:Nat) y from by rw [← hw8];exact heap_alloc_new w7 _)
     clear hb8 hbr8 hS8 hk63 hm9 hc9
     go_wp2_with fail
     go_roundw
     case rel=>exact ⟨_,HP1.out⟩
     case measure =>
      rw [HN.out]
      exact Nat.lt_of_le_of_lt ((leastOf_spec ⟨_,HP1.out⟩).2 _ HP1.out) HLT.out
   | false =>
    have HP1:=Lib.hid (HNX.out w6 (bhop H5.out.1 HB56.out) fun k hk=>by
     have:=hk.1
     rw [HH0.out,hh] at this;cases this)
    clear hh
    go_wp2_with fail
    go_roundw
    case rel=>exact ⟨_,HP1.out⟩
    case measure =>
     rw [HN.out]
     exact Nat.lt_of_le_of_lt ((leastOf_spec ⟨_,HP1.out⟩).2 _ HP1.out) HLT.out
  ·have s2:¬ (i:Int)<(ln:Int):=by omega
   have hil:i=(L p).length:=by have:=HLN.out.1;omega
   have hS:CfgS wr w3.heap.size (L p).length (StS m lf x b (L p)):=by
    have h:=HCF.out.1
    rw [hil,List.take_length,H4.out.2.2.2] at h
    exact h
   obtain ⟨w5,hw5⟩ : ∃ w5,w5=wr.alloc (.cells #[.map (some w3.heap.size)] 66):=⟨_,rfl⟩
   have HS:=Lib.hid (sorted_keys hS HLN.out.2 hw5)
   have hb5:Below wr.heap.size wr w5:=by rw [hw5];exact (Below.refl _ wr).alloc (Nat.le_refl _) _
   have HE:=Lib.hid (bhop hbr hb5)
   clear hS hb5 hbr hil hif
   go_wp2_with fail
   go_at_call 96
   refine (keysC_any w3.heap.size wr).mono ?_
   rintro e w5' ⟨rfl,rfl⟩
   rw [← hw5]
   clear hw5
   go_wp2_with fail
   go_at_call 25
   refine HS.out.mono ?_
   rintro e w6 ⟨v,l,rfl,h1,h2,h3,h4,h5⟩
   have HR6:=Lib.hid (And.intro h1 (And.intro h2 (And.intro h3 (And.intro h4 h5))))
   clear h1 h2 h3 h4 h5
   go_wp2_with fail
   go_ret
   have hbw:=bhop HB.out HE.out
   exact ⟨_,_,rfl,HR6.out.1,HR6.out.2.1,HR6.out.2.2.1,own_low HR6.out.2.2.2.1 hbw.size,bhop hbw HR6.out.2.2.2.2⟩
end Go.Proofs.YtnmjicfpmkoldaaGreatDoor

/- Few moves, few first positions; a right config's numbers; two lists of configs behind a byte: plain facts.
   Conditions: those that each theorem states. -/
namespace Go.Proofs.YtnmjicfpmkoldaaGreatDoor
open Go.RowKit
theorem fl_few {fl:List Nat} {n:Nat} (hs:fl.Pairwise (· < ·)) (h:∀ q∈fl,q<n):fl.length≤n:=by
 have h1:fl.Nodup:=hs.imp fun h=>Nat.ne_of_lt h
 have h2:=h1.length_le_of_subset (l₂:=List.range n) fun q hq=>List.mem_range.2 (h q hq)
 rwa [List.length_range] at h2
theorem mv_few {l:List Mv} {n:Nat} (hs:l.Pairwise mvLt) (h:∀ x∈l,x.kp≤4∧x.tt<n):l.length≤n * 10:=by
 have h1:(l.map fun x=>x.tt * 10+x.kp * 2+(if x.ag then 1 else 0)).Nodup:=by
  rw [List.Nodup,List.pairwise_map]
  refine hs.imp_of_mem fun {x y} hx hy hlt e=>?_
  obtain ⟨a1,_⟩:=h x hx
  obtain ⟨b1,_⟩:=h y hy
  obtain ⟨t,k,g⟩:=x
  obtain ⟨t',k',g'⟩:=y
  have a1:k≤4:=a1
  have b1:k'≤4:=b1
  have e:t * 10+k * 2+(if g then 1 else 0)=t' * 10+k' * 2+(if g' then 1 else 0):=e
  have e3:g=g':=by
   cases g <;> cases g' <;> simp at e ⊢ <;> omega
  subst e3
  obtain ⟨rfl,rfl⟩ : t=t'∧k=k':=by
   cases g <;> simp at e <;> omega
  exact mvLt_irr _ hlt
 have h2:=h1.length_le_of_subset (l₂:=List.range (n * 10)) fun q hq=>by
  obtain ⟨x,hx,rfl⟩:=List.mem_map.1 hq
  obtain ⟨a1,a2⟩:=h x hx
  rw [List.mem_range]
  split <;> omega
 rwa [List.length_map,List.length_range] at h2
end Go.Proofs.YtnmjicfpmkoldaaGreatDoor

/- naive's put: configs are put to a set: a contract.
   Conditions: the set and the row lie in memory; the configs' numbers are ints. -/
namespace Go.Proofs.YtnmjicfpmkoldaaGreatDoor
open Go.RowKit Go.Maps Go.Shelf
theorem put_kn {w:World} {b n:Nat} {S:Kc→Prop} (h:CfgS w b n S) (hn:n<maxLen) (k:Kc) (hk:Kc63 k):∃ w':World,
  (Instr.mapUpdate 67 (.map (some b)) (.agg #[.int .i64 k.p,.int .i64 k.a,.int .i64 k.b,.int .i64 k.c,.int .i64 k.d]) (.agg #[])).run Tryz.prog w=.ok () w'∧CfgS w' b (n+1) (fun j=>S j∨j=k)∧Chg (fun x=>x=b) w w':=by
 obtain ⟨D,h1,h2⟩:=h
 obtain ⟨l,hl⟩:=key_kc k hk
 obtain ⟨w',hr,h3,h4⟩:=h1.update keyedC Tryz.underlying67 hn hl unitElem_mk
 exact ⟨w',hr,⟨_,h3,h2.put h1.isMap hk hl _⟩,chg_of_grown h4⟩
theorem CfsR.chg {w w':World} {A:Option Addr} {l:List Kc} {b:Nat} (h:CfsR w A l) (hb:∃ es c,w.heap[b]? = some (.map es c)) (hc:Chg (fun x=>x=b) w w'):CfsR w' A l:=fun i k hk=>by
 obtain ⟨g,h1,h2,h3,h4,h5,h6,h7⟩:=h i k hk
 have hne:¬ g=b:=by
  rintro rfl
  obtain ⟨es,c,hm⟩:=hb
  simp [World.cell?,hm] at h3
 exact ⟨g,h1,Nat.lt_of_lt_of_le h2 hc.size,(hc.cell _ h2 hne).trans h3,(hc.cell _ h2 hne).trans h4,(hc.cell _ h2 hne).trans h5,(hc.cell _ h2 hne).trans h6,(hc.cell _ h2 hne).trans h7⟩
set_option maxHeartbeats 8000000 in
set_option maxRecDepth 100000 in
theorem nput_any (w:World) (b n:Nat) (S:Kc→Prop) (A:Option Addr) (c:Nat) (l:List Kc) (h:CfgS w b n S) (hl:CfsR w A l) (hn:n+l.length<1000000000000) (h63:∀ k∈l,Kc63 k) :
  Calls Tryz.prog 44 #[.map (some b),.slice A l.length c] w fun e w'=>e=.returned (.tuple #[])∧CfgS w' b (n+l.length) (fun k=>S k∨k∈l)∧Chg (fun x=>x=b) w w':=by
 obtain ⟨ln,hln⟩ : ∃ n,n=l.length:=⟨_,rfl⟩
 have HL:=Lib.hid (And.intro hl (And.intro hln (And.intro hn h63)))
 have HK:=Lib.hid h.kind
 have H0:=Lib.hid h
 rw [← hln]
 clear hl hln hn h63 h
 go_enter Tryz.func44,Tryz.ntmps44
 go_wp2_with fail
 go_loopw [8] (fun z wr=>∃ i:Nat,z=.int .i64 i∧i≤l.length∧CfgS wr b (n+i) (fun k=>S k∨k∈l.take i)∧Chg (fun x=>x=b) w wr) (fun z _=>match z with | .int _ z=>l.length - z.toNat | _=>0)
 case atStart=>exact ⟨0,rfl,Nat.zero_le _,H0.out.iff fun k=>by simp,Chg.refl _ _⟩
 case round =>
  obtain ⟨i,rfl,hi,hS,hc⟩:=hrel
  have HS:=Lib.hid (And.intro hS hc)
  have s1:(0:Int)≤(i:Int):=by omega
  have s3:((i:Int)).toNat=i:=by omega
  have hib:i<1000000000000:=by have:=HL.out.2.2.1;omega
  have wk:IntKind.i64.wrap ((i:Int)+1)=(i:Int)+1:=by rw [IntKind.wrap_i64];omega
  by_cases g:i<ln
  ·have s2:(i:Int)<(ln:Int):=by omega
   obtain ⟨k,hk⟩ : ∃ k,l[i]? = some k:=⟨_,List.getElem?_eq_getElem (by have:=HL.out.2.1;omega)⟩
   obtain ⟨gg,rfl,_,y0,y1,y2,y3,y4⟩:=(HL.out.1.chg HK.out hc) i k hk
   obtain ⟨w5,hw5,hb5,hq5⟩ : ∃ w5,wr.alloc (.cells #[.int .i64 k.p,.int .i64 k.a,.int .i64 k.b,.int .i64 k.c,.int .i64 k.d] 55)=w5∧Below wr.heap.size wr w5∧CfB w5 wr.heap.size k.p k.x:=⟨_,rfl,(Below.refl _ wr).alloc (Nat.le_refl _) _,heap_alloc_new wr _⟩
   obtain ⟨x0,x1,x2,x3,x4⟩ : w5.cell? ⟨wr.heap.size,0,none⟩=some (.int .i64 k.p)∧w5.cell? ⟨wr.heap.size,1,none⟩=some (.int .i64 k.a)∧w5.cell? ⟨wr.heap.size,2,none⟩=some (.int .i64 k.b)∧w5.cell? ⟨wr.heap.size,3,none⟩=some (.int .i64 k.c)∧w5.cell? ⟨wr.heap.size,4,none⟩=some (.int .i64 k.d):=CfB.five hq5
   obtain ⟨w6,hr6,hS6,hc6⟩:=put_kn (hS.at (hb5.block _ hS.lt)) (by have:=HL.out.2.2.1;unfold maxLen;omega) k (HL.out.2.2.2 k (List.mem_of_getElem? hk))
   have HP:=Lib.hid (show CfgS w6 b (n+(i+1)) (fun j=>S j∨j∈l.take (i+1))∧Chg (fun x=>x=b) w w6∧i+1≤l.length from by
    refine ⟨(hS6.mono (by omega)).iff fun j=>?_,(hc.trans (Chg.of_below (R:=fun _=>False) hb5) fun _ _ e=>e.elim).trans hc6 fun _ _ e=>e,by have:=HL.out.2.1;omega⟩
    rw [List.take_add_one,hk,List.mem_append]
    simp [or_assoc])
   clear hk hb5 hq5 hS hc hS6 hc6 hi
   go_upto_region 3 with fail
   clear hw5 y0 y1 y2 y3 y4
   go_wp2_with fail
   go_roundw
   case rel=>exact ⟨i+1,by push_cast;rfl,HP.out.2.2,HP.out.1,HP.out.2.1⟩
   case measure=>have:=HP.out.2.2;simp;omega
  ·have s2:¬ (i:Int)<(ln:Int):=by omega
   have hil:i=l.length:=by have:=HL.out.2.1;omega
   have HE:=Lib.hid (show CfgS wr b (n+ln) (fun k=>S k∨k∈l) from by
    have h1:=HS.out.1
    rw [hil,List.take_length] at h1
    rw [HL.out.2.1]
    exact h1)
   clear hil hS hc hi
   go_wp2_with fail
   go_end0
   exact ⟨rfl,HE.out,HS.out.2⟩
end Go.Proofs.YtnmjicfpmkoldaaGreatDoor

/- The configs behind a word, as the program and the document go on from them: plain facts.
   Conditions: those that each theorem states. -/
namespace Go.Proofs.YtnmjicfpmkoldaaGreatDoor
open Go.RowKit
def stepB (m:PM) (L:Nat→List Mv) (S:Kc→Prop) (b:Nat) (k':Kc):Prop:=∃ k,S k∧StS m (m.ars.getD k.p.toNat []) k.x b (L k.p.toNat) k'
def bhS (m:PM) (fl:List Nat) (L:Nat→List Mv):List Nat→Kc→Prop
 | []=>fun _=>False
 | b :: w=>w.foldl (stepB m L) fun k=>k∈(bgL m b fl).map kcB
theorem bhS_one {m:PM} {fl:List Nat} {L:Nat→List Mv} {b:Nat}:bhS m fl L [b]=fun k=>k∈(bgL m b fl).map kcB:=rfl
theorem bhS_snoc {m:PM} {fl:List Nat} {L:Nat→List Mv} {w:List Nat} (h:w≠[]) (b:Nat):bhS m fl L (w ++ [b])=stepB m L (bhS m fl L w) b:=by
 cases w with
 | nil=>exact absurd rfl h
 | cons a w =>
  show (w ++ [b]).foldl _ _=_
  rw [List.foldl_append]
  rfl
theorem stepB_dead {m:PM} {L:Nat→List Mv} {S:Kc→Prop} (h:∀ k,¬ S k) {b:Nat}:∀ k,¬ stepB m L S b k:=fun _ ⟨k,hk,_⟩=>h k hk
theorem bhS_dead {m:PM} {fl:List Nat} {L:Nat→List Mv} {w:List Nat} (hw:w≠[]) (h:∀ k,¬ bhS m fl L w k):∀ (v:List Nat) (k:Kc),¬ bhS m fl L (w ++ v) k:=fun v=>by
 cases w with
 | nil=>exact absurd rfl hw
 | cons a w =>
  show ∀ k,¬ ((w ++ v).foldl (stepB m L) _) k
  rw [List.foldl_append]
  have key:∀ (v:List Nat) (S:Kc→Prop),(∀ k,¬ S k)→∀ k,¬ v.foldl (stepB m L) S k:=by
   intro v
   induction v with
   | nil=>exact fun S h=>h
   | cons b v ih=>exact fun S h=>ih _ (stepB_dead h)
  exact key v _ h
structure OkC (m:PM) (n:Int) (k:Kc):Prop where
 at_:∃ (p:Nat) (lf:List Nat),k.p=(p:Int)∧1≤p∧m.ars[p]? = some lf∧cntsB m lf k.x=true
 le:∀ i<4,k.x i≤n
theorem cnt_nn {m:PM} {l:List Nat} {x:Nat→Int} (h:cntsB m l x=true):∀ i<4,0≤x i:=fun i hi=>by
 have h1:=cnts_iff.1 h i hi
 unfold cntB at h1
 split at h1
 ·simp at h1;omega
 ·simp at h1;omega
theorem next_le {s:Int×Int} {c v:Int} (h:nextP s c=some v):v≤c+1:=by
 unfold nextP at h
 split at h
 ·cases h
 ·split at h
  ·rename_i h2;rw [← Option.some.inj h];omega
  ·rw [← Option.some.inj h];omega
theorem kc_ext {x y:Kc} (h0:x.p=y.p) (h1:x.a=y.a) (h2:x.b=y.b) (h3:x.c=y.c) (h4:x.d=y.d):x=y:=by
 obtain ⟨a,b,c,d,e⟩:=x
 obtain ⟨a',b',c',d',e'⟩:=y
 simp only at h0 h1 h2 h3 h4
 subst h0 h1 h2 h3 h4
 rfl
theorem dig41 {a b c d:Nat} (h:a * 41+b=c * 41+d) (hb:b<41) (hd:d<41):a=c∧b=d:=by omega
theorem few_C {m:PM} {l:List Kc} (hn:l.Nodup) (h:∀ k∈l,OkC m 40 k) (hm:m.ars.length≤41):l.length≤115856201:=by
 have hb:∀ k∈l,0≤k.p∧k.p<41∧0≤k.a∧k.a≤40∧0≤k.b∧k.b≤40∧0≤k.c∧k.c≤40∧0≤k.d∧k.d≤40:=fun k hk=>by
  obtain ⟨⟨p,lf,h1,_,h3,h4⟩,h5⟩:=h k hk
  have e:=(List.getElem?_eq_some_iff.1 h3).1
  have n:=cnt_nn h4
  have a0:0≤k.a:=n 0 (by omega)
  have a1:0≤k.b:=n 1 (by omega)
  have a2:0≤k.c:=n 2 (by omega)
  have a3:0≤k.d:=n 3 (by omega)
  have b0:k.a≤40:=h5 0 (by omega)
  have b1:k.b≤40:=h5 1 (by omega)
  have b2:k.c≤40:=h5 2 (by omega)
  have b3:k.d≤40:=h5 3 (by omega)
  refine ⟨by omega,by omega,a0,b0,a1,b1,a2,b2,a3,b3⟩
 have h1:(l.map fun k=>(((k.p.toNat * 41+k.a.toNat) * 41+k.b.toNat) * 41+k.c.toNat) * 41+k.d.toNat).Nodup:=by
  rw [List.Nodup,List.pairwise_map]
  refine hn.imp_of_mem fun {x y} hx hy hlt e=>hlt ?_
  obtain ⟨x1,x2,x3,x4,x5,x6,x7,x8,x9,x10⟩:=hb x hx
  obtain ⟨y1,y2,y3,y4,y5,y6,y7,y8,y9,y10⟩:=hb y hy
  obtain ⟨e1,f1⟩:=dig41 e (by omega) (by omega)
  obtain ⟨e2,f2⟩:=dig41 e1 (by omega) (by omega)
  obtain ⟨e3,f3⟩:=dig41 e2 (by omega) (by omega)
  obtain ⟨e4,f4⟩:=dig41 e3 (by omega) (by omega)
  exact kc_ext (by omega) (by omega) (by omega) (by omega) (by omega)
 have h2:=h1.length_le_of_subset (l₂:=List.range 115856201) fun q hq=>by
  obtain ⟨k,hk,rfl⟩:=List.mem_map.1 hq
  obtain ⟨x1,x2,x3,x4,x5,x6,x7,x8,x9,x10⟩:=hb k hk
  rw [List.mem_range]
  omega
 rwa [List.length_map,List.length_range] at h2
end Go.Proofs.YtnmjicfpmkoldaaGreatDoor

/- Sets of configs behind a word stay right and small: plain facts, and what a set in memory is at least.
   Conditions: those that each theorem states. -/
namespace Go.Proofs.YtnmjicfpmkoldaaGreatDoor
open Go.RowKit Go.Maps
theorem toX_le {lt:List Nat} {x:Nat→Int} {kp:Nat} {v:Option Int} {n:Int} (hn:0≤n) (hx:∀ i<4,x i≤n) (hv:∀ u,v=some u→u≤n+1):∀ i<4,toX lt x kp v i≤n+1:=fun i hi=>by
 unfold toX
 split
 ·have:=hx i hi;omega
 ·split
  ·rename_i _ h
   obtain ⟨u,hu⟩:=Option.isSome_iff_exists.1 h.2
   rw [hu]
   exact hv u hu
  ·split <;> omega
theorem made_le {m:PM} {lf lt:List Nat} {x y:Nat→Int} {kp:Nat} {ag:Bool} {n:Int} (hk:kp+(if ag then 1 else 0)≤4) (hn:0≤n) (hx:∀ i<4,x i≤n) (h:madeX m lf lt x kp ag=some y):∀ i<4,y i≤n+1:=by
 unfold madeX at h
 cases ag with
 | false =>
  simp only [Bool.false_eq_true,if_false] at h
  split at h
  ·rw [← Option.some.inj h];exact toX_le hn hx fun u hu=>by cases hu
  ·cases h
 | true =>
  simp only [if_true] at h hk
  obtain ⟨v,hv,h⟩:=Option.bind_eq_some_iff.1 h
  split at h
  ·rw [← Option.some.inj h]
   refine toX_le hn hx fun u hu=>?_
   rw [← Option.some.inj hu]
   have:=next_le hv
   have:=hx kp (by omega)
   omega
  ·cases h
structure MvL (m:PM) (L:Nat→List Mv):Prop where
 few:∀ p,p<m.ars.length→(L p).length≤410
 good:∀ p lf,m.ars[p]? = some lf→∀ j∈L p,1≤j.tt∧j.tt<m.ars.length∧j.kp+(if j.ag then 1 else 0)≤lf.length∧lf.length≤4∧∀ x lt y,cntsB m lf x=true→m.ars[j.tt]? = some lt→madeX m lf lt x j.kp j.ag=some y→cntsB m lt y=true
theorem step_ok {m:PM} {L:Nat→List Mv} (hL:MvL m L) {n:Int} (hn:0≤n) {k k':Kc} {b:Nat} (hk:OkC m n k) (h:StS m (m.ars.getD k.p.toNat []) k.x b (L k.p.toNat) k'):OkC m (n+1) k':=by
 obtain ⟨⟨p,lf,h1,h2,h3,h4⟩,h5⟩:=hk
 rw [h1,show ((p:Int)).toNat=p by omega] at h
 rw [show m.ars.getD p []=lf by rw [List.getD_eq_getElem?_getD,h3];rfl] at h
 obtain ⟨j,hj,_,y,hy,rfl⟩:=h
 obtain ⟨g1,g2,g3,g4,g5⟩:=hL.good p lf h3 j hj
 have hlt:=List.getElem?_eq_getElem (l:=m.ars) (i:=j.tt) g2
 rw [show m.ars.getD j.tt []=m.ars[j.tt] by rw [List.getD_eq_getElem?_getD,hlt];rfl] at hy
 refine ⟨⟨j.tt,_,rfl,g1,hlt,?_⟩,fun i hi=>?_⟩
 ·have h6:=g5 k.x _ y h4 hlt hy
  rw [← right_at g1 hlt] at h6 ⊢
  rw [← h6]
  rfl
 ·have h7:=made_le (by omega) hn h5 hy i hi
  have e:(kcOf (j.tt:Nat) y).x i=y i:=by
   match i,hi with
   | 0,_=>rfl
   | 1,_=>rfl
   | 2,_=>rfl
   | 3,_=>rfl
  rw [e]
  exact h7
theorem beg_ok {m:PM} (hw:MapW m) {fl:List Nat} (hfl:∀ q∈fl,1≤q∧q<m.ars.length) {b:Nat} {k:Kc} (h:k∈(bgL m b fl).map kcB):OkC m 1 k:=by
 obtain ⟨c,hc,rfl⟩:=List.mem_map.1 h
 obtain ⟨q,hq,rfl⟩:=List.mem_map.1 hc
 obtain ⟨h1,h2⟩:=hfl q (List.mem_filter.1 hq).1
 have hl:=List.getElem?_eq_getElem (l:=m.ars) (i:=q) h2
 have hr:=bg_right hw hfl _ hc
 have hr2:rightB m (q:Int) (entX (m.ars.getD q []) (fun _=>0) 0)=true:=hr
 rw [right_at h1 hl] at hr2
 refine ⟨⟨q,_,rfl,h1,hl,?_⟩,fun i hi=>?_⟩
 ·rw [← hr2];rfl
 ·have e:(kcB ⟨q,entX (m.ars.getD q []) (fun _=>0) 0⟩).x i=entX (m.ars.getD q []) (fun _=>0) 0 i:=by
   match i,hi with
   | 0,_=>rfl
   | 1,_=>rfl
   | 2,_=>rfl
   | 3,_=>rfl
  rw [e]
  unfold entX
  split
  ·omega
  ·show (0:Int)≤1;omega
theorem ok_more {m:PM} {n n':Int} {k:Kc} (h:OkC m n k) (hn:n≤n'):OkC m n' k:=⟨h.at_,fun i hi=>by have:=h.le i hi;omega⟩
theorem stepB_ok {m:PM} {L:Nat→List Mv} (hL:MvL m L) {n:Int} (hn:0≤n) {S:Kc→Prop} (hS:∀ k,S k→OkC m n k) {b:Nat}:∀ k,stepB m L S b k→OkC m (n+1) k:=fun _ ⟨k,hk,h⟩=>step_ok hL hn (hS k hk) h
theorem bhS_ok {m:PM} (hw:MapW m) {fl:List Nat} (hfl:∀ q∈fl,1≤q∧q<m.ars.length) {L:Nat→List Mv} (hL:MvL m L):∀ (w:List Nat) (k:Kc),bhS m fl L w k→OkC m w.length k
 | [],_,h=>h.elim
 | b :: w,k,h=>by
  have key:∀ (w:List Nat) (n:Int) (S:Kc→Prop),0≤n→(∀ k,S k→OkC m n k)→∀ k,w.foldl (stepB m L) S k→OkC m (n+w.length) k:=by
   intro w
   induction w with
   | nil=>exact fun n S _ hS k hk=>ok_more (hS k hk) (by simp)
   | cons a w ih=>exact fun n S hn hS k hk=>ok_more (ih (n+1) _ (by omega) (stepB_ok hL hn hS) k hk) (by simp;omega)
  exact ok_more (key w 1 _ (by omega) (fun k hk=>beg_ok hw hfl hk) k h) (by simp;omega)
theorem ok_63 {m:PM} (hw:MapW m) (hm:m.ars.length≤41) {n:Int} {k:Kc} (h:OkC m n k):Kc63 k:=by
 obtain ⟨⟨p,lf,h1,h2,h3,h4⟩,_⟩:=h
 have h5:=cnts_63 hw (List.mem_of_getElem? h3) h4 (t:=p) (by have:=(List.getElem?_eq_some_iff.1 h3).1;omega)
 have e:kcOf (p:Nat) k.x=k:=kc_ext (by rw [h1];rfl) rfl rfl rfl rfl
 rwa [e] at h5
theorem owns_exact {w:World} {b n:Nat} {D:DataW Unit} (h:w.ownsMap Tryz.prog 55 unitElem b n D):w.ownsMap Tryz.prog 55 unitElem b (Maps.size D) D:=by
 obtain ⟨es,clock,hb,F,hs,rfl⟩:=h
 exact ⟨es,clock,hb,F,by simp [Maps.size,length_sorted],rfl⟩
end Go.Proofs.YtnmjicfpmkoldaaGreatDoor

/- The configs of a set in memory, as a list without doubles: a plain fact.
   Conditions: the set lies in memory. -/
namespace Go.Proofs.YtnmjicfpmkoldaaGreatDoor
open Go.RowKit Go.Maps
set_option maxRecDepth 100000 in
theorem keys_list {w:World} {b n:Nat} {D:DataW Unit} {S:Kc→Prop} (h:w.ownsMap Tryz.prog 55 unitElem b n D) (hS:CfsAre D S):∃ ss:List Kc,ss.Nodup∧(∀ k,k∈ss↔Kc63 k∧S k)∧ss.length=Maps.size D:=by
 obtain ⟨es,rfl,hp⟩:=h.tidy keyedC
 have hkl:∀ p∈es,WideAt.IsKeyLit p.1:=fun p hp=>by
  obtain ⟨es0,clock,hb,F,hs,he⟩:=h
  rw [DataW.map.injEq] at he
  rw [he] at hp
  obtain ⟨x,hx,rfl⟩:=List.mem_map.1 (mem_sorted.1 hp)
  obtain ⟨y,hy⟩:=F.reads x hx
  rw [Go.WideElems.rg_of hy]
  exact keyedC.key (Go.WideElems.rd_key hy)
 have hhas:∀ p∈es,Maps.has (DataW.map es) p.1=true:=fun p hp=>by
  rw [Maps.has_eq,List.any_eq_true]
  exact ⟨p,hp,WideAt.sameKey_self (hkl p hp)⟩
 have hex:∀ p∈es,∃ k,Kc63 k∧keyOf Tryz.prog 55 (encC k)=some p.1:=fun p hp=>by
  obtain ⟨k,h1,h2⟩:=hS.key p.1 (hhas p hp)
  exact ⟨k,h1,h2⟩
 have hf:∀ p:{p // p∈es},∃ k,Kc63 k∧keyOf Tryz.prog 55 (encC k)=some p.1.1:=fun p=>hex p.1 p.2
 obtain ⟨f,hf'⟩:=Classical.axiomOfChoice hf
 refine ⟨es.attach.map f,?_,fun k=>⟨fun hk=>?_,fun hk=>?_⟩,by rw [List.length_map,List.length_attach];rfl⟩
 ·rw [List.Nodup,List.pairwise_map]
  have h2:es.attach.Pairwise fun p q=>p.1.1≠q.1.1:=by
   rw [← List.pairwise_map (f:=fun p:{p // p∈es}=>p.1) (R:=fun p q=>p.1≠q.1),List.attach_map_subtype_val]
   exact hp
  refine h2.imp fun {p q} hne e=>hne ?_
  have e1:=(hf' p).2
  rw [e] at e1
  exact Option.some.inj (e1.symm.trans (hf' q).2)
 ·obtain ⟨p,_,rfl⟩:=List.mem_map.1 hk
  refine ⟨(hf' p).1,(hS.mem _ _ (hf' p).1 (hf' p).2).1 (hhas p.1 p.2)⟩
 ·obtain ⟨l,hl⟩:=key_kc k hk.1
  have h3:=(hS.mem k l hk.1 hl).2 hk.2
  rw [Maps.has_eq,List.any_eq_true] at h3
  obtain ⟨p,hp1,hp2⟩:=h3
  refine List.mem_map.2 ⟨⟨p,hp1⟩,List.mem_attach _ _,?_⟩
  have e1:=(hf' ⟨p,hp1⟩).2
  rw [show ((⟨p,hp1⟩ : {p // p∈es}).1.1)=l from WideAt.sameKey_eq hp2] at e1
  exact key_kc_inj e1 hl
end Go.Proofs.YtnmjicfpmkoldaaGreatDoor

/- naive's next: the set of what is behind one byte more: a contract.
   Conditions: the automaton and the set lie in memory; what the set has is right. -/
namespace Go.Proofs.YtnmjicfpmkoldaaGreatDoor
open Go.RowKit Go.Maps Go.Shelf
theorem set_small {w:World} {b n:Nat} {S:Kc→Prop} {m:PM} (h:CfgS w b n S) (hm:m.ars.length≤41) (hok:∀ k,S k→OkC m 40 k):CfgS w b 115856201 S:=by
 obtain ⟨D,h1,h2⟩:=h
 obtain ⟨ss,s1,s2,s3⟩:=keys_list h1 h2
 have:=few_C s1 (fun k hk=>hok k ((s2 k).1 hk).2) hm
 exact ⟨D,(owns_exact h1).mono (by omega),h2⟩
theorem ranges_off {w w':World} {Q:Nat→Prop} {b r n cnt:Nat} {D:DataW Unit} {left:Lit→Bool} (h:w.ranges Tryz.prog 55 unitElem b r n D left cnt) (hc:Chg Q w w') (hb:¬ Q b) (hr:¬ Q r):w'.ranges Tryz.prog 55 unitElem b r n D left cnt:=by
 have h1:=h.owns.lt
 have h2:=h.lt
 obtain ⟨es,clock,since,seen,c0,he,F,hs,hD,hR,rest⟩:=h
 exact ⟨es,clock,since,seen,c0,(hc.block b h1 hb).trans he,F,hs,hD,(hc.block r h2 hr).trans hR,rest⟩
theorem run_makeMapH (z:Int) (w:World):(Instr.makeMap 67 (some (.int .i64 z))).run Tryz.prog w=.ok (.map (some w.heap.size)) (w.alloc (.map #[] 0)):=by
 unfold Instr.makeMap
 simp [run_underlying Tryz.underlying67,asInt,asIntOf]
def NxO (w:World) (S:Kc→Prop) (e:Ending) (w':World):Prop:=∃ nb,e=.returned (.map (some nb))∧w.heap.size≤nb∧CfgS w' nb 115856201 S∧Below w.heap.size w w'
def NxS (m:PM) (L:Nat→List Mv) (S:Kc→Prop) (b:Nat) (left:Lit→Bool) (k':Kc):Prop:=∃ k l,S k∧Kc63 k∧keyOf Tryz.prog 55 (encC k)=some l∧left l=false∧StS m (m.ars.getD k.p.toNat []) k.x b (L k.p.toNat) k'
theorem nxS_step {m:PM} {L:Nat→List Mv} {S:Kc→Prop} {b:Nat} {left:Lit→Bool} {k:Kc} {kl:Lit} {l1:List Kc} {k':Kc} (hk:Kc63 k) (hkl:keyOf Tryz.prog 55 (encC k)=some kl) (hS:S k) (h63:∀ {k0},S k0→StS m (m.ars.getD k0.p.toNat []) k0.x b (L k0.p.toNat) k'→Kc63 k') (hl:∀ k'',k''∈l1↔Kc63 k''∧StS m (m.ars.getD k.p.toNat []) k.x b (L k.p.toNat) k'') :
  (NxS m L S b left k'∨k'∈l1)↔NxS m L S b (fun z=>left z && !z.sameKey kl) k':=by
 have hK:=keyedC.key hkl
 have hsame:∀ z:Lit,(left z && !z.sameKey kl)=false↔left z=false∨z=kl:=fun z=>by
  by_cases e:z=kl
  ·subst e
   rw [WideAt.sameKey_self hK]
   simp
  ·cases hz:z.sameKey kl with
   | true=>exact absurd (WideAt.sameKey_eq hz) e
   | false=>simp [e]
 constructor
 ·rintro (⟨k0,l,h1,h2,h3,h4,h5⟩ | h)
  ·exact ⟨k0,l,h1,h2,h3,(hsame l).2 (.inl h4),h5⟩
  ·exact ⟨k,kl,hS,hk,hkl,(hsame kl).2 (.inr rfl),((hl k').1 h).2⟩
 ·rintro ⟨k0,l,h1,h2,h3,h4,h5⟩
  rcases (hsame l).1 h4 with h6 | rfl
  ·exact .inl ⟨k0,l,h1,h2,h3,h6,h5⟩
  ·have e:encC k0=encC k:=keyedC.inj h3 hkl
   obtain rfl:=encC_inj e
   exact .inr ((hl k').2 ⟨h63 h1 h5,h5⟩)
def NxI (w:World) (sb r nb n0:Nat) (m:PM) (L:Nat→List Mv) (S:Kc→Prop) (b:Nat) (D:DataW Unit) (cnt:Nat) (wr:World):Prop :=
 ∃ left,wr.ranges Tryz.prog 55 unitElem sb r n0 D left cnt∧CfgS wr nb 115856201 (NxS m L S b left)∧Below w.heap.size w wr
set_option maxHeartbeats 8000000 in
set_option maxRecDepth 100000 in
theorem nnext_any {B:Nat} {m:PM} {a:Au} {fl:List Nat} {la:Nat} (w:World) (hL:AuL w B m a fl la) {vs:List Value} {L:Nat→List Mv} (hrows:RowsM w B a.n (.slice (some ⟨a.mb,0,none⟩) a.n a.n) vs L) (hC:∀ C∈m.sets,Cl C) (hM:MvL m L) (sb n0:Nat) (S:Kc→Prop) (hS:CfgS w sb n0 S) (n:Int) (hn0:0≤n) (hn:n+1≤40) (hok:∀ k,S k→OkC m n k) (b:Nat) (hb:b<256) :
  Calls Tryz.prog 46 #[.map (some sb),.agg #[.int .i64 a.k,.int .u64 (a.s0:Nat),.int .u64 (a.s1:Nat),.int .u64 (a.s2:Nat),.int .u64 (a.s3:Nat),.slice a.ta a.tn a.tc,.int .i64 a.lo,.int .i64 a.hi,.slice a.sA a.n a.sC,.slice a.cA a.cN a.cC,.slice (some ⟨a.ga,0,none⟩) a.n a.aC,.slice a.fA a.fN a.fC,.slice (some ⟨a.mb,0,none⟩) a.n a.n,.slice (some ⟨a.lb,0,none⟩) a.n a.n,.bool a.em],.int .u8 b] w (NxO w (stepB m L S b)):=by
 obtain ⟨D,hD,hDS⟩:=hS
 obtain ⟨w2,hw2,hb2,ha2⟩:=au_box w a
 have hsl:=hD.lt
 have hD2:w2.ownsMap Tryz.prog 55 unitElem sb n0 D:=ownsMap_at hD (hb2.block sb hsl)
 have hlen:=fun ty=>hD2.len Tryz.underlying67 ty
 have HF:=Lib.hid (fun (W:World) (h:Below w2.heap.size w2 W)=>show AuB W w.heap.size a∧AuL W B m a fl la∧RowsM W B a.n (.slice (some ⟨a.mb,0,none⟩) a.n a.n) vs L from ⟨ha2.below h,hL.below (bhop hb2 h),hrows.below (bhop hb2 h)⟩)
 have HB:=Lib.hid hb2
 have hm41:m.ars.length≤41:=by rw [hL.ars];exact hL.most
 have HP:=Lib.hid (And.intro hC (And.intro hM (And.intro hDS (And.intro hok (And.intro hL.wf (And.intro hm41 hL.ars))))))
 have HD:=Lib.hid (And.intro hD2 (show sb<w2.heap.size by have:=hb2.size;omega))
 clear hb2 ha2 hL hC hM hD hDS hsl hD2 hok hm41 hrows
 go_enter Tryz.func46,Tryz.ntmps46
 go_upto_region 1 with fail
 clear hw2
 have hmm:=run_makeMapH ((Maps.size D:Nat):Int)
 go_upto_region 2 with fail
 obtain ⟨w4,hw4⟩ : ∃ w4,w2.alloc (.map #[] 0)=w4:=⟨_,rfl⟩
 have hb4:Below w2.heap.size w2 w4:=hw4▸(Below.refl _ w2).alloc (Nat.le_refl _) _
 obtain ⟨nb,hnb⟩ : ∃ nb,nb=w2.heap.size:=⟨_,rfl⟩
 have h0:CfgS w4 nb 0 (fun _=>False):=by rw [← hw4,hnb];exact ⟨_,World.ownsMap_made (H:=Unit) w2 Tryz.prog 55 unitElem,cfsAre_nil⟩
 have hD4:=ownsMap_at HD.out.1 (hb4.block sb HD.out.2)
 have H4:=Lib.hid (And.intro hb4 (And.intro h0 (And.intro hD4 hnb)))
 rw [hw4,← hnb]
 clear hw4 hb4 h0 hD4 hnb hmm hlen
 go_wp2_with ((at_range;refine wpList_range_own _ rfl _ 67 rfl 55 74 keyedC Tryz.underlying67 unitElem sb n0 D rfl H4.out.2.2.1 ?_;intro w5 hrg5 hg5 hs5))
 go_frame
 obtain ⟨r,hr⟩ : ∃ r,r=w4.heap.size:=⟨_,rfl⟩
 rw [← hr] at hrg5 ⊢
 have HRR:=Lib.hid (And.intro hr (show nb≠r∧sb≠r∧sb≠nb∧nb<w4.heap.size from by
  have h1:=H4.out.1.size
  have h2:=H4.out.2.1.lt
  have h3:=H4.out.2.2.2
  have h4:=HD.out.2
  refine ⟨by omega,by omega,by omega,h2⟩))
 have HST:=Lib.hid (show NxI w2 sb r nb n0 m L S b D (Maps.size D) w5 from by
  refine ⟨_,hrg5,((H4.out.2.1.at (hg5.block nb HRR.out.2.2.2.2 (by simp))).mono (by omega)).iff fun k'=>⟨fun h=>h.elim,?_⟩,H4.out.1.trans ⟨hg5.os,hg5.tape,hg5.output,hg5.size,fun k hk=>hg5.block k (by have:=H4.out.1.size;omega) (by simp)⟩⟩
  rintro ⟨k,l,h1,h2,h3,h4,_⟩
  have h5:=(HP.out.2.2.1.mem k l h2 h3).2 h1
  rw [h5] at h4
  cases h4)
 clear hrg5 hg5 hs5
 go_loopw [8] (fun _ wr=>∃ cnt,NxI w2 sb r nb n0 m L S b D cnt wr) (fun _ wr=>wr.rangeLeft sb r)
 case atStart=>exact ⟨_,HST.out⟩
 case round =>
  clear HST hr
  obtain ⟨cnt,left,hrg,hT,hBw⟩:=hrel
  have HR:=Lib.hid (And.intro hrg (And.intro hT hBw))
  clear hT hBw
  go_wp2_with ((at_next;refine wpList_next_ranges _ rfl _ rfl 55 keyedC unitElem (α:=Value) (β:=Unit) (fun x=>x) (fun _=>.agg #[]) (fun key kl _=>⟨key,rfl⟩) (fun v y h=>⟨(),(unitElem_inv h).1⟩) sb r n0 D left cnt rfl hrg ?_ ?_))
  ·intro _ hl0
   have HE:=Lib.hid (show CfgS wr nb 115856201 (stepB m L S b) from HR.out.2.1.iff fun k'=>⟨fun ⟨k,l,h1,_,_,_,h5⟩=>⟨k,h1,h5⟩,fun ⟨k,h1,h5⟩=>by
    have h63:=ok_63 HP.out.2.2.2.2.1 HP.out.2.2.2.2.2.1 (HP.out.2.2.2.1 k h1)
    obtain ⟨l,hl⟩:=key_kc k h63
    exact ⟨k,l,h1,h63,hl,hl0 l,h5⟩⟩)
   clear hrg hl0
   go_wp2_with fail
   go_ret
   exact ⟨nb,rfl,by rw [H4.out.2.2.2];exact HB.out.size,HE.out,bhop HB.out HR.out.2.2⟩
  ·intro x kl y1 y2 w3 cnt1 hkey hlk hun hat hrg3 hlt3 hg3 hs3 hen
   have hhas:=rangesC_has hrg hlk
   obtain ⟨k,hk63,hkk⟩:=HP.out.2.2.1.key kl hhas
   obtain rfl:x=encC k:=keyedC.inj hkey hkk
   have hkS:=(HP.out.2.2.1.mem k kl hk63 hkk).1 hhas
   simp only [encC] at hen ⊢
   obtain ⟨⟨p,lf,p1,p2,p3,p4⟩,_⟩:=HP.out.2.2.2.1 k hkS
   have hc3:=chg_of_grown hg3
   have hT3:CfgS w3 nb 115856201 (NxS m L S b left):=HR.out.2.1.at (hc3.block nb HR.out.2.1.lt HRR.out.2.1)
   have hb3:Below w2.heap.size w2 w3:=HR.out.2.2.trans (hc3.below HR.out.2.2.size fun q hq e=>by
    have h1:=H4.out.1.size
    have h2:=HRR.out.1
    have e:q=r:=e
    omega)
   have HK:=Lib.hid (And.intro hrg3 (And.intro hlt3 (And.intro hT3 (And.intro hb3 (And.intro hk63 (And.intro hkk (And.intro hkS p1)))))))
   have HL3:=Lib.hid (And.intro p2 (And.intro p3 p4))
   have HSZ:=Lib.hid hs3
   have hrl:=hrg.left_eq
   have HRL:=Lib.hid hrl
   clear hkey hlk hun hat hrg3 hlt3 hg3 hs3 hkS hhas hc3 hT3 hb3 hk63 hkk p1 p2 p3 p4 hrg hrl
   go_upto_region 5 with fail
   obtain ⟨w4',hw4',hb4',hc4'⟩ : ∃ w5,w3.alloc (.cells #[.int .i64 k.p,.int .i64 k.a,.int .i64 k.b,.int .i64 k.c,.int .i64 k.d] 55)=w5∧Below w3.heap.size w3 w5∧CfB w5 w3.heap.size k.p k.x:=⟨_,rfl,(Below.refl _ w3).alloc (Nat.le_refl _) _,heap_alloc_new w3 _⟩
   rw [hw4']
   have hb24:=bhop HK.out.2.2.2.1 hb4'
   obtain ⟨z0,z1,z2,z3,z4,z5,z6,z7,z8,z9,z10,z11,z12,z13,z14⟩:=(HF.out w4' hb24).1.all
   obtain ⟨d0,d1,d2,d3,d4⟩ : w4'.cell? ⟨w3.heap.size,0,none⟩=some (.int .i64 k.p)∧w4'.cell? ⟨w3.heap.size,1,none⟩=some (.int .i64 k.a)∧w4'.cell? ⟨w3.heap.size,2,none⟩=some (.int .i64 k.b)∧w4'.cell? ⟨w3.heap.size,3,none⟩=some (.int .i64 k.c)∧w4'.cell? ⟨w3.heap.size,4,none⟩=some (.int .i64 k.d):=CfB.five hc4'
   have hrr:rightB m (p:Int) k.x=true:=(right_at HL3.out.1 HL3.out.2.1).trans HL3.out.2.2
   have HSt:=Lib.hid (step_yes w4' (HF.out w4' hb24).2.1 (HF.out w4' hb24).2.2 HL3.out.2.1 k.x hrr HP.out.1 (fun j hj=>by
    obtain ⟨g1,g2,g3,_,g5⟩:=HP.out.2.1.good p lf HL3.out.2.1 j hj
    refine ⟨by rw [← HP.out.2.2.2.2.2.2];exact g2,g3,fun lt y h1 h2=>cnts_63 HP.out.2.2.2.2.1 (List.mem_of_getElem? h1) (g5 k.x lt y HL3.out.2.2 h1 h2) (by have:=HP.out.2.2.2.2.2.1;omega)⟩) (by have:=HP.out.2.1.few p (List.getElem?_eq_some_iff.1 HL3.out.2.1).1;omega) b hb)
   rw [← HK.out.2.2.2.2.2.2.2] at HSt
   have HB4:=Lib.hid (And.intro hb4' hb24)
   clear hw4' hb4' hc4' hb24 hrr
   go_wp2_with fail
   go_at_call 70
   refine HSt.out.mono ?_
   rintro e w6 ⟨v,l1,rfl,n1,n2,n3,n4,hb6⟩
   obtain ⟨A6,c6,rfl⟩:=own_form n4
   have hb36:=bhop HB4.out.1 hb6
   have hT6:CfgS w6 nb 115856201 (NxS m L S b left):=HK.out.2.2.1.at (hb36.block nb HK.out.2.2.1.lt)
   have hmem:∀ k',k'∈sortC l1↔Kc63 k'∧StS m lf k.x b (L p) k':=fun k'=>(sortC_perm l1).mem_iff.trans (n2 k')
   have hPut:=nput_any w6 nb 115856201 _ A6 c6 (sortC l1) hT6 (own_cfs n4) (by
    rw [(sortC_perm l1).length_eq]
    have:=HP.out.2.1.few p (List.getElem?_eq_some_iff.1 HL3.out.2.1).1
    omega) (fun k' hk'=>((hmem k').1 hk').1)
   have H6:=Lib.hid (And.intro hPut (And.intro hmem hb36))
   clear hb6 hb36 hT6 hmem hPut n1 n2 n3 n4 d0 d1 d2 d3 d4 z0 z1 z2 z3 z4 z5 z6 z7 z8 z9 z10 z11 z12 z13 z14
   go_wp2_with fail
   go_at_call 44
   refine H6.out.1.mono ?_
   rintro e w7 ⟨rfl,hT7,hc7⟩
   have hrg7:=ranges_off (ranges_off HK.out.1 (Chg.of_below (R:=fun _=>False) H6.out.2.2) id id) hc7 (fun e=>HRR.out.2.2.2.1 e) (fun e=>HRR.out.2.1 e.symm)
   have HN:=Lib.hid (show NxI w2 sb r nb n0 m L S b D cnt1 w7 from by
    refine ⟨_,hrg7,?_,?_⟩
    ·refine set_small (hT7.iff fun k'=>nxS_step HK.out.2.2.2.2.1 HK.out.2.2.2.2.2.1 HK.out.2.2.2.2.2.2.1 (fun {k0} g1 g2=>ok_63 HP.out.2.2.2.2.1 HP.out.2.2.2.2.2.1 (step_ok HP.out.2.1 hn0 (HP.out.2.2.2.1 k0 g1) g2)) fun k''=>(H6.out.2.1 k'').trans (by rw [HK.out.2.2.2.2.2.2.2,show ((p:Int)).toNat=p by omega,show m.ars.getD p []=lf by rw [List.getD_eq_getElem?_getD,HL3.out.2.1];rfl])) HP.out.2.2.2.2.2.1 fun k' hk'=>?_
     obtain ⟨k0,_,g1,_,_,_,g2⟩:=hk'
     exact ok_more (step_ok HP.out.2.1 hn0 (HP.out.2.2.2.1 k0 g1) g2) hn
    ·exact (bhop HK.out.2.2.2.1 H6.out.2.2).trans (hc7.below (by have:=(bhop HK.out.2.2.2.1 H6.out.2.2).size;exact this) fun q hq e=>by
      have h1:=H4.out.1.size
      have h2:=H4.out.2.2.2
      have e:q=nb:=e
      omega))
   have HLQ:=Lib.hid (show w7.rangeLeft sb r=cnt1 from hrg7.left_eq)
   clear hT7 hc7 hrg7
   go_wp2_with fail
   go_roundw
   case rel=>exact ⟨cnt1,HN.out⟩
   case measure=>rw [HLQ.out,HRL.out];exact HK.out.2.1
end Go.Proofs.YtnmjicfpmkoldaaGreatDoor

/- naive's follow: the set behind a word, and the greatest number behind a beginning of it: a contract.
   Conditions: the automaton and the word lie in memory. -/
namespace Go.Proofs.YtnmjicfpmkoldaaGreatDoor
open Go.RowKit Go.Maps Go.Shelf
def Cd (S:Kc→Prop) (c:Nat):Prop:=∃ ss:List Kc,ss.Nodup∧(∀ k,k∈ss↔Kc63 k∧S k)∧ss.length=c
theorem Cd.le {S:Kc→Prop} {c c':Nat} (h:Cd S c) (h':Cd S c'):c≤c':=by
 obtain ⟨s,a1,a2,rfl⟩:=h
 obtain ⟨s',b1,b2,rfl⟩:=h'
 exact a1.length_le_of_subset fun k hk=>(b2 k).2 ((a2 k).1 hk)
theorem Cd.one {S:Kc→Prop} {c c':Nat} (h:Cd S c) (h':Cd S c'):c=c':=Nat.le_antisymm (h.le h') (h'.le h)
theorem Cd.none {S:Kc→Prop} (h:∀ k,¬ S k):Cd S 0:=⟨[],List.nodup_nil,fun k=>⟨fun hk=>by simp at hk,fun hk=>absurd hk.2 (h k)⟩,rfl⟩
def MstS (m:PM) (fl:List Nat) (L:Nat→List Mv) (u:List Nat) (z:Nat):Prop:=(∀ i≤u.length,∀ c,Cd (bhS m fl L (u.take i)) c→c≤z)∧∃ i≤u.length,Cd (bhS m fl L (u.take i)) z
theorem mst_nil {m:PM} {fl:List Nat} {L:Nat→List Mv}:MstS m fl L [] 0:=by
 refine ⟨fun i hi c hc=>?_,0,by simp,Cd.none fun k hk=>hk⟩
 obtain rfl:i=0:=by simpa using hi
 exact hc.le (Cd.none fun k hk=>hk)
theorem mst_snoc {m:PM} {fl:List Nat} {L:Nat→List Mv} {u:List Nat} {b z c:Nat} (h:MstS m fl L u z) (hc:Cd (bhS m fl L (u ++ [b])) c):MstS m fl L (u ++ [b]) (max z c):=by
 constructor
 ·intro i hi c' hc'
  by_cases g:i≤u.length
  ·rw [List.take_append_of_le_length g] at hc'
   have:=h.1 i g c' hc'
   omega
  ·obtain rfl:i=(u ++ [b]).length:=by simp at hi ⊢;omega
   rw [List.take_length] at hc'
   have:=hc'.le hc
   omega
 ·by_cases g:z≤c
  ·exact ⟨(u ++ [b]).length,Nat.le_refl _,by rw [List.take_length,Nat.max_eq_right g];exact hc⟩
  ·obtain ⟨i,i1,i2⟩:=h.2
   exact ⟨i,by simp;omega,by rw [List.take_append_of_le_length i1,Nat.max_eq_left (by omega)];exact i2⟩
theorem mst_dead {m:PM} {fl:List Nat} {L:Nat→List Mv} {u:List Nat} {z:Nat} (h:MstS m fl L u z) (hu:u≠[]) (hd:∀ k,¬ bhS m fl L u k) (v:List Nat):MstS m fl L (u ++ v) z:=by
 constructor
 ·intro i hi c hc
  by_cases g:i≤u.length
  ·rw [List.take_append_of_le_length g] at hc
   exact h.1 i g c hc
  ·have e:(u ++ v).take i=u ++ v.take (i - u.length):=by
    rw [List.take_append,List.take_of_length_le (by omega)]
   rw [e] at hc
   have:=hc.le (Cd.none (bhS_dead hu hd _))
   omega
 ·obtain ⟨i,i1,i2⟩:=h.2
  exact ⟨i,by simp;omega,by rw [List.take_append_of_le_length i1];exact i2⟩
def WrdR (w:World) (v:Value) (l:List Nat):Prop :=
 ∃ A c,v=.slice A l.length c∧∀ (i x:Nat),l[i]? = some x→x<256∧∃ g o,A=some ⟨g,o,none⟩∧g<w.heap.size∧w.cell? ⟨g,o+i,none⟩=some (.int .u8 (x:Int))
theorem WrdR.below {w w':World} {v:Value} {l:List Nat} (h:WrdR w v l) (hb:Below w.heap.size w w'):WrdR w' v l:=by
 obtain ⟨A,c,h1,h2⟩:=h
 refine ⟨A,c,h1,fun i x hx=>?_⟩
 obtain ⟨h3,g,o,h4,h5,h6⟩:=h2 i x hx
 exact ⟨h3,g,o,h4,Nat.lt_of_lt_of_le h5 hb.size,(hb.cell (p:=⟨g,_,none⟩) h5).trans h6⟩
def FlO (w:World) (m:PM) (fl:List Nat) (L:Nat→List Mv) (u:List Nat) (e:Ending) (w':World):Prop:=∃ nb z,e=.returned (.tuple #[.map (some nb),.int .i64 (z:Nat)])∧w.heap.size≤nb∧CfgS w' nb 115856201 (bhS m fl L u)∧MstS m fl L u z∧z≤115856201∧Below w.heap.size w w'
def FlI (w:World) (m:PM) (fl:List Nat) (L:Nat→List Mv) (u:List Nat) (i:Nat) (now most:Value) (wr:World):Prop :=
 ∃ nb z,now=.map (some nb)∧most=.int .i64 (z:Nat)∧w.heap.size≤nb∧CfgS wr nb (if i=0 then 0 else 115856201) (bhS m fl L (u.take i))∧MstS m fl L (u.take i) z∧z≤115856201∧Below w.heap.size w wr
theorem run_makeMapN (w:World):(Instr.makeMap 67 none).run Tryz.prog w=.ok (.map (some w.heap.size)) (w.alloc (.map #[] 0)):=by
 unfold Instr.makeMap
 simp
theorem owns_size {w:World} {b n:Nat} {D:DataW Unit} (h:w.ownsMap Tryz.prog 55 unitElem b n D):Maps.size D≤n:=by
 obtain ⟨es,clock,hb,F,hs,rfl⟩:=h
 simpa [Maps.size,length_sorted] using hs
theorem fl_next {w2 W:World} {m:PM} {fl:List Nat} {L:Nat→List Mv} {u:List Nat} {i nb' z sz b:Nat} (h1:w2.heap.size≤nb') (h2:CfgS W nb' 115856201 (bhS m fl L (u.take (i+1)))) (h3:MstS m fl L (u.take i) z) (h4:z≤115856201) (h5:u[i]? = some b) (h6:Cd (bhS m fl L (u.take (i+1))) sz∧sz≤115856201) (h8:Below w2.heap.size w2 W):FlI w2 m fl L u (i+1) (.map (some nb')) (.int .i64 (max (z:Int) (sz:Int))) W:=by
 have e:u.take (i+1)=u.take i ++ [b]:=by rw [List.take_add_one,h5];rfl
 refine ⟨nb',max z sz,rfl,by rw [show (max (z:Int) (sz:Int))=((max z sz:Nat):Int) by omega],h1,by rw [if_neg (Nat.succ_ne_zero i)];exact h2,?_,by omega,h8⟩
 rw [e] at h6 ⊢
 exact mst_snoc h3 h6.1
theorem fl_dead {w w2 W:World} {m:PM} {fl:List Nat} {L:Nat→List Mv} {u:List Nat} {i nb' z b:Nat} (h1:w2.heap.size≤nb') (h2:CfgS W nb' 115856201 (bhS m fl L (u.take (i+1)))) (h3:MstS m fl L (u.take i) z) (h4:z≤115856201) (h5:u[i]? = some b) (h6:Cd (bhS m fl L (u.take (i+1))) 0) (h7:Below w.heap.size w w2) (h8:Below w2.heap.size w2 W) (hw:MapW m) (hm:m.ars.length≤41) (hfl:∀ q∈fl,1≤q∧q<m.ars.length) (hL:MvL m L):FlO w m fl L u (.returned (.tuple #[.map (some nb'),.int .i64 (z:Nat)])) W:=by
 have hil:=(List.getElem?_eq_some_iff.1 h5).1
 have hne:u.take (i+1)≠[]:=fun e=>by have:=congrArg List.length e;rw [List.length_take,Nat.min_eq_left hil] at this;simp at this
 have hd:∀ k,¬ bhS m fl L (u.take (i+1)) k:=fun k hk=>by
  obtain ⟨ss,_,s2,s3⟩:=h6
  have:=(s2 k).2 ⟨ok_63 hw hm (bhS_ok hw hfl hL _ k hk),hk⟩
  rw [List.length_eq_zero_iff.1 s3] at this
  simp at this
 have e:u=u.take (i+1) ++ u.drop (i+1):=(List.take_append_drop _ _).symm
 have hdu:=bhS_dead hne hd (u.drop (i+1))
 rw [← e] at hdu
 have hz:=mst_dead (mst_snoc (b:=b) h3 (by rw [show u.take i ++ [b]=u.take (i+1) by rw [List.take_add_one,h5];rfl];exact h6)) (by simp) (by rw [show u.take i ++ [b]=u.take (i+1) by rw [List.take_add_one,h5];rfl];exact hd) (u.drop (i+1))
 rw [show u.take i ++ [b]=u.take (i+1) by rw [List.take_add_one,h5];rfl,← e,Nat.max_eq_left (Nat.zero_le _)] at hz
 exact ⟨nb',z,rfl,by have:=h7.size;omega,h2.iff fun k=>⟨fun h=>absurd h (hd k),fun h=>absurd h (hdu k)⟩,hz,h4,bhop h7 h8⟩
set_option maxHeartbeats 8000000 in
set_option maxRecDepth 100000 in
theorem follow_any {B:Nat} {m:PM} {a:Au} {fl:List Nat} {la:Nat} (w:World) (hL:AuL w B m a fl la) {vs:List Value} {L:Nat→List Mv} (hrows:RowsM w B a.n (.slice (some ⟨a.mb,0,none⟩) a.n a.n) vs L) (hC:∀ C∈m.sets,Cl C) (hfl:fl.length≤41) (hM:MvL m L) (v:Value) (u:List Nat) (hu:WrdR w v u) (hlen:u.length≤40) :
  Calls Tryz.prog 24 #[.agg #[.int .i64 a.k,.int .u64 (a.s0:Nat),.int .u64 (a.s1:Nat),.int .u64 (a.s2:Nat),.int .u64 (a.s3:Nat),.slice a.ta a.tn a.tc,.int .i64 a.lo,.int .i64 a.hi,.slice a.sA a.n a.sC,.slice a.cA a.cN a.cC,.slice (some ⟨a.ga,0,none⟩) a.n a.aC,.slice a.fA a.fN a.fC,.slice (some ⟨a.mb,0,none⟩) a.n a.n,.slice (some ⟨a.lb,0,none⟩) a.n a.n,.bool a.em],v] w (FlO w m fl L u):=by
 obtain ⟨A,c,rfl,hu⟩:=hu
 obtain ⟨w2,hw2,hb2,ha2⟩:=au_box w a
 have HF:=Lib.hid (fun (W:World) (h:Below w2.heap.size w2 W)=>show AuB W w.heap.size a∧AuL W B m a fl la∧RowsM W B a.n (.slice (some ⟨a.mb,0,none⟩) a.n a.n) vs L∧∀ (i x:Nat),u[i]? = some x→x<256∧∃ g o,A=some ⟨g,o,none⟩∧g<W.heap.size∧W.cell? ⟨g,o+i,none⟩=some (.int .u8 (x:Int)) from ⟨ha2.below h,hL.below (bhop hb2 h),hrows.below (bhop hb2 h),fun i x hx=>by
  obtain ⟨h3,g,o,h4,h5,h6⟩:=hu i x hx
  exact ⟨h3,g,o,h4,Nat.lt_of_lt_of_le h5 (bhop hb2 h).size,((bhop hb2 h).cell (p:=⟨g,_,none⟩) h5).trans h6⟩⟩)
 have HB:=Lib.hid hb2
 have HP:=Lib.hid (And.intro hC (And.intro hM (And.intro hfl (And.intro hL.wf (And.intro hlen (show ∀ q∈fl,1≤q∧q<m.ars.length from fun q hq=>⟨(hL.fin q hq).1,by rw [hL.ars];exact (hL.fin q hq).2⟩))))))
 obtain ⟨un,hun⟩ : ∃ n,n=u.length:=⟨_,rfl⟩
 have HU:=Lib.hid hun
 rw [← hun]
 clear hb2 ha2 hL hC hM hrows hu hlen hfl hun
 go_enter Tryz.func24,Tryz.ntmps24
 go_upto_region 1 with fail
 clear hw2
 have hmm:=run_makeMapN w2
 go_upto_region 2 with fail
 obtain ⟨w4,hw4⟩ : ∃ w4,w2.alloc (.map #[] 0)=w4:=⟨_,rfl⟩
 have H4:=Lib.hid (show FlI w2 m fl L u 0 (.map (some w2.heap.size)) (.int .i64 ((0:Nat):Int)) w4 from
  ⟨w2.heap.size,0,rfl,rfl,Nat.le_refl _,by rw [← hw4];exact ⟨_,World.ownsMap_made (H:=Unit) w2 Tryz.prog 55 unitElem,cfsAre_nil⟩,mst_nil,by omega,hw4▸(Below.refl _ w2).alloc (Nat.le_refl _) _⟩)
 rw [hw4]
 clear hw4 hmm
 go_wp2_with fail
 go_loopw [6,7,13] (fun nv mv z wr=>∃ i:Nat,z=.int .i64 i∧i≤u.length∧FlI w2 m fl L u i nv mv wr) (fun _ _ z _=>match z with | .int _ z=>u.length - z.toNat | _=>0)
 case atStart=>exact ⟨0,rfl,Nat.zero_le _,H4.out⟩
 case round =>
  obtain ⟨i,rfl,hi,nb,z,rfl,rfl,hnb,hS,hz,hzl,hbr⟩:=hrel
  have HI:=Lib.hid (And.intro hi (And.intro hnb (And.intro hS (And.intro hz (And.intro hzl hbr)))))
  have s1:(0:Int)≤(i:Int):=by omega
  have s3:((i:Int)).toNat=i:=by omega
  have hib:i≤40:=by have:=HP.out.2.2.2.2.1;omega
  have wk:IntKind.i64.wrap ((i:Int)+1)=(i:Int)+1:=by rw [IntKind.wrap_i64];omega
  by_cases g:i<un
  ·have s2:(i:Int)<(un:Int):=by omega
   obtain ⟨b,hb⟩ : ∃ b,u[i]? = some b:=⟨_,List.getElem?_eq_getElem (by have:=HU.out;omega)⟩
   obtain ⟨hb256,gg,o,rfl,_,y0⟩:=(HF.out wr hbr).2.2.2 i b hb
   have HW:=Lib.hid (And.intro hb hb256)
   have y0':wr.cell? ⟨gg,o+i,none⟩=some (.int .u8 (b:Int)):=y0
   clear hi hnb hS hz hzl hbr hb y0
   go_upto_region 5 with fail
   clear y0'
   by_cases gi:i=0
   ·have gi0:((i:Nat):Int)=0:=by omega
    obtain ⟨z0,z1,z2,z3,z4,z5,z6,z7,z8,z9,z10,z11,z12,z13,z14⟩:=(HF.out wr HI.out.2.2.2.2.2).1.all
    go_upto_region 6 with fail
    go_wp2_with fail
    go_at_call 45
    refine (begin_any wr (HF.out wr HI.out.2.2.2.2.2).2.1 HP.out.1 HP.out.2.2.1 b hb256).mono ?_
    rintro e w5 ⟨⟨A5,c5,rfl,hown5⟩,hb5⟩
    have hR5:CfsR w5 A5 ((bgL m b fl).map kcB):=own_cfs (c:=c5) (by rw [List.length_map,← cfc_kcc];exact hown5)
    have hbl:=bg_len m b fl
    have hS5:=HI.out.2.2.1.at (hb5.block nb HI.out.2.2.1.lt)
    rw [if_pos gi] at hS5
    have hPut:=nput_any w5 nb 0 _ A5 c5 ((bgL m b fl).map kcB) hS5 hR5 (by rw [List.length_map];have:=HP.out.2.2.1;omega) (fun k hk=>ok_63 HP.out.2.2.2.1 (by rw [(HF.out wr HI.out.2.2.2.2.2).2.1.ars];exact (HF.out wr HI.out.2.2.2.2.2).2.1.most) (beg_ok HP.out.2.2.2.1 HP.out.2.2.2.2.2 hk))
    rw [List.length_map] at hPut
    have H5:=Lib.hid (And.intro hPut hb5)
    clear hown5 hR5 hS5 hPut hb5 hbl z0 z1 z2 z3 z4 z5 z6 z7 z8 z9 z10 z11 z12 z13 z14
    go_wp2_with fail
    go_at_call 44
    refine H5.out.1.mono ?_
    rintro e w6 ⟨rfl,hT6,hc6⟩
    obtain ⟨nb',hnb'⟩ : ∃ n,n=nb:=⟨_,rfl⟩
    obtain ⟨W,hW⟩ : ∃ W,W=w6:=⟨_,rfl⟩
    have HT:=Lib.hid (show w2.heap.size≤nb'∧CfgS W nb' 115856201 (bhS m fl L (u.take (i+1)))∧Below w2.heap.size w2 W from by
     rw [hnb',hW]
     refine ⟨HI.out.2.1,?_,?_⟩
     ·have e1:u.take (i+1)=[b]:=by
       rw [List.take_add_one,HW.out.1,gi];rfl
      rw [e1,bhS_one]
      refine (hT6.mono (by have:=bg_len m b fl;have:=HP.out.2.2.1;omega)).iff fun k=>⟨fun h=>h.resolve_left fun h=>?_,.inr⟩
      rw [gi] at h;exact h
     ·have h5:=bhop HI.out.2.2.2.2.2 H5.out.2
      refine h5.trans (hc6.below h5.size fun q hq e=>?_)
      have e:q=nb:=e
      have:=HI.out.2.1
      omega)
    rw [← hnb',← hW]
    clear hT6 hc6 hnb' hW
    go_upto_region 8 with fail
    obtain ⟨D,hD,hDS⟩:=HT.out.2.1
    have hln:=fun ty=>hD.len Tryz.underlying67 ty
    have HCd:=Lib.hid (show Cd (bhS m fl L (u.take (i+1))) (Maps.size D)∧Maps.size D≤115856201 from ⟨keys_list hD hDS,owns_size hD⟩)
    obtain ⟨sz,hsz⟩ : ∃ n,n=Maps.size D:=⟨_,rfl⟩
    have HSZ:=Lib.hid hsz
    rw [← hsz] at hln
    clear hD hDS hsz
    by_cases g0:sz=0
    ·have g1:((sz:Nat):Int)=0:=by omega
     have HE:=Lib.hid (show FlO w m fl L u (.returned (.tuple #[.map (some nb'),.int .i64 (z:Nat)])) W from fl_dead HT.out.1 HT.out.2.1 HI.out.2.2.2.1 HI.out.2.2.2.2.1 HW.out.1 (by rw [← HSZ.out] at HCd;rw [g0] at HCd;exact HCd.out.1) HB.out HT.out.2.2 HP.out.2.2.2.1 (by rw [(HF.out W HT.out.2.2).2.1.ars];exact (HF.out W HT.out.2.2).2.1.most) HP.out.2.2.2.2.2 HP.out.2.1)
     go_wp2_with fail
     go_ret2
     exact HE.out
    ·have g1:¬ ((sz:Nat):Int)=0:=by omega
     have HN:=Lib.hid (show FlI w2 m fl L u (i+1) (.map (some nb')) (.int .i64 (max (z:Int) (sz:Int))) W from fl_next HT.out.1 HT.out.2.1 HI.out.2.2.2.1 HI.out.2.2.2.2.1 HW.out.1 (by rw [HSZ.out];exact HCd.out) HT.out.2.2)
     have HG:=Lib.hid g
     go_wp2_with fail
     go_roundw
     case rel=>exact ⟨i+1,by rw [gi];rfl,by have:=HU.out;have:=HG.out;omega,HN.out⟩
     case measure=>have:=HU.out;have:=HG.out;simp;omega
   ·have gi0:¬ ((i:Nat):Int)=0:=by omega
    obtain ⟨z0,z1,z2,z3,z4,z5,z6,z7,z8,z9,z10,z11,z12,z13,z14⟩:=(HF.out wr HI.out.2.2.2.2.2).1.all
    have hS4:=HI.out.2.2.1
    rw [if_neg gi] at hS4
    have hNx:=nnext_any wr (HF.out wr HI.out.2.2.2.2.2).2.1 (HF.out wr HI.out.2.2.2.2.2).2.2.1 HP.out.1 HP.out.2.1 nb _ _ hS4 (i:Int) (by omega) (by have:=HU.out;have:=HP.out.2.2.2.2.1;omega) (fun k hk=>by
     have:=bhS_ok HP.out.2.2.2.1 HP.out.2.2.2.2.2 HP.out.2.1 _ k hk
     rwa [List.length_take,Nat.min_eq_left HI.out.1] at this) b hb256
    have HNx:=Lib.hid hNx
    clear hS4 hNx
    go_wp2_with fail
    go_at_call 46
    refine HNx.out.mono ?_
    rintro e W ⟨nb',rfl,hnb',hT6,hb6⟩
    have HT:=Lib.hid (show w2.heap.size≤nb'∧CfgS W nb' 115856201 (bhS m fl L (u.take (i+1)))∧Below w2.heap.size w2 W from by
     refine ⟨by have:=HI.out.2.2.2.2.2.size;omega,?_,bhop HI.out.2.2.2.2.2 hb6⟩
     have e1:u.take (i+1)=u.take i ++ [b]:=by rw [List.take_add_one,HW.out.1];rfl
     rw [e1,bhS_snoc (fun e=>gi (by have:=congrArg List.length e;rw [List.length_take,Nat.min_eq_left HI.out.1] at this;simpa using this))]
     exact hT6)
    clear hnb' hT6 hb6 z0 z1 z2 z3 z4 z5 z6 z7 z8 z9 z10 z11 z12 z13 z14
    go_upto_region 8 with fail
    obtain ⟨D,hD,hDS⟩:=HT.out.2.1
    have hln:=fun ty=>hD.len Tryz.underlying67 ty
    have HCd:=Lib.hid (show Cd (bhS m fl L (u.take (i+1))) (Maps.size D)∧Maps.size D≤115856201 from ⟨keys_list hD hDS,owns_size hD⟩)
    obtain ⟨sz,hsz⟩ : ∃ n,n=Maps.size D:=⟨_,rfl⟩
    have HSZ:=Lib.hid hsz
    rw [← hsz] at hln
    clear hD hDS hsz
    by_cases g0:sz=0
    ·have g1:((sz:Nat):Int)=0:=by omega
     have HE:=Lib.hid (show FlO w m fl L u (.returned (.tuple #[.map (some nb'),.int .i64 (z:Nat)])) W from fl_dead HT.out.1 HT.out.2.1 HI.out.2.2.2.1 HI.out.2.2.2.2.1 HW.out.1 (by rw [← HSZ.out] at HCd;rw [g0] at HCd;exact HCd.out.1) HB.out HT.out.2.2 HP.out.2.2.2.1 (by rw [(HF.out W HT.out.2.2).2.1.ars];exact (HF.out W HT.out.2.2).2.1.most) HP.out.2.2.2.2.2 HP.out.2.1)
     go_wp2_with fail
     go_ret2
     exact HE.out
    ·have g1:¬ ((sz:Nat):Int)=0:=by omega
     have HN:=Lib.hid (show FlI w2 m fl L u (i+1) (.map (some nb')) (.int .i64 (max (z:Int) (sz:Int))) W from fl_next HT.out.1 HT.out.2.1 HI.out.2.2.2.1 HI.out.2.2.2.2.1 HW.out.1 (by rw [HSZ.out];exact HCd.out) HT.out.2.2)
     have HG:=Lib.hid g
     go_wp2_with fail
     go_roundw
     case rel=>exact ⟨i+1,by push_cast;rfl,by have:=HU.out;have:=HG.out;omega,HN.out⟩
     case measure=>have:=HU.out;have:=HG.out;simp;omega
  ·have s2:¬ (i:Int)<(un:Int):=by omega
   have hil:i=u.length:=by have:=HU.out;omega
   have HE:=Lib.hid (show FlO w m fl L u (.returned (.tuple #[.map (some nb),.int .i64 (z:Nat)])) wr from by
    refine ⟨nb,z,rfl,by have:=HB.out.size;omega,?_,?_,hzl,bhop HB.out hbr⟩
    ·rw [hil,List.take_length] at hS
     exact hS.mono (by split <;> omega)
    ·rw [hil,List.take_length] at hz
     exact hz)
   clear hil hi hnb hS hz hzl hbr
   go_wp2_with fail
   go_ret2
   exact HE.out
end Go.Proofs.YtnmjicfpmkoldaaGreatDoor

/- naive's Match: a contract.
   Conditions: the automaton and the word lie in memory. -/
namespace Go.Proofs.YtnmjicfpmkoldaaGreatDoor
open Go.RowKit Go.Maps Go.Shelf
def MatS (m:PM) (fl:List Nat) (la:Nat) (L:Nat→List Mv) (em:Bool) (u:List Nat) (v:Bool):Prop:=(u=[]→v=em)∧(u≠[]→(v=true↔∃ k,Kc63 k∧bhS m fl L u k∧accB m la k.p k.x=true))
def MtI (w:World) (sb r:Nat) (m:PM) (la:Nat) (S:Kc→Prop) (D:DataW Unit) (cnt:Nat) (wr:World):Prop :=
 ∃ left,wr.ranges Tryz.prog 55 unitElem sb r 115856201 D left cnt∧(∀ k l,Kc63 k→S k→keyOf Tryz.prog 55 (encC k)=some l→left l=false→accB m la k.p k.x=false)∧Below w.heap.size w wr
theorem mt_step {m:PM} {la:Nat} {S:Kc→Prop} {left:Lit→Bool} {k:Kc} {kl:Lit} (hkl:keyOf Tryz.prog 55 (encC k)=some kl) (ha:accB m la k.p k.x=false) (h:∀ k l,Kc63 k→S k→keyOf Tryz.prog 55 (encC k)=some l→left l=false→accB m la k.p k.x=false) :
  ∀ k l,Kc63 k→S k→keyOf Tryz.prog 55 (encC k)=some l→(left l && !l.sameKey kl)=false→accB m la k.p k.x=false:=fun k0 l h1 h2 h3 h4=>by
 cases hl:left l with
 | false=>exact h k0 l h1 h2 h3 hl
 | true =>
  rw [hl] at h4
  have h5:l.sameKey kl=true:=by simpa using h4
  obtain rfl:=WideAt.sameKey_eq h5
  rw [key_kc_inj h3 hkl]
  exact ha
set_option maxHeartbeats 8000000 in
set_option maxRecDepth 100000 in
theorem nmatch_any {B:Nat} {m:PM} {a:Au} {fl:List Nat} {la:Nat} (w:World) (hL:AuL w B m a fl la) {vs:List Value} {L:Nat→List Mv} (hrows:RowsM w B a.n (.slice (some ⟨a.mb,0,none⟩) a.n a.n) vs L) (hC:∀ C∈m.sets,Cl C) (hfl:fl.length≤41) (hM:MvL m L) (v:Value) (u:List Nat) (hu:WrdR w v u) (hlen:u.length≤40) :
  Calls Tryz.prog 12 #[.agg #[.int .i64 a.k,.int .u64 (a.s0:Nat),.int .u64 (a.s1:Nat),.int .u64 (a.s2:Nat),.int .u64 (a.s3:Nat),.slice a.ta a.tn a.tc,.int .i64 a.lo,.int .i64 a.hi,.slice a.sA a.n a.sC,.slice a.cA a.cN a.cC,.slice (some ⟨a.ga,0,none⟩) a.n a.aC,.slice a.fA a.fN a.fC,.slice (some ⟨a.mb,0,none⟩) a.n a.n,.slice (some ⟨a.lb,0,none⟩) a.n a.n,.bool a.em],v] w fun e w'=>∃ bv,e=.returned (.bool bv)∧MatS m fl la L a.em u bv∧Below w.heap.size w w':=by
 obtain ⟨w2,hw2,hb2,ha2⟩:=au_box w a
 have HFl:=Lib.hid (follow_any w2 (hL.below hb2) (hrows.below hb2) hC hfl hM v u (hu.below hb2) hlen)
 have HF:=Lib.hid (fun (W:World) (h:Below w2.heap.size w2 W)=>show AuB W w.heap.size a∧AuL W B m a fl la from ⟨ha2.below h,hL.below (bhop hb2 h)⟩)
 obtain ⟨z0,z1,z2,z3,z4,z5,z6,z7,z8,z9,z10,z11,z12,z13,z14⟩:=ha2.all
 have HB:=Lib.hid hb2
 obtain ⟨A,c,rfl,_⟩:=hu
 obtain ⟨un,hun⟩ : ∃ n,n=u.length:=⟨_,rfl⟩
 have HU:=Lib.hid hun
 rw [← hun] at HFl ⊢
 clear hL hrows hC hfl hM hlen hb2 ha2 hun
 go_enter Tryz.func12,Tryz.ntmps12
 by_cases h0:un=0
 ·have h1:((un:Nat):Int)=0:=by omega
  have HE:=Lib.hid (show MatS m fl la L a.em u a.em from ⟨fun _=>rfl,fun h=>absurd (List.length_eq_zero_iff.1 (by have:=HU.out;omega)) h⟩)
  go_wp2_with fail
  go_ret
  exact ⟨_,rfl,HE.out,HB.out⟩
 ·have h1:¬ ((un:Nat):Int)=0:=by omega
  go_upto_region 3 with fail
  clear hw2
  go_wp2_with fail
  go_at_call 24
  refine HFl.out.mono ?_
  rintro e w3 ⟨nb,z,rfl,hnb,hS,hz,hzl,hb3⟩
  obtain ⟨D,hD,hDS⟩:=hS
  have HP:=Lib.hid (And.intro hDS (And.intro hnb (And.intro hb3 hD)))
  clear hDS hz hzl hnb hb3 z0 z1 z2 z3 z4 z5 z6 z7 z8 z9 z10 z11 z12 z13 z14
  go_wp2_with ((at_range;refine wpList_range_own _ rfl _ 67 rfl 55 74 keyedC Tryz.underlying67 unitElem nb 115856201 D rfl hD ?_;intro w5 hrg5 hg5 hs5))
  go_frame
  obtain ⟨r,hr⟩ : ∃ r,r=w3.heap.size:=⟨_,rfl⟩
  rw [← hr] at hrg5 ⊢
  have hr2:w2.heap.size≤r:=by rw [hr];exact HP.out.2.2.1.size
  have HST:=Lib.hid (show MtI w2 nb r m la (bhS m fl L u) D (Maps.size D) w5 from ⟨_,hrg5,fun k l h1 h2 h3 h4=>absurd ((HP.out.1.mem k l h1 h3).2 h2) (by rw [h4];exact Bool.false_ne_true),HP.out.2.2.1.trans ⟨hg5.os,hg5.tape,hg5.output,hg5.size,fun k hk=>hg5.block k (by have:=HP.out.2.2.1.size;omega) (by simp)⟩⟩)
  clear hrg5 hg5 hs5 hr hD
  go_loopw [7] (fun _ wr=>∃ cnt,MtI w2 nb r m la (bhS m fl L u) D cnt wr) (fun _ wr=>wr.rangeLeft nb r)
  case atStart=>exact ⟨_,HST.out⟩
  case round =>
   clear HST
   obtain ⟨cnt,left,hrg,hT,hBw⟩:=hrel
   have HR:=Lib.hid (And.intro hrg (And.intro hT hBw))
   clear hT hBw
   go_wp2_with ((at_next;refine wpList_next_ranges _ rfl _ rfl 55 keyedC unitElem (α:=Value) (β:=Unit) (fun x=>x) (fun _=>.agg #[]) (fun key kl _=>⟨key,rfl⟩) (fun v y h=>⟨(),(unitElem_inv h).1⟩) nb r 115856201 D left cnt rfl hrg ?_ ?_))
   ·intro _ hl0
    have HE:=Lib.hid (show MatS m fl la L a.em u false from ⟨fun h=>absurd (by rw [HU.out,h];rfl) h0,fun _=>⟨fun h=>absurd h Bool.false_ne_true,fun ⟨k,k1,k2,k3⟩=>absurd k3 (by
     obtain ⟨l,hl⟩:=key_kc k k1
     rw [HR.out.2.1 k l k1 k2 hl (hl0 l)]
     exact Bool.false_ne_true)⟩⟩)
    clear hrg hl0
    go_wp2_with fail
    go_ret
    exact ⟨false,rfl,HE.out,bhop HB.out HR.out.2.2⟩
   ·intro x kl y1 y2 w4 cnt1 hkey hlk hun hat hrg3 hlt3 hg3 hs3 hen
    have hhas:=rangesC_has hrg hlk
    obtain ⟨k,hk63,hkk⟩:=HP.out.1.key kl hhas
    obtain rfl:x=encC k:=keyedC.inj hkey hkk
    have hkS:=(HP.out.1.mem k kl hk63 hkk).1 hhas
    simp only [encC] at hen ⊢
    have hb3:Below w2.heap.size w2 w4:=HR.out.2.2.trans ((chg_of_grown hg3).below HR.out.2.2.size fun q hq e=>by
     have e:q=r:=e
     omega)
    have hrl:=hrg.left_eq
    have HRL:=Lib.hid hrl
    have HK:=Lib.hid (And.intro hrg3 (And.intro hlt3 (And.intro hb3 (And.intro hk63 (And.intro hkk hkS)))))
    clear hkey hlk hun hat hrg3 hlt3 hg3 hs3 hkS hhas hb3 hk63 hkk hrg hrl
    go_upto_region 7 with fail
    obtain ⟨w5',hw5',hb5',hc5'⟩ : ∃ w5,w4.alloc (.cells #[.int .i64 k.p,.int .i64 k.a,.int .i64 k.b,.int .i64 k.c,.int .i64 k.d] 55)=w5∧Below w4.heap.size w4 w5∧CfB w5 w4.heap.size k.p k.x:=⟨_,rfl,(Below.refl _ w4).alloc (Nat.le_refl _) _,heap_alloc_new w4 _⟩
    rw [hw5']
    have hb25:=bhop HK.out.2.2.1 hb5'
    obtain ⟨z0,z1,z2,z3,z4,z5,z6,z7,z8,z9,z10,z11,z12,z13,z14⟩:=(HF.out w5' hb25).1.all
    obtain ⟨d0,d1,d2,d3,d4⟩ : w5'.cell? ⟨w4.heap.size,0,none⟩=some (.int .i64 k.p)∧w5'.cell? ⟨w4.heap.size,1,none⟩=some (.int .i64 k.a)∧w5'.cell? ⟨w4.heap.size,2,none⟩=some (.int .i64 k.b)∧w5'.cell? ⟨w4.heap.size,3,none⟩=some (.int .i64 k.c)∧w5'.cell? ⟨w4.heap.size,4,none⟩=some (.int .i64 k.d):=CfB.five hc5'
    have HAc:=Lib.hid (accepts_any w5' (HF.out w5' hb25).2 k.p k.x)
    have HB5:=Lib.hid (And.intro hb5' hb25)
    clear hw5' hb5' hc5' hb25
    go_wp2_with fail
    go_at_call 28
    refine HAc.out.mono ?_
    rintro e w6 ⟨rfl,hb6⟩
    have HB6:=Lib.hid (bhop HB5.out.2 hb6)
    have hrg6:=ranges_off HK.out.1 (Chg.of_below (R:=fun _=>False) (bhop HB5.out.1 hb6)) id id
    have HR6:=Lib.hid hrg6
    clear hb6 hrg6 d0 d1 d2 d3 d4 z0 z1 z2 z3 z4 z5 z6 z7 z8 z9 z10 z11 z12 z13 z14
    cases hacc:accB m la k.p k.x with
    | true =>
     have HE:=Lib.hid (show MatS m fl la L a.em u true from ⟨fun h=>absurd (by rw [HU.out,h];rfl) h0,fun _=>⟨fun _=>⟨k,HK.out.2.2.2.1,HK.out.2.2.2.2.2,hacc⟩,fun _=>rfl⟩⟩)
     clear hacc
     go_wp2_with fail
     go_ret
     exact ⟨true,rfl,HE.out,bhop HB.out HB6.out⟩
    | false =>
     have HN:=Lib.hid (show MtI w2 nb r m la (bhS m fl L u) D cnt1 w6 from ⟨_,HR6.out,mt_step HK.out.2.2.2.2.1 hacc HR.out.2.1,HB6.out⟩)
     clear hacc
     go_wp2_with fail
     go_roundw
     case rel=>exact ⟨cnt1,HN.out⟩
     case measure=>rw [HR6.out.left_eq,HRL.out];exact HK.out.2.1
end Go.Proofs.YtnmjicfpmkoldaaGreatDoor

/- What the law asks the program for of an automaton, and where the moves lead: plain facts of a formed tree's automaton.
   Conditions: the automaton is a formed tree's. -/
namespace Go.Proofs.YtnmjicfpmkoldaaGreatDoor
open Go.RowKit
theorem AuG.mvl {B:Nat} {w:World} {u:T} {a:Au} {m:PM} {L:Nat→List Mv} (h:AuG B w u a m L):MvL m L:=by
 have hn:m.ars.length=a.n:=h.au.ars
 refine ⟨fun p hp=>?_,fun p lf hp j hj=>?_⟩
 ·obtain ⟨h1,h2⟩:=h.moves p (by omega)
  have h3:=mv_few (n:=41) h1 fun j hj=>by
   obtain ⟨e1,_,_,_,e5,_⟩:=mv_kept h.map ((h2 j).1 hj)
   have:=h.au.sets
   have:=h.au.most
   exact ⟨e1,by omega⟩
  omega
 ·have hpl:=(List.getElem?_eq_some_iff.1 hp).1
  obtain ⟨h1,h2⟩:=h.moves p (by omega)
  obtain ⟨_,_,_,f4,f5,cc,la',lt,k1,k2,k3,k4,k5⟩:=mv_kept h.map ((h2 j).1 hj)
  obtain rfl:la'=lf:=Option.some.inj (k2.symm.trans hp)
  have hc:=k3.length_le
  refine ⟨f4,by have:=h.au.sets;omega,by omega,(h.au.wf.ars _ (List.mem_of_getElem? hp)).1,fun x lt' y hx hlt hy=>?_⟩
  obtain rfl:lt=lt':=Option.some.inj (k4.symm.trans hlt)
  exact made_right h.au.wf (List.mem_of_getElem? hp) (List.mem_of_getElem? hlt) ⟨k3,k5⟩ k1 hx hy
end Go.Proofs.YtnmjicfpmkoldaaGreatDoor

/- How a word, an argument of the statements of stage 8, is opened: a list of bytes in memory.
   Conditions: none but the reading itself. -/
namespace Go.Proofs.YtnmjicfpmkoldaaGreatDoor
open Go.ChangeShapes Go.WideShapes Go.ChangeAt Go.RowKit Go.Deep
theorem cellsU8n:Tryz.prog.cellsOf 5=1:=by kernel_rfl
theorem add_midn (b o i:Nat):(⟨b,o,none⟩ : Addr).add i=⟨b,o+i,none⟩:=by
 unfold Addr.add
 split
 ·rename_i h;subst h;rfl
 ·rfl
theorem trod_bytes8 {H:Type} {enc:TypeId×Value→H} {w:World} {base:Nat} {spare:Nat→Bool} {held:Bool} {fuel:Nat} {cs:List Value} {x:DataW H×List MemPlace} (h:DataW.trod enc Tryz.prog w base spare held fuel 28 cs=some x) :
  ∃ v l,cs=[v]∧WrdR w v l∧l.length≤maxLen:=by
 rcases open_slice1 Tryz.underlying28 cellsU8n h with ⟨e,_⟩ | ⟨a,len,cap,m,n,V,D,Pl,rfl,_,hlc,hcm,hm,_,hV⟩
 ·exact ⟨_,[],e,⟨none,0,rfl,fun i x hi=>by simp at hi⟩,by simp⟩
 ·have hlm:len≤m:=by rw [hm];split <;> omega
  have hex:∀ i,i<len→∃ k:Nat,V i=.int .u8 (k:Int)∧k<256:=fun i hi=>by
   obtain ⟨h1,h2⟩:=hV i (by omega)
   obtain ⟨k,e,_,hb⟩:=DataW.trod_int Tryz.underlying5 h2
   simp at e
   have hk:=bounds_u8 hb
   exact ⟨k.toNat,by rw [e,Int.toNat_of_nonneg hk.1],by omega⟩
  obtain ⟨f,hf⟩:=choose_lt hex
  refine ⟨_,(List.range len).map f,rfl,⟨some a,cap,by simp,fun i x hi=>?_⟩,by simp;omega⟩
  have hil:=(List.getElem?_eq_some_iff.1 hi).1
  simp at hil
  rw [List.getElem?_map,List.getElem?_range hil] at hi
  obtain rfl:=Option.some.inj hi
  obtain ⟨h1,h2⟩:=hf i hil
  have hc:=(hV i (by omega)).1
  obtain ⟨b,off,spot⟩:=a
  have hspot:spot=none:=by
   have:=World.cell?_spot (hV 0 (by omega)).1
   unfold Addr.add at this
   rw [if_pos rfl] at this
   exact this
  subst hspot
  rw [add_midn,h1] at hc
  exact ⟨h2,b,off,rfl,World.block_lt_of_cell? _ _ hc,hc⟩
set_option maxRecDepth 100000 in
theorem open_bytes8 {H:Type} {enc:TypeId×Value→H} {w:World} {base:Nat} {spare:Nat→Bool} {held:Bool} {v:Value} {d:DataW H} {p:List MemPlace} {r:Reach} {b0:Nat} (hv:Value.okWide Tryz.prog w r b0 28 v) (h:DataW.Trod enc Tryz.prog w base spare held 28 v d p):∃ l,WrdR w v l∧l.length≤maxLen:=by
 obtain ⟨fuel,hf⟩:=h
 obtain ⟨v',l,e,h1,h2⟩:=trod_bytes8 hf
 obtain ⟨a0,l0,c0,rfl⟩:=okWide_slice Tryz.underlying28 hv
 obtain rfl:Value.slice a0 l0 c0=v':=by simpa [Value.cells] using e
 exact ⟨l,h1,h2⟩
end Go.Proofs.YtnmjicfpmkoldaaGreatDoor
