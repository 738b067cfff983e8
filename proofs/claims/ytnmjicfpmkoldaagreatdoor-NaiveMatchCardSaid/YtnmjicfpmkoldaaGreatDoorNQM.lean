/- The document's Behind, which the statements of stage 8 hold naive against: a contract.
   Conditions: the automaton and the word lie in memory, as for naive's follow. -/
import Derived.Test.YtnmjicfpmkoldaaGreatDoorN2
import Derived.Test.YtnmjicfpmkoldaaGreatDoorPY
import Derived.Test.YtnmjicfpmkoldaaGreatDoorPG
import Derived.Test.YtnmjicfpmkoldaaGreatDoorMBase
import Derived.Deep.AppendLies
import Derived.StillTailTactics
import Derived.Test.YtnmjicfpmkoldaaGreatDoorN5
import Derived.Test.YtnmjicfpmkoldaaGreatDoorNR
import Derived.Test.YtnmjicfpmkoldaaGreatDoorRows
import Derived.WalkKit
import Derived.KernelRfl

/- The document's Begin: a contract.
   Conditions: the automaton lies in memory, its classes are four words below 2^64. -/
namespace Go.Proofs.YtnmjicfpmkoldaaGreatDoor
open Go.RowKit Go.Shelf
set_option maxHeartbeats 8000000 in
set_option maxRecDepth 100000 in
theorem refBegin_any {B:Nat} {m:PM} {a:Au} {fl:List Nat} {la:Nat} (w:World) (hL:AuL w B m a fl la) (hC:∀ C∈m.sets,Cl C) (hfl:fl.length≤41) (b:Nat) (hb:b<256) :
  Calls Tryz.prog 29 #[.agg #[.int .i64 a.k,.int .u64 (a.s0:Nat),.int .u64 (a.s1:Nat),.int .u64 (a.s2:Nat),.int .u64 (a.s3:Nat),.slice a.ta a.tn a.tc,.int .i64 a.lo,.int .i64 a.hi,.slice a.sA a.n a.sC,.slice a.cA a.cN a.cC,.slice (some ⟨a.ga,0,none⟩) a.n a.aC,.slice a.fA a.fN a.fC,.slice (some ⟨a.mb,0,none⟩) a.n a.n,.slice (some ⟨a.lb,0,none⟩) a.n a.n,.bool a.em],.int .u8 b] w fun e w'=>(∃ A c,e=.returned (.slice A (bgL m b fl).length c)∧w'.ownsRow w.heap.size 55 5 (.slice A (bgL m b fl).length c) (bgL m b fl).length ((bgL m b fl).flatMap cfc))∧Below w.heap.size w w':=by
 obtain ⟨i0,hi,hz0,hz1,hz2⟩:=info_parts infoCf
 obtain ⟨w2,hw2,hb2,ha2⟩:=au_box w a
 have HF:=Lib.hid (fun (W:World) (h:Below w2.heap.size w2 W)=>show AuB W w.heap.size a∧AuL W B m a fl la from ⟨ha2.below h,hL.below (bhop hb2 h)⟩)
 have HB:=Lib.hid hb2
 have hfn:a.fN=fl.length:=own_num hL.first.own
 have HFN:=Lib.hid hfn
 have HW4:=Lib.hid (fun l (hl:l∈m.ars)=>(hL.wf.ars l hl).1)
 have HIN:=Lib.hid (fun (q:Nat) (hq:q∈fl)=>show 1≤q∧q<a.n∧∃ C l,m.sets[q]? = some C∧m.ars[q]? = some l∧m.sets.getD q zeros=C∧m.ars.getD q []=l∧Cl C from by
  obtain ⟨h1,h2⟩:=hL.fin q hq
  have h3:=List.getElem?_eq_getElem (l:=m.sets) (i:=q) (by rw [hL.sets];exact h2)
  have h4:=List.getElem?_eq_getElem (l:=m.ars) (i:=q) (by rw [hL.ars];exact h2)
  exact ⟨h1,h2,_,_,h3,h4,by rw [List.getD_eq_getElem?_getD,h3];rfl,by rw [List.getD_eq_getElem?_getD,h4];rfl,hC _ (List.mem_of_getElem? h3)⟩)
 clear hb2 ha2 hL hfn hC
 go_enter Tryz.func29,Tryz.ntmps29
 go_upto_region 1 with fail
 clear hw2
 go_wp2_with fail
 go_loopw [5,6] (fun lv z wr=>∃ n,BgI w2 m b fl n z lv wr) (fun lv z wr=>leastOf (fun n=>BgI w2 m b fl n z lv wr))
 case atStart=>exact ⟨_,0,rfl,rfl,Nat.zero_le _,World.ownsRow_nil _ _ _ _,Below.refl _ _⟩
 case round =>
  have hls:=(leastOf_spec hrel).1
  obtain ⟨i,rfl,hN,hif,hown,hbr⟩:=hls
  obtain ⟨A,cp,rfl⟩:=own_form hown
  have HN:=Lib.hid hN
  have HO:=Lib.hid hown
  have HR:=Lib.hid hbr
  clear hN hrel hown
  have s1:(0:Int)≤(i:Int):=by omega
  have s3:((i:Int)).toNat=i:=by omega
  have c11:=(HF.out wr hbr).1.cells.2.2.2.1
  by_cases g:i<a.fN
  ·have s2:(i:Int)<(a.fN:Int):=by omega
   have gi:i<fl.length:=by have:=HFN.out;omega
   obtain ⟨q,hq⟩ : ∃ q,fl[i]? = some q:=⟨_,List.getElem?_eq_getElem gi⟩
   obtain ⟨fA,fL⟩:=HF.out wr hbr
   obtain ⟨gf,cf,hv,hgf,hcf,_⟩:=intsR_at fL.first hq
   simp only [Value.slice.injEq] at hv
   obtain ⟨hfa,hfm,hfc⟩:=hv
   clear hfm
   obtain ⟨h1,h2,C,l,k1,k2,k3,k4,k5⟩:=HIN.out q (List.mem_of_getElem? hq)
   have hsz:=fL.lists.sets
   rw [own_num hsz] at hsz
   obtain ⟨gs,hgs,hgl,e0,e1,e2,e3⟩:=cls_at hsz k1
   have hsn:=own_num fL.lists.sets
   have c8:=fA.cells.1
   rw [hgs] at c8
   have v1:(0:Int)≤(q:Int):=by omega
   have v2:(q:Int)<(a.n:Int):=by omega
   have v3:((q:Int)).toNat=q:=by omega
   have wb:IntKind.i64.wrap (b:Int)=(b:Int):=by rw [IntKind.wrap_i64];omega
   have hst:=bg_snoc m b (fl.take i) q
   rw [k3,k4,show fl.take i ++ [q]=fl.take (i+1) by rw [List.take_add_one,hq];rfl] at hst
   have HST:=Lib.hid hst
   have HK:=Lib.hid (And.intro k2 (And.intro k5 (HW4.out l (List.mem_of_getElem? k2))))
   have HLT:=Lib.hid (show fl.length - (i+1)<fl.length - i by omega)
   have HI1:=Lib.hid gi
   have hbl:=bg_len m b (fl.take i)
   have htl:(fl.take i).length≤41:=by rw [List.length_take];omega
   have hi41:i≤41:=by omega
   obtain ⟨k,hk⟩ : ∃ k,k=(bgL m b (fl.take i)).length:=⟨_,rfl⟩
   have HKL:=Lib.hid hk
   have hk41:k≤41:=by omega
   have HO2:=Lib.hid (show wr.ownsRow w2.heap.size 55 5 (.slice A k cp) k ((bgL m b (fl.take i)).flatMap cfc) from by have:=HO.out;rw [← hk] at this;exact this)
   have HN2:=Lib.hid (show (leastOf fun n=>BgI w2 m b fl n (.int .i64 i) (.slice A k cp) wr)=fl.length - i by have:=HN.out;rw [← hk] at this;exact this)
   have HG:=Lib.hid (fun (W:World) (h:Below wr.heap.size wr W)=>show W.cell? ⟨w.heap.size,11,none⟩=some (.slice (some ⟨gf,0,none⟩) a.fN cf)∧W.cell? ⟨gf,i,none⟩=some (.int .i64 q) from
    ⟨(h.cell (p:=⟨w.heap.size,11,none⟩) fA.lt).trans (by rw [c11,hfa,hfc]),(h.cell (p:=⟨gf,i,none⟩) hgf).trans hcf⟩)
   rw [hfa,hfc] at c11
   rw [← hk,hfa]
   clear fA fL hsz hbr hst hfa hfc k1 k2 k3 k4 k5 hk htl hbl h1 h2 hif hq hsn hgs hgl hgf gi hfl
   go_wp2_with fail
   go_still_tail 12,(by kernel_rfl)
   change wpList _ _ _ _ _ wr.drew
   go_wp2_with fail
   go_at_call 33
   refine (rhas_any C b _ HK.out.2.1 hb).mono ?_
   rintro e w3 ⟨rfl,hb3⟩
   have HB3:=Lib.hid (show Below wr.heap.size wr w3 from bhop (Below.refl _ _).drew hb3)
   clear hb3 e0 e1 e2 e3 c8 c11 hcf
   obtain ⟨c11,hcf⟩:=HG.out w3 HB3.out
   cases hh:hasB C b with
   | true =>
    have HT:=Lib.hid (show bgL m b (fl.take (i+1))=bgL m b (fl.take i) ++ [⟨q,entX l (fun _=>0) 0⟩] by rw [HST.out,hh];rfl)
    clear hh
    go_upto_region 7 with fail
    obtain ⟨w4,hw4,hb4,hc4⟩ : ∃ w4,w3.alloc (.cells #[.int .i64 (q:Int),.int .i64 0,.int .i64 0,.int .i64 0,.int .i64 0] 55)=w4∧Below w3.heap.size w3 w4∧CfB w4 w3.heap.size q (fun j=>if 0≤j∧j<0 then 1 else (fun _=>0) j):=⟨_,rfl,(Below.refl _ w3).alloc (Nat.le_refl _) _,heap_alloc_new w3 _⟩
    rw [hw4]
    obtain ⟨ob,hob⟩ : ∃ ob,ob=w3.heap.size:=⟨_,rfl⟩
    have HOB:=Lib.hid hob
    rw [← hob]
    rw [← hob] at hc4
    obtain ⟨lm,hlm⟩ : ∃ lm,lm=l.length:=⟨_,rfl⟩
    have HLM:=Lib.hid (And.intro hlm (show lm≤4 by rw [hlm];exact HK.out.2.2))
    have H4:=Lib.hid (And.intro hb4 hc4)
    clear hw4 hob hb4 hc4 hlm c11 hcf
    go_wp2_with fail
    go_loopw [8] (fun z wr=>∃ j:Nat,z=.int .i64 j∧j≤l.length∧CfB wr ob q (fun t=>if 0≤t∧t<j then 1 else (fun _=>0) t)∧Below w3.heap.size w3 wr) (fun z _=>match z with | .int _ z=>l.length - z.toNat | _=>0)
    case atStart=>exact ⟨0,rfl,Nat.zero_le _,H4.out.2,H4.out.1⟩
    case round =>
     obtain ⟨j,rfl,hj,hcf,hbq⟩:=hrel
     have HQ:=Lib.hid (And.intro hcf hbq)
     obtain ⟨fA,fL⟩:=HF.out wr (bhop HR.out (bhop HB3.out hbq))
     obtain ⟨rA,rc,r1,_⟩:=fL.row HK.out.1
     have c10:=fA.cells.2.2.1
     have d0:=hcf.cell.1
     rw [← HLM.out.1] at r1
     have t1:(0:Int)≤(j:Int):=by omega
     have t3:((j:Int)).toNat=j:=by omega
     have wk:IntKind.i64.wrap ((j:Int)+1)=(j:Int)+1:=by have:=HLM.out;rw [IntKind.wrap_i64];omega
     clear fA fL
     by_cases gj:j<lm
     ·have t2:(j:Int)<(lm:Int):=by omega
      have t4:(j:Int)<4:=by have:=HLM.out.2;omega
      have e1:=hcf.cell.2.1 j (by omega)
      have e2:=hcf.cell.2.2 (1+j)
      have e3:=hcf.lt
      have HP2:=Lib.hid (show CfB (wr.setCell ⟨ob,1+j,none⟩ (.int .i64 1)) ob q (fun t=>if 0≤t∧t<j+1 then 1 else (fun _=>0) t)∧Below w3.heap.size w3 (wr.setCell ⟨ob,1+j,none⟩ (.int .i64 1))∧j+1≤l.length from by
       refine ⟨?_,hbq.setCell (by rw [HOB.out];exact Nat.le_refl _) _,by have:=HLM.out.1;omega⟩
       have:=hcf.put (i:=j) (by omega) 1
       rw [ent_put (l:=l) (Nat.zero_le j) (by have:=HLM.out.1;omega)] at this
       exact this)
      clear hcf hbq hj
      go_wp2_with fail
      go_roundw
      case rel=>exact ⟨j+1,by push_cast;rfl,HP2.out.2.2,HP2.out.1,HP2.out.2.1⟩
      case measure=>have:=HP2.out.2.2;simp;omega
     ·have t2:¬ (j:Int)<(lm:Int):=by omega
      have hjl:j=l.length:=by have:=HLM.out.1;omega
      have HC5:=Lib.hid (show CfB wr ob q (entX l (fun _=>0) 0) from by rw [hjl] at hcf;exact hcf)
      obtain ⟨q0,q1,q2,q3,q4⟩:=HC5.out.five
      have HB4:=Lib.hid (bhop HB3.out hbq)
      clear hcf hbq hj hjl
      go_upto_region 11 with fail
      clear c10 d0 r1
      go_wp2_with ((at_builtin;refine wpList_append_lies _ (by rfl) _ _ 42 (by rfl) w2.heap.size 55 i0 _ 5 40 Tryz.underlying42 hi hz0 hz1 hz2 rfl (by decide) (.slice A k cp) k ((bgL m b (fl.take i)).flatMap cfc) (by rfl) ((own_chg HO2.out (Chg.of_below (R:=fun _=>False) HB4.out) fun _ _=>id).alloc _) ⟨wr.heap.size,0,none⟩ 1 1 [.int .i64 q,.int .i64 ((entX l (fun _=>0) 0) 0),.int .i64 ((entX l (fun _=>0) 0) 1),.int .i64 ((entX l (fun _=>0) 0) 2),.int .i64 ((entX l (fun _=>0) 0) 3)] (by rfl) ?c0 ?c1 ?c2 (by decide) ?c3 ?c4 ?c5 _ rfl ?_))
      case c2=>simp [Value.oneCell']
      case c3=>unfold maxLen;omega
      case c4=>omega
      case c5=>have:=(bhop HR.out HB4.out).size;simp;omega
      intro g5 cap5 w5 hown5 hgrow5 hat5 hlt5
      have HP:=Lib.hid (show BgI w2 m b fl (fl.length - (i+1)) (.int .i64 ((i:Int)+1)) (.slice (some ⟨g5,0,none⟩) (k+1) cap5) w5 from
       ⟨i+1,by push_cast;rfl,rfl,HI1.out,by
        rw [HT.out,List.length_append,List.flatMap_append,← HKL.out]
        exact hown5,bhop HR.out HB4.out |>.trans (row_below (own_chg HO2.out (Chg.of_below (R:=fun _=>False) HB4.out) fun _ _=>id) (bhop HR.out HB4.out).size hgrow5)⟩)
      clear hown5 hgrow5 hat5 hlt5 q0 q1 q2 q3 q4
      go_wp2_with fail
      go_roundw
      case rel=>exact ⟨_,HP.out⟩
      case measure =>
       rw [HN2.out]
       exact Nat.lt_of_le_of_lt ((leastOf_spec ⟨_,HP.out⟩).2 _ HP.out) HLT.out
   | false =>
    have HT:=Lib.hid (show bgL m b (fl.take (i+1))=bgL m b (fl.take i) by rw [HST.out,hh];exact List.append_nil _)
    have HP:=Lib.hid (show BgI w2 m b fl (fl.length - (i+1)) (.int .i64 ((i:Int)+1)) (.slice A k cp) w3 from
     ⟨i+1,by push_cast;rfl,rfl,HI1.out,by
      rw [HT.out,← HKL.out]
      exact own_chg HO2.out (Chg.of_below (R:=fun _=>False) HB3.out) fun _ _=>id,bhop HR.out HB3.out⟩)
    clear hh
    go_wp2_with fail
    go_roundw
    case rel=>exact ⟨_,HP.out⟩
    case measure =>
     rw [HN2.out]
     exact Nat.lt_of_le_of_lt ((leastOf_spec ⟨_,HP.out⟩).2 _ HP.out) HLT.out
  ·have s2:¬ (i:Int)<(a.fN:Int):=by omega
   have hil:fl.take i=fl:=List.take_of_length_le (by have:=HFN.out;omega)
   have HE:=Lib.hid (show wr.ownsRow w2.heap.size 55 5 (.slice A (bgL m b fl).length cp) (bgL m b fl).length ((bgL m b fl).flatMap cfc) from by have:=HO.out;rw [hil] at this;exact this)
   rw [hil]
   clear hil hif
   go_wp2_with fail
   go_ret
   exact ⟨⟨_,_,rfl,own_low HE.out HB.out.size⟩,bhop HB.out HR.out⟩
end Go.Proofs.YtnmjicfpmkoldaaGreatDoor

/- The document's Step at a right config: a contract.
   Conditions: the automaton lies in memory; its moves go where it has positions. -/
namespace Go.Proofs.YtnmjicfpmkoldaaGreatDoor
open Go.RowKit Go.Maps Go.Shelf
attribute [local go_sem] Oper.semAt_some
theorem infoKc:(Tryz.prog.info? 55).map (fun i=>(i.zero,i.size,i.bytes))=some (some (.agg #[.int .i64 0,.int .i64 0,.int .i64 0,.int .i64 0,.int .i64 0]),5,40):=by kernel_rfl
def RsI (w:World) (m:PM) (lf:List Nat) (x:Nat→Int) (b:Nat) (l:List Mv) (v z:Value) (wr:World):Prop:=∃ (i:Nat) (out:List Kc),z=.int .i64 i∧i≤l.length∧wr.ownsRow w.heap.size 55 5 v out.length (out.flatMap kcc)∧out.Nodup∧out.length≤i∧(∀ k,k∈out↔StS m lf x b (l.take i) k)∧Below w.heap.size w wr
def RsO (w:World) (m:PM) (lf:List Nat) (x:Nat→Int) (b:Nat) (l:List Mv) (e:Ending) (w':World):Prop:=∃ (v:Value) (out:List Kc),e=.returned v∧out.Nodup∧(∀ k,k∈out↔StS m lf x b l k)∧out.length≤l.length∧w'.ownsRow w.heap.size 55 5 v out.length (out.flatMap kcc)∧Below w.heap.size w w'
theorem own_pushK {w wr w2:World} {H g cap:Nat} {q:Kc} {acc:List Kc} {v:Value} {o:Obj} (hown:wr.ownsRow H 55 5 v acc.length (acc.flatMap kcc)) (hb:Below H w wr) (hH:H≤wr.heap.size) (h:w2.ownsRow H 55 5 (.slice (some ⟨g,0,none⟩) (acc.length+1) cap) (acc.length+1) (acc.flatMap kcc ++ kcc q)) (hgrow:(wr.alloc o).grownBy w2 v.ownBlock) :
  w2.ownsRow H 55 5 (.slice (some ⟨g,0,none⟩) (acc.length+1) cap) (acc ++ [q]).length ((acc ++ [q]).flatMap kcc)∧Below H w w2:=by
 refine ⟨by rw [List.length_append,List.flatMap_append];simpa using h,?_⟩
 have hc:Chg (fun k=>H≤k) wr w2:=((Chg.refl (fun k=>H≤k) wr).alloc o).grown hgrow (fun k hk _=>(World.ownsRow.lt hown k hk).1)
 exact hb.trans (hc.below hH fun k hk e=>by omega)
theorem rs_skip {m:PM} {lf:List Nat} {x:Nat→Int} {b i:Nat} {l:List Mv} {out:List Kc} {j:Mv} (hj:l[i]? = some j) (hall:∀ k,k∈out↔StS m lf x b (l.take i) k) (hn:∀ k,StM m lf x b j k→k∈out):∀ k,k∈out↔StS m lf x b (l.take (i+1)) k:=fun k=>by
 rw [sts_snoc hj,← hall k]
 exact ⟨.inl,fun h=>h.elim id (hn k)⟩
set_option maxHeartbeats 8000000 in
set_option maxRecDepth 100000 in
theorem refStep_any {B:Nat} {m:PM} {a:Au} {fl:List Nat} {la:Nat} (w:World) (hL:AuL w B m a fl la) {vs:List Value} {L:Nat→List Mv} (hrows:RowsM w B a.n (.slice (some ⟨a.mb,0,none⟩) a.n a.n) vs L) {p:Nat} {lf:List Nat} (hp:m.ars[p]? = some lf) (x:Nat→Int) (hcn:cntsB m lf x=true) (hC:∀ C∈m.sets,Cl C)
  (hM:∀ j∈L p,j.tt<a.n∧j.kp+(if j.ag then 1 else 0)≤lf.length) (hlen:(L p).length<1000000000) (b:Nat) (hb:b<256) :
  Calls Tryz.prog 17 #[.agg #[.int .i64 a.k,.int .u64 (a.s0:Nat),.int .u64 (a.s1:Nat),.int .u64 (a.s2:Nat),.int .u64 (a.s3:Nat),.slice a.ta a.tn a.tc,.int .i64 a.lo,.int .i64 a.hi,.slice a.sA a.n a.sC,.slice a.cA a.cN a.cC,.slice (some ⟨a.ga,0,none⟩) a.n a.aC,.slice a.fA a.fN a.fC,.slice (some ⟨a.mb,0,none⟩) a.n a.n,.slice (some ⟨a.lb,0,none⟩) a.n a.n,.bool a.em],.agg #[.int .i64 p,.int .i64 (x 0),.int .i64 (x 1),.int .i64 (x 2),.int .i64 (x 3)],.int .u8 b] w (RsO w m lf x b (L p)):=by
 obtain ⟨i0,hi,hz0,hz1,hz2⟩:=info_parts infoKc
 obtain ⟨w2,hw2,hb2,ha2,hc2⟩:=au_cf_box w a p x
 have hpn:p<a.n:=by rw [← hL.ars];exact (List.getElem?_eq_some_iff.1 hp).1
 have HF:=Lib.hid (fun (W:World) (h:Below w2.heap.size w2 W)=>show AuB W w.heap.size a∧AuL W B m a fl la∧CfB W (w.heap.size+1) p x from ⟨ha2.below h,hL.below (bhop hb2 h),hc2.below h⟩)
 have HB:=Lib.hid hb2
 obtain ⟨A,c,m1,m2,_⟩:=mv_read hrows hpn
 have HRW:=Lib.hid (fun (W:World) (h:Below w2.heap.size w2 W)=>hrows.below (bhop hb2 h))
 obtain ⟨ln,hln⟩ : ∃ ln,ln=(L p).length:=⟨_,rfl⟩
 have HLN:=Lib.hid (And.intro hln hlen)
 rw [← hln] at m1
 have HM:=Lib.hid (fun (W:World) (h:Below w2.heap.size w2 W)=>show W.cell? ⟨a.mb,p,none⟩=some (.slice A ln c) from ((bhop hb2 h).cell (p:=⟨a.mb,p,none⟩) m2).trans m1)
 have HP:=Lib.hid (And.intro hp (And.intro hM (And.intro hC hcn)))
 have v1:(0:Int)≤(p:Int):=by omega
 have v2:(p:Int)<(a.n:Int):=by omega
 have v3:((p:Int)).toNat=p:=by omega
 have wb:IntKind.i64.wrap (b:Int)=(b:Int):=by rw [IntKind.wrap_i64];omega
 clear hb2 ha2 hc2 hL hcn hp hpn m1 m2 hln hrows hM hC hlen
 go_enter Tryz.func17,Tryz.ntmps17
 go_upto_region 1 with fail
 clear hw2
 go_wp2_with fail
 go_loopw [7,8] (fun v z wr=>RsI w2 m lf x b (L p) v z wr) (fun _ z _=>match z with | .int _ z=>(L p).length - z.toNat | _=>0)
 case atStart=>exact ⟨0,[],rfl,Nat.zero_le _,World.ownsRow_nil _ _ _ _,List.nodup_nil,Nat.le_refl _,fun k=>⟨fun h=>(by cases h),by rintro ⟨j,hj,_⟩;simp at hj⟩,Below.refl _ _⟩
 case round =>
  obtain ⟨i,out,rfl,hif,hown,hnd,hol,hall,hbr⟩:=hrel
  obtain ⟨oA,oc,rfl⟩:=own_form hown
  have HO:=Lib.hid (And.intro hown (And.intro hnd (And.intro hol (And.intro hall hbr))))
  have s1:(0:Int)≤(i:Int):=by omega
  have s3:((i:Int)).toNat=i:=by omega
  obtain ⟨on,hon⟩ : ∃ n,n=out.length:=⟨_,rfl⟩
  have HON:=Lib.hid hon
  have hm12:=(HF.out wr hbr).1.cells.2.2.2.2.1
  have d0:=(HF.out wr hbr).2.2.five.1
  have m1':=HM.out wr hbr
  by_cases g:i<ln
  ·have s2:(i:Int)<(ln:Int):=by omega
   have gi:i<(L p).length:=by have:=HLN.out.1;omega
   have hib:i<1000000000:=by have:=HLN.out;omega
   have wk:IntKind.i64.wrap ((i:Int)+1)=(i:Int)+1:=by rw [IntKind.wrap_i64];omega
   obtain ⟨j,hj⟩ : ∃ j,(L p)[i]? = some j:=⟨_,List.getElem?_eq_getElem gi⟩
   obtain ⟨A',c',n1,_,n3⟩:=mv_read (HRW.out wr hbr) (by omega:p<a.n)
   obtain ⟨rfl,rfl⟩ : A=A'∧c=c':=by
    have:=(HM.out wr hbr).symm.trans n1
    simp only [Option.some.injEq,Value.slice.injEq] at this
    exact ⟨this.1,this.2.2⟩
   obtain ⟨gg,rfl,hgl,y0,y1,y2⟩:=n3 i j hj
   obtain ⟨fA,fL,fC⟩:=HF.out wr hbr
   obtain ⟨hjt,hjk⟩:=HP.out.2.1 j (List.mem_of_getElem? hj)
   obtain ⟨C,hCt⟩ : ∃ C,m.sets[j.tt]? = some C:=⟨_,List.getElem?_eq_getElem (by rw [fL.sets];exact hjt)⟩
   obtain ⟨lt,hlt⟩ : ∃ lt,m.ars[j.tt]? = some lt:=⟨_,List.getElem?_eq_getElem (by rw [fL.ars];exact hjt)⟩
   obtain ⟨tt,htt⟩ : ∃ tt,tt=j.tt:=⟨_,rfl⟩
   obtain ⟨kp,hkp⟩ : ∃ kp,kp=j.kp:=⟨_,rfl⟩
   obtain ⟨ag,hag⟩ : ∃ ag,ag=j.ag:=⟨_,rfl⟩
   rw [← htt] at y0
   rw [← hkp] at y1
   rw [← hag] at y2
   rw [← htt] at hCt hlt hjt
   rw [← hkp,← hag] at hjk
   have HJ:=Lib.hid (And.intro hj (And.intro hjt (And.intro hjk (And.intro hCt (And.intro hlt (And.intro htt (And.intro hkp (And.intro hag gi))))))))
   obtain ⟨w5,hw5⟩ : ∃ w5,wr.alloc (.cells #[.int .i64 tt,.int .i64 kp,.bool ag] 80)=w5:=⟨_,rfl⟩
   have hb5:Below wr.heap.size wr w5:=hw5▸(Below.refl _ wr).alloc (Nat.le_refl _) _
   have hm5:MvB w5 wr.heap.size tt kp ag:=by rw [← hw5];exact heap_alloc_new wr _
   obtain ⟨r,hr⟩ : ∃ r,madeX m lf lt x kp ag=r:=⟨_,rfl⟩
   have HMR:=Lib.hid hr
   have HMY:=Lib.hid (fun (W:World) (h:Below w2.heap.size w2 W)=>refMay_any W (HF.out W h).2.1 HP.out.1 hlt hjk x HP.out.2.2.2 r hr)
   have HCl:Hid (Cl C):=Lib.hid (HP.out.2.2.1 C (List.mem_of_getElem? hCt))
   have HH0:=Lib.hid (show hasB (m.sets.getD j.tt zeros) b=hasB C b by rw [← htt,List.getD_eq_getElem?_getD,hCt];rfl)
   have HLT2:=Lib.hid (show m.ars.getD j.tt []=lt by rw [← htt,List.getD_eq_getElem?_getD,hlt];rfl)
   have H5:=Lib.hid (And.intro hb5 (And.intro (bhop hbr hb5) hm5))
   clear fA fL fC hj hjt hjk hCt hlt htt hkp hag n1 n3 hif gi hown hnd hol hall hbr hb5 hm5 hr hon
   go_upto_region 6 with fail
   clear hw5 y0 y1 y2 m1' hm12 d0
   obtain ⟨k0,k1,k2⟩:=H5.out.2.2.cells
   obtain ⟨z0,z1,z2,z3,z4,z5,z6,z7,z8,z9,z10,z11,z12,z13,z14⟩:=(HF.out w5 H5.out.2.1).1.all
   obtain ⟨d0,d1,d2,d3,d4⟩:=(HF.out w5 H5.out.2.1).2.2.five
   go_wp2_with fail
   go_at_call 32
   refine (HMY.out w5 H5.out.2.1).mono ?_
   rintro e w6 ⟨rfl,hb6⟩
   have HB6:=Lib.hid (And.intro (bhop H5.out.1 hb6) (bhop H5.out.2.1 hb6))
   have HM6:=Lib.hid (H5.out.2.2.below hb6)
   clear hb6 k0 k1 k2 z0 z1 z2 z3 z4 z5 z6 z7 z8 z9 z10 z11 z12 z13 z14 d0 d1 d2 d3 d4
   obtain ⟨w7,hw7,hb7,hc7⟩ : ∃ w7,w6.alloc (.cells #[.int .i64 (mdP tt r),.int .i64 ((mdX r) 0),.int .i64 ((mdX r) 1),.int .i64 ((mdX r) 2),.int .i64 ((mdX r) 3)] 55)=w7∧Below w6.heap.size w6 w7∧CfB w7 w6.heap.size (mdP tt r) (mdX r):=⟨_,rfl,(Below.refl _ w6).alloc (Nat.le_refl _) _,heap_alloc_new w6 _⟩
   have HB7:=Lib.hid (And.intro (bhop HB6.out.1 hb7) (bhop HB6.out.2 hb7))
   have HM7:=Lib.hid (And.intro (HM6.out.below hb7) hc7)
   obtain ⟨nb,hnb⟩ : ∃ n,n=w6.heap.size:=⟨_,rfl⟩
   rw [← hnb] at HM7
   clear hb7 hc7
   cases r with
   | none =>
    have HSK:=Lib.hid (show ∀ k,StM m lf x b j k→k∈out from fun k hk=>by
     obtain ⟨_,y,hy,_⟩:=hk
     rw [HLT2.out,← HJ.out.2.2.2.2.2.2.1,← HJ.out.2.2.2.2.2.2.2.1,HMR.out] at hy;cases hy)
    have HWW:=Lib.hid (And.intro HB7.out.1 (bhop HB7.out.2 (Below.refl _ _)))
    simp only [mdP,mdX,Option.isSome_none,Option.getD_none,Bool.false_eq_true,if_false] at hw7 ⊢
    have HW7:=Lib.hid hw7
    clear hw7
    go_upto_region 7 with fail
    rw [HW7.out]
    go_wp2_with fail
    go_roundw
    case rel=>exact ⟨i+1,out,by push_cast;rfl,HJ.out.2.2.2.2.2.2.2.2,own_chg HO.out.1 (Chg.of_below (R:=fun _=>False) HWW.out.1) fun _ _=>id,HO.out.2.1,by have:=HO.out.2.2.1;omega,rs_skip HJ.out.1 HO.out.2.2.2.1 HSK.out,HWW.out.2⟩
    case measure=>have:=HJ.out.2.2.2.2.2.2.2.2;simp;omega
   | some y =>
    simp only [mdP,mdX,Option.isSome_some,Option.getD_some,if_true] at hw7 HM7 ⊢
    go_upto_region 7 with fail
    rw [← hnb]
    clear hw7 hnb
    obtain ⟨k0,k1,k2⟩:=HM7.out.1.cells
    obtain ⟨fA,fL,_⟩:=HF.out w7 HB7.out.2
    have hsz:=fL.lists.sets
    rw [own_num hsz] at hsz
    obtain ⟨gs,hgs,hgsl,e0,e1,e2,e3⟩:=cls_at hsz HJ.out.2.2.2.1
    have c8:=fA.cells.1
    rw [hgs] at c8
    have u1:(0:Int)≤(tt:Int):=by omega
    have u2:(tt:Int)<(a.n:Int):=by have:=HJ.out.2.1;omega
    have u3:((tt:Int)).toNat=tt:=by omega
    obtain ⟨d0,d1,d2,d3,d4⟩:=HM7.out.2.five
    clear hsz hgs fA fL
    go_wp2_with fail
    go_at_call 33
    refine (rhas_any C b _ HCl.out hb).mono ?_
    rintro e w8 ⟨rfl,hb8⟩
    have HB8:=Lib.hid (And.intro (bhop HB7.out.1 hb8) (bhop HB7.out.2 hb8))
    have HM8:=Lib.hid (HM7.out.2.below hb8)
    clear hb8 k0 k1 k2 e0 e1 e2 e3 c8 d0 d1 d2 d3 d4
    cases hh:hasB C b with
    | false =>
     have HSK:=Lib.hid (show ∀ k,StM m lf x b j k→k∈out from fun k hk=>by
      have:=hk.1
      rw [HH0.out,hh] at this;cases this)
     have HWW:=Lib.hid (And.intro HB8.out.1 HB8.out.2)
     clear hh
     go_wp2_with fail
     go_roundw
     case rel=>exact ⟨i+1,out,by push_cast;rfl,HJ.out.2.2.2.2.2.2.2.2,own_chg HO.out.1 (Chg.of_below (R:=fun _=>False) HWW.out.1) fun _ _=>id,HO.out.2.1,by have:=HO.out.2.2.1;omega,rs_skip HJ.out.1 HO.out.2.2.2.1 HSK.out,HWW.out.2⟩
     case measure=>have:=HJ.out.2.2.2.2.2.2.2.2;simp;omega
    | true =>
     obtain ⟨k,hk⟩ : ∃ k,k=kcOf (tt:Nat) y:=⟨_,rfl⟩
     have HST:=Lib.hid (show StM m lf x b j k from ⟨by rw [HH0.out];exact hh,y,by rw [HLT2.out,← HJ.out.2.2.2.2.2.2.1,← HJ.out.2.2.2.2.2.2.2.1];exact HMR.out,by rw [hk,← HJ.out.2.2.2.2.2.1]⟩)
     have HSU:=Lib.hid (show ∀ k',StM m lf x b j k'→k'=k from fun k' hk'=>by
      obtain ⟨_,y2,h2,h3⟩:=hk'
      rw [HLT2.out,← HJ.out.2.2.2.2.2.2.1,← HJ.out.2.2.2.2.2.2.2.1,HMR.out] at h2
      obtain rfl:=Option.some.inj h2
      rw [h3,hk,← HJ.out.2.2.2.2.2.1])
     have HKc:=Lib.hid hk
     have own8:=own_chg HO.out.1 (Chg.of_below (R:=fun _=>False) HB8.out.1) fun _ _=>id
     have HHC:=Lib.hid (hasC_any w8 oA oc out (own_cfs own8) (by have:=HO.out.2.2.1;omega) k)
     obtain ⟨d0,d1,d2,d3,d4⟩:=HM8.out.five
     have hp0:k.p=(tt:Int):=by rw [hk];rfl
     have hp1:k.a=y 0:=by rw [hk];rfl
     have hp2:k.b=y 1:=by rw [hk];rfl
     have hp3:k.c=y 2:=by rw [hk];rfl
     have hp4:k.d=y 3:=by rw [hk];rfl
     rw [← hp0] at d0
     rw [← hp1] at d1
     rw [← hp2] at d2
     rw [← hp3] at d3
     rw [← hp4] at d4
     clear hh hk own8 hp0 hp1 hp2 hp3 hp4
     go_wp2_with fail
     go_at_call 18
     refine HHC.out.mono ?_
     rintro e w9 ⟨rfl,hb9⟩
     have HB9:=Lib.hid (And.intro (bhop HB8.out.1 hb9) (bhop HB8.out.2 hb9))
     obtain ⟨q0,q1,q2,q3,q4⟩:=HM8.out.five
     have e0:=(hb9.cell (p:=⟨nb,0,none⟩) HM8.out.lt).trans d0
     have e1:=(hb9.cell (p:=⟨nb,1,none⟩) HM8.out.lt).trans d1
     have e2:=(hb9.cell (p:=⟨nb,2,none⟩) HM8.out.lt).trans d2
     have e3:=(hb9.cell (p:=⟨nb,3,none⟩) HM8.out.lt).trans d3
     have e4:=(hb9.cell (p:=⟨nb,4,none⟩) HM8.out.lt).trans d4
     clear hb9 d0 d1 d2 d3 d4 q0 q1 q2 q3 q4
     cases hk2:hasK out k with
     | true =>
      have HSK:=Lib.hid (show ∀ k',StM m lf x b j k'→k'∈out from fun k' hk'=>by rw [HSU.out k' hk'];exact hasK_iff.1 hk2)
      have HWW:=Lib.hid (And.intro HB9.out.1 HB9.out.2)
      clear hk2 e0 e1 e2 e3 e4
      go_wp2_with fail
      go_roundw
      case rel=>exact ⟨i+1,out,by push_cast;rfl,HJ.out.2.2.2.2.2.2.2.2,own_chg HO.out.1 (Chg.of_below (R:=fun _=>False) HWW.out.1) fun _ _=>id,HO.out.2.1,by have:=HO.out.2.2.1;omega,rs_skip HJ.out.1 HO.out.2.2.2.1 HSK.out,HWW.out.2⟩
      case measure=>have:=HJ.out.2.2.2.2.2.2.2.2;simp;omega
     | false =>
      have hkn:k ∉ out:=fun h=>by rw [hasK_iff.2 h] at hk2;cases hk2
      have HKN:=Lib.hid hkn
      have own9:=own_chg HO.out.1 (Chg.of_below (R:=fun _=>False) HB9.out.1) fun _ _=>id
      have hob:out.length≤1000000000:=by have:=HO.out.2.2.1;omega
      have HSz:=Lib.hid HB9.out.2.size
      have own10:w9.ownsRow w2.heap.size 55 5 (.slice oA on oc) on (out.flatMap kcc):=by rw [HON.out];exact own9
      have HO10:=Lib.hid own10
      have hob2:on≤1000000000:=by rw [HON.out];exact hob
      rw [← HON.out]
      clear hk2 hkn own9 hob
      go_upto_region 8 with fail
      go_wp2_with ((at_builtin;refine wpList_append_lies _ (by rfl) _ _ 42 (by rfl) w2.heap.size 55 i0 _ 5 40 Tryz.underlying42 hi hz0 hz1 hz2 rfl (by decide) (.slice oA on oc) on (out.flatMap kcc) (by rfl) (World.ownsRow.alloc own10 _) ⟨w9.heap.size,0,none⟩ 1 1 [.int .i64 k.p,.int .i64 k.a,.int .i64 k.b,.int .i64 k.c,.int .i64 k.d] (by rfl) rfl (World.news_of_block (heap_alloc_new w9 _)) (by simp [Value.oneCell']) (by decide) ?c3 ?c4 ?c5 _ rfl ?_))
      case c3=>unfold maxLen;omega
      case c4=>omega
      case c5=>have:=HSz.out;simp;omega
      intro gB cpB wB hown2 hgrow _ _
      have HA:=Lib.hid (own_pushK (q:=k) (acc:=out) (v:=.slice oA on oc) (by rw [← HON.out];exact HO10.out) HB9.out.2 HB9.out.2.size (by rw [← HON.out];exact hown2) hgrow)
      clear hown2 hgrow e0 e1 e2 e3 e4 own10
      go_wp2_with fail
      go_roundw
      case rel=>exact ⟨i+1,out ++ [k],by push_cast;rfl,HJ.out.2.2.2.2.2.2.2.2,by rw [HON.out];exact HA.out.1,List.nodup_append.2 ⟨HO.out.2.1,by simp,fun u hu v hv e=>by
       rw [List.mem_singleton.1 hv] at e
       exact HKN.out (e▸hu)⟩,by have:=HO.out.2.2.1;simp;omega,fun k'=>by
        rw [sts_snoc HJ.out.1,← HO.out.2.2.2.1 k',List.mem_append,List.mem_singleton]
        exact or_congr Iff.rfl ⟨fun h=>h▸HST.out,HSU.out k'⟩,HA.out.2⟩
      case measure=>have:=HJ.out.2.2.2.2.2.2.2.2;simp;omega
  ·have s2:¬ (i:Int)<(ln:Int):=by omega
   have hil:i=(L p).length:=by have:=HLN.out.1;omega
   have HE:=Lib.hid (show ∀ k,k∈out↔StS m lf x b (L p) k by rw [hil,List.take_length] at hall;exact hall)
   have HLL:=Lib.hid (show out.length≤(L p).length by omega)
   clear hil hif hall hown hnd hol hbr
   go_wp2_with fail
   go_ret
   exact ⟨_,out,rfl,HO.out.2.1,HE.out,HLL.out,own_low HO.out.1 HB.out.size,bhop HB.out HO.out.2.2.2.2⟩
end Go.Proofs.YtnmjicfpmkoldaaGreatDoor

/- What comes behind one byte more, as the document gathers it in a row of its own: plain facts.
   Conditions: those that each theorem states. -/
namespace Go.Proofs.YtnmjicfpmkoldaaGreatDoor
open Go.RowKit
structure AuP (m:PM) (fl:List Nat) (L:Nat→List Mv):Prop where
 cls:∀ C∈m.sets,Cl C
 mvl:MvL m L
 wf:MapW m
 few:fl.length≤41
 fin:∀ q∈fl,1≤q∧q<m.ars.length
 rise:fl.Pairwise (· < ·)
 most:m.ars.length≤41
def NxQ (w2:World) (S:Kc→Prop) (nv:Value) (wr:World):Prop:=∃ out:List Kc,out.Nodup∧(∀ q,q∈out↔S q)∧wr.ownsRow w2.heap.size 55 5 nv out.length (out.flatMap kcc)∧Below w2.heap.size w2 wr
theorem NxQ.step {w2:World} {S S':Kc→Prop} {nv:Value} {wr wq:World} (h:NxQ w2 S nv wr) (hb:Below wr.heap.size wr wq) (hS:∀ q,S q↔S' q):NxQ w2 S' nv wq:=by
 obtain ⟨out,a,b,c,d⟩:=h
 exact ⟨out,a,fun q=>(b q).trans (hS q),own_chg c (Chg.of_below (R:=fun _=>False) hb) fun _ _=>id,bhop d hb⟩
theorem NxQ.nil (w2:World) {S:Kc→Prop} (h:∀ q,¬ S q):NxQ w2 S (.slice none 0 0) w2:=⟨[],List.nodup_nil,fun q=>⟨fun hq=>(by cases hq),fun hq=>absurd hq (h q)⟩,World.ownsRow_nil _ _ _ _,Below.refl _ _⟩
theorem stepB_take {m:PM} {L:Nat→List Mv} {b i:Nat} {l:List Kc} {p:Kc} (hp:l[i]? = some p) (q:Kc):stepB m L (fun k=>k∈l.take (i+1)) b q↔stepB m L (fun k=>k∈l.take i) b q∨StS m (m.ars.getD p.p.toNat []) p.x b (L p.p.toNat) q:=by
 have e:l.take (i+1)=l.take i ++ [p]:=by rw [List.take_add_one,hp];rfl
 unfold stepB
 rw [e]
 constructor
 ·rintro ⟨k,hk,h⟩
  rcases List.mem_append.1 hk with hk | hk
  ·exact .inl ⟨k,hk,h⟩
  ·rw [List.mem_singleton.1 hk] at h;exact .inr h
 ·rintro (⟨k,hk,h⟩ | h)
  ·exact ⟨k,List.mem_append_left _ hk,h⟩
  ·exact ⟨p,List.mem_append_right _ (by simp),h⟩
theorem stepB_none {m:PM} {L:Nat→List Mv} {b:Nat} {l:List Kc} (q:Kc):¬ stepB m L (fun k=>k∈l.take 0) b q:=fun ⟨_,h,_⟩=>by simp at h
theorem stepB_sub {m:PM} {L:Nat→List Mv} {b i:Nat} {l:List Kc} {q:Kc} (h:stepB m L (fun k=>k∈l.take i) b q):stepB m L (fun k=>k∈l) b q:=by
 obtain ⟨k,hk,h⟩:=h
 exact ⟨k,List.mem_of_mem_take hk,h⟩
theorem few_step {m:PM} {L:Nat→List Mv} (hL:MvL m L) (hm:m.ars.length≤41) {l:List Kc} (hl:∀ k∈l,OkC m 39 k) {b:Nat} {out:List Kc} (hn:out.Nodup) (ho:∀ q∈out,stepB m L (fun k=>k∈l) b q):out.length≤115856201 :=
 few_C hn (fun q hq=>ok_more (stepB_ok hL (n:=39) (by omega) hl q (ho q hq)) (by omega)) hm
def StQ (H:Nat) (m:PM) (lf:List Nat) (x:Nat→Int) (b:Nat) (l:List Mv) (W:World) (v:Value):Prop:=∃ st:List Kc,st.Nodup∧(∀ q,q∈st↔StS m lf x b l q)∧st.length≤l.length∧W.ownsRow H 55 5 v st.length (st.flatMap kcc)
theorem StQ.keep {H:Nat} {m:PM} {lf:List Nat} {x:Nat→Int} {b:Nat} {l:List Mv} (W:World) (v:Value) (W':World) (h:StQ H m lf x b l W v) (hb:Below W.heap.size W W'):StQ H m lf x b l W' v:=by
 obtain ⟨st,a,b,c,d⟩:=h
 exact ⟨st,a,b,c,own_chg d (Chg.of_below (R:=fun _=>False) hb) fun _ _=>id⟩
theorem take_mem {l:List Kc} {i:Nat} {k:Kc} (hk:l[i]? = some k) (q:Kc):q∈l.take (i+1)↔q∈l.take i∨q=k:=by
 rw [List.take_add_one,hk]
 simp
theorem bg_nodup {m:PM} {b:Nat} {fl:List Nat} (h:fl.Pairwise (· < ·)):((bgL m b fl).map kcB).Nodup :=
 (bg_rise h).imp (S:=fun x y=>x≠y) fun {x y} hlt e=>by
  subst e
  exact kcLt_irr _ hlt
theorem bh_cd {m:PM} (hw:MapW m) (hm:m.ars.length≤41) {fl:List Nat} (hfl:∀ q∈fl,1≤q∧q<m.ars.length) {L:Nat→List Mv} (hL:MvL m L) {u:List Nat} {out:List Kc} (hn:out.Nodup) (h:∀ q,q∈out↔bhS m fl L u q):Cd (bhS m fl L u) out.length :=
 ⟨out,hn,fun k=>⟨fun hk=>⟨ok_63 hw hm (bhS_ok hw hfl hL _ k ((h k).1 hk)),(h k).1 hk⟩,fun hk=>(h k).2 hk.2⟩,rfl⟩
end Go.Proofs.YtnmjicfpmkoldaaGreatDoor

/- Two drawn regions of the document's Behind.
   Conditions: what they load lies in memory; the contracts of what they call. -/
namespace Go.Proofs.YtnmjicfpmkoldaaGreatDoor
open Go.RowKit
abbrev opsregNr8:Array Oper:=#[{ dst:=some 21,op:=Op.load 39 (Operand.tmp 2),type:=39,pos := "ref.go:17",after:=#[],guard:=none },
 { dst:=some 22,op:=Op.move (Operand.tmp 1),type:=28,pos := "ref.go:17",after:=#[],guard:=none },
 { dst:=some 23,op:=Op.indexAddr 28 (Operand.tmp 22) (Operand.const (Value.int IntKind.i64 0)),type:=0,pos := "ref.go:17",after:=#[{ on:=1,ground:=Ground.data }],guard:=none },
 { dst:=some 24,op:=Op.load 5 (Operand.tmp 23),type:=5,pos := "ref.go:17",after:=#[{ on:=2,ground:=Ground.data }],guard:=none },
 { dst:=some 25,op:=Op.call { callee:=Callee.value (Operand.func 29),args:=#[Operand.tmp 21,Operand.tmp 24],argTypes:=#[39,5] },type:=42,pos := "ref.go:17",after:=#[{ on:=0,ground:=Ground.data },{ on:=3,ground:=Ground.data }],guard:=none },
 { dst:=some 9,op:=Op.assign (Operand.tmp 25),type:=42,pos := "ref.go:17",after:=#[{ on:=4,ground:=Ground.data },{ on:=4,ground:=Ground.chain },{ on:=0,ground:=Ground.phase },{ on:=1,ground:=Ground.phase },{ on:=2,ground:=Ground.phase },{ on:=3,ground:=Ground.phase },{ on:=4,ground:=Ground.phase }],guard:=none }]
def WregNr8 (ca:Array Value) (ab u uo un uc b:Nat) (P:World→Value→Prop) (D:List Deferred) (v0 v3 v4 v5 v6 v7 v8 v10 v11 v12 v13 v14 v15 v16 v17 v18 v19 v20 v26 v27 v28 v29 v30 v31 v32 v33 v34 v35 v36 v37 v38 v39 v40 v41 v42 v43 v44 v45 v46 v47 v48 v49 v50 v51 v52 v53 v54 v55 v56 v57 v58 v59 v60 v61 v62 v63 v64 v65 v66 v67 v68:Value) (w0:World) (l:Nat→Bool) (a:Act) (w:World):Prop :=
 ∃ (y0 y1 y2 y3 y4 y5:Value),a = { tmps:=#[v0,.slice (some ⟨u,uo,none⟩) un uc,.pointer (some ⟨ab,0,none⟩),v3,v4,v5,v6,v7,v8,y5,v10,v11,v12,v13,v14,v15,v16,v17,v18,v19,v20,y0,y1,y2,y3,y4,v26,v27,v28,v29,v30,v31,v32,v33,v34,v35,v36,v37,v38,v39,v40,v41,v42,v43,v44,v45,v46,v47,v48,v49,v50,v51,v52,v53,v54,v55,v56,v57,v58,v59,v60,v61,v62,v63,v64,v65,v66,v67,v68],defers:=D }∧Below w0.heap.size w0 w ∧
  (l 0=true→y0=.agg ca)∧(l 1=true→y1=.slice (some ⟨u,uo,none⟩) un uc)∧(l 2=true→y2=.pointer (some ⟨u,uo,none⟩))∧(l 3=true→y3=.int .u8 b)∧(l 4=true→P w y4)∧(l 5=true→P w y5)
set_option maxHeartbeats 8000000 in
set_option maxRecDepth 100000 in
theorem regNr8 (ca:Array Value) (ab u uo un uc b:Nat) (P:World→Value→Prop) (D:List Deferred) (v0 v3 v4 v5 v6 v7 v8 v10 v11 v12 v13 v14 v15 v16 v17 v18 v19 v20 v26 v27 v28 v29 v30 v31 v32 v33 v34 v35 v36 v37 v38 v39 v40 v41 v42 v43 v44 v45 v46 v47 v48 v49 v50 v51 v52 v53 v54 v55 v56 v57 v58 v59 v60 v61 v62 v63 v64 v65 v66 v67 v68 wy0 wy1 wy2 wy3 wy4 wy5:Value) (w:World) (hA:∀ w',Below w.heap.size w w'→w'.heap[ab]? = some (.cells ca 39 (0,0))) (shA:(Tryz.prog.info? 39).map (·.size)=some ca.size) (hw:∀ w',Below w.heap.size w w'→w'.cell? ⟨u,uo,none⟩=some (.int .u8 (b:Int))) (s4:0<un) (hP:(∀ w v w',P w v→Below w.heap.size w w'→P w' v)) (hc:(∀ w',Below w.heap.size w w'→Calls Tryz.prog 29 #[.agg ca,.int .u8 b] w' fun e w2=>∃ v,e=.returned v∧P w2 v∧Below w'.heap.size w' w2)) (Q:Exit→Act→World→Prop)
  (hQ:∀ (y0 y1 y2 y3 y4 y5:Value) (w':World),Below w.heap.size w w'→(P w' y5)→Q .normal { tmps:=#[v0,.slice (some ⟨u,uo,none⟩) un uc,.pointer (some ⟨ab,0,none⟩),v3,v4,v5,v6,v7,v8,y5,v10,v11,v12,v13,v14,v15,v16,v17,v18,v19,v20,y0,y1,y2,y3,y4,v26,v27,v28,v29,v30,v31,v32,v33,v34,v35,v36,v37,v38,v39,v40,v41,v42,v43,v44,v45,v46,v47,v48,v49,v50,v51,v52,v53,v54,v55,v56,v57,v58,v59,v60,v61,v62,v63,v64,v65,v66,v67,v68],defers:=D } w') :
  (Code.region 8 opsregNr8 true).wp Tryz.prog Q { tmps:=#[v0,.slice (some ⟨u,uo,none⟩) un uc,.pointer (some ⟨ab,0,none⟩),v3,v4,v5,v6,v7,v8,wy5,v10,v11,v12,v13,v14,v15,v16,v17,v18,v19,v20,wy0,wy1,wy2,wy3,wy4,v26,v27,v28,v29,v30,v31,v32,v33,v34,v35,v36,v37,v38,v39,v40,v41,v42,v43,v44,v45,v46,v47,v48,v49,v50,v51,v52,v53,v54,v55,v56,v57,v58,v59,v60,v61,v62,v63,v64,v65,v66,v67,v68],defers:=D } w:=by
 refine wp_region_inv (by kernel_rfl) (WregNr8 ca ab u uo un uc b P D v0 v3 v4 v5 v6 v7 v8 v10 v11 v12 v13 v14 v15 v16 v17 v18 v19 v20 v26 v27 v28 v29 v30 v31 v32 v33 v34 v35 v36 v37 v38 v39 v40 v41 v42 v43 v44 v45 v46 v47 v48 v49 v50 v51 v52 v53 v54 v55 v56 v57 v58 v59 v60 v61 v62 v63 v64 v65 v66 v67 v68 w) ?hacy ?h0 ?hstep ?hdone
 case hacy=>kernel_rfl
 case h0=>exact ⟨wy0,wy1,wy2,wy3,wy4,wy5,rfl,below_drewN (Below.refl _ _) 1,(fun p=>by cases p),(fun p=>by cases p),(fun p=>by cases p),(fun p=>by cases p),(fun p=>by cases p),(fun p=>by cases p)⟩
 case hdone =>
  intro l a w1 hI hall
  obtain ⟨y0,y1,y2,y3,y4,y5,rfl,hb,h0,h1,h2,h3,h4,h5⟩:=hI
  exact hQ _ _ _ _ _ _ _ hb (h5 (hall 5 (by decide)))
 case hstep =>
  intro l a w1 i o hI ho hl hall
  obtain ⟨y0,y1,y2,y3,y4,y5,rfl,hb,h0,h1,h2,h3,h4,h5⟩:=hI
  have hi:i<6:=(Array.getElem?_eq_some_iff.1 ho).1
  match i,hi with
  | 0,_ =>
   have ho':=ho
   simp [opsregNr8] at ho
   subst ho
   refine wpOp_one ho' rfl fun K hK=>?_
   refine wp_load_row 39 (.tmp 2) rfl ab rfl 39 ca (0,0) _ (hA w1 hb) Tryz.underlying39 rfl shA ?_
   exact hK _ _ ⟨_,y1,y2,y3,y4,y5,rfl,hb,fun _=>(by first | rfl | simp),h1,h2,h3,h4,h5⟩
  | 1,_ =>
   have ho':=ho
   simp [opsregNr8] at ho
   subst ho
   refine wpOp_one ho' rfl fun K hK=>?_
   go_simp
   exact hK _ _ ⟨y0,_,y2,y3,y4,y5,rfl,hb,h0,fun _=>(by first | rfl | simp),h2,h3,h4,h5⟩
  | 2,_ =>
   have ho':=ho
   simp [opsregNr8] at ho
   subst ho
   obtain rfl:=h1 (hall ⟨1,.data⟩ (by simp) rfl)
   refine wpOp_one ho' rfl fun K hK=>?_
   go_simp
   exact hK _ _ ⟨y0,_,_,y3,y4,y5,rfl,hb,h0,fun _=>rfl,fun _=>(by first | rfl | simp),h3,h4,h5⟩
  | 3,_ =>
   have ho':=ho
   simp [opsregNr8] at ho
   subst ho
   obtain rfl:=h2 (hall ⟨2,.data⟩ (by simp) rfl)
   refine wpOp_one ho' rfl fun K hK=>?_
   have hc0:=hw w1 hb
   go_simp
   exact hK _ _ ⟨y0,y1,_,_,y4,y5,rfl,hb,h0,h1,fun _=>rfl,fun _=>(by first | rfl | simp),h4,h5⟩
  | 4,_ =>
   have ho':=ho
   simp [opsregNr8] at ho
   subst ho
   obtain rfl:=h0 (hall ⟨0,.data⟩ (by simp) rfl)
   obtain rfl:=h3 (hall ⟨3,.data⟩ (by simp) rfl)
   refine wpOp_one ho' rfl fun K hK=>?_
   go_simp
   go_at_call 29
   refine (hc _ hb).mono ?_
   rintro e w2 ⟨v2,rfl,hp2,hb2⟩
   exact hK _ _ ⟨_,y1,y2,_,_,y5,rfl,(hb.trans (hb2.mono hb.size)),fun _=>rfl,h1,h2,fun _=>rfl,fun _=>hp2,fun q=>hP _ _ _ (h5 q) hb2⟩
  | 5,_ =>
   have ho':=ho
   simp [opsregNr8] at ho
   subst ho
   have p4:=h4 (hall ⟨4,.data⟩ (by simp) rfl)
   refine wpOp_one ho' rfl fun K hK=>?_
   go_simp
   exact hK _ _ ⟨y0,y1,y2,y3,y4,_,rfl,hb,h0,h1,h2,h3,h4,fun _=>p4⟩
  | k+6,hi=>omega
abbrev opsregNr12:Array Oper:=#[{ dst:=some 32,op:=Op.load 39 (Operand.tmp 2),type:=39,pos := "ref.go:20",after:=#[],guard:=none },
 { dst:=some 33,op:=Op.move (Operand.tmp 6),type:=42,pos := "ref.go:20",after:=#[],guard:=none },
 { dst:=some 34,op:=Op.move (Operand.tmp 10),type:=3,pos := "ref.go:20",after:=#[],guard:=none },
 { dst:=some 35,op:=Op.indexAddr 42 (Operand.tmp 33) (Operand.tmp 34),type:=0,pos := "ref.go:20",after:=#[{ on:=1,ground:=Ground.data },{ on:=2,ground:=Ground.data }],guard:=none },
 { dst:=some 36,op:=Op.load 55 (Operand.tmp 35),type:=55,pos := "ref.go:20",after:=#[{ on:=3,ground:=Ground.data }],guard:=none },
 { dst:=some 37,op:=Op.move (Operand.tmp 1),type:=28,pos := "ref.go:20",after:=#[],guard:=none },
 { dst:=some 38,op:=Op.move (Operand.tmp 8),type:=3,pos := "ref.go:20",after:=#[],guard:=none },
 { dst:=some 39,op:=Op.indexAddr 28 (Operand.tmp 37) (Operand.tmp 38),type:=0,pos := "ref.go:20",after:=#[{ on:=5,ground:=Ground.data },{ on:=6,ground:=Ground.data }],guard:=none },
 { dst:=some 40,op:=Op.load 5 (Operand.tmp 39),type:=5,pos := "ref.go:20",after:=#[{ on:=7,ground:=Ground.data }],guard:=none },
 { dst:=some 41,op:=Op.call { callee:=Callee.value (Operand.func 17),args:=#[Operand.tmp 32,Operand.tmp 36,Operand.tmp 40],argTypes:=#[39,55,5] },type:=42,pos := "ref.go:20",after:=#[{ on:=0,ground:=Ground.data },{ on:=4,ground:=Ground.data },{ on:=8,ground:=Ground.data }],guard:=none },
 { dst:=some 11,op:=Op.assign (Operand.tmp 41),type:=42,pos := "ref.go:20",after:=#[{ on:=9,ground:=Ground.data },{ on:=9,ground:=Ground.chain },{ on:=0,ground:=Ground.phase },{ on:=1,ground:=Ground.phase },{ on:=2,ground:=Ground.phase },{ on:=3,ground:=Ground.phase },{ on:=4,ground:=Ground.phase },{ on:=5,ground:=Ground.phase },{ on:=6,ground:=Ground.phase },{ on:=7,ground:=Ground.phase },{ on:=8,ground:=Ground.phase },{ on:=9,ground:=Ground.phase }],guard:=none }]
def WregNr12 (ca:Array Value) (ab u uo un uc b k g ln c i:Nat) (x0 x1 x2 x3 x4:Int) (P:World→Value→Prop) (D:List Deferred) (v0 v3 v4 v5 v7 v9 v12 v13 v14 v15 v16 v17 v18 v19 v20 v21 v22 v23 v24 v25 v26 v27 v28 v29 v30 v31 v42 v43 v44 v45 v46 v47 v48 v49 v50 v51 v52 v53 v54 v55 v56 v57 v58 v59 v60 v61 v62 v63 v64 v65 v66 v67 v68:Value) (w0:World) (l:Nat→Bool) (a:Act) (w:World):Prop :=
 ∃ (y0 y1 y2 y3 y4 y5 y6 y7 y8 y9 y10:Value),a = { tmps:=#[v0,.slice (some ⟨u,uo,none⟩) un uc,.pointer (some ⟨ab,0,none⟩),v3,v4,v5,.slice (some ⟨g,0,none⟩) ln c,v7,.int .i64 (k:Int),v9,.int .i64 (i:Int),y10,v12,v13,v14,v15,v16,v17,v18,v19,v20,v21,v22,v23,v24,v25,v26,v27,v28,v29,v30,v31,y0,y1,y2,y3,y4,y5,y6,y7,y8,y9,v42,v43,v44,v45,v46,v47,v48,v49,v50,v51,v52,v53,v54,v55,v56,v57,v58,v59,v60,v61,v62,v63,v64,v65,v66,v67,v68],defers:=D }∧Below w0.heap.size w0 w ∧
  (l 0=true→y0=.agg ca)∧(l 1=true→y1=.slice (some ⟨g,0,none⟩) ln c)∧(l 2=true→y2=.int .i64 (i:Int))∧(l 3=true→y3=.pointer (some ⟨g,i * 5,none⟩))∧(l 4=true→y4=.agg #[.int .i64 x0,.int .i64 x1,.int .i64 x2,.int .i64 x3,.int .i64 x4])∧(l 5=true→y5=.slice (some ⟨u,uo,none⟩) un uc)∧(l 6=true→y6=.int .i64 (k:Int))∧(l 7=true→y7=.pointer (some ⟨u,uo+k,none⟩))∧(l 8=true→y8=.int .u8 b)∧(l 9=true→P w y9)∧(l 10=true→P w y10)
set_option maxHeartbeats 8000000 in
set_option maxRecDepth 100000 in
theorem regNr12 (ca:Array Value) (ab u uo un uc b k g ln c i:Nat) (x0 x1 x2 x3 x4:Int) (P:World→Value→Prop) (D:List Deferred) (v0 v3 v4 v5 v7 v9 v12 v13 v14 v15 v16 v17 v18 v19 v20 v21 v22 v23 v24 v25 v26 v27 v28 v29 v30 v31 v42 v43 v44 v45 v46 v47 v48 v49 v50 v51 v52 v53 v54 v55 v56 v57 v58 v59 v60 v61 v62 v63 v64 v65 v66 v67 v68 wy0 wy1 wy2 wy3 wy4 wy5 wy6 wy7 wy8 wy9 wy10:Value) (w:World) (hA:∀ w',Below w.heap.size w w'→w'.heap[ab]? = some (.cells ca 39 (0,0))) (shA:(Tryz.prog.info? 39).map (·.size)=some ca.size) (hw:∀ w',Below w.heap.size w w'→w'.cell? ⟨u,uo+k,none⟩=some (.int .u8 (b:Int))) (hx:∀ w',Below w.heap.size w w'→w'.cell? ⟨g,i * 5,none⟩=some (.int .i64 x0)∧w'.cell? ⟨g,i * 5+1,none⟩=some (.int .i64 x1)∧w'.cell? ⟨g,i * 5+2,none⟩=some (.int .i64 x2)∧w'.cell? ⟨g,i * 5+3,none⟩=some (.int .i64 x3)∧w'.cell? ⟨g,i * 5+4,none⟩=some (.int .i64 x4)) (s1:(0:Int)≤(i:Int)) (s2:(i:Int)<(ln:Int)) (s3:((i:Int)).toNat=i) (t1:(0:Int)≤(k:Int)) (t2:(k:Int)<(un:Int)) (t3:((k:Int)).toNat=k) (hP:(∀ w v w',P w v→Below w.heap.size w w'→P w' v)) (hc:(∀ w',Below w.heap.size w w'→Calls Tryz.prog 17 #[.agg ca,.agg #[.int .i64 x0,.int .i64 x1,.int .i64 x2,.int .i64 x3,.int .i64 x4],.int .u8 b] w' fun e w2=>∃ v,e=.returned v∧P w2 v∧Below w'.heap.size w' w2)) (Q:Exit→Act→World→Prop)
  (hQ:∀ (y0 y1 y2 y3 y4 y5 y6 y7 y8 y9 y10:Value) (w':World),Below w.heap.size w w'→(P w' y10)→Q .normal { tmps:=#[v0,.slice (some ⟨u,uo,none⟩) un uc,.pointer (some ⟨ab,0,none⟩),v3,v4,v5,.slice (some ⟨g,0,none⟩) ln c,v7,.int .i64 (k:Int),v9,.int .i64 (i:Int),y10,v12,v13,v14,v15,v16,v17,v18,v19,v20,v21,v22,v23,v24,v25,v26,v27,v28,v29,v30,v31,y0,y1,y2,y3,y4,y5,y6,y7,y8,y9,v42,v43,v44,v45,v46,v47,v48,v49,v50,v51,v52,v53,v54,v55,v56,v57,v58,v59,v60,v61,v62,v63,v64,v65,v66,v67,v68],defers:=D } w') :
  (Code.region 12 opsregNr12 true).wp Tryz.prog Q { tmps:=#[v0,.slice (some ⟨u,uo,none⟩) un uc,.pointer (some ⟨ab,0,none⟩),v3,v4,v5,.slice (some ⟨g,0,none⟩) ln c,v7,.int .i64 (k:Int),v9,.int .i64 (i:Int),wy10,v12,v13,v14,v15,v16,v17,v18,v19,v20,v21,v22,v23,v24,v25,v26,v27,v28,v29,v30,v31,wy0,wy1,wy2,wy3,wy4,wy5,wy6,wy7,wy8,wy9,v42,v43,v44,v45,v46,v47,v48,v49,v50,v51,v52,v53,v54,v55,v56,v57,v58,v59,v60,v61,v62,v63,v64,v65,v66,v67,v68],defers:=D } w:=by
 refine wp_region_inv (by kernel_rfl) (WregNr12 ca ab u uo un uc b k g ln c i x0 x1 x2 x3 x4 P D v0 v3 v4 v5 v7 v9 v12 v13 v14 v15 v16 v17 v18 v19 v20 v21 v22 v23 v24 v25 v26 v27 v28 v29 v30 v31 v42 v43 v44 v45 v46 v47 v48 v49 v50 v51 v52 v53 v54 v55 v56 v57 v58 v59 v60 v61 v62 v63 v64 v65 v66 v67 v68 w) ?hacy ?h0 ?hstep ?hdone
 case hacy=>kernel_rfl
 case h0=>exact ⟨wy0,wy1,wy2,wy3,wy4,wy5,wy6,wy7,wy8,wy9,wy10,rfl,below_drewN (Below.refl _ _) 1,(fun p=>by cases p),(fun p=>by cases p),(fun p=>by cases p),(fun p=>by cases p),(fun p=>by cases p),(fun p=>by cases p),(fun p=>by cases p),(fun p=>by cases p),(fun p=>by cases p),(fun p=>by cases p),(fun p=>by cases p)⟩
 case hdone =>
  intro l a w1 hI hall
  obtain ⟨y0,y1,y2,y3,y4,y5,y6,y7,y8,y9,y10,rfl,hb,h0,h1,h2,h3,h4,h5,h6,h7,h8,h9,h10⟩:=hI
  exact hQ _ _ _ _ _ _ _ _ _ _ _ _ hb (h10 (hall 10 (by decide)))
 case hstep =>
  intro l a w1 i o hI ho hl hall
  obtain ⟨y0,y1,y2,y3,y4,y5,y6,y7,y8,y9,y10,rfl,hb,h0,h1,h2,h3,h4,h5,h6,h7,h8,h9,h10⟩:=hI
  have hi:i<11:=(Array.getElem?_eq_some_iff.1 ho).1
  match i,hi with
  | 0,_ =>
   have ho':=ho
   simp [opsregNr12] at ho
   subst ho
   refine wpOp_one ho' rfl fun K hK=>?_
   refine wp_load_row 39 (.tmp 2) rfl ab rfl 39 ca (0,0) _ (hA w1 hb) Tryz.underlying39 rfl shA ?_
   exact hK _ _ ⟨_,y1,y2,y3,y4,y5,y6,y7,y8,y9,y10,rfl,hb,fun _=>(by first | rfl | simp),h1,h2,h3,h4,h5,h6,h7,h8,h9,h10⟩
  | 1,_ =>
   have ho':=ho
   simp [opsregNr12] at ho
   subst ho
   refine wpOp_one ho' rfl fun K hK=>?_
   go_simp
   exact hK _ _ ⟨y0,_,y2,y3,y4,y5,y6,y7,y8,y9,y10,rfl,hb,h0,fun _=>(by first | rfl | simp),h2,h3,h4,h5,h6,h7,h8,h9,h10⟩
  | 2,_ =>
   have ho':=ho
   simp [opsregNr12] at ho
   subst ho
   refine wpOp_one ho' rfl fun K hK=>?_
   go_simp
   exact hK _ _ ⟨y0,y1,_,y3,y4,y5,y6,y7,y8,y9,y10,rfl,hb,h0,h1,fun _=>(by first | rfl | simp),h3,h4,h5,h6,h7,h8,h9,h10⟩
  | 3,_ =>
   have ho':=ho
   simp [opsregNr12] at ho
   subst ho
   obtain rfl:=h1 (hall ⟨1,.data⟩ (by simp) rfl)
   obtain rfl:=h2 (hall ⟨2,.data⟩ (by simp) rfl)
   refine wpOp_one ho' rfl fun K hK=>?_
   go_simp
   exact hK _ _ ⟨y0,_,_,_,y4,y5,y6,y7,y8,y9,y10,rfl,hb,h0,fun _=>rfl,fun _=>rfl,fun _=>(by first | rfl | simp),h4,h5,h6,h7,h8,h9,h10⟩
  | 4,_ =>
   have ho':=ho
   simp [opsregNr12] at ho
   subst ho
   obtain rfl:=h3 (hall ⟨3,.data⟩ (by simp) rfl)
   refine wpOp_one ho' rfl fun K hK=>?_
   obtain ⟨q0,q1,q2,q3,q4⟩:=hx w1 hb
   go_simp
   exact hK _ _ ⟨y0,y1,y2,_,_,y5,y6,y7,y8,y9,y10,rfl,hb,h0,h1,h2,fun _=>rfl,fun _=>(by first | rfl | simp),h5,h6,h7,h8,h9,h10⟩
  | 5,_ =>
   have ho':=ho
   simp [opsregNr12] at ho
   subst ho
   refine wpOp_one ho' rfl fun K hK=>?_
   go_simp
   exact hK _ _ ⟨y0,y1,y2,y3,y4,_,y6,y7,y8,y9,y10,rfl,hb,h0,h1,h2,h3,h4,fun _=>(by first | rfl | simp),h6,h7,h8,h9,h10⟩
  | 6,_ =>
   have ho':=ho
   simp [opsregNr12] at ho
   subst ho
   refine wpOp_one ho' rfl fun K hK=>?_
   go_simp
   exact hK _ _ ⟨y0,y1,y2,y3,y4,y5,_,y7,y8,y9,y10,rfl,hb,h0,h1,h2,h3,h4,h5,fun _=>(by first | rfl | simp),h7,h8,h9,h10⟩
  | 7,_ =>
   have ho':=ho
   simp [opsregNr12] at ho
   subst ho
   obtain rfl:=h5 (hall ⟨5,.data⟩ (by simp) rfl)
   obtain rfl:=h6 (hall ⟨6,.data⟩ (by simp) rfl)
   refine wpOp_one ho' rfl fun K hK=>?_
   go_simp
   exact hK _ _ ⟨y0,y1,y2,y3,y4,_,_,_,y8,y9,y10,rfl,hb,h0,h1,h2,h3,h4,fun _=>rfl,fun _=>rfl,fun _=>(by first | rfl | simp),h8,h9,h10⟩
  | 8,_ =>
   have ho':=ho
   simp [opsregNr12] at ho
   subst ho
   obtain rfl:=h7 (hall ⟨7,.data⟩ (by simp) rfl)
   refine wpOp_one ho' rfl fun K hK=>?_
   have hc0:=hw w1 hb
   go_simp
   exact hK _ _ ⟨y0,y1,y2,y3,y4,y5,y6,_,_,y9,y10,rfl,hb,h0,h1,h2,h3,h4,h5,h6,fun _=>rfl,fun _=>(by first | rfl | simp),h9,h10⟩
  | 9,_ =>
   have ho':=ho
   simp [opsregNr12] at ho
   subst ho
   obtain rfl:=h0 (hall ⟨0,.data⟩ (by simp) rfl)
   obtain rfl:=h4 (hall ⟨4,.data⟩ (by simp) rfl)
   obtain rfl:=h8 (hall ⟨8,.data⟩ (by simp) rfl)
   refine wpOp_one ho' rfl fun K hK=>?_
   go_simp
   go_at_call 17
   refine (hc _ hb).mono ?_
   rintro e w2 ⟨v2,rfl,hp2,hb2⟩
   exact hK _ _ ⟨_,y1,y2,y3,_,y5,y6,y7,_,_,y10,rfl,(hb.trans (hb2.mono hb.size)),fun _=>rfl,h1,h2,h3,fun _=>rfl,h5,h6,h7,fun _=>rfl,fun _=>hp2,fun q=>hP _ _ _ (h10 q) hb2⟩
  | 10,_ =>
   have ho':=ho
   simp [opsregNr12] at ho
   subst ho
   have p9:=h9 (hall ⟨9,.data⟩ (by simp) rfl)
   refine wpOp_one ho' rfl fun K hK=>?_
   go_simp
   exact hK _ _ ⟨y0,y1,y2,y3,y4,y5,y6,y7,y8,y9,_,rfl,hb,h0,h1,h2,h3,h4,h5,h6,h7,h8,h9,fun _=>p9⟩
  | k+11,hi=>omega
end Go.Proofs.YtnmjicfpmkoldaaGreatDoor

/- The document's Behind, which the statements of stage 8 hold naive against: a contract.
   Conditions: the automaton and the word lie in memory, as for naive's follow. -/
namespace Go.Proofs.YtnmjicfpmkoldaaGreatDoor
open Go.RowKit Go.Maps Go.Shelf
def RbO (w:World) (m:PM) (fl:List Nat) (L:Nat→List Mv) (u:List Nat) (e:Ending) (w':World):Prop :=
 ∃ A c out z,e=.returned (.tuple #[.slice A (List.length out) c,.int .i64 (z:Nat)])∧out.Nodup∧(∀ k,k∈out↔bhS m fl L u k)∧CfsR w' A out∧MstS m fl L u z∧z≤115856201∧out.length≤115856201∧Below w.heap.size w w'
def RbI (w:World) (m:PM) (fl:List Nat) (L:Nat→List Mv) (u:List Nat) (i:Nat) (lv mv:Value) (wr:World):Prop :=
 ∃ z:Nat,mv=.int .i64 (z:Nat)∧MstS m fl L (u.take i) z∧z≤115856201∧NxQ w (bhS m fl L (u.take i)) lv wr
theorem rb_next {w w6 W:World} {m:PM} {fl:List Nat} {L:Nat→List Mv} {u:List Nat} {i z b:Nat} {out:List Kc} {lv:Value} (hP:AuP m fl L) (h3:MstS m fl L (u.take i) z) (h4:z≤115856201) (h5:u[i]? = some b) (hn:out.Nodup) (hm:∀ q,q∈out↔bhS m fl L (u.take (i+1)) q) (hf:out.length≤115856201) (ho:W.ownsRow w6.heap.size 55 5 lv out.length (out.flatMap kcc)) (hb6:Below w.heap.size w w6) (hbW:Below w6.heap.size w6 W) :
  RbI w m fl L u (i+1) lv (.int .i64 (max (z:Int) (out.length:Int))) W:=by
 have e:u.take (i+1)=u.take i ++ [b]:=by rw [List.take_add_one,h5];rfl
 refine ⟨max z out.length,by rw [show (max (z:Int) (out.length:Int))=((max z out.length:Nat):Int) by omega],?_,by omega,out,hn,hm,own_low ho hb6.size,bhop hb6 hbW⟩
 have hc:=bh_cd hP.wf hP.most hP.fin hP.mvl hn hm
 rw [e] at hc ⊢
 exact mst_snoc h3 hc
set_option maxHeartbeats 8000000 in
set_option maxRecDepth 100000 in
theorem refBehind_any {B:Nat} {m:PM} {a:Au} {fl:List Nat} {la:Nat} (w:World) (hL:AuL w B m a fl la) {vs:List Value} {L:Nat→List Mv} (hrows:RowsM w B a.n (.slice (some ⟨a.mb,0,none⟩) a.n a.n) vs L) (hPP:AuP m fl L) (v:Value) (u:List Nat) (hu:WrdR w v u) (hlen:u.length≤40) :
  Calls Tryz.prog 13 #[.agg #[.int .i64 a.k,.int .u64 (a.s0:Nat),.int .u64 (a.s1:Nat),.int .u64 (a.s2:Nat),.int .u64 (a.s3:Nat),.slice a.ta a.tn a.tc,.int .i64 a.lo,.int .i64 a.hi,.slice a.sA a.n a.sC,.slice a.cA a.cN a.cC,.slice (some ⟨a.ga,0,none⟩) a.n a.aC,.slice a.fA a.fN a.fC,.slice (some ⟨a.mb,0,none⟩) a.n a.n,.slice (some ⟨a.lb,0,none⟩) a.n a.n,.bool a.em],v] w (RbO w m fl L u):=by
 obtain ⟨i0,hi,hz0,hz1,hz2⟩:=info_parts infoKc
 obtain ⟨A,c,rfl,hu⟩:=hu
 obtain ⟨w2,hw2,hb2,ha2⟩:=au_box w a
 have HF:=Lib.hid (fun (W:World) (h:Below w2.heap.size w2 W)=>show AuB W w.heap.size a∧AuL W B m a fl la∧RowsM W B a.n (.slice (some ⟨a.mb,0,none⟩) a.n a.n) vs L∧∀ (i x:Nat),u[i]? = some x→x<256∧∃ g o,A=some ⟨g,o,none⟩∧g<W.heap.size∧W.cell? ⟨g,o+i,none⟩=some (.int .u8 (x:Int)) from ⟨ha2.below h,hL.below (bhop hb2 h),hrows.below (bhop hb2 h),fun i x hx=>by
  obtain ⟨h3,g,o,h4,h5,h6⟩:=hu i x hx
  exact ⟨h3,g,o,h4,Nat.lt_of_lt_of_le h5 (bhop hb2 h).size,((bhop hb2 h).cell (p:=⟨g,_,none⟩) h5).trans h6⟩⟩)
 have HB:=Lib.hid hb2
 have HP:=Lib.hid hPP
 obtain ⟨un,hun⟩ : ∃ n,n=u.length:=⟨_,rfl⟩
 have HU:=Lib.hid (And.intro hun hlen)
 rw [← hun]
 clear hb2 ha2 hL hPP hrows hu hlen hun
 go_enter Tryz.func13,Tryz.ntmps13
 go_upto_region 1 with fail
 clear hw2
 have H4:=Lib.hid (show RbI w2 m fl L u 0 (.slice none 0 0) (.int .i64 ((0:Nat):Int)) w2 from ⟨0,rfl,mst_nil,by omega,NxQ.nil w2 fun q h=>h⟩)
 go_wp2_with fail
 go_loopw [6,7,8] (fun lv mv z wr=>∃ i:Nat,z=.int .i64 i∧i≤un∧RbI w2 m fl L u i lv mv wr) (fun _ _ z _=>match z with | .int _ z=>un - z.toNat | _=>0)
 case atStart=>exact ⟨0,rfl,Nat.zero_le _,H4.out⟩
 case round =>
  obtain ⟨i,rfl,hi1,z,rfl,hz,hzl,l,o1,o2,o3,o4⟩:=hrel
  obtain ⟨lA,lc,rfl⟩:=own_form o3
  obtain ⟨ln,hln⟩ : ∃ n,n=l.length:=⟨_,rfl⟩
  obtain ⟨w6,hw6⟩ : ∃ w6,w6=wr:=⟨_,rfl⟩
  subst hw6
  have s1:(0:Int)≤(i:Int):=by omega
  have s3:((i:Int)).toNat=i:=by omega
  have hun40:un≤40:=by have:=HU.out;omega
  have wi:IntKind.i64.wrap ((i:Int)+1)=(i:Int)+1:=by rw [IntKind.wrap_i64];omega
  have hok:∀ k∈l,OkC m i k:=fun k hk=>ok_more (bhS_ok HP.out.wf HP.out.fin HP.out.mvl _ k ((o2 k).1 hk)) (by rw [List.length_take];omega)
  have hfl:l.length≤115856201:=few_C o1 (fun k hk=>ok_more (hok k hk) (by omega)) HP.out.most
  have HLR:=Lib.hid (fun (W:World) (h:Below w6.heap.size w6 W)=>show CfsR W lA l from (own_cfs o3).below h)
  have H6:=Lib.hid (show Below w2.heap.size w2 w6 from o4)
  have HLN:=Lib.hid (show ln=l.length∧ln≤115856201 from ⟨hln,by omega⟩)
  have HI:=Lib.hid (And.intro hi1 (And.intro hz (And.intro hzl (And.intro o1 (And.intro o2 (And.intro o3 hln))))))
  rw [← hln]
  by_cases g:i<un
  ·have s2:(i:Int)<(un:Int):=by omega
   obtain ⟨b,hb⟩ : ∃ b,u[i]? = some b:=⟨_,List.getElem?_eq_getElem (by have:=HU.out.1;omega)⟩
   obtain ⟨hb256,ug,uo,hA,_,y0⟩:=(HF.out w6 H6.out).2.2.2 i b hb
   have HYB:=Lib.hid (fun (W:World) (h:Below w6.heap.size w6 W)=>show W.cell? ⟨ug,uo+i,none⟩=some (.int .u8 (b:Int)) from by
    obtain ⟨_,g2,o2,h2,_,h3⟩:=(HF.out W (bhop H6.out h)).2.2.2 i b hb
    rw [hA] at h2
    simp only [Option.some.injEq,Addr.mk.injEq,and_true] at h2
    rw [h2.1,h2.2]
    exact h3)
   have HW:=Lib.hid hb
   subst hA
   have hl39:∀ k∈l,OkC m 39 k:=fun k hk=>ok_more (hok k hk) (by omega)
   have HLl:=Lib.hid hl39
   clear hz hzl o1 o2 o3 o4 hok hfl hb y0 hl39 hln hi1
   go_upto_region 7 with fail
   by_cases gi:i=0
   ·have hl0:l=[]:=by
     cases hl:l with
     | nil=>rfl
     | cons x r=>exact absurd ((HI.out.2.2.2.2.1 x).1 (by rw [hl];simp)) (by rw [gi];exact fun h=>h)
    have hln0:ln=0:=by rw [HLN.out.1,hl0];rfl
    have HBG:=Lib.hid (fun (W:World) (h:Below w6.heap.size w6 W)=>show Calls Tryz.prog 29 #[.agg #[.int .i64 a.k,.int .u64 (a.s0:Nat),.int .u64 (a.s1:Nat),.int .u64 (a.s2:Nat),.int .u64 (a.s3:Nat),.slice a.ta a.tn a.tc,.int .i64 a.lo,.int .i64 a.hi,.slice a.sA a.n a.sC,.slice a.cA a.cN a.cC,.slice (some ⟨a.ga,0,none⟩) a.n a.aC,.slice a.fA a.fN a.fC,.slice (some ⟨a.mb,0,none⟩) a.n a.n,.slice (some ⟨a.lb,0,none⟩) a.n a.n,.bool a.em],.int .u8 b] W (fun e w'=>∃ v,e=.returned v∧w'.ownsRow w6.heap.size 55 5 v ((bgL m b fl).map kcB).length (((bgL m b fl).map kcB).flatMap kcc)∧Below W.heap.size W w') from by
     have hF:=HF.out W (bhop H6.out h)
     exact (refBegin_any W hF.2.1 HP.out.cls HP.out.few b hb256).mono fun e w' ⟨⟨A,c,e1,e2⟩,e3⟩=>⟨_,e1,by rw [← cfc_kcc,List.length_map];exact own_low e2 h.size,e3⟩)
    have gi0:((i:Nat):Int)=0:=by omega
    subst gi hln0
    go_upto_region 8 with fail
    refine regNr8 #[.int .i64 a.k,.int .u64 (a.s0:Nat),.int .u64 (a.s1:Nat),.int .u64 (a.s2:Nat),.int .u64 (a.s3:Nat),.slice a.ta a.tn a.tc,.int .i64 a.lo,.int .i64 a.hi,.slice a.sA a.n a.sC,.slice a.cA a.cN a.cC,.slice (some ⟨a.ga,0,none⟩) a.n a.aC,.slice a.fA a.fN a.fC,.slice (some ⟨a.mb,0,none⟩) a.n a.n,.slice (some ⟨a.lb,0,none⟩) a.n a.n,.bool a.em] w.heap.size ug uo un c b (fun W v=>W.ownsRow w6.heap.size 55 5 v ((bgL m b fl).map kcB).length (((bgL m b fl).map kcB).flatMap kcc)) _ _ _ _ _ _ _ _ _ _ _ _ _ _ _ _ _ _ _ _ _ _ _ _ _ _ _ _ _ _ _ _ _ _ _ _ _ _ _ _ _ _ _ _ _ _ _ _ _ _ _ _ _ _ _ _ _ _ _ _ _ _ _ _ _ _ _ _ w6 (fun W h=>(HF.out W (bhop H6.out h)).1.blk) (by kernel_rfl) (fun W h=>HYB.out W h) (by omega) (fun W v W' h hbW=>own_chg h (Chg.of_below (R:=fun _=>False) hbW) fun _ _=>id) (fun W h=>HBG.out W h) _ ?_
    intros
    rename_i yv w20 hb20 hp20
    obtain ⟨oA,oc,hyv⟩:=own_form hp20
    subst hyv
    have hof:((bgL m b fl).map kcB).length≤115856201:=by
     rw [List.length_map]
     unfold bgL
     rw [List.length_map]
     have:=List.length_filter_le (fun q=>hasB (m.sets.getD q zeros) b) fl
     have:=HP.out.few
     omega
    have HNX:=Lib.hid (rb_next (i:=0) (out:=(bgL m b fl).map kcB) HP.out HI.out.2.1 HI.out.2.2.1 HW.out (bg_nodup HP.out.rise) (fun q=>by
     rw [show u.take (0+1)=[b] by
      cases u with
      | nil=>cases HW.out
      | cons x r=>rw [show x=b from Option.some.inj HW.out];rfl]
     rw [bhS_one]) hof hp20 H6.out hb20)
    obtain ⟨on,hon⟩ : ∃ n,n=((bgL m b fl).map kcB).length:=⟨_,rfl⟩
    rw [← hon] at HNX hof ⊢
    clear hp20 hb20 hon
    go_wp2_with fail
    go_loopw [9,10] (fun nv z wq=>z=.int .i64 ((0:Nat):Int)∧nv=.slice oA on oc∧wq=w20) (fun _ _ _=>0)
    case atStart=>exact ⟨rfl,rfl,rfl⟩
    case round =>
     obtain ⟨rfl,rfl,rfl⟩:=hrel
     go_wp2_with fail
     go_roundw
     case rel=>exact ⟨1,rfl,by omega,HNX.out⟩
     case measure=>first | omega | (simp;omega)
   ·have gi0:¬ ((i:Nat):Int)=0:=by omega
    have gi1:(((i:Nat):Int) == 0)=false:=by simpa using gi0
    go_upto_region 9 with fail
    clear gi0 gi1
    go_wp2_with fail
    go_loopw [9,10] (fun nv z wr=>∃ k:Nat,z=.int .i64 k∧k≤ln∧NxQ w6 (stepB m L (fun q=>q∈l.take k) b) nv wr) (fun _ z _=>match z with | .int _ z=>ln - z.toNat | _=>0)
    case atStart=>exact ⟨0,rfl,Nat.zero_le _,NxQ.nil w6 stepB_none⟩
    case round =>
     obtain ⟨k,rfl,hk1,nout,n1,n2,n3,hbr⟩:=hrel
     obtain ⟨nA,nc,rfl⟩:=own_form n3
     obtain ⟨wm,hwm⟩ : ∃ wm,wm=wr:=⟨_,rfl⟩
     subst hwm
     have hNx:NxQ w6 (stepB m L (fun q=>q∈l.take k) b) (.slice nA nout.length nc) wm:=⟨nout,n1,n2,n3,hbr⟩
     have HR:=Lib.hid (And.intro hk1 (And.intro hNx hbr))
     have HX:=Lib.hid (bhop H6.out hbr)
     have s1:(0:Int)≤(k:Int):=by omega
     have s3:((k:Int)).toNat=k:=by omega
     have wk:IntKind.i64.wrap ((k:Int)+1)=(k:Int)+1:=by have:=HLN.out.2;rw [IntKind.wrap_i64];omega
     by_cases g5:k<ln
     ·have s2:(k:Int)<(ln:Int):=by omega
      obtain ⟨p,hp⟩ : ∃ p,l[k]? = some p:=⟨_,List.getElem?_eq_getElem (by have:=HLN.out.1;omega)⟩
      obtain ⟨⟨pn,lf,hpp,hp1,hlf,hcn⟩,_⟩:=HLl.out p (List.mem_of_getElem? hp)
      obtain ⟨gg,hgg,_⟩:=HLR.out wm hbr k p hp
      have HKX:=Lib.hid (fun (W:World) (h:Below wm.heap.size wm W)=>show W.cell? ⟨gg,k * 5,none⟩=some (.int .i64 p.p)∧W.cell? ⟨gg,k * 5+1,none⟩=some (.int .i64 p.a)∧W.cell? ⟨gg,k * 5+2,none⟩=some (.int .i64 p.b)∧W.cell? ⟨gg,k * 5+3,none⟩=some (.int .i64 p.c)∧W.cell? ⟨gg,k * 5+4,none⟩=some (.int .i64 p.d) from by
       obtain ⟨g2,h1,_,h3⟩:=HLR.out W (bhop hbr h) k p hp
       obtain rfl:gg=g2:=by rw [hgg] at h1;simpa using h1
       exact h3)
      have hpl:pn<m.ars.length:=(List.getElem?_eq_some_iff.1 hlf).1
      have hgd:m.ars.getD p.p.toNat []=lf:=by rw [hpp,show ((pn:Int)).toNat=pn by omega,List.getD_eq_getElem?_getD,hlf];rfl
      have hLp:L p.p.toNat=L pn:=by rw [hpp,show ((pn:Int)).toNat=pn by omega]
      have hmv:=HP.out.mvl.good pn lf hlf
      have hfw:=HP.out.mvl.few pn hpl
      have HRS:=Lib.hid (fun (W:World) (h:Below wm.heap.size wm W)=>show Calls Tryz.prog 17 #[.agg #[.int .i64 a.k,.int .u64 (a.s0:Nat),.int .u64 (a.s1:Nat),.int .u64 (a.s2:Nat),.int .u64 (a.s3:Nat),.slice a.ta a.tn a.tc,.int .i64 a.lo,.int .i64 a.hi,.slice a.sA a.n a.sC,.slice a.cA a.cN a.cC,.slice (some ⟨a.ga,0,none⟩) a.n a.aC,.slice a.fA a.fN a.fC,.slice (some ⟨a.mb,0,none⟩) a.n a.n,.slice (some ⟨a.lb,0,none⟩) a.n a.n,.bool a.em],.agg #[.int .i64 p.p,.int .i64 p.a,.int .i64 p.b,.int .i64 p.c,.int .i64 p.d],.int .u8 b] W (fun e w'=>∃ v,e=.returned v∧StQ wm.heap.size m lf p.x b (L pn) w' v∧Below W.heap.size W w') from by
       have hF:=HF.out W (bhop HX.out h)
       have:=refStep_any W hF.2.1 hF.2.2.1 hlf p.x hcn HP.out.cls (fun j hj=>⟨by have:=(hmv j hj).2.1;rw [hF.2.1.ars] at this;exact this,(hmv j hj).2.2.1⟩) (by omega) b hb256
       rw [← hpp] at this
       exact this.mono fun e w' ⟨v,out,e1,e2,e3,e4,e5,e6⟩=>⟨v,e1,⟨out,e2,e3,e4,own_low e5 h.size⟩,e6⟩)
      have HPN:=Lib.hid (And.intro hgd (And.intro hLp (And.intro hp (And.intro g5 hfw))))
      subst hgg
      clear hk1 hNx n1 n2 n3 hgd hLp hmv hfw hpl hpp hlf hcn hp1
      go_upto_region 12 with fail
      refine regNr12 #[.int .i64 a.k,.int .u64 (a.s0:Nat),.int .u64 (a.s1:Nat),.int .u64 (a.s2:Nat),.int .u64 (a.s3:Nat),.slice a.ta a.tn a.tc,.int .i64 a.lo,.int .i64 a.hi,.slice a.sA a.n a.sC,.slice a.cA a.cN a.cC,.slice (some ⟨a.ga,0,none⟩) a.n a.aC,.slice a.fA a.fN a.fC,.slice (some ⟨a.mb,0,none⟩) a.n a.n,.slice (some ⟨a.lb,0,none⟩) a.n a.n,.bool a.em] w.heap.size ug uo un c b i gg ln lc k p.p p.a p.b p.c p.d (StQ wm.heap.size m lf p.x b (L pn)) _ _ _ _ _ _ _ _ _ _ _ _ _ _ _ _ _ _ _ _ _ _ _ _ _ _ _ _ _ _ _ _ _ _ _ _ _ _ _ _ _ _ _ _ _ _ _ _ _ _ _ _ _ _ _ _ _ _ _ _ _ _ _ _ _ wm (fun W h=>(HF.out W (bhop HX.out h)).1.blk) (by kernel_rfl) (fun W h=>HYB.out W (bhop hbr h)) (fun W h=>HKX.out W h) s1 s2 s3 (by omega) (by omega) (by omega) (fun W v W' h hbW=>StQ.keep W v W' h hbW) (fun W h=>HRS.out W h) _ ?_
      intros
      rename_i yv w20 hb20 hp20
      have HX20:=Lib.hid (bhop HX.out hb20)
      have HR20:=Lib.hid (And.intro (HR.out.2.1.step (S':=fun q=>stepB m L (fun q=>q∈l.take k) b q∨q∈([]:List Kc)) hb20 (fun q=>⟨.inl,fun h=>h.elim id fun h=>by cases h⟩)) hb20.size)
      obtain ⟨st,t1,t2,t3,t4⟩:=hp20
      obtain ⟨sA,sc,hsv⟩:=own_form t4
      obtain ⟨sn,hsn⟩ : ∃ n,n=st.length:=⟨_,rfl⟩
      rw [← hsn] at hsv t4
      subst hsv
      have HST:=Lib.hid (And.intro t1 (And.intro t2 (And.intro t3 (And.intro hsn t4))))
      have HRS0:=Lib.hid hbr.size
      clear t1 t2 t3 t4 hsn hb20 s1 s2 s3 hbr
      go_wp2_with fail
      go_loopw [9,12] (fun nv z wr=>∃ j:Nat,z=.int .i64 j∧j≤sn∧NxQ w6 (fun q=>stepB m L (fun q=>q∈l.take k) b q∨q∈st.take j) nv wr∧wr.ownsRow wm.heap.size 55 5 (.slice sA sn sc) sn (st.flatMap kcc)∧∀ y,nv.ownBlock=some y→(Value.slice sA sn sc).ownBlock≠some y) (fun _ z _=>match z with | .int _ z=>sn - z.toNat | _=>0)
      case atStart =>
       refine ⟨0,rfl,Nat.zero_le _,HR20.out.1,HST.out.2.2.2.2,fun y hy e=>?_⟩
       obtain ⟨_,_,_,ho,_⟩:=HR.out.2.1
       have:=(World.ownsRow.lt ho y hy).2
       have:=(World.ownsRow.lt HST.out.2.2.2.2 y e).1
       omega
      case round =>
       obtain ⟨j,rfl,hj1,⟨out,o1,o2,o3,o4⟩,hso,hdis⟩:=hrel
       obtain ⟨oA,oc,rfl⟩:=own_form o3
       obtain ⟨on,hon⟩ : ∃ n,n=out.length:=⟨_,rfl⟩
       have s1:(0:Int)≤(j:Int):=by omega
       have s3:((j:Int)).toNat=j:=by omega
       have hsn5:sn≤410:=by have:=HST.out.2.2.1;have:=HST.out.2.2.2.1;have:=HPN.out.2.2.2.2;omega
       have wj:IntKind.i64.wrap ((j:Int)+1)=(j:Int)+1:=by rw [IntKind.wrap_i64];omega
       have hstp:∀ q∈st,stepB m L (fun q=>q∈l) b q:=fun q hq=>⟨p,List.mem_of_getElem? HPN.out.2.2.1,by rw [HPN.out.1,HPN.out.2.1];exact (HST.out.2.1 q).1 hq⟩
       have hof:out.length≤115856201:=few_step HP.out.mvl HP.out.most HLl.out o1 fun q hq=>by
        rcases (o2 q).1 hq with h | h
        ·exact stepB_sub h
        ·exact hstp q (List.mem_of_mem_take h)
       by_cases g6:j<sn
       ·have s2:(j:Int)<(sn:Int):=by omega
        obtain ⟨kq,hkq⟩ : ∃ kq,st[j]? = some kq:=⟨_,List.getElem?_eq_getElem (by have:=HST.out.2.2.2.1;omega)⟩
        have hsn':=HST.out.2.2.2.1
        obtain ⟨gs,hgs,gsl,e0,e1,e2,e3,e4⟩:=own_cfs (l:=st) (A:=sA) (c:=sc) (H:=wm.heap.size) (by rw [← hsn'];exact hso) j kq hkq
        subst hgs
        have HHC:=Lib.hid (hasC_any wr oA oc out (own_cfs o3) (by omega) kq)
        have HO:=Lib.hid (And.intro o1 (And.intro o2 (And.intro o3 (And.intro o4 (And.intro hso (And.intro hdis (And.intro hof (And.intro hon (And.intro g6 (And.intro hkq hsn'))))))))))
        clear o1 o2 o3 o4 hso hdis hof hon hj1 hkq hstp hsn5 hsn'
        go_wp2_with fail
        go_at_call 18
        refine HHC.out.mono ?_
        rintro e w22 ⟨rfl,hb22⟩
        have f0:=(hb22.cell (p:=⟨gs,j * 5,none⟩) gsl).trans e0
        have f1:=(hb22.cell (p:=⟨gs,j * 5+1,none⟩) gsl).trans e1
        have f2:=(hb22.cell (p:=⟨gs,j * 5+2,none⟩) gsl).trans e2
        have f3:=(hb22.cell (p:=⟨gs,j * 5+3,none⟩) gsl).trans e3
        have f4:=(hb22.cell (p:=⟨gs,j * 5+4,none⟩) gsl).trans e4
        have HB22:=Lib.hid hb22
        clear hb22 e0 e1 e2 e3 e4
        cases hk2:hasK out kq with
        | true =>
         have HSK:=Lib.hid (hasK_iff.1 hk2)
         clear hk2 f0 f1 f2 f3 f4
         go_wp2_with fail
         go_roundw
         case rel =>
          refine ⟨j+1,by push_cast;rfl,HO.out.2.2.2.2.2.2.2.2.1,⟨out,HO.out.1,fun q=>?_,own_chg HO.out.2.2.1 (Chg.of_below (R:=fun _=>False) HB22.out) fun _ _=>id,bhop HO.out.2.2.2.1 HB22.out⟩,own_chg HO.out.2.2.2.2.1 (Chg.of_below (R:=fun _=>False) HB22.out) fun _ _=>id,HO.out.2.2.2.2.2.1⟩
          show q∈_↔(stepB m L (fun q=>q∈l.take k) b q∨q∈st.take (j+1))
          rw [take_mem HO.out.2.2.2.2.2.2.2.2.2.1,← or_assoc,← show q∈out↔(stepB m L (fun q=>q∈l.take k) b q∨q∈st.take j) from HO.out.2.1 q]
          exact ⟨.inl,fun h=>h.elim id fun h=>h▸HSK.out⟩
         case measure=>have:=HO.out.2.2.2.2.2.2.2.2.1;simp;omega
        | false =>
         have hkn:kq ∉ out:=fun h=>by rw [hasK_iff.2 h] at hk2;cases hk2
         have HKN:=Lib.hid hkn
         have own9:w22.ownsRow w6.heap.size 55 5 (.slice oA on oc) on (out.flatMap kcc):=by rw [HO.out.2.2.2.2.2.2.2.1];exact own_chg HO.out.2.2.1 (Chg.of_below (R:=fun _=>False) HB22.out) fun _ _=>id
         have HO9:=Lib.hid own9
         have HBN:=Lib.hid (show on≤115856201 by have:=HO.out.2.2.2.2.2.2.1;have:=HO.out.2.2.2.2.2.2.2.1;omega)
         have hS9:=(bhop HO.out.2.2.2.1 HB22.out).size
         clear hk2 hkn
         rw [← HO.out.2.2.2.2.2.2.2.1]
         go_upto_region 17 with fail
         go_wp2_with ((at_builtin;refine wpList_append_lies _ (by rfl) _ _ 42 (by rfl) w6.heap.size 55 i0 _ 5 40 Tryz.underlying42 hi hz0 hz1 hz2 rfl (by decide) (.slice oA on oc) on (out.flatMap kcc) (by rfl) (World.ownsRow.alloc own9 _) ⟨w22.heap.size,0,none⟩ 1 1 [.int .i64 kq.p,.int .i64 kq.a,.int .i64 kq.b,.int .i64 kq.c,.int .i64 kq.d] (by rfl) rfl (World.news_of_block (heap_alloc_new w22 _)) (by simp [Value.oneCell']) (by decide) ?c3 ?c4 ?c5 _ rfl ?_))
         case c3=>have:=HBN.out;unfold maxLen;omega
         case c4=>have:=HBN.out;omega
         case c5=>simp;omega
         intro gB cpB wB hown2 hgrow hat _
         have HA:=Lib.hid (own_pushK (q:=kq) (acc:=out) (v:=.slice oA on oc) (by rw [← HO.out.2.2.2.2.2.2.2.1];exact HO9.out) (bhop HO.out.2.2.2.1 HB22.out) hS9 (by rw [← HO.out.2.2.2.2.2.2.2.1];exact hown2) hgrow)
         have hcB:Chg (fun x=>(Value.slice oA on oc).ownBlock=some x) w22 wB:=((Chg.refl _ w22).alloc _).grown hgrow fun k hk _=>hk
         have hs9:=own_chg HO.out.2.2.2.2.1 (Chg.of_below (R:=fun _=>False) HB22.out) fun _ _=>id
         have hd9:∀ y,(Value.slice oA on oc).ownBlock=some y→(Value.slice (some ⟨gs,0,none⟩) sn sc).ownBlock≠some y:=by rw [HO.out.2.2.2.2.2.2.2.1];exact HO.out.2.2.2.2.2.1
         have hsB:=own_chg hs9 hcB (fun y hy e=>hd9 y e hy)
         have hlt9:=World.ownsRow.lt hs9
         have HSB:=Lib.hid (And.intro hsB (show ∀ y,(Value.slice (some ⟨gB,0,none⟩) (on+1) cpB).ownBlock=some y→(Value.slice (some ⟨gs,0,none⟩) sn sc).ownBlock≠some y from fun y hy e=>by
          rcases hat with h | h
          ·exact hd9 y (h.trans hy) e
          ·have h1:=(hlt9 y e).2
           have h2:gB=y:=by simpa [Value.ownBlock] using hy
           have h3:w22.heap.size≤gB:=by first | omega | (rw [h];simp)
           omega))
         clear hown2 hgrow hat hcB hs9 hd9 hsB hlt9 own9 hS9 f0 f1 f2 f3 f4
         go_wp2_with fail
         go_roundw
         case rel =>
          refine ⟨j+1,by push_cast;rfl,HO.out.2.2.2.2.2.2.2.2.1,⟨out ++ [kq],List.nodup_append.2 ⟨HO.out.1,by simp,fun u hu v hv e=>by
           rw [List.mem_singleton.1 hv] at e
           exact HKN.out (e▸hu)⟩,fun q=>?_,by rw [HO.out.2.2.2.2.2.2.2.1];exact HA.out.1,HA.out.2⟩,HSB.out.1,HSB.out.2⟩
          show q∈_↔(stepB m L (fun q=>q∈l.take k) b q∨q∈st.take (j+1))
          rw [take_mem HO.out.2.2.2.2.2.2.2.2.2.1,← or_assoc,← show q∈out↔(stepB m L (fun q=>q∈l.take k) b q∨q∈st.take j) from HO.out.2.1 q,List.mem_append,List.mem_singleton]
         case measure=>have:=HO.out.2.2.2.2.2.2.2.2.1;simp;omega
       ·have s2:¬ (j:Int)<(sn:Int):=by omega
        have hjs:st.take j=st:=List.take_of_length_le (by have:=HST.out.2.2.2.1;omega)
        have HN:=Lib.hid (show NxQ w6 (stepB m L (fun q=>q∈l.take (k+1)) b) (.slice oA out.length oc) wr from ⟨out,o1,fun q=>by
         rw [show q∈out↔(stepB m L (fun q=>q∈l.take k) b q∨q∈st.take j) from o2 q,hjs,stepB_take HPN.out.2.2.1,HPN.out.1,HPN.out.2.1,HST.out.2.1 q],o3,o4⟩)
        clear o1 o2 o3 o4 hso hdis hof hj1 hjs hstp
        go_wp2_with fail
        go_roundw
        case rel=>exact ⟨k+1,by push_cast;rfl,HPN.out.2.2.2.1,HN.out⟩
        case measure=>have:=HPN.out.2.2.2.1;simp;omega
     ·have s2:¬ (k:Int)<(ln:Int):=by omega
      have hkl:l.take k=l:=List.take_of_length_le (by have:=HLN.out.1;omega)
      rw [hkl] at n2
      clear hk1 hNx hkl
      have hof:nout.length≤115856201:=few_step HP.out.mvl HP.out.most HLl.out n1 fun q hq=>(n2 q).1 hq
      have hbe:∀ q,q∈nout↔bhS m fl L (u.take (i+1)) q:=fun q=>by
       have hne:u.take i≠[]:=fun e=>by
        have:=congrArg List.length e
        rw [List.length_take,List.length_nil] at this
        have:=HU.out.1
        omega
       rw [n2 q,show u.take (i+1)=u.take i ++ [b] by rw [List.take_add_one,HW.out];rfl,bhS_snoc hne]
       exact exists_congr fun k=>and_congr_left fun _=>HI.out.2.2.2.2.1 k
      have HNX:=Lib.hid (rb_next HP.out HI.out.2.1 HI.out.2.2.1 HW.out n1 hbe hof n3 H6.out hbr)
      clear n1 n2 n3 hbe hbr
      go_wp2_with fail
      go_roundw
      case rel=>exact ⟨i+1,by push_cast;rfl,by omega,HNX.out⟩
      case measure=>first | omega | (simp;omega)
  ·have s2:¬ (i:Int)<(un:Int):=by omega
   have hiu:u.take i=u:=List.take_of_length_le (by have:=HU.out.1;omega)
   rw [hiu] at hz o2
   have HE:=Lib.hid (And.intro hz (And.intro hzl (And.intro o1 (And.intro o2 (And.intro (own_cfs o3) (And.intro o4 (And.intro hln hfl)))))))
   clear hz hzl o1 o2 o3 o4 hok hfl hiu hln hi1
   go_wp2_with fail
   refine bodyPost_ret (v:=.tuple #[.slice lA ln lc,.int .i64 (z:Nat)]) (by simp [results,Tryz.results13,go_sem]) rfl ?_
   exact ⟨lA,lc,l,z,by rw [HE.out.2.2.2.2.2.2.1],HE.out.2.2.1,HE.out.2.2.2.1,HE.out.2.2.2.2.1,HE.out.1,HE.out.2.1,HE.out.2.2.2.2.2.2.2,bhop HB.out HE.out.2.2.2.2.2.1⟩
end Go.Proofs.YtnmjicfpmkoldaaGreatDoor
