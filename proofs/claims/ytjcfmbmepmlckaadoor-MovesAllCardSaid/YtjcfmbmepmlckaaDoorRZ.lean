/- Of every tree the statement MovesAll returns true, and it reads afterwards as before; the card: what its row lists is tied to the program's text.
   No condition. -/
import Derived.Test.YtjcfmbmepmlckaaDoorPR
import Derived.Test.YtjcfmbmepmlckaaDoorPQ
import Derived.Test.YtjcfmbmepmlckaaDoorMRo
import Derived.Test.YtjcfmbmepmlckaaDoorMRefF
import Derived.Test.YtjcfmbmepmlckaaDoorRY
import Derived.Deep.DeepCutAuto
import Derived.Deep.RegionHeld3
import Derived.Deep.OwnRows
import Derived.Test.YtjcfmbmepmlckaaDoorPM
import Derived.Test.YtjcfmbmepmlckaaDoorMRef
import Derived.Test.YtjcfmbmepmlckaaDoorCards
import Derived.Test.YtjcfmbmepmlckaaDoorTie
import Derived.ProofKit
import Derived.LaidMore
import Derived.OpenShut
import Derived.ChangeOld
import Derived.Below
import Derived.SevenTiedAt

/- The walk of the statement MovesAll: called with a tree it returns true and changes nothing that was there.
   Conditions: the tree lies in memory, and the library's table. -/
namespace Go.Proofs.YtjcfmbmepmlckaaDoor
open Go.RowKit Go.Shelf
attribute [local go_sem] nodeAgg
def FdO (w:World) (l:List Mv) (x:Mv) (c:Nat) (u v:Value) (wr:World):Prop:=∃ (k:Nat) (fb:Bool),u=.bool fb∧(fb=true↔x∈l.take k)∧v=.int .i64 k∧c=l.length - k∧k≤l.length∧Below w.heap.size w wr
set_option maxHeartbeats 8000000 in
set_option maxRecDepth 100000 in
theorem all6_walk (a:V) (w:World) (R:Nat→Prop) (ha:Laid w R a) (hT:TabE w) (hTl:tabE<w.heap.size) :
  Calls Tryd.prog 3 #[nodeAgg a] w fun e w'=>e=.returned (.bool true)∧Below w.heap.size w w':=by
 obtain ⟨sa,sc,hv0,_⟩:=laid_row' ha
 obtain ⟨sn,hsn⟩ : ∃ sn,sn=a.ps.length:=⟨_,rfl⟩
 rw [← hsn] at hv0
 obtain ⟨w1,hw1,hbw1,hlt1,hbx⟩:=box_new w a (.slice sa sn sc)
 have HTT:=Lib.hid (fun (W:World) (h:Below w.heap.size w W)=>And.intro (tab_below hT hTl h) (Nat.lt_of_lt_of_le hTl h.size))
 have HSa:=Lib.hid (fun (W:World) (h:Below w.heap.size w W)=>by
  have:=size_any 100 (by omega) a W R (laid_low ha h)
  rw [nodeAgg_v hv0] at this
  exact this)
 have HMg:=Lib.hid (fun (W:World) (h:Below w.heap.size w W) (hz:szT (erase a)≤100) (hok:okT (erase a)=true) (m:PM) (hm:mapT (simT (erase a))=some m)=>by
  have:=make_good a W R (laid_low ha h) (by omega) hok m hm (tab_below hT hTl h) (Nat.lt_of_lt_of_le hTl h.size)
  rw [nodeAgg_v hv0] at this
  exact this)
 have HFo:=Lib.hid (fun (W:World) (h:Below w.heap.size w W) (hz:szT (erase a)≤100)=>by
  have:=formed_ref 1000000 (Nat.le_refl _) a W R (by omega) (laid_low ha h)
  rw [nodeAgg_v hv0] at this
  exact this)
 have HRf:=Lib.hid (fun (W:World) (h:Below w.heap.size w W) (hz:szT (erase a)≤100) (hok:okT (erase a)=true)=>by
  have:=refOf_any a W R (laid_low ha h) (by omega) hok
  rw [nodeAgg_v hv0] at this
  exact this)
 have HBX:=Lib.hid hbx
 have HBW:=Lib.hid hbw1
 rw [nodeAgg_v hv0]
 clear hbx ha hv0 hsn hlt1 hbw1 hT hTl
 go_enter Tryd.func3,Tryd.ntmps3
 go_upto_region 1 with fail
 clear hw1
 go_wp2_with fail
 go_at_call 4
 refine (awake6_any _ (HTT.out _ HBW.out).1 (HTT.out _ HBW.out).2).mono ?_
 rintro e w3 ⟨rfl,hb3⟩
 obtain ⟨q0,q1,q2,q3,q4,q5,q6,q7⟩:=HBX.out w3 hb3
 have HB3:=Lib.hid hb3
 clear hb3
 go_wp2_with fail
 go_at_call 5
 refine (HSa.out _ (bhop HBW.out HB3.out)).mono ?_
 rintro e w5 ⟨rfl,hb4⟩
 have HB5:=Lib.hid (bhop HB3.out hb4)
 clear hb4 q0 q1 q2 q3 q4 q5 q6 q7
 obtain ⟨q0,q1,q2,q3,q4,q5,q6,q7⟩:=HBX.out w5 HB5.out
 by_cases hA:szT (erase a)≤100
 ·have hA2:min (szT (erase a)) (100+1)=szT (erase a):=by omega
  rw [hA2]
  have g1:¬ (100:Int)<((szT (erase a):Nat):Int):=by omega
  have HA:=Lib.hid hA
  clear hA hA2
  go_wp2_with fail
  go_at_call 6
  refine (HFo.out w5 (bhop HBW.out HB5.out) HA.out).mono ?_
  rintro e w8 ⟨rfl,hb8⟩
  have HB8:=Lib.hid (bhop HB5.out hb8)
  clear hb8 q0 q1 q2 q3 q4 q5 q6 q7
  rcases Bool.eq_false_or_eq_true (okT (erase a)) with hok | hok
  ·have HOK:=Lib.hid hok
   rw [hok]
   clear hok
   obtain ⟨q0,q1,q2,q3,q4,q5,q6,q7⟩:=HBX.out w8 HB8.out
   go_wp2_with fail
   go_at_call 7
   refine (HRf.out w8 (bhop HBW.out HB8.out) HA.out HOK.out).mono ?_
   rintro e w9 ⟨⟨r2,pt,ptn,ptc,pA,pN,pC,pcA,pcN,pcC,paA,paN,paC,hP,hrv2,rfl⟩,hb9⟩
   have HB9:=Lib.hid (bhop HB8.out hb9)
   clear hb9 q0 q1 q2 q3 q4 q5 q6 q7
   cases hm:mapT (simT (erase a)) with
   | none =>
    rw [show codeP (none:Option PM)=3 from rfl]
    clear hP hrv2 hm
    go_upto_region 4 with fail
    generalize hw10:w9.alloc _=w10
    have hb10:Below w9.heap.size w9 w10:=hw10▸(Below.refl _ w9).alloc (Nat.le_refl _) _
    have HB10:=Lib.hid (bhop HB9.out hb10)
    clear hw10 hb10
    go_wp2_with fail
    go_ret
    exact ⟨rfl,bhop HBW.out HB10.out⟩
   | some m =>
    rw [show codeP (some m)=0 from rfl]
    have HMP:=Lib.hid hm
    have htr:erase r2=simT (erase a):=by have:=hP.tree;rw [hm] at this;exact this
    obtain ⟨w10,hw10⟩ : ∃ w10,w9.alloc (.cells #[.int .i64 r2.kind,.int .u64 (r2.set 0:Nat),.int .u64 (r2.set 1:Nat),.int .u64 (r2.set 2:Nat),.int .u64 (r2.set 3:Nat),.slice pt ptn ptc,.int .i64 r2.lo,.int .i64 r2.hi,.slice pA pN pC,.slice pcA pcN pcC,.slice paA paN paC] 35)=w10:=⟨_,rfl⟩
    have hb10:Below w9.heap.size w9 w10:=hw10▸(Below.refl _ w9).alloc (Nat.le_refl _) _
    have hmp:=(row_cells (hw10▸heap_alloc_new w9 _:w10.heap[w9.heap.size]? = some (.cells #[.int .i64 r2.kind,.int .u64 (r2.set 0:Nat),.int .u64 (r2.set 1:Nat),.int .u64 (r2.set 2:Nat),.int .u64 (r2.set 3:Nat),.slice pt ptn ptc,.int .i64 r2.lo,.int .i64 r2.hi,.slice pA pN pC,.slice pcA pcN pcC,.slice paA paN paC] 35 (0,0)))).1
    have p0:=hmp 0;have p1:=hmp 1;have p2:=hmp 2;have p3:=hmp 3;have p4:=hmp 4;have p5:=hmp 5;have p6:=hmp 6;have p7:=hmp 7
    have hml:w9.heap.size<w10.heap.size:=by rw [← hw10];simp
    have HB10:=Lib.hid (bhop HB9.out hb10)
    have HPC:=Lib.hid (fun (W:World) (h:Below w10.heap.size w10 W)=>show W.cell? ⟨w9.heap.size,0,none⟩=some (.int .i64 r2.kind)∧W.cell? ⟨w9.heap.size,1,none⟩=some (.int .u64 (r2.set 0:Nat))∧W.cell? ⟨w9.heap.size,2,none⟩=some (.int .u64 (r2.set 1:Nat))∧W.cell? ⟨w9.heap.size,3,none⟩=some (.int .u64 (r2.set 2:Nat))∧W.cell? ⟨w9.heap.size,4,none⟩=some (.int .u64 (r2.set 3:Nat))∧W.cell? ⟨w9.heap.size,5,none⟩=some (.slice pt ptn ptc)∧W.cell? ⟨w9.heap.size,6,none⟩=some (.int .i64 r2.lo)∧W.cell? ⟨w9.heap.size,7,none⟩=some (.int .i64 r2.hi) from
     ⟨(h.cell (p:=⟨w9.heap.size,0,none⟩) hml).trans p0,(h.cell (p:=⟨w9.heap.size,1,none⟩) hml).trans p1,(h.cell (p:=⟨w9.heap.size,2,none⟩) hml).trans p2,(h.cell (p:=⟨w9.heap.size,3,none⟩) hml).trans p3,(h.cell (p:=⟨w9.heap.size,4,none⟩) hml).trans p4,(h.cell (p:=⟨w9.heap.size,5,none⟩) hml).trans p5,(h.cell (p:=⟨w9.heap.size,6,none⟩) hml).trans p6,(h.cell (p:=⟨w9.heap.size,7,none⟩) hml).trans p7⟩)
    have hokr:okF r2:=by show okT (erase r2)=true;rw [htr];exact (sim_ws _ HOK.out).ok
    have hszr:szT (erase r2)≤1000:=by rw [htr];have:=sim_sz (erase a);have:=HA.out;omega
    have hlr:Laid w10 (fun _=>True) r2:=(laid_low hP.laid hb10).mono fun _ _ _=>trivial
    have HP2:=Lib.hid (And.intro htr (And.intro hokr (And.intro hszr (And.intro hlr hrv2))))
    clear hP hb10 hmp p0 p1 p2 p3 p4 p5 p6 p7 hml htr hokr hszr hlr hrv2 hm
    go_upto_region 6 with fail
    clear hw10
    obtain ⟨q0,q1,q2,q3,q4,q5,q6,q7⟩:=HBX.out w10 HB10.out
    go_wp2_with fail
    go_at_call 8
    refine (HMg.out w10 (bhop HBW.out HB10.out) HA.out HOK.out m HMP.out).mono ?_
    rintro e w6 ⟨⟨r,ta,tn,tc,sA,sN,sC,cA,cN,cC,aA,aN,aC,fA,fN,fC,lb,bb,em,vs,L,hR,hrv,rfl⟩,hb6⟩
    have HB6:=Lib.hid (bhop HB10.out hb6)
    have hs:sN=m.sets.length:=own_n hR.lists.sets
    have hs41:sN≤41:=by have:=hR.sets;omega
    obtain ⟨w7,hw7⟩ : ∃ w7,w6.alloc (.cells #[.int .i64 r.kind,.int .u64 (r.set 0:Nat),.int .u64 (r.set 1:Nat),.int .u64 (r.set 2:Nat),.int .u64 (r.set 3:Nat),.slice ta tn tc,.int .i64 r.lo,.int .i64 r.hi,.slice sA sN sC,.slice cA cN cC,.slice aA aN aC,.slice fA fN fC,.slice (some ⟨lb,0,none⟩) sN sN,.slice (some ⟨bb,0,none⟩) sN sN,.bool em] 43)=w7:=⟨_,rfl⟩
    have hb67:Below w6.heap.size w6 w7:=hw7▸(Below.refl _ w6).alloc (Nat.le_refl _) _
    have c12:=(row_cells (hw7▸heap_alloc_new w6 _:w7.heap[w6.heap.size]? = some (.cells #[.int .i64 r.kind,.int .u64 (r.set 0:Nat),.int .u64 (r.set 1:Nat),.int .u64 (r.set 2:Nat),.int .u64 (r.set 3:Nat),.slice ta tn tc,.int .i64 r.lo,.int .i64 r.hi,.slice sA sN sC,.slice cA cN cC,.slice aA aN aC,.slice fA fN fC,.slice (some ⟨lb,0,none⟩) sN sN,.slice (some ⟨bb,0,none⟩) sN sN,.bool em] 43 (0,0)))).1 12
    have hmbl:w6.heap.size<w7.heap.size:=by rw [← hw7];simp
    have HR:=Lib.hid (hR.step hb67)
    have hrows:=HR.out.rows
    rw [HR.out.mvv,← hs] at hrows
    have HW:=Lib.hid hrows
    have HM:=Lib.hid (fun (p:Nat) (hp:p<sN)=>HR.out.moves p (by omega))
    have HX7:=Lib.hid (show Below w10.heap.size w10 w7 from bhop hb6 hb67)
    have HB7:=Lib.hid (show Below w.heap.size w w7 from bhop (bhop HBW.out HB6.out) hb67)
    have HC:=Lib.hid (fun (W:World) (h:Below w7.heap.size w7 W)=>show W.cell? ⟨w6.heap.size,12,none⟩=some (.slice (some ⟨lb,0,none⟩) sN sN)∧w6.heap.size<W.heap.size from
     ⟨(h.cell (p:=⟨w6.heap.size,12,none⟩) hmbl).trans c12,Nat.lt_of_lt_of_le hmbl h.size⟩)
    have HEg:=Lib.hid (fun (W:World) (h:Below w10.heap.size w10 W)=>by
     obtain ⟨htr,hokr,hszr,hlr,hrv2⟩:=HP2.out
     have hpos:npos (erase r2)≤41:=by
      have h1:=map_pos HMP.out
      rw [htr]
      omega
     have:=edges_any 1000 (Nat.le_refl _) r2 W _ 0 0 hszr (laid_low hlr h) hokr (by omega) (by omega)
     rw [nodeAgg_v hrv2,show ((0:Nat):Int)=0 from rfl,htr] at this
     exact this)
    clear hb67 hrows hR hrv hs hb6 c12 hmbl q0 q1 q2 q3 q4 q5 q6 q7
    go_upto_region 7 with fail
    clear hw7
    obtain ⟨p0,p1,p2,p3,p4,p5,p6,p7⟩:=HPC.out w7 HX7.out
    go_wp2_with fail
    go_at_call 9
    refine (HEg.out w7 HX7.out).mono ?_
    rintro e w12 ⟨⟨ev,l,rfl,hE,hm,hl⟩,hb12⟩
    obtain ⟨eA,eC,rfl⟩:=own_form hE
    have HB12:=Lib.hid hb12
    have hl1:l.length≤40000000000:=by
     have h1:=HP2.out.2.2.1
     rw [HP2.out.1] at h1
     omega
    obtain ⟨en,hen⟩ : ∃ en,en=l.length:=⟨_,rfl⟩
    rw [← hen] at hE hl1
    rw [← hen]
    have HE:=Lib.hid (And.intro hE (And.intro hm hl))
    have HEN:=Lib.hid hen
    clear hen
    clear hE hm hl hb12 p0 p1 p2 p3 p4 p5 p6 p7
    go_wp2_with fail
    go_loopw [8] (fun x wr=>∃ n,LpO w12 sN n x wr) (fun x wr=>leastOf (fun n=>LpO w12 sN n x wr))
    case atStart=>exact ⟨_,0,rfl,rfl,by omega,Below.refl _ _⟩
    case round =>
     have hls:=(leastOf_spec hrel).1
     obtain ⟨p,rfl,hN,hp1,hb⟩:=hls
     have HN:=Lib.hid hN
     have HBp:=Lib.hid hb
     clear hN hrel
     have s1:(0:Int)≤(p:Int):=by omega
     obtain ⟨d12,dlt⟩:=HC.out wr (bhop HB12.out hb)
     clear hb
     by_cases g4:p<sN
     ·have s2:(p:Int)<(sN:Int):=by omega
      have s3:((p:Int)).toNat=p:=by omega
      have HP:=Lib.hid (fun (W:World) (h:Below w12.heap.size w12 W)=>show LpO w12 sN (sN - (p+1)) (.int .i64 ((p:Int)+1)) W from ⟨p+1,by push_cast;rfl,rfl,by omega,h⟩)
      have hlen:=mv_max HW.out g4
      go_wp2_with fail
      clear d12 dlt
      go_loopw [9] (fun x wr=>∃ n,LpO w12 (L p).length n x wr) (fun x wr=>leastOf (fun n=>LpO w12 (L p).length n x wr))
      case atStart=>exact ⟨_,0,rfl,rfl,by omega,HBp.out⟩
      case round =>
       have hls:=(leastOf_spec hrel).1
       obtain ⟨i,rfl,hN2,hi1,hb⟩:=hls
       have HN2:=Lib.hid hN2
       have HBi:=Lib.hid hb
       clear hN2 hrel
       obtain ⟨d12,dlt⟩:=HC.out wr (bhop HB12.out hb)
       obtain ⟨A,c,m1,m2,m3⟩:=mv_read (HW.out.below (bhop HB12.out hb)) g4
       obtain ⟨ln,hln⟩ : ∃ ln,ln=(L p).length:=⟨_,rfl⟩
       have HLN:=Lib.hid hln
       rw [← hln] at m1 hi1 hlen
       clear hln hb
       have v1:(0:Int)≤(i:Int):=by omega
       by_cases g5:i<ln
       ·have v2:(i:Int)<(ln:Int):=by omega
        have v3:((i:Int)).toNat=i:=by omega
        obtain ⟨x,hx⟩ : ∃ x,(L p)[i]? = some x:=⟨_,List.getElem?_eq_getElem (by have:=HLN.out;omega)⟩
        obtain ⟨g,rfl,hg,x0,x1,x2⟩:=m3 i x hx
        have hmem:stOf p x∈l:=(HE.out.2.1 _).2 (((HM.out p g4).2 x).1 (List.mem_of_getElem? hx))
        have HAS:=Lib.hid (fun (W:World) (h:Below w12.heap.size w12 W)=>show Calls Tryd.prog 10 #[.slice eA en eC,.int .i64 (p:Nat),.agg #[.int .i64 (x.tt:Nat),.int .i64 (x.kp:Nat),.bool x.ag]] W _ from has_any W w7.heap.size eA en eC l (stOf p x) hmem (own_chg HE.out.1 (Chg.of_below (R:=fun _=>False) h) fun _ _=>id))
        have HQ2:=Lib.hid (fun (W:World) (h:Below w12.heap.size w12 W)=>show LpO w12 (L p).length ((L p).length - (i+1)) (.int .i64 ((i:Int)+1)) W from ⟨i+1,by push_cast;rfl,rfl,by have:=HLN.out;omega,h⟩)
        have HLT:=Lib.hid (show (L p).length - (i+1)<(L p).length - i by have:=HLN.out;omega)
        have HCL:=Lib.hid (fun (W:World) (h:Below wr.heap.size wr W)=>show W.cell? ⟨w6.heap.size,12,none⟩=some (.slice (some ⟨lb,0,none⟩) sN sN)∧W.cell? ⟨lb,p,none⟩=some (.slice (some ⟨g,0,none⟩) ln c)∧W.cell? ⟨g,i * 3,none⟩=some (.int .i64 (x.tt:Nat))∧W.cell? ⟨g,i * 3+1,none⟩=some (.int .i64 (x.kp:Nat))∧W.cell? ⟨g,i * 3+2,none⟩=some (.bool x.ag) from
         ⟨(h.cell (p:=⟨w6.heap.size,12,none⟩) dlt).trans d12,(h.cell (p:=⟨lb,p,none⟩) m2).trans m1,(h.cell (p:=⟨g,i * 3,none⟩) hg).trans x0,(h.cell (p:=⟨g,i * 3+1,none⟩) hg).trans x1,(h.cell (p:=⟨g,i * 3+2,none⟩) hg).trans x2⟩)
        rcases Nat.eq_zero_or_pos i with hi0 | hi0
        ·have e5:¬ 0<i:=by omega
         clear m3 hx hmem hi0
         go_upto_region 16 with fail
         refine regRa0 (ab:=w6.heap.size) (lb:=lb) (g:=g) (sN:=sN) (ln:=ln) (c:=c) (p:=p) (ix:=i) (en:=en) (eC:=eC) (eA:=eA) (xt:=(x.tt:Nat)) (xk:=(x.kp:Nat)) (xa:=x.ag) (hlm:=fun W h=>(HCL.out W h).1) (hr:=fun W h=>(HCL.out W h).2.1) (hx0:=fun W h=>(HCL.out W h).2.2.1) (hx1:=fun W h=>(HCL.out W h).2.2.2.1) (hx2:=fun W h=>(HCL.out W h).2.2.2.2) (hc1:=fun W h=>HAS.out W (bhop HBi.out h)) (e1:=s2) (e2:=s1) (t1:=s3) (e3:=v2) (e4:=v1) (t2:=v3) (e5:=e5) (D:=_) (v0:=_) (v1:=_) (v2:=_) (v3:=_) (v4:=_) (v6:=_) (v10:=_) (v11:=_) (v12:=_) (v13:=_) (v14:=_) (v15:=_) (v16:=_) (v17:=_) (v18:=_) (v19:=_) (v20:=_) (v21:=_) (v22:=_) (v23:=_) (v24:=_) (v25:=_) (v26:=_) (v27:=_) (v28:=_) (v29:=_) (v30:=_) (v31:=_) (v32:=_) (v33:=_) (v34:=_) (v35:=_) (v36:=_) (v37:=_) (v38:=_) (v39:=_) (v40:=_) (v41:=_) (v42:=_) (v43:=_) (v44:=_) (v45:=_) (v46:=_) (v47:=_) (v48:=_) (v49:=_) (v50:=_) (v51:=_) (v52:=_) (v53:=_) (v54:=_) (v55:=_) (v56:=_) (v57:=_) (v58:=_) (v59:=_) (v97:=_) (v98:=_) (v99:=_) (v100:=_) (v101:=_) (v102:=_) (v103:=_) (v104:=_) (v105:=_) (v106:=_) (v107:=_) (v108:=_) (v109:=_) (v110:=_) (v111:=_) (v112:=_) (v113:=_) (v114:=_) (v115:=_) (v116:=_) (v117:=_) (v118:=_) (v119:=_) (v120:=_) (v121:=_) (v122:=_) (v123:=_) (v124:=_) (v125:=_) (v126:=_) (v127:=_) (v128:=_) (v129:=_) (v130:=_) (v131:=_) (v132:=_) (v133:=_) (v134:=_) (v135:=_) (v136:=_) (v137:=_) (v138:=_) (v139:=_) (v140:=_) (v141:=_) (v142:=_) (v143:=_) (v144:=_) (v145:=_) (v146:=_) (v147:=_) (v148:=_) (v149:=_) (v150:=_) (wy0:=_) (wy1:=_) (wy2:=_) (wy3:=_) (wy4:=_) (wy5:=_) (wy6:=_) (wy7:=_) (wy8:=_) (wy9:=_) (wy10:=_) (wy11:=_) (wy12:=_) (wy13:=_) (wy14:=_) (wy15:=_) (wy16:=_) (wy17:=_) (wy18:=_) (wy19:=_) (wy20:=_) (wy21:=_) (wy22:=_) (wy23:=_) (wy24:=_) (wy25:=_) (wy26:=_) (wy27:=_) (wy28:=_) (wy29:=_) (wy30:=_) (wy31:=_) (wy32:=_) (wy33:=_) (wy34:=_) (wy35:=_) (wy36:=_) (w:=_) (Q:=_) (hQ:=?_)
         intros
         rename_i w13 hb13
         dsimp only
         have HB13:=Lib.hid hb13
         clear hb13 x0 x1 x2 m1 d12
         go_wp2_with fail
         go_roundw
         case rel=>exact ⟨_,HQ2.out _ (bhop HBi.out HB13.out)⟩
         case measure =>
          rw [HN2.out]
          exact Nat.lt_of_le_of_lt (leastOf_le (HQ2.out _ (bhop HBi.out HB13.out))) HLT.out
        ·obtain ⟨jx,hjx⟩ : ∃ jx,i=jx+1:=⟨i - 1,by omega⟩
         obtain ⟨y,hy⟩ : ∃ y,(L p)[jx]? = some y:=⟨_,List.getElem?_eq_getElem (by have:=HLN.out;omega)⟩
         obtain ⟨g',hgg,_,y0,y1,y2⟩:=m3 jx y hy
         obtain rfl:g=g':=by simpa using hgg
         have HYL:=Lib.hid (fun (W:World) (h:Below wr.heap.size wr W)=>show W.cell? ⟨g,jx * 3,none⟩=some (.int .i64 (y.tt:Nat))∧W.cell? ⟨g,jx * 3+1,none⟩=some (.int .i64 (y.kp:Nat))∧W.cell? ⟨g,jx * 3+2,none⟩=some (.bool y.ag) from
          ⟨(h.cell (p:=⟨g,jx * 3,none⟩) hg).trans y0,(h.cell (p:=⟨g,jx * 3+1,none⟩) hg).trans y1,(h.cell (p:=⟨g,jx * 3+2,none⟩) hg).trans y2⟩)
         have HAH:=Lib.hid (show mvLt y x by
          obtain ⟨h1,e1⟩:=List.getElem?_eq_some_iff.1 hx
          obtain ⟨h2,e2⟩:=List.getElem?_eq_some_iff.1 hy
          have h3:=List.pairwise_iff_getElem.1 (HM.out p g4).1 jx i h2 h1 (by omega)
          rw [e1,e2] at h3
          exact h3)
         have e6:(i:Int) - 1=(jx:Int):=by omega
         have e7:(jx:Int)<(ln:Int):=by omega
         have e8:(0:Int)≤(jx:Int):=by omega
         have e9:IntKind.i64.wrap ((jx:Int))=(jx:Int):=by rw [IntKind.wrap_i64];omega
         clear m3 hx hy hmem hjx hgg y0 y1 y2
         go_upto_region 16 with fail
         refine regRa1 (ab:=w6.heap.size) (lb:=lb) (g:=g) (sN:=sN) (ln:=ln) (c:=c) (p:=p) (ix:=i) (en:=en) (eC:=eC) (eA:=eA) (xt:=(x.tt:Nat)) (xk:=(x.kp:Nat)) (xa:=x.ag) (jx:=jx) (yt:=(y.tt:Nat)) (yk:=(y.kp:Nat)) (ya:=y.ag) (hlm:=fun W h=>(HCL.out W h).1) (hr:=fun W h=>(HCL.out W h).2.1) (hx0:=fun W h=>(HCL.out W h).2.2.1) (hx1:=fun W h=>(HCL.out W h).2.2.2.1) (hx2:=fun W h=>(HCL.out W h).2.2.2.2) (hc1:=fun W h=>HAS.out W (bhop HBi.out h)) (e1:=s2) (e2:=s1) (t1:=s3) (e3:=v2) (e4:=v1) (t2:=v3) (hy0:=fun W h=>(HYL.out W h).1) (hy1:=fun W h=>(HYL.out W h).2.1) (hy2:=fun W h=>(HYL.out W h).2.2) (hc2:=fun W h=>ahead_any W y x HAH.out) (e5:=hi0) (e6:=e6) (e7:=e7) (e8:=e8) (t3:=Int.toNat_natCast jx) (e9:=e9) (D:=_) (v0:=_) (v1:=_) (v2:=_) (v3:=_) (v4:=_) (v6:=_) (v10:=_) (v11:=_) (v12:=_) (v13:=_) (v14:=_) (v15:=_) (v16:=_) (v17:=_) (v18:=_) (v19:=_) (v20:=_) (v21:=_) (v22:=_) (v23:=_) (v24:=_) (v25:=_) (v26:=_) (v27:=_) (v28:=_) (v29:=_) (v30:=_) (v31:=_) (v32:=_) (v33:=_) (v34:=_) (v35:=_) (v36:=_) (v37:=_) (v38:=_) (v39:=_) (v40:=_) (v41:=_) (v42:=_) (v43:=_) (v44:=_) (v45:=_) (v46:=_) (v47:=_) (v48:=_) (v49:=_) (v50:=_) (v51:=_) (v52:=_) (v53:=_) (v54:=_) (v55:=_) (v56:=_) (v57:=_) (v58:=_) (v59:=_) (v97:=_) (v98:=_) (v99:=_) (v100:=_) (v101:=_) (v102:=_) (v103:=_) (v104:=_) (v105:=_) (v106:=_) (v107:=_) (v108:=_) (v109:=_) (v110:=_) (v111:=_) (v112:=_) (v113:=_) (v114:=_) (v115:=_) (v116:=_) (v117:=_) (v118:=_) (v119:=_) (v120:=_) (v121:=_) (v122:=_) (v123:=_) (v124:=_) (v125:=_) (v126:=_) (v127:=_) (v128:=_) (v129:=_) (v130:=_) (v131:=_) (v132:=_) (v133:=_) (v134:=_) (v135:=_) (v136:=_) (v137:=_) (v138:=_) (v139:=_) (v140:=_) (v141:=_) (v142:=_) (v143:=_) (v144:=_) (v145:=_) (v146:=_) (v147:=_) (v148:=_) (v149:=_) (v150:=_) (wy0:=_) (wy1:=_) (wy2:=_) (wy3:=_) (wy4:=_) (wy5:=_) (wy6:=_) (wy7:=_) (wy8:=_) (wy9:=_) (wy10:=_) (wy11:=_) (wy12:=_) (wy13:=_) (wy14:=_) (wy15:=_) (wy16:=_) (wy17:=_) (wy18:=_) (wy19:=_) (wy20:=_) (wy21:=_) (wy22:=_) (wy23:=_) (wy24:=_) (wy25:=_) (wy26:=_) (wy27:=_) (wy28:=_) (wy29:=_) (wy30:=_) (wy31:=_) (wy32:=_) (wy33:=_) (wy34:=_) (wy35:=_) (wy36:=_) (w:=_) (Q:=_) (hQ:=?_)
         intros
         rename_i w13 hb13
         dsimp only
         have HB13:=Lib.hid hb13
         clear hb13 x0 x1 x2 m1 d12
         go_wp2_with fail
         go_roundw
         case rel=>exact ⟨_,HQ2.out _ (bhop HBi.out HB13.out)⟩
         case measure =>
          rw [HN2.out]
          exact Nat.lt_of_le_of_lt (leastOf_le (HQ2.out _ (bhop HBi.out HB13.out))) HLT.out
       ·have v2:¬ (i:Int)<(ln:Int):=by omega
        clear m3 hi1
        go_wp2_with fail
        go_roundw
        case rel=>exact ⟨_,HP.out _ HBi.out⟩
        case measure =>
         rw [HN.out]
         refine Nat.lt_of_le_of_lt (leastOf_le (HP.out _ HBi.out)) ?_
         omega
     ·have s2:¬ (p:Int)<(sN:Int):=by omega
      clear hp1
      go_wp2_with fail
      clear d12 dlt s1 s2 g4
      go_loopw [10] (fun x wr=>∃ n,LpO w12 en n x wr) (fun x wr=>leastOf (fun n=>LpO w12 en n x wr))
      case atStart=>exact ⟨_,0,rfl,rfl,by omega,HBp.out⟩
      case round =>
       have hls:=(leastOf_spec hrel).1
       obtain ⟨i,rfl,hN3,hi1,hb⟩:=hls
       have HN3:=Lib.hid hN3
       have HBi:=Lib.hid hb
       clear hN3 hrel
       have v1:(0:Int)≤(i:Int):=by omega
       by_cases g5:i<en
       ·have v2:(i:Int)<(en:Int):=by omega
        have v3:((i:Int)).toNat=i:=by omega
        obtain ⟨s,hsi⟩ : ∃ s,l[i]? = some s:=⟨_,List.getElem?_eq_getElem (by have:=HEN.out;omega)⟩
        have hsj:=(HE.out.2.1 s).1 (List.mem_of_getElem? hsi)
        have hsl:s.fr<sN:=by have h1:=(sj_in HMP.out hsj).2.1;have h2:=own_n HR.out.lists.sets;omega
        have HMS:=Lib.hid (show mvOf s∈L s.fr from ((HM.out s.fr hsl).2 (mvOf s)).2 hsj)
        obtain ⟨q,hq⟩ : ∃ q,q=s.fr:=⟨_,rfl⟩
        have HQE:=Lib.hid hq
        have HSI:=Lib.hid hsi
        rw [← hq] at hsl
        have HMS2:=Lib.hid (show mvOf s∈L q by rw [hq];exact HMS.out)
        have hlen:=mv_max HW.out hsl
        have s1:(0:Int)≤(q:Int):=by omega
        have s2:(q:Int)<(sN:Int):=by omega
        have s3:((q:Int)).toNat=q:=by omega
        have HP:=Lib.hid (fun (W:World) (h:Below w12.heap.size w12 W)=>show LpO w12 en (en - (i+1)) (.int .i64 ((i:Int)+1)) W from ⟨i+1,by push_cast;rfl,rfl,by omega,h⟩)
        have HLT:=Lib.hid (show en - (i+1)<en - i by omega)
        clear hq hsi hsj hb
        go_wp2_with fail
        go_loopw [11,12] (fun u v wr=>∃ n,FdO w12 (L q) (mvOf s) n u v wr) (fun u v wr=>leastOf (fun n=>FdO w12 (L q) (mvOf s) n u v wr))
        case atStart=>exact ⟨_,0,false,rfl,by simp,rfl,rfl,by omega,HBi.out⟩
        case round =>
         have hls:=(leastOf_spec hrel).1
         obtain ⟨k,fb,rfl,hfb,rfl,hN4,hk1,hb⟩:=hls
         have HN4:=Lib.hid hN4
         have HFB:=Lib.hid hfb
         have HBk:=Lib.hid hb
         clear hN4 hfb hrel
         obtain ⟨d12,dlt⟩:=HC.out wr (bhop HB12.out hb)
         obtain ⟨A,c,m1,m2,m3⟩:=mv_read (HW.out.below (bhop HB12.out hb)) hsl
         obtain ⟨ln,hln⟩ : ∃ ln,ln=(L q).length:=⟨_,rfl⟩
         have HLN:=Lib.hid hln
         rw [← hln] at m1 hk1 hlen
         obtain ⟨g1,rfl,hg1,y0,y1,y2,y3⟩:=edR_at (show EdR wr _ _ l from own_chg HE.out.1 (Chg.of_below (R:=fun _=>False) hb) fun _ _=>id) HSI.out
         rw [← HQE.out] at y0
         have u1:(0:Int)≤(k:Int):=by omega
         clear hln hb
         by_cases g6:k<ln
         ·have u2:(k:Int)<(ln:Int):=by omega
          have u3:((k:Int)).toNat=k:=by omega
          obtain ⟨z,hz⟩ : ∃ z,(L q)[k]? = some z:=⟨_,List.getElem?_eq_getElem (by have:=HLN.out;omega)⟩
          obtain ⟨g,rfl,hg,x0,x1,x2⟩:=m3 k z hz
          have HT:=Lib.hid (fun (W:World) (fb':Bool) (h:Below w12.heap.size w12 W) (hf:fb'=true↔(fb=true∨z=mvOf s))=>show FdO w12 (L q) (mvOf s) ((L q).length - (k+1)) (.bool fb') (.int .i64 ((k:Int)+1)) W from ⟨k+1,fb',rfl,by
           rw [hf,HFB.out,List.take_add_one,hz]
           simp [eq_comm],by push_cast;rfl,rfl,by have:=HLN.out;omega,h⟩)
          have HL2:=Lib.hid (show (L q).length - (k+1)<(L q).length - k by have:=HLN.out;omega)
          clear m3 hz hk1
          cases fb with
          | true =>
           go_wp2_with fail
           go_quiet (fail)
           go_wp2_with fail
           go_quiet (fail)
           go_wp2_with fail
           go_roundw
           case rel=>exact ⟨_,HT.out _ true (below_drewN HBk.out _) (by simp)⟩
           case measure =>
            rw [HN4.out]
            exact Nat.lt_of_le_of_lt (leastOf_le (HT.out _ true (below_drewN HBk.out _) (by simp))) HL2.out
          | false =>
           have hq:∃ b1 b2 b3:Bool,((z.tt:Int) == (s.tt:Int))=b1∧((z.kp:Int) == (s.kp:Int))=b2∧(z.ag == s.ag)=b3∧((b1 && b2 && b3)=true↔z=mvOf s):=by
            refine ⟨_,_,_,rfl,rfl,rfl,?_⟩
            obtain ⟨z1,z2,z3⟩:=z
            simp only [mvOf,Bool.and_eq_true,beq_iff_eq,Mv.mk.injEq]
            constructor
            ·rintro ⟨⟨h1,h2⟩,h3⟩;exact ⟨by omega,by omega,h3⟩
            ·rintro ⟨h1,h2,h3⟩;exact ⟨⟨by omega,by omega⟩,h3⟩
           obtain ⟨b1,b2,b3,e1,e2,e3,e4⟩:=hq
           have HE4:=Lib.hid e4
           clear e4
           cases b1 <;> cases b2 <;> cases b3
           all_goals
            go_wp2_with fail
            go_quiet (fail)
            go_wp2_with fail
            go_quiet (fail)
            go_wp2_with fail
            go_roundw
            case rel=>exact ⟨_,HT.out _ _ (below_drewN HBk.out _) (by rw [← HE4.out];decide)⟩
            case measure =>
             rw [HN4.out]
             exact Nat.lt_of_le_of_lt (leastOf_le (HT.out _ _ (below_drewN HBk.out _) (by rw [← HE4.out];decide))) HL2.out
         ·have u2:¬ (k:Int)<(ln:Int):=by omega
          obtain rfl:fb=true:=HFB.out.2 (by rw [List.take_of_length_le (by have:=HLN.out;omega)];exact HMS2.out)
          clear m3 hk1
          go_wp2_with fail
          go_quiet (fail)
          go_wp2_with fail
          go_roundw
          case rel=>exact ⟨_,HP.out _ (below_drewN HBk.out _)⟩
          case measure =>
           rw [HN3.out]
           exact Nat.lt_of_le_of_lt (leastOf_le (HP.out _ (below_drewN HBk.out _))) HLT.out
       ·have v2:¬ (i:Int)<(en:Int):=by omega
        clear hi1 hb
        go_wp2_with fail
        go_ret
        exact ⟨rfl,bhop HB7.out (bhop HB12.out HBi.out)⟩
  ·rw [hok]
   clear hok
   go_wp2_with fail
   go_at_call 4
   refine (awake6_any _ (HTT.out _ (bhop HBW.out HB8.out)).1 (HTT.out _ (bhop HBW.out HB8.out)).2).mono ?_
   rintro e w5 ⟨rfl,hb5⟩
   have HB5:=Lib.hid (bhop HB8.out hb5)
   go_wp2_with fail
   go_ret
   exact ⟨rfl,bhop HBW.out HB5.out⟩
 ·have hA2:min (szT (erase a)) (100+1)=101:=by omega
  rw [hA2]
  clear hA hA2
  go_wp2_with fail
  go_at_call 4
  refine (awake6_any _ (HTT.out _ (bhop HBW.out HB5.out)).1 (HTT.out _ (bhop HBW.out HB5.out)).2).mono ?_
  rintro e w5 ⟨rfl,hb5⟩
  have HB5:=Lib.hid (bhop HB5.out hb5)
  go_wp2_with fail
  go_ret
  exact ⟨rfl,bhop HBW.out HB5.out⟩
end Go.Proofs.YtjcfmbmepmlckaaDoor

/- Of every tree the statement MovesAll returns true, and it reads afterwards as before; the card: what its row lists is tied to the program's text.
   No condition. -/
namespace Go.Proofs.YtjcfmbmepmlckaaDoor
open Go.ChangeShapes Go.WideShapes Go.ChangeAt Go.RowKit
theorem movesAllOwn:ownKnob Tryd.prog.godebug=none:=by kernel_rfl
theorem movesAllLaidOut:laidOutB Tryd.prog=true:=by kernel_rfl
theorem movesAllAgg (t:V):nodeAgg t=.agg (ndc t).toArray:=rfl
theorem movesAllDoor (os:Os) (args:Array Value):laidMetH Tryd.prog Rows.movesAllRow.laid ((World.doorLaid Tryd.prog 400 os).forCall (fun _ _=>0) ⟨#[],args,[]⟩).memory :=
 laidMetH_of_parts3 (fuel:=8) (laidMet_of_run' 8 (by kernel_rfl) (by kernel_rfl)) (by kernel_rfl) (by kernel_rfl)
set_option maxRecDepth 100000 in
theorem movesAll_lifted (os:Os) (started:os.Started) (H:Type) (enc:TypeId×Value→H) :
  ReturnsInHanded {} Tryd.checked os 3 .any (fun w args=>(Rows.movesAllSpec.pre enc Tryd.prog Tryd.f3 Rows.movesAllRow.domain false w args∧laidMetH Tryd.prog Rows.movesAllRow.laid w)∧sizedMet enc Tryd.prog Tryd.f3 (OpenSpec.ofChange Rows.movesAllSpec) false w args)
   (Rows.movesAllSpec.post enc Tryd.prog Tryd.f3 false true false false):=by
 refine returnsInHanded_of_change_and (C:=Tryd.checked) (X:=fun w _=>laidMetH Tryd.prog Rows.movesAllRow.laid w) (fun _ _ _ hh h=>h.of_heap hh) movesAllOwn started (by kernel_rfl) Tryd.func3
  (ChangeSpec.witness_shaped (enc:=enc) (C:=Tryd.checked) (os:=os) (X:=fun w _=>laidMetH Tryd.prog Rows.movesAllRow.laid w) false (World.doorLaid Tryd.prog 400 os) #[.agg #[.int .i64 0,.int .u64 0,.int .u64 0,.int .u64 0,.int .u64 0,.slice none 0 0,.int .i64 0,.int .i64 0]] 8 rfl (World.shaped_of_RefB (by kernel_rfl) (by kernel_rfl)) (by kernel_rfl) (by kernel_rfl) (by kernel_rfl) (movesAllDoor os _)) ?_
 intro W base args ds gs before hval0 hW _ _ hLaid _
 have hval:∀ (j:Nat) t v,Tryd.f3.params[j]? = some t→args[j]? = some v→Value.okWide Tryd.prog W .any base t v:=hval0
 have hW':=hW
 obtain ⟨hT,hTl⟩:=tab_laid hLaid
 obtain ⟨p,q,hA0,hV,rfl,hfz,hnd⟩:=hW
 have hA:DataW.TrodAll enc Tryd.prog W 0 (fun _=>true) true Tryd.f3.params.toList args.toList ds p:=hA0
 rw [Tryd.params3] at hA hval
 obtain ⟨v0,vs0,d0,ds0,p0,q0,hargs,rfl,rfl,h0,r0⟩:=trodAll_cons hA
 obtain ⟨rfl,rfl,rfl⟩:=trodAll_nil r0
 obtain rfl:args=#[v0]:=by cases args;simp_all
 obtain ⟨rfl,rfl⟩:=trodVars_none hV
 have k0:=h0
 have lt0:∀ x∈p0,x.block<W.heap.size:=by obtain ⟨m,hm⟩:=k0;exact DataW.trod_lt m _ _ _ hm
 obtain ⟨t0,rfl,l0,_⟩:=open_tree (hval 0 27 v0 rfl rfl) h0
 clear hA0 hval0
 rw [← movesAllAgg] at *
 refine (all6_walk t0 W _ l0 hT hTl).mono fun e W' ⟨he,bel⟩=>?_
 subst he
 exact ⟨_,rfl,_,_,_,[],_,[],hW',trodAll_mk1 (shut_bool Tryd.underlying4 _),(trodAll_cons_mk (Below.trod movesAllLaidOut (by kernel_rfl) (of_decide_eq_true (by kernel_rfl)) k0 bel lt0) trodAll_mk0),rfl,bel.frame _,fun h=>by cases h⟩
theorem movesAll_holds:Rows.MovesAllSaid :=
 OpenClaim.holds_of_wide 3 Tryd.f3 rfl rfl rfl rfl rfl rfl rfl ⟨rfl,rfl,rfl,rfl,rfl⟩ rfl rfl rfl rfl rfl (by kernel_rfl) Tryd.func3 (by kernel_rfl)
  (of_decide_eq_true (by kernel_rfl)) (by unfold Func.isWrapper;rw [if_neg (of_decide_eq_false (by kernel_rfl))];exact ⟨rfl,rfl⟩)
  (fun os started H enc _=>movesAll_lifted os started H enc)
theorem movesAll_card_holds:Rows.MovesAllCardSaid :=
 Claim7.holds_tied_plain_at .later [] [.data] true _ false
  movesAll_holds (fun _ h=>by cases h) (by kernel_rfl) (fun _ h=>by cases h) movesAll_row_tie rfl ⟨rfl,rfl⟩ (by kernel_rfl) rfl
  (fun f fn hf hfn=>by
   obtain rfl:f=3:=Option.some.inj ((show Tryd.prog.funcNamed "ostinato/ostinatolaw06.MovesAll" = some 3 by kernel_rfl).symm.trans hf) |>.symm
   obtain rfl:fn=Tryd.f3:=(Option.some.inj (Tryd.func3.symm.trans hfn)).symm
   exact ⟨by kernel_rfl,fun j t ht=>by
    rw [Tryd.params3] at ht
    have hm:t∈[27]:=by simpa using Array.mem_of_getElem? ht
    have hall:([27].all fun u=>!Tryd.prog.wantsStandIn u)=true:=by kernel_rfl
    exact (show Tryd.prog.wantsStandIn t=false by simpa using List.all_eq_true.1 hall t hm)⟩)
  (by kernel_rfl)
#print axioms movesAll_card_holds
end Go.Proofs.YtjcfmbmepmlckaaDoor
