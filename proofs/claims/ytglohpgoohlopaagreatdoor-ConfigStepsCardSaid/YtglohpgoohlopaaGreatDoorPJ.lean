/- The statements' near: some config: a contract.
   Conditions: the automaton lies in memory. -/
import Derived.Test.YtglohpgoohlopaaGreatDoorPY
import Derived.Test.YtglohpgoohlopaaGreatDoorPB
import Derived.Test.YtglohpgoohlopaaGreatDoorPX
import Derived.Test.YtglohpgoohlopaaGreatDoorPG

/- The document's Right: the contract.
   Conditions: the automaton lies in memory. -/
namespace Go.Proofs.YtglohpgoohlopaaGreatDoor
open Go.RowKit Go.Shelf
set_option maxHeartbeats 8000000 in
set_option maxRecDepth 100000 in
theorem refRight_any {B:Nat} {m:PM} {a:Au} {fl:List Nat} {la:Nat} (w:World) (hL:AuL w B m a fl la) (p:Int) (x:Nat→Int) :
  Calls Tryz.prog 15 #[.agg #[.int .i64 a.k,.int .u64 (a.s0:Nat),.int .u64 (a.s1:Nat),.int .u64 (a.s2:Nat),.int .u64 (a.s3:Nat),.slice a.ta a.tn a.tc,.int .i64 a.lo,.int .i64 a.hi,.slice a.sA a.n a.sC,.slice a.cA a.cN a.cC,.slice (some ⟨a.ga,0,none⟩) a.n a.aC,.slice a.fA a.fN a.fC,.slice (some ⟨a.mb,0,none⟩) a.n a.n,.slice (some ⟨a.lb,0,none⟩) a.n a.n,.bool a.em],.agg #[.int .i64 p,.int .i64 (x 0),.int .i64 (x 1),.int .i64 (x 2),.int .i64 (x 3)]] w fun e w'=>e=.returned (.bool (rightB m p x))∧Below w.heap.size w w':=by
 obtain ⟨w2,hw2,hb2,ha2,hc2⟩:=au_cf_box w a p x
 have HB:=Lib.hid hb2
 by_cases g1:p<1
 ·have hr:=right_lo (m:=m) (x:=x) g1
  rw [hr]
  obtain ⟨_,_,c10,_⟩:=ha2.cells
  obtain ⟨d0,_⟩:=hc2.five
  clear hr hb2 ha2 hc2 hL
  go_enter Tryz.func15,Tryz.ntmps15
  go_upto_region 1 with fail
  clear hw2
  go_wp2_with fail
  go_ret
  exact ⟨rfl,HB.out⟩
 ·by_cases g2:(a.n:Int)≤p
  ·have hr:=right_hi (m:=m) (x:=x) (p:=p) (by rw [hL.ars];exact g2)
   rw [hr]
   obtain ⟨_,_,c10,_⟩:=ha2.cells
   obtain ⟨d0,_⟩:=hc2.five
   clear hr hb2 ha2 hc2 hL
   go_enter Tryz.func15,Tryz.ntmps15
   go_upto_region 1 with fail
   clear hw2
   go_wp2_with fail
   go_ret
   exact ⟨rfl,HB.out⟩
  ·obtain ⟨q,rfl⟩ : ∃ q:Nat,p=q:=⟨p.toNat,by omega⟩
   obtain ⟨l,hl,hlm,hl4⟩:=hL.at (p:=q) (by omega)
   have hr:=right_at (x:=x) (by omega:1≤q) hl
   rw [hr]
   have HF:=Lib.hid (fun (W:World) (h:Below w2.heap.size w2 W)=>show AuB W w.heap.size a∧AuL W B m a fl la∧CfB W (w.heap.size+1) q x from ⟨ha2.below h,hL.below (bhop hb2 h),hc2.below h⟩)
   have HS:=Lib.hid (fun (s:Int×Int) (hs:s∈m.scs)=>hL.wf.scs s hs)
   have HW:=Lib.hid hL.wf
   have HM:=Lib.hid hlm
   have HLQ:=Lib.hid hl
   obtain ⟨A,c,r1,_⟩:=(hL.below hb2).row hl
   obtain ⟨_,_,c10,_⟩:=ha2.cells
   obtain ⟨d0,d1,d2,d3,d4⟩:=hc2.five
   obtain ⟨ln,hln⟩ : ∃ ln,ln=l.length:=⟨_,rfl⟩
   have HLN:=Lib.hid hln
   rw [← hln] at r1 hl4
   have v1:(0:Int)≤(q:Int):=by omega
   have v2:(q:Int)<(a.n:Int):=by omega
   have v3:((q:Int)).toNat=q:=by omega
   clear hr hb2 ha2 hc2 hL hl hlm hln
   go_enter Tryz.func15,Tryz.ntmps15
   go_upto_region 1 with fail
   clear hw2
   go_wp2_with fail
   clear r1 c10 d0 d1 d2 d3 d4
   go_loopw [6] (fun z wr=>∃ n,RgI w2 m l x n z wr) (fun z wr=>leastOf (fun n=>RgI w2 m l x n z wr))
   case atStart=>exact ⟨_,0,rfl,rfl,by omega,fun _ h=>absurd h (Nat.not_lt_zero _),Below.refl _ _⟩
   case round =>
    have hls:=(leastOf_spec hrel).1
    obtain ⟨i,rfl,hN,hi4,hall,hb⟩:=hls
    have HN:=Lib.hid hN
    have HA:=Lib.hid hall
    have HR:=Lib.hid hb
    have s1:(0:Int)≤(i:Int):=by omega
    have s3:((i:Int)).toNat=i:=by omega
    clear hN hall hrel
    by_cases g3:i<4
    ·have s2:(i:Int)<4:=by omega
     have hix:=fun W=>cidx_at x i g3 W
     have HP:=Lib.hid (fun (hc:cntB m l i (x i)=true) (W:World) (h:Below wr.heap.size wr W)=>RgI.next HA.out g3 hc HR.out h)
     have HLT:=Lib.hid (show 4 - (i+1)<4 - i by omega)
     have HX:=Lib.hid (fun (h:cntB m l i (x i)=false)=>cnts_not g3 h)
     obtain ⟨v,hv⟩ : ∃ v,v=x i:=⟨_,rfl⟩
     rw [← hv] at hix HP HX
     obtain ⟨fA,fL,fC⟩:=HF.out wr hb
     obtain ⟨d0,_⟩:=fC.five
     have d1:=fC.cell.2.1 i g3
     rw [← hv] at d1
     have HV:=Lib.hid hv
     clear hv
     by_cases g4:i<ln
     ·have s4:(i:Int)<(ln:Int):=by omega
      obtain ⟨k,_,_,hok⟩:=sc_in HW.out HM.out (by have:=HLN.out;omega:i<l.length)
      have HCI:=Lib.hid (cnt_in (m:=m) (v:=v) (by have:=HLN.out;omega:i<l.length))
      have HTN:=Lib.hid (show (scA m l i).2<0→(scA m l i).2 = -1 by unfold ScOk at hok;omega)
      obtain ⟨tp,htp⟩ : ∃ tp,tp=topS (scA m l i):=⟨_,rfl⟩
      have HTP:=Lib.hid htp
      clear hok htp
      rw [HLN.out] at g4
      obtain ⟨g,c,k,gs,h1,h2,h3,h4,h5,h6,l1,l2,l3⟩:=fL.sc HLQ.out g4
      obtain ⟨_,c9,c10,_⟩:=fA.cells
      rw [h3] at c9
      rw [← HLN.out] at h1 g4
      obtain ⟨sl,hsl⟩ : ∃ sl,sl=(scA m l i).1:=⟨_,rfl⟩
      obtain ⟨sh,hsh⟩ : ∃ sh,sh=(scA m l i).2:=⟨_,rfl⟩
      rw [← hsl] at h5
      rw [← hsh] at h6
      have HTQ:=Lib.hid (show topS (sl,sh)=tp by rw [hsl,hsh];exact HTP.out.symm)
      have v7:(0:Int)≤(k:Int):=by omega
      have v8:(k:Int)<(a.cN:Int):=by omega
      have v9:((k:Int)).toNat=k:=by omega
      have lb:=fA.lt
      have lc:=fC.lt
      have HG:=Lib.hid (fun (W:World) (h:Below wr.heap.size wr W)=>And.intro ((h.cell (p:=⟨w.heap.size+1,1+i,none⟩) lc).trans d1) (And.intro ((h.cell (p:=⟨w.heap.size+1,0,none⟩) lc).trans d0) (And.intro ((h.cell (p:=⟨w.heap.size,9,none⟩) lb).trans c9) (And.intro ((h.cell (p:=⟨w.heap.size,10,none⟩) lb).trans c10) (And.intro ((h.cell (p:=⟨a.ga,q,none⟩) l1).trans h1) (And.intro ((h.cell (p:=⟨g,i,none⟩) l2).trans h2) (And.intro ((h.cell (p:=⟨gs,k * 2,none⟩) l3).trans h5) ((h.cell (p:=⟨gs,k * 2+1,none⟩) l3).trans h6))))))))
      have HTC:=Lib.hid (fun W=>by have:=refTop_any sl sh W;rw [HTQ.out] at this;exact this)
      clear fA fL fC hb h3 h4 hsl hsh hix lb lc l1 l2 l3
      have g7:¬ ln≤i:=by omega
      have g8:¬ (ln:Int)≤(i:Int):=by omega
      by_cases g5:v<1
      ·go_wp2_with fail
       go_quiet (fail)
       go_wp2_with fail
       go_ret
       exact ⟨by rw [HX.out (by rw [HCI.out,decide_eq_false (by omega:¬ 1≤v),Bool.false_and])];rfl,bhop HB.out (below_drewN HR.out _)⟩
      ·go_wp2_with fail
       refine regGfQ (ab:=w.heap.size) (cb:=w.heap.size+1) (q:=q) (ln:=ln) (i:=i) (an:=a.n) (aC:=a.aC) (ga:=a.ga) (g:=g) (c:=c) (gs:=gs) (cN:=a.cN) (cC:=a.cC) (k:=k) (v:=v) (sl:=sl) (sh:=sh) (tp:=tp) (hv:=fun W h=>(HG.out W h).1) (kc0:=fun W h=>(HG.out W h).2.1) (kc9:=fun W h=>(HG.out W h).2.2.1) (kc10:=fun W h=>(HG.out W h).2.2.2.1) (hga:=fun W h=>(HG.out W h).2.2.2.2.1) (hg:=fun W h=>(HG.out W h).2.2.2.2.2.1) (hs0:=fun W h=>(HG.out W h).2.2.2.2.2.2.1) (hs1:=fun W h=>(HG.out W h).2.2.2.2.2.2.2) (hc:=fun W h=>HTC.out W) (e1:=by omega) (e2:=by omega) (e3:=by omega) (e4:=by omega) (e5:=by omega) (e6:=by omega) (p1:=by omega) (p2:=by omega) (p3:=by omega) (t1:=s3) (t2:=v3) (t3:=v9) (D:=_) (v0:=_) (v1:=_) (v4:=_) (v7:=_) (v8:=_) (v9:=_) (v10:=_) (v11:=_) (v12:=_) (v13:=_) (v14:=_) (v15:=_) (v16:=_) (v17:=_) (v18:=_) (v19:=_) (v20:=_) (v21:=_) (v22:=_) (v23:=_) (v24:=_) (v25:=_) (v26:=_) (v27:=_) (v28:=_) (v29:=_) (v30:=_) (wy0:=_) (wy1:=_) (wy2:=_) (wy3:=_) (wy4:=_) (wy5:=_) (wy6:=_) (wy7:=_) (wy8:=_) (wy9:=_) (wy10:=_) (wy11:=_) (wy12:=_) (wy13:=_) (wy14:=_) (wy15:=_) (wy16:=_) (wy17:=_) (wy18:=_) (wy19:=_) (wy20:=_) (wy21:=_) (wy22:=_) (wy23:=_) (wy24:=_) (wy25:=_) (wy26:=_) (wy27:=_) (wy28:=_) (wy29:=_) (wy30:=_) (wy31:=_) (wy32:=_) (wy33:=_) (wy34:=_) (wy35:=_) (wy36:=_) (wy37:=_) (wy38:=_) (wy39:=_) (wy40:=_) (wy41:=_) (wy42:=_) (wy43:=_) (wy44:=_) (w:=_) (Q:=_) (hQ:=?_)
       intros
       rename_i w4 hb4
       have HB4:=Lib.hid hb4
       clear hb4 h1 h2 h5 h6 c9 c10 d0 d1
       dsimp only
       by_cases g6:tp<v
       ·rw [decide_eq_true g6]
        go_wp2_with fail
        go_ret
        exact ⟨by rw [HX.out (by rw [HCI.out,← HTP.out,decide_eq_false (by omega:¬ v≤tp),Bool.and_false])];rfl,bhop HB.out (bhop HR.out HB4.out)⟩
       ·have HC:=Lib.hid (show cntB m l i v=true by rw [HCI.out,← HTP.out,decide_eq_true (by omega:1≤v),decide_eq_true (by omega:v≤tp),Bool.true_and])
        rw [decide_eq_false g6]
        go_wp2_with fail
        go_roundw
        all_goals have hc:=HC.out
        case rel=>exact ⟨_,HP.out hc _ (HB4.out)⟩
        case measure =>
         rw [HN.out]
         exact Nat.lt_of_le_of_lt ((leastOf_spec ⟨_,HP.out hc _ (HB4.out)⟩).2 _ (HP.out hc _ (HB4.out))) HLT.out
     ·have s4:¬ (i:Int)<(ln:Int):=by omega
      have HCO:=Lib.hid (cnt_out (m:=m) (v:=v) (by have:=HLN.out;omega:¬ i<l.length))
      clear fA fL fC hb hix
      have g7:ln≤i:=by omega
      have g8:(ln:Int)≤(i:Int):=by omega
      by_cases g5:v=0
      ·subst g5
       have HC:=Lib.hid (show cntB m l i 0=true by rw [HCO.out];rfl)
       go_wp2_with fail
       go_quiet (fail)
       go_wp2_with fail
       go_roundw
       all_goals have hc:=HC.out
       case rel=>exact ⟨_,HP.out hc _ (below_drewN (Below.refl _ _) _)⟩
       case measure =>
        rw [HN.out]
        exact Nat.lt_of_le_of_lt ((leastOf_spec ⟨_,HP.out hc _ (below_drewN (Below.refl _ _) _)⟩).2 _ (HP.out hc _ (below_drewN (Below.refl _ _) _))) HLT.out
      ·have g6:(v != 0)=true:=by rw [bne_iff_ne];exact g5
       go_wp2_with fail
       go_quiet (fail)
       go_wp2_with fail
       go_ret
       exact ⟨by rw [HX.out (by rw [HCO.out,decide_eq_false g5])];rfl,bhop HB.out (below_drewN HR.out _)⟩
    ·have s2:¬ (i:Int)<4:=by omega
     have HD:=Lib.hid (show cntsB m l x=true from cnts_iff.2 fun j hj=>HA.out j (by omega))
     clear hb
     go_wp2_with fail
     go_ret
     exact ⟨by rw [HD.out];rfl,bhop HB.out HR.out⟩
end Go.Proofs.YtglohpgoohlopaaGreatDoor

/- The document's Accepts: the contract.
   Conditions: the automaton lies in memory; the config's position is one of its. -/
namespace Go.Proofs.YtglohpgoohlopaaGreatDoor
open Go.RowKit Go.Shelf
set_option maxHeartbeats 8000000 in
set_option maxRecDepth 100000 in
theorem refAccepts_any {B:Nat} {m:PM} {a:Au} {fl:List Nat} {la q:Nat} {l:List Nat} (w:World) (hL:AuL w B m a fl la) (hp:m.ars[q]? = some l) (x:Nat→Int) :
  Calls Tryz.prog 41 #[.agg #[.int .i64 a.k,.int .u64 (a.s0:Nat),.int .u64 (a.s1:Nat),.int .u64 (a.s2:Nat),.int .u64 (a.s3:Nat),.slice a.ta a.tn a.tc,.int .i64 a.lo,.int .i64 a.hi,.slice a.sA a.n a.sC,.slice a.cA a.cN a.cC,.slice (some ⟨a.ga,0,none⟩) a.n a.aC,.slice a.fA a.fN a.fC,.slice (some ⟨a.mb,0,none⟩) a.n a.n,.slice (some ⟨a.lb,0,none⟩) a.n a.n,.bool a.em],.agg #[.int .i64 q,.int .i64 (x 0),.int .i64 (x 1),.int .i64 (x 2),.int .i64 (x 3)]] w fun e w'=>e=.returned (.bool (leftB m l x 0 && la.testBit q))∧Below w.heap.size w w':=by
 obtain ⟨w2,hw2,hb2,ha2,hc2⟩:=au_cf_box w a q x
 have HB:=Lib.hid hb2
 have hpn:q<a.n:=by rw [← hL.ars];exact (List.getElem?_eq_some_iff.1 hp).1
 have hl4:l.length≤4:=(hL.wf.ars _ (List.mem_of_getElem? hp)).1
 have HF:=Lib.hid (fun (W:World) (h:Below w2.heap.size w2 W)=>show AuB W w.heap.size a∧AuL W B m a fl la∧CfB W (w.heap.size+1) q x from ⟨ha2.below h,hL.below (bhop hb2 h),hc2.below h⟩)
 have HP:=Lib.hid hp
 have HQ:=Lib.hid hpn
 have v1:(0:Int)≤(q:Int):=by omega
 have v2:(q:Int)<(a.n:Int):=by omega
 have v3:((q:Int)).toNat=q:=by omega
 obtain ⟨ln,hln⟩ : ∃ ln,ln=l.length:=⟨_,rfl⟩
 have HLN:=Lib.hid hln
 rw [← hln] at hl4
 clear hb2 ha2 hc2 hL hp hpn hln
 go_enter Tryz.func41,Tryz.ntmps41
 go_upto_region 1 with fail
 clear hw2
 go_wp2_with fail
 go_loopw [5] (fun z wr=>∃ n,LvI w2 m l x 0 n z wr) (fun z wr=>leastOf (fun n=>LvI w2 m l x 0 n z wr))
 case atStart=>exact ⟨_,0,rfl,rfl,by omega,rfl,Below.refl _ _⟩
 case round =>
  have hls:=(leastOf_spec hrel).1
  obtain ⟨i,rfl,hN,hi4,he,hb⟩:=hls
  have HN:=Lib.hid hN
  have HE:=Lib.hid he
  have HR:=Lib.hid hb
  clear hN he hrel
  obtain ⟨fA,fL,fC⟩:=HF.out wr hb
  obtain ⟨_,c9,c10,_,_,c13⟩:=fA.cells
  obtain ⟨d0,_⟩:=fC.five
  have s1:(0:Int)≤(i:Int):=by omega
  have s3:((i:Int)).toNat=i:=by omega
  by_cases g:i<ln
  ·have s2:(i:Int)<(ln:Int):=by omega
   have s4:(i:Int)<4:=by omega
   have gi:i<l.length:=by have:=HLN.out;omega
   obtain ⟨g0,c,k,gs,h1,h2,h3,h4,h5,h6,_⟩:=fL.sc HP.out gi
   rw [h3] at c9
   rw [← HLN.out] at h1
   have d1:=fC.cell.2.1 i (by omega)
   have hst:=left_step (m:=m) (x:=x) gi
   obtain ⟨sl,hsl⟩ : ∃ sl,sl=(scA m l i).1:=⟨_,rfl⟩
   rw [← hsl] at hst h5
   obtain ⟨v,hv⟩ : ∃ v,v=x i:=⟨_,rfl⟩
   rw [← hv] at hst d1
   have HST:=Lib.hid hst
   have HLT:=Lib.hid (show 5 - (i+1)<5 - i by omega)
   have HI4:=Lib.hid (show i+1≤4 by omega)
   have v7:(0:Int)≤(k:Int):=by omega
   have v8:(k:Int)<(a.cN:Int):=by omega
   have v9:((k:Int)).toNat=k:=by omega
   clear fA fL fC hb hst hsl hv gi hi4 h3 h4 h6 c13
   by_cases g2:v<sl
   ·have HD:=Lib.hid (show leftB m l x 0=false by rw [← HE.out,HST.out,decide_eq_false (by omega),Bool.false_and])
    go_wp2_with fail
    go_quiet (fail)
    go_wp2_with fail
    go_ret
    exact ⟨by rw [HD.out];rfl,bhop HB.out (below_drewN HR.out _)⟩
   ·have HP2:=Lib.hid (fun (k:Nat)=>show LvI w2 m l x 0 (5 - (i+1)) (.int .i64 ((i:Int)+1)) (wr.drewN k) from ⟨i+1,by push_cast;rfl,rfl,HI4.out,by rw [← HE.out,HST.out,decide_eq_true (by omega),Bool.true_and],below_drewN HR.out k⟩)
    go_wp2_with fail
    go_quiet (fail)
    go_wp2_with fail
    go_roundw
    case rel=>exact ⟨_,HP2.out _⟩
    case measure =>
     rw [HN.out]
     exact Nat.lt_of_le_of_lt ((leastOf_spec ⟨_,HP2.out _⟩).2 _ (HP2.out _)) HLT.out
  ·have s2:¬ (i:Int)<(ln:Int):=by omega
   obtain ⟨A,c,r1,_⟩:=fL.row HP.out
   rw [← HLN.out] at r1
   have y0:=(fL.la HQ.out).1
   have HD:=Lib.hid (show leftB m l x 0=true by rw [← HE.out];exact left_end (by have:=HLN.out;omega))
   clear fA fL fC hb hi4
   go_wp2_with fail
   go_ret
   exact ⟨by rw [HD.out];rfl,bhop HB.out HR.out⟩
end Go.Proofs.YtglohpgoohlopaaGreatDoor

/- The statements' near: some config: a contract.
   Conditions: the automaton lies in memory. -/
namespace Go.Proofs.YtglohpgoohlopaaGreatDoor
open Go.RowKit Go.Shelf
theorem nr_at (p:Int) (n:Nat) (h2:2≤n) (h41:n≤41):∃ q:Nat,wrap64 (1+wrap64 ((IntKind.u64.wrap p).tmod ((n:Int) - 1)))=(q:Int)∧1≤q∧q<n:=by
 have h0:0≤IntKind.u64.wrap p:=by rw [IntKind.wrap_u64];omega
 have h1:=Int.tmod_nonneg ((n:Int) - 1) h0
 have h3:=Int.tmod_lt_of_pos (IntKind.u64.wrap p) (by omega:(0:Int)<(n:Int) - 1)
 generalize (IntKind.u64.wrap p).tmod ((n:Int) - 1)=z at *
 have e1:wrap64 z=z:=by unfold wrap64;omega
 have e2:wrap64 (1+z)=1+z:=by unfold wrap64;omega
 exact ⟨(1+z).toNat,by rw [e1,e2];omega,by omega,by omega⟩
theorem wp_onep {c:Code} {P:Program} {Q:Exit→Act→World→Prop} {a:Act} {w:World} (A:Act) (W:World) (h:c.wp P (fun e a' w'=>e=.normal∧a'=A∧w'=W) a w) (hq:Q .normal A W):c.wp P Q a w :=
 wp_mono h fun e a' w' ⟨h1,h2,h3⟩=>by subst h1 h2 h3;exact hq
def NrI (w:World) (ob rb:Nat) (q:Nat) (n:Nat) (z:Value) (wr:World):Prop:=∃ (i:Nat) (y:Nat→Int),z=.int .i64 i∧n=5 - i∧i≤4∧CfB wr ob q y∧CfB wr rb 0 (fun _=>0)∧Chg (fun k=>k=ob) w wr
set_option maxHeartbeats 8000000 in
set_option maxRecDepth 100000 in
theorem near_any {B:Nat} {m:PM} {a:Au} {fl:List Nat} {la:Nat} (w:World) (hL:AuL w B m a fl la) (p:Int) (x:Nat→Int) (s0b:Bool) :
  Calls Tryz.prog 11 #[.agg #[.int .i64 a.k,.int .u64 (a.s0:Nat),.int .u64 (a.s1:Nat),.int .u64 (a.s2:Nat),.int .u64 (a.s3:Nat),.slice a.ta a.tn a.tc,.int .i64 a.lo,.int .i64 a.hi,.slice a.sA a.n a.sC,.slice a.cA a.cN a.cC,.slice (some ⟨a.ga,0,none⟩) a.n a.aC,.slice a.fA a.fN a.fC,.slice (some ⟨a.mb,0,none⟩) a.n a.n,.slice (some ⟨a.lb,0,none⟩) a.n a.n,.bool a.em],.agg #[.int .i64 p,.int .i64 (x 0),.int .i64 (x 1),.int .i64 (x 2),.int .i64 (x 3)],.bool s0b] w fun e w'=>(∃ (p':Int) (x':Nat→Int),e=.returned (.agg #[.int .i64 p',.int .i64 (x' 0),.int .i64 (x' 1),.int .i64 (x' 2),.int .i64 (x' 3)]))∧Below w.heap.size w w':=by
 obtain ⟨w1,hw1,hb1,ha1,hc1⟩:=au_cf_box w a p x
 obtain ⟨w2,hw2,hb2,hz2⟩:=cf_box w1 0 (fun _=>0)
 have hs1:w1.heap.size=w.heap.size+1+1:=by rw [← hw1];simp
 rw [hs1] at hz2
 have hw12:((w.alloc (.cells #[.int .i64 a.k,.int .u64 (a.s0:Nat),.int .u64 (a.s1:Nat),.int .u64 (a.s2:Nat),.int .u64 (a.s3:Nat),.slice a.ta a.tn a.tc,.int .i64 a.lo,.int .i64 a.hi,.slice a.sA a.n a.sC,.slice a.cA a.cN a.cC,.slice (some ⟨a.ga,0,none⟩) a.n a.aC,.slice a.fA a.fN a.fC,.slice (some ⟨a.mb,0,none⟩) a.n a.n,.slice (some ⟨a.lb,0,none⟩) a.n a.n,.bool a.em] 41)).alloc (.cells #[.int .i64 p,.int .i64 (x 0),.int .i64 (x 1),.int .i64 (x 2),.int .i64 (x 3)] 30)).alloc (.cells #[.int .i64 0,.int .i64 0,.int .i64 0,.int .i64 0,.int .i64 0] 30)=w2:=by rw [hw1];exact hw2
 have HB:=Lib.hid (bhop hb1 hb2)
 have HF:=Lib.hid (fun (W:World) (h:Below w2.heap.size w2 W)=>show AuB W w.heap.size a∧AuL W B m a fl la∧CfB W (w.heap.size+1) p x∧CfB W (w.heap.size+1+1) 0 (fun _=>0) from ⟨(ha1.below hb2).below h,hL.below (bhop (bhop hb1 hb2) h),(hc1.below hb2).below h,hz2.below h⟩)
 have hone:=hL.one
 have hmost:=hL.most
 clear hb1 hb2 ha1 hc1 hz2 hs1 hw1 hw2 hL
 obtain ⟨fA,fL,fC,fZ⟩:=HF.out w2 (Below.refl _ _)
 obtain ⟨_,_,c10,_⟩:=fA.cells
 obtain ⟨d0,d1,d2,d3,d4⟩:=fC.five
 obtain ⟨z0,z1,z2,z3,z4⟩:=fZ.five
 have zf:=fZ.cell.2.2
 have zl:=fZ.lt
 have zg0:=zf 0;have zg1:=zf 1;have zg2:=zf 2;have zg3:=zf 3;have zg4:=zf 4
 have HZ:=Lib.hid fZ
 clear fA fL fC fZ zf
 by_cases g:s0b=true∧2≤a.n
 ·obtain ⟨rfl,g2⟩:=g
  have g3:¬ (a.n:Int)<2:=by omega
  go_enter Tryz.func11,Tryz.ntmps11
  go_upto_region 1 with fail
  clear hw12
  go_upto_region 4 with fail
  obtain ⟨q,hq,hq1,hq2⟩:=nr_at p a.n g2 hmost
  rw [hq]
  generalize hw3:w2.alloc _=w3
  have hb3:Below w2.heap.size w2 w3:=hw3▸(Below.refl _ w2).alloc (Nat.le_refl _) _
  have hc3:CfB w3 w2.heap.size q (fun _=>0):=by rw [← hw3];exact heap_alloc_new w2 _
  have HB3:=Lib.hid (bhop HB.out hb3)
  have HB32:=Lib.hid hb3
  have HL3:=Lib.hid (And.intro True.intro (And.intro hc3 ((HF.out w3 hb3).2.2.2)))
  have hln:∃ l,m.ars[q]? = some l∧l∈m.ars∧l.length≤4:=(HF.out w2 (Below.refl _ _)).2.1.at hq2
  obtain ⟨l,hl,_,hl4⟩:=hln
  have HP:=Lib.hid hl
  have hob:w.heap.size+1+1<w2.heap.size:=zl
  have HOB:=Lib.hid hob
  obtain ⟨ob,hobe⟩ : ∃ ob,ob=w2.heap.size:=⟨_,rfl⟩
  have HOE:=Lib.hid hobe
  obtain ⟨ln,hln⟩ : ∃ ln,ln=l.length:=⟨_,rfl⟩
  have HLN:=Lib.hid hln
  rw [← hobe]
  rw [← hobe] at HL3
  rw [← hln] at hl4
  have v1:(0:Int)≤(q:Int):=by omega
  have v2:(q:Int)<(a.n:Int):=by omega
  have v3:((q:Int)).toNat=q:=by omega
  clear hw3 hb3 hc3 hq hl hob hobe hln c10 d0 d1 d2 d3 d4 z0 z1 z2 z3 z4 zg0 zg1 zg2 zg3 zg4 zl g3
  go_wp2_with fail
  go_loopw [8] (fun z wr=>∃ n,NrI w3 ob (w.heap.size+1+1) q n z wr) (fun z wr=>leastOf (fun n=>NrI w3 ob (w.heap.size+1+1) q n z wr))
  case atStart=>exact ⟨_,0,_,rfl,rfl,by omega,HL3.out.2.1,HL3.out.2.2,Chg.refl _ _⟩
  case round =>
   have hls:=(leastOf_spec hrel).1
   obtain ⟨i,y,rfl,hN,hi4,hcf,hzf,hb⟩:=hls
   have HN:=Lib.hid hN
   have HC:=Lib.hid (And.intro hcf (And.intro hzf hb))
   have hbw:Below w2.heap.size w2 wr:=HB32.out.trans (hb.below (B:=w2.heap.size) HB32.out.size fun k hk e=>by have:=HOE.out;omega)
   have HBW:=Lib.hid hbw
   obtain ⟨fA,fL,fC,_⟩:=HF.out wr hbw
   obtain ⟨_,c9,c10,_⟩:=fA.cells
   obtain ⟨d0,_⟩:=hcf.five
   have s1:(0:Int)≤(i:Int):=by omega
   have s3:((i:Int)).toNat=i:=by omega
   clear hN hrel hb
   by_cases g:i<ln
   ·have s2:(i:Int)<(ln:Int):=by omega
    have s4:(i:Int)<4:=by omega
    have gi:i<l.length:=by have:=HLN.out;omega
    obtain ⟨g0,c,k,gs,h1,h2,h3,h4,h5,h6,l1,l2,l3⟩:=fL.sc HP.out gi
    have b1:=hcf.lt
    have b2:=fA.lt
    obtain ⟨_,_,_,hok⟩:=sc_in fL.wf (List.mem_of_getElem? HP.out) gi
    rw [h3] at c9
    rw [← HLN.out] at h1
    obtain ⟨sl,hsl⟩ : ∃ sl,sl=(scA m l i).1:=⟨_,rfl⟩
    obtain ⟨sh,hsh⟩ : ∃ sh,sh=(scA m l i).2:=⟨_,rfl⟩
    rw [← hsl] at h5
    rw [← hsh] at h6
    unfold ScOk at hok
    rw [← hsl,← hsh] at hok
    have o1:1≤sl:=hok.1
    have o2:sl≤2147483647:=hok.2.1
    have o3:sh≤2147483647:=by omega
    have d1:=fC.cell.2.1 i (by omega)
    have dl:=fC.lt
    obtain ⟨v,hv⟩ : ∃ v,v=x i:=⟨_,rfl⟩
    rw [← hv] at d1
    have v7:(0:Int)≤(k:Int):=by omega
    have v8:(k:Int)<(a.cN:Int):=by omega
    have v9:((k:Int)).toNat=k:=by omega
    clear fA fL fC hzf hcf hsl hsh hv gi h3 h4 hok hbw
    go_wp2_with fail
    go_region_held3 (fun W=>W.cell? ⟨w.heap.size,9,none⟩=some (.slice (some ⟨gs,0,none⟩) a.cN a.cC)∧W.cell? ⟨w.heap.size,10,none⟩=some (.slice (some ⟨a.ga,0,none⟩) a.n a.aC)∧W.cell? ⟨ob,0,none⟩=some (.int .i64 q)∧W.cell? ⟨a.ga,q,none⟩=some (.slice (some ⟨g0,0,none⟩) ln c)∧W.cell? ⟨g0,i,none⟩=some (.int .i64 k)∧W.cell? ⟨gs,k * 2,none⟩=some (.int .i64 sl)∧W.cell? ⟨gs,k * 2+1,none⟩=some (.int .i64 sh))
     (first | go_keep | (go_split_ands;refine ⟨?_,?_,?_,?_,?_,?_,?_⟩ <;> first | go_keep | assumption | exact (World.cell?_of_block (w:=wr) (Below.heap_alloc _ _ _ (by assumption))).trans (by assumption) | (simp;omega)))
     (fail)
    obtain ⟨w4,hw4,hb4,hs4⟩ : ∃ w4,(wr.alloc (.cells #[.int .i64 sl,.int .i64 sh] 67)).drew=w4∧Below wr.heap.size wr w4∧w4.heap[wr.heap.size]? = some (.cells #[.int .i64 sl,.int .i64 sh] 67 (0,0)):=⟨_,rfl,((Below.refl _ wr).alloc (Nat.le_refl _) _).drew,heap_alloc_new wr _⟩
    rw [hw4]
    obtain ⟨e0,e1⟩:=cells2 hs4
    have f1:=(hb4.cell (p:=⟨w.heap.size+1,1+i,none⟩) dl).trans d1
    have hcf4:=HC.out.1.below hb4
    have f2:=hcf4.cell.2.1 i (by omega)
    have f3:=hcf4.cell.2.2 (1+i)
    have f4:=hcf4.lt
    have HB4:=Lib.hid (And.intro hb4 (And.intro hcf4 (HC.out.2.1.below hb4)))
    obtain ⟨mx,u0,o4,o5⟩ : ∃ mx,(if sl<sh then sh else sl)=mx∧1≤mx∧mx≤2147483647:=⟨_,rfl,by split <;> omega,by split <;> omega⟩
    have u1:IntKind.u64.wrap mx=mx:=by rw [IntKind.wrap_u64];omega
    have u2:¬ mx=0:=by omega
    have u3:(mx == 0)=false:=by simp;omega
    have HP:=Lib.hid (fun (v':Int)=>show NrI w3 ob (w.heap.size+1+1) q (5 - (i+1)) (.int .i64 ((i:Int)+1)) ((w4.setCell ⟨ob,1+i,none⟩ (.int .i64 v')).drew) from
     ⟨i+1,putX y i v',by push_cast;rfl,rfl,by omega,hcf4.put (by omega) v',(heap_setCell_other _ _ _ _ (by have:=HOE.out;have:=HOB.out;show w.heap.size+1+1≠ob;omega)).trans HB4.out.2.2,
      ((HC.out.2.2.trans (Chg.of_below (R:=fun _=>False) hb4) (fun _ _ e=>e.elim)).setCell (p:=⟨ob,1+i,none⟩) (fun _=>rfl) _).drew⟩)
    have HLT:=Lib.hid (show 5 - (i+1)<5 - i by omega)
    clear hw4 hb4 hs4 hcf4 d1 dl c9 c10 d0 h1 h2 h5 h6 b1 b2 l1 l2 l3
    go_wp2_with fail
    go_still_tail 17,(by kernel_rfl)
    change wpList _ _ _ _ _ w4.drew
    go_wp2_with fail
    go_roundw
    case rel=>exact ⟨_,HP.out _⟩
    case measure =>
     rw [HN.out]
     exact Nat.lt_of_le_of_lt ((leastOf_spec ⟨_,HP.out _⟩).2 _ (HP.out _)) HLT.out
   ·have s2:¬ (i:Int)<(ln:Int):=by omega
    obtain ⟨A,c,r1,_⟩:=fL.row HP.out
    rw [← HLN.out] at r1
    obtain ⟨_,e1,e2,e3,e4⟩:=hcf.five
    obtain ⟨⟨z0,z1,z2,z3,z4⟩,zf,zl⟩:=And.intro hzf.five (And.intro hzf.cell.2.2 hzf.lt)
    have zg0:=zf 0;have zg1:=zf 1;have zg2:=zf 2;have zg3:=zf 3;have zg4:=zf 4
    clear fA fL fC hcf hzf hbw hi4 zf
    go_wp2_with fail
    have hf:=set5_heap HC.out.2.1 (q:Int) y
    have hch:=set5_chg wr (w.heap.size+1+1) (.int .i64 q) (.int .i64 (y 0)) (.int .i64 (y 1)) (.int .i64 (y 2)) (.int .i64 (y 3))
    generalize (((((wr.setCell ⟨w.heap.size+1+1,0,none⟩ (.int .i64 q)).setCell ⟨w.heap.size+1+1,1,none⟩ (.int .i64 (y 0))).setCell ⟨w.heap.size+1+1,2,none⟩ (.int .i64 (y 1))).setCell ⟨w.heap.size+1+1,3,none⟩ (.int .i64 (y 2))).setCell ⟨w.heap.size+1+1,4,none⟩ (.int .i64 (y 3)))=w5 at *
    obtain ⟨r0,r1,r2,r3,r4⟩:=hf.five
    exact bodyPost_ret (v:=.agg #[.int .i64 q,.int .i64 (y 0),.int .i64 (y 1),.int .i64 (y 2),.int .i64 (y 3)]) (by simp [results,Tryz.results11,go_sem,r0,r1,r2,r3,r4]) rfl ⟨⟨q,y,rfl⟩,(bhop HB.out HBW.out).trans (hch.below (bhop HB.out HBW.out).size fun k hk e=>by omega)⟩
 ·have hfin:∀ (W:World),(((((w2.setCell ⟨w.heap.size+1+1,0,none⟩ (.int .i64 p)).setCell ⟨w.heap.size+1+1,1,none⟩ (.int .i64 (x 0))).setCell ⟨w.heap.size+1+1,2,none⟩ (.int .i64 (x 1))).setCell ⟨w.heap.size+1+1,3,none⟩ (.int .i64 (x 2))).setCell ⟨w.heap.size+1+1,4,none⟩ (.int .i64 (x 3)))=W→CfB W (w.heap.size+1+1) p x∧Below w.heap.size w W:=fun W hW=>by
   have hf:=set5_heap HZ.out p x
   have hch:=set5_chg w2 (w.heap.size+1+1) (.int .i64 p) (.int .i64 (x 0)) (.int .i64 (x 1)) (.int .i64 (x 2)) (.int .i64 (x 3))
   rw [hW] at hf hch
   exact ⟨hf,HB.out.trans (hch.below HB.out.size fun k hk e=>by omega)⟩
  have HFI:=Lib.hid hfin
  clear hfin
  cases s0b with
  | false =>
   clear g
   go_enter Tryz.func11,Tryz.ntmps11
   go_upto_region 1 with fail
   clear hw12
   go_wp2_with fail
   generalize hW:(((((w2.setCell ⟨w.heap.size+1+1,0,none⟩ (.int .i64 p)).setCell ⟨w.heap.size+1+1,1,none⟩ (.int .i64 (x 0))).setCell ⟨w.heap.size+1+1,2,none⟩ (.int .i64 (x 1))).setCell ⟨w.heap.size+1+1,3,none⟩ (.int .i64 (x 2))).setCell ⟨w.heap.size+1+1,4,none⟩ (.int .i64 (x 3)))=w4 at *
   obtain ⟨hf,hbb⟩:=HFI.out w4 rfl
   obtain ⟨r0,r1,r2,r3,r4⟩:=hf.five
   exact bodyPost_ret (v:=.agg #[.int .i64 p,.int .i64 (x 0),.int .i64 (x 1),.int .i64 (x 2),.int .i64 (x 3)]) (by simp [results,Tryz.results11,go_sem,r0,r1,r2,r3,r4]) rfl ⟨⟨p,x,rfl⟩,hbb⟩
  | true =>
   have g3:(a.n:Int)<2:=by
    have:¬ 2≤a.n:=fun h=>g ⟨rfl,h⟩
    omega
   clear g
   go_enter Tryz.func11,Tryz.ntmps11
   go_upto_region 1 with fail
   clear hw12
   go_wp2_with fail
   generalize hW:(((((w2.setCell ⟨w.heap.size+1+1,0,none⟩ (.int .i64 p)).setCell ⟨w.heap.size+1+1,1,none⟩ (.int .i64 (x 0))).setCell ⟨w.heap.size+1+1,2,none⟩ (.int .i64 (x 1))).setCell ⟨w.heap.size+1+1,3,none⟩ (.int .i64 (x 2))).setCell ⟨w.heap.size+1+1,4,none⟩ (.int .i64 (x 3)))=w4 at *
   obtain ⟨hf,hbb⟩:=HFI.out w4 rfl
   obtain ⟨r0,r1,r2,r3,r4⟩:=hf.five
   exact bodyPost_ret (v:=.agg #[.int .i64 p,.int .i64 (x 0),.int .i64 (x 1),.int .i64 (x 2),.int .i64 (x 3)]) (by simp [results,Tryz.results11,go_sem,r0,r1,r2,r3,r4]) rfl ⟨⟨p,x,rfl⟩,hbb⟩
end Go.Proofs.YtglohpgoohlopaaGreatDoor
