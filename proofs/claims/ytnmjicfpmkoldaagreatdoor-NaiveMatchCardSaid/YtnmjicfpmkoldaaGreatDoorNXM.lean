/- Of every input the statement NaiveMatch returns true, and it reads afterwards as before; the card: what its row lists is tied to the program's text.
   No condition. -/
import Derived.Test.YtnmjicfpmkoldaaGreatDoorPX
import Derived.Test.YtnmjicfpmkoldaaGreatDoorPG
import Derived.Test.YtnmjicfpmkoldaaGreatDoorRows
import Derived.WalkKit
import Derived.KernelRfl
import Derived.Test.YtnmjicfpmkoldaaGreatDoorNQM
import Derived.Test.YtnmjicfpmkoldaaGreatDoorN5
import Derived.Test.YtnmjicfpmkoldaaGreatDoorN1
import Derived.StillTailTactics
import Derived.Test.YtnmjicfpmkoldaaGreatDoorPM
import Derived.Test.YtnmjicfpmkoldaaGreatDoorMRef
import Derived.Test.YtnmjicfpmkoldaaGreatDoorCards
import Derived.Test.YtnmjicfpmkoldaaGreatDoorTie
import Derived.ProofKit
import Derived.LaidMore
import Derived.OpenShut
import Derived.ChangeOld
import Derived.Below
import Derived.SevenTiedAt

/- The document's Accepts: the contract.
   Conditions: the automaton lies in memory; the config's position is one of its. -/
namespace Go.Proofs.YtnmjicfpmkoldaaGreatDoor
open Go.RowKit Go.Shelf
set_option maxHeartbeats 8000000 in
set_option maxRecDepth 100000 in
theorem refAccepts_any {B:Nat} {m:PM} {a:Au} {fl:List Nat} {la q:Nat} {l:List Nat} (w:World) (hL:AuL w B m a fl la) (hp:m.ars[q]? = some l) (x:Nat→Int) :
  Calls Tryz.prog 31 #[.agg #[.int .i64 a.k,.int .u64 (a.s0:Nat),.int .u64 (a.s1:Nat),.int .u64 (a.s2:Nat),.int .u64 (a.s3:Nat),.slice a.ta a.tn a.tc,.int .i64 a.lo,.int .i64 a.hi,.slice a.sA a.n a.sC,.slice a.cA a.cN a.cC,.slice (some ⟨a.ga,0,none⟩) a.n a.aC,.slice a.fA a.fN a.fC,.slice (some ⟨a.mb,0,none⟩) a.n a.n,.slice (some ⟨a.lb,0,none⟩) a.n a.n,.bool a.em],.agg #[.int .i64 q,.int .i64 (x 0),.int .i64 (x 1),.int .i64 (x 2),.int .i64 (x 3)]] w fun e w'=>e=.returned (.bool (leftB m l x 0 && la.testBit q))∧Below w.heap.size w w':=by
 obtain ⟨w2,hw2,hb2,ha2,hc2⟩:=au_cf_box w a q x
 have HB:=Lib.hid hb2
 have hpn:q<a.n:=by rw [← hL.ars];exact (List.getElem?_eq_some_iff.1 hp).1
 have hl4:l.length≤4:=(hL.wf.ars _ (List.mem_of_getElem? hp)).1
 have HF:=Lib.hid (fun (W:World) (h:Below w2.heap.size w2 W)=>show AuB W w.heap.size a∧AuL W B m a fl la∧CfB W (w.heap.size+1) q x from ⟨ha2.below h,hL.below (bhop hb2 h),hc2.below h⟩)
 have HP:=Lib.hid hp
 have HQ:=Lib.hid hpn
 have v1:(0:Int)≤(q:Int):=by omega
 have v2:(q:Int)<(a.n:Int):=by omega
 have v3:((q:Int)).toNat=q:=by omega
 obtain ⟨ln,hln⟩ : ∃ ln,ln=l.length:=⟨_,rfl⟩
 have HLN:=Lib.hid hln
 rw [← hln] at hl4
 clear hb2 ha2 hc2 hL hp hpn hln
 go_enter Tryz.func31,Tryz.ntmps31
 go_upto_region 1 with fail
 clear hw2
 go_wp2_with fail
 go_loopw [5] (fun z wr=>∃ n,LvI w2 m l x 0 n z wr) (fun z wr=>leastOf (fun n=>LvI w2 m l x 0 n z wr))
 case atStart=>exact ⟨_,0,rfl,rfl,by omega,rfl,Below.refl _ _⟩
 case round =>
  have hls:=(leastOf_spec hrel).1
  obtain ⟨i,rfl,hN,hi4,he,hb⟩:=hls
  have HN:=Lib.hid hN
  have HE:=Lib.hid he
  have HR:=Lib.hid hb
  clear hN he hrel
  obtain ⟨fA,fL,fC⟩:=HF.out wr hb
  obtain ⟨_,c9,c10,_,_,c13⟩:=fA.cells
  obtain ⟨d0,_⟩:=fC.five
  have s1:(0:Int)≤(i:Int):=by omega
  have s3:((i:Int)).toNat=i:=by omega
  by_cases g:i<ln
  ·have s2:(i:Int)<(ln:Int):=by omega
   have s4:(i:Int)<4:=by omega
   have gi:i<l.length:=by have:=HLN.out;omega
   obtain ⟨g0,c,k,gs,h1,h2,h3,h4,h5,h6,_⟩:=fL.sc HP.out gi
   rw [h3] at c9
   rw [← HLN.out] at h1
   have d1:=fC.cell.2.1 i (by omega)
   have hst:=left_step (m:=m) (x:=x) gi
   obtain ⟨sl,hsl⟩ : ∃ sl,sl=(scA m l i).1:=⟨_,rfl⟩
   rw [← hsl] at hst h5
   obtain ⟨v,hv⟩ : ∃ v,v=x i:=⟨_,rfl⟩
   rw [← hv] at hst d1
   have HST:=Lib.hid hst
   have HLT:=Lib.hid (show 5 - (i+1)<5 - i by omega)
   have HI4:=Lib.hid (show i+1≤4 by omega)
   have v7:(0:Int)≤(k:Int):=by omega
   have v8:(k:Int)<(a.cN:Int):=by omega
   have v9:((k:Int)).toNat=k:=by omega
   clear fA fL fC hb hst hsl hv gi hi4 h3 h4 h6 c13
   by_cases g2:v<sl
   ·have HD:=Lib.hid (show leftB m l x 0=false by rw [← HE.out,HST.out,decide_eq_false (by omega),Bool.false_and])
    go_wp2_with fail
    go_quiet (fail)
    go_wp2_with fail
    go_ret
    exact ⟨by rw [HD.out];rfl,bhop HB.out (below_drewN HR.out _)⟩
   ·have HP2:=Lib.hid (fun (k:Nat)=>show LvI w2 m l x 0 (5 - (i+1)) (.int .i64 ((i:Int)+1)) (wr.drewN k) from ⟨i+1,by push_cast;rfl,rfl,HI4.out,by rw [← HE.out,HST.out,decide_eq_true (by omega),Bool.true_and],below_drewN HR.out k⟩)
    go_wp2_with fail
    go_quiet (fail)
    go_wp2_with fail
    go_roundw
    case rel=>exact ⟨_,HP2.out _⟩
    case measure =>
     rw [HN.out]
     exact Nat.lt_of_le_of_lt ((leastOf_spec ⟨_,HP2.out _⟩).2 _ (HP2.out _)) HLT.out
  ·have s2:¬ (i:Int)<(ln:Int):=by omega
   obtain ⟨A,c,r1,_⟩:=fL.row HP.out
   rw [← HLN.out] at r1
   have y0:=(fL.la HQ.out).1
   have HD:=Lib.hid (show leftB m l x 0=true by rw [← HE.out];exact left_end (by have:=HLN.out;omega))
   clear fA fL fC hb hi4
   go_wp2_with fail
   go_ret
   exact ⟨by rw [HD.out];rfl,bhop HB.out HR.out⟩
end Go.Proofs.YtnmjicfpmkoldaaGreatDoor

/- A drawn region of the document's Match.
   Conditions: what they load lies in memory; the contracts of what they call. -/

namespace Go.Proofs.YtnmjicfpmkoldaaGreatDoor
open Go.RowKit
abbrev opsregNt7:Array Oper:=#[{ dst:=some 25,op:=Op.load 39 (Operand.tmp 2),type:=39,pos := "ref.go:40",after:=#[],guard:=none },
 { dst:=some 26,op:=Op.move (Operand.tmp 5),type:=42,pos := "ref.go:40",after:=#[],guard:=none },
 { dst:=some 27,op:=Op.move (Operand.tmp 7),type:=3,pos := "ref.go:40",after:=#[],guard:=none },
 { dst:=some 28,op:=Op.indexAddr 42 (Operand.tmp 26) (Operand.tmp 27),type:=0,pos := "ref.go:40",after:=#[{ on:=1,ground:=Ground.data },{ on:=2,ground:=Ground.data }],guard:=none },
 { dst:=some 29,op:=Op.load 55 (Operand.tmp 28),type:=55,pos := "ref.go:40",after:=#[{ on:=3,ground:=Ground.data }],guard:=none },
 { dst:=some 30,op:=Op.call { callee:=Callee.value (Operand.func 31),args:=#[Operand.tmp 25,Operand.tmp 29],argTypes:=#[39,55] },type:=4,pos := "ref.go:40",after:=#[{ on:=0,ground:=Ground.data },{ on:=4,ground:=Ground.data }],guard:=none }]
def WregNt7 (ca:Array Value) (ab g ln c i:Nat) (x0 x1 x2 x3 x4:Int) (bv:Bool) (D:List Deferred) (v0 v1 v3 v4 v6 v8 v9 v10 v11 v12 v13 v14 v15 v16 v17 v18 v19 v20 v21 v22 v23 v24:Value) (w0:World) (l:Nat→Bool) (a:Act) (w:World):Prop :=
 ∃ (y0 y1 y2 y3 y4 y5:Value),a = { tmps:=#[v0,v1,.pointer (some ⟨ab,0,none⟩),v3,v4,.slice (some ⟨g,0,none⟩) ln c,v6,.int .i64 (i:Int),v8,v9,v10,v11,v12,v13,v14,v15,v16,v17,v18,v19,v20,v21,v22,v23,v24,y0,y1,y2,y3,y4,y5],defers:=D }∧Below w0.heap.size w0 w ∧
  (l 0=true→y0=.agg ca)∧(l 1=true→y1=.slice (some ⟨g,0,none⟩) ln c)∧(l 2=true→y2=.int .i64 (i:Int))∧(l 3=true→y3=.pointer (some ⟨g,i * 5,none⟩))∧(l 4=true→y4=.agg #[.int .i64 x0,.int .i64 x1,.int .i64 x2,.int .i64 x3,.int .i64 x4])∧(l 5=true→y5=.bool bv)
set_option maxHeartbeats 8000000 in
set_option maxRecDepth 100000 in
theorem regNt7 (ca:Array Value) (ab g ln c i:Nat) (x0 x1 x2 x3 x4:Int) (bv:Bool) (D:List Deferred) (v0 v1 v3 v4 v6 v8 v9 v10 v11 v12 v13 v14 v15 v16 v17 v18 v19 v20 v21 v22 v23 v24 wy0 wy1 wy2 wy3 wy4 wy5:Value) (w:World) (hA:∀ w',Below w.heap.size w w'→w'.heap[ab]? = some (.cells ca 39 (0,0))) (shA:(Tryz.prog.info? 39).map (·.size)=some ca.size) (hx:∀ w',Below w.heap.size w w'→w'.cell? ⟨g,i * 5,none⟩=some (.int .i64 x0)∧w'.cell? ⟨g,i * 5+1,none⟩=some (.int .i64 x1)∧w'.cell? ⟨g,i * 5+2,none⟩=some (.int .i64 x2)∧w'.cell? ⟨g,i * 5+3,none⟩=some (.int .i64 x3)∧w'.cell? ⟨g,i * 5+4,none⟩=some (.int .i64 x4)) (s1:(0:Int)≤(i:Int)) (s2:(i:Int)<(ln:Int)) (s3:((i:Int)).toNat=i) (hc:(∀ w',Below w.heap.size w w'→Calls Tryz.prog 31 #[.agg ca,.agg #[.int .i64 x0,.int .i64 x1,.int .i64 x2,.int .i64 x3,.int .i64 x4]] w' fun e w2=>e=.returned (.bool bv)∧Below w'.heap.size w' w2)) (Q:Exit→Act→World→Prop)
  (hQ:∀ (y0 y1 y2 y3 y4:Value) (w':World),Below w.heap.size w w'→Q .normal { tmps:=#[v0,v1,.pointer (some ⟨ab,0,none⟩),v3,v4,.slice (some ⟨g,0,none⟩) ln c,v6,.int .i64 (i:Int),v8,v9,v10,v11,v12,v13,v14,v15,v16,v17,v18,v19,v20,v21,v22,v23,v24,y0,y1,y2,y3,y4,.bool bv],defers:=D } w') :
  (Code.region 7 opsregNt7 true).wp Tryz.prog Q { tmps:=#[v0,v1,.pointer (some ⟨ab,0,none⟩),v3,v4,.slice (some ⟨g,0,none⟩) ln c,v6,.int .i64 (i:Int),v8,v9,v10,v11,v12,v13,v14,v15,v16,v17,v18,v19,v20,v21,v22,v23,v24,wy0,wy1,wy2,wy3,wy4,wy5],defers:=D } w:=by
 refine wp_region_inv (by kernel_rfl) (WregNt7 ca ab g ln c i x0 x1 x2 x3 x4 bv D v0 v1 v3 v4 v6 v8 v9 v10 v11 v12 v13 v14 v15 v16 v17 v18 v19 v20 v21 v22 v23 v24 w) ?hacy ?h0 ?hstep ?hdone
 case hacy=>kernel_rfl
 case h0=>exact ⟨wy0,wy1,wy2,wy3,wy4,wy5,rfl,below_drewN (Below.refl _ _) 1,(fun p=>by cases p),(fun p=>by cases p),(fun p=>by cases p),(fun p=>by cases p),(fun p=>by cases p),(fun p=>by cases p)⟩
 case hdone =>
  intro l a w1 hI hall
  obtain ⟨y0,y1,y2,y3,y4,y5,rfl,hb,h0,h1,h2,h3,h4,h5⟩:=hI
  obtain rfl:=h5 (hall 5 (by decide))
  exact hQ _ _ _ _ _ _ hb
 case hstep =>
  intro l a w1 i o hI ho hl hall
  obtain ⟨y0,y1,y2,y3,y4,y5,rfl,hb,h0,h1,h2,h3,h4,h5⟩:=hI
  have hi:i<6:=(Array.getElem?_eq_some_iff.1 ho).1
  match i,hi with
  | 0,_ =>
   have ho':=ho
   simp [opsregNt7] at ho
   subst ho
   refine wpOp_one ho' rfl fun K hK=>?_
   refine wp_load_row 39 (.tmp 2) rfl ab rfl 39 ca (0,0) _ (hA w1 hb) Tryz.underlying39 rfl shA ?_
   exact hK _ _ ⟨_,y1,y2,y3,y4,y5,rfl,hb,fun _=>(by first | rfl | simp),h1,h2,h3,h4,h5⟩
  | 1,_ =>
   have ho':=ho
   simp [opsregNt7] at ho
   subst ho
   refine wpOp_one ho' rfl fun K hK=>?_
   go_simp
   exact hK _ _ ⟨y0,_,y2,y3,y4,y5,rfl,hb,h0,fun _=>(by first | rfl | simp),h2,h3,h4,h5⟩
  | 2,_ =>
   have ho':=ho
   simp [opsregNt7] at ho
   subst ho
   refine wpOp_one ho' rfl fun K hK=>?_
   go_simp
   exact hK _ _ ⟨y0,y1,_,y3,y4,y5,rfl,hb,h0,h1,fun _=>(by first | rfl | simp),h3,h4,h5⟩
  | 3,_ =>
   have ho':=ho
   simp [opsregNt7] at ho
   subst ho
   obtain rfl:=h1 (hall ⟨1,.data⟩ (by simp) rfl)
   obtain rfl:=h2 (hall ⟨2,.data⟩ (by simp) rfl)
   refine wpOp_one ho' rfl fun K hK=>?_
   go_simp
   exact hK _ _ ⟨y0,_,_,_,y4,y5,rfl,hb,h0,fun _=>rfl,fun _=>rfl,fun _=>(by first | rfl | simp),h4,h5⟩
  | 4,_ =>
   have ho':=ho
   simp [opsregNt7] at ho
   subst ho
   obtain rfl:=h3 (hall ⟨3,.data⟩ (by simp) rfl)
   refine wpOp_one ho' rfl fun K hK=>?_
   obtain ⟨q0,q1,q2,q3,q4⟩:=hx w1 hb
   go_simp
   exact hK _ _ ⟨y0,y1,y2,_,_,y5,rfl,hb,h0,h1,h2,fun _=>rfl,fun _=>(by first | rfl | simp),h5⟩
  | 5,_ =>
   have ho':=ho
   simp [opsregNt7] at ho
   subst ho
   obtain rfl:=h0 (hall ⟨0,.data⟩ (by simp) rfl)
   obtain rfl:=h4 (hall ⟨4,.data⟩ (by simp) rfl)
   refine wpOp_one ho' rfl fun K hK=>?_
   go_simp
   go_at_call 31
   refine (hc _ hb).mono ?_
   rintro e w2 ⟨rfl,hb2⟩
   exact hK _ _ ⟨_,y1,y2,y3,_,_,rfl,(hb.trans (hb2.mono hb.size)),fun _=>rfl,h1,h2,h3,fun _=>rfl,fun _=>(by first | rfl | simp)⟩
  | k+6,hi=>omega
end Go.Proofs.YtnmjicfpmkoldaaGreatDoor

/- The document's Match, which the statement NaiveMatch holds naive against: a contract.
   Conditions: the automaton and the word lie in memory, as for the document's Behind. -/
namespace Go.Proofs.YtnmjicfpmkoldaaGreatDoor
open Go.RowKit Go.Maps Go.Shelf
def RmO (w:World) (m:PM) (fl:List Nat) (la:Nat) (L:Nat→List Mv) (em:Bool) (u:List Nat) (e:Ending) (w':World):Prop:=∃ bv,e=.returned (.bool bv)∧MatS m fl la L em u bv∧Below w.heap.size w w'
theorem right_ok {m:PM} {n:Int} {k:Kc} (h:OkC m n k) {la:Nat}:∃ (p:Nat) (lf:List Nat),k.p=(p:Int)∧m.ars[p]? = some lf∧accB m la k.p k.x=(leftB m lf k.x 0 && la.testBit p):=by
 obtain ⟨⟨p,lf,h1,h2,h3,h4⟩,_⟩:=h
 refine ⟨p,lf,h1,h3,?_⟩
 unfold accB
 rw [h1,right_at h2 h3,h4,show ((p:Int)).toNat=p by omega,show m.ars.getD p []=lf by rw [List.getD_eq_getElem?_getD,h3];rfl,Bool.true_and,Bool.and_comm]
set_option maxHeartbeats 8000000 in
set_option maxRecDepth 100000 in
theorem refMatch_any {B:Nat} {m:PM} {a:Au} {fl:List Nat} {la:Nat} (w:World) (hL:AuL w B m a fl la) {vs:List Value} {L:Nat→List Mv} (hrows:RowsM w B a.n (.slice (some ⟨a.mb,0,none⟩) a.n a.n) vs L) (hPP:AuP m fl L) (v:Value) (u:List Nat) (hu:WrdR w v u) (hlen:u.length≤40) :
  Calls Tryz.prog 16 #[.agg #[.int .i64 a.k,.int .u64 (a.s0:Nat),.int .u64 (a.s1:Nat),.int .u64 (a.s2:Nat),.int .u64 (a.s3:Nat),.slice a.ta a.tn a.tc,.int .i64 a.lo,.int .i64 a.hi,.slice a.sA a.n a.sC,.slice a.cA a.cN a.cC,.slice (some ⟨a.ga,0,none⟩) a.n a.aC,.slice a.fA a.fN a.fC,.slice (some ⟨a.mb,0,none⟩) a.n a.n,.slice (some ⟨a.lb,0,none⟩) a.n a.n,.bool a.em],v] w (RmO w m fl la L a.em u):=by
 obtain ⟨w2,hw2,hb2,ha2⟩:=au_box w a
 have HFl:=Lib.hid (refBehind_any w2 (hL.below hb2) (hrows.below hb2) hPP v u (hu.below hb2) hlen)
 have HF:=Lib.hid (fun (W:World) (h:Below w2.heap.size w2 W)=>show AuB W w.heap.size a∧AuL W B m a fl la from ⟨ha2.below h,hL.below (bhop hb2 h)⟩)
 obtain ⟨z0,z1,z2,z3,z4,z5,z6,z7,z8,z9,z10,z11,z12,z13,z14⟩:=ha2.all
 have HB:=Lib.hid hb2
 have HP:=Lib.hid hPP
 obtain ⟨A,c,rfl,_⟩:=hu
 obtain ⟨un,hun⟩ : ∃ n,n=u.length:=⟨_,rfl⟩
 have HU:=Lib.hid (And.intro hun hlen)
 rw [← hun] at HFl ⊢
 clear hL hrows hPP hlen hb2 ha2 hun
 go_enter Tryz.func16,Tryz.ntmps16
 by_cases h0:un=0
 ·have h1:((un:Nat):Int)=0:=by omega
  have HE:=Lib.hid (show MatS m fl la L a.em u a.em from ⟨fun _=>rfl,fun h=>absurd (List.length_eq_zero_iff.1 (by have:=HU.out.1;omega)) h⟩)
  go_wp2_with fail
  go_ret
  exact ⟨_,rfl,HE.out,HB.out⟩
 ·have h1:¬ ((un:Nat):Int)=0:=by omega
  go_upto_region 3 with fail
  clear hw2
  go_wp2_with fail
  go_at_call 13
  refine HFl.out.mono ?_
  rintro e w3 ⟨lA,lc,l,z,rfl,o1,o2,o3,_,_,o4,hb3⟩
  obtain ⟨ln,hln⟩ : ∃ n,n=l.length:=⟨_,rfl⟩
  have HO:=Lib.hid (And.intro o1 (And.intro o2 (And.intro hln (And.intro (show ln≤115856201 by omega) hb3))))
  have HLR:=Lib.hid (fun (W:World) (h:Below w3.heap.size w3 W)=>o3.below h)
  rw [← hln]
  clear o1 o2 o3 o4 hln hb3 z0 z1 z2 z3 z4 z5 z6 z7 z8 z9 z10 z11 z12 z13 z14
  go_wp2_with fail
  go_loopw [7] (fun z wr=>∃ i:Nat,z=.int .i64 i∧i≤ln∧(∀ j<i,∀ k,l[j]? = some k→accB m la k.p k.x=false)∧Below w3.heap.size w3 wr) (fun z _=>match z with | .int _ z=>ln - z.toNat | _=>0)
  case atStart=>exact ⟨0,rfl,Nat.zero_le _,fun j hj=>absurd hj (Nat.not_lt_zero j),Below.refl _ _⟩
  case round =>
   obtain ⟨i,rfl,hi1,hno,hbr⟩:=hrel
   have s1:(0:Int)≤(i:Int):=by omega
   have s3:((i:Int)).toNat=i:=by omega
   have wk:IntKind.i64.wrap ((i:Int)+1)=(i:Int)+1:=by have:=HO.out.2.2.2.1;rw [IntKind.wrap_i64];omega
   by_cases g:i<ln
   ·have s2:(i:Int)<(ln:Int):=by omega
    obtain ⟨p,hp⟩ : ∃ p,l[i]? = some p:=⟨_,List.getElem?_eq_getElem (by have:=HO.out.2.2.1;omega)⟩
    have hpb:=(HO.out.2.1 p).1 (List.mem_of_getElem? hp)
    have hok:=bhS_ok HP.out.wf HP.out.fin HP.out.mvl _ p hpb
    have hk63:=ok_63 HP.out.wf HP.out.most hok
    obtain ⟨pn,lf,hpp,hlf,hac⟩:=right_ok hok (la:=la)
    obtain ⟨gg,hgg,_⟩:=HLR.out wr hbr i p hp
    have HKX:=Lib.hid (fun (W:World) (h:Below wr.heap.size wr W)=>show W.cell? ⟨gg,i * 5,none⟩=some (.int .i64 p.p)∧W.cell? ⟨gg,i * 5+1,none⟩=some (.int .i64 p.a)∧W.cell? ⟨gg,i * 5+2,none⟩=some (.int .i64 p.b)∧W.cell? ⟨gg,i * 5+3,none⟩=some (.int .i64 p.c)∧W.cell? ⟨gg,i * 5+4,none⟩=some (.int .i64 p.d) from by
     obtain ⟨g2,h1,_,h3⟩:=HLR.out W (bhop hbr h) i p hp
     obtain rfl:gg=g2:=by rw [hgg] at h1;simpa using h1
     exact h3)
    have HX:=Lib.hid (bhop HO.out.2.2.2.2 hbr)
    have HRS:=Lib.hid (fun (W:World) (h:Below wr.heap.size wr W)=>show Calls Tryz.prog 31 #[.agg #[.int .i64 a.k,.int .u64 (a.s0:Nat),.int .u64 (a.s1:Nat),.int .u64 (a.s2:Nat),.int .u64 (a.s3:Nat),.slice a.ta a.tn a.tc,.int .i64 a.lo,.int .i64 a.hi,.slice a.sA a.n a.sC,.slice a.cA a.cN a.cC,.slice (some ⟨a.ga,0,none⟩) a.n a.aC,.slice a.fA a.fN a.fC,.slice (some ⟨a.mb,0,none⟩) a.n a.n,.slice (some ⟨a.lb,0,none⟩) a.n a.n,.bool a.em],.agg #[.int .i64 p.p,.int .i64 p.a,.int .i64 p.b,.int .i64 p.c,.int .i64 p.d]] W (fun e w'=>e=.returned (.bool (accB m la p.p p.x))∧Below W.heap.size W w') from by
     have:=refAccepts_any W (HF.out W (bhop HX.out h)).2 hlf p.x
     rw [← hpp,← hac] at this
     exact this)
    obtain ⟨av,hav⟩ : ∃ av,av=accB m la p.p p.x:=⟨_,rfl⟩
    have HPI:=Lib.hid (And.intro hp (And.intro hpb (And.intro hk63 (And.intro hav (And.intro g (And.intro hno hbr))))))
    rw [← hav] at HRS
    subst hgg
    clear hi1 hno hpb hok hk63 hpp hlf hac hp hav
    go_upto_region 7 with fail
    refine regNt7 #[.int .i64 a.k,.int .u64 (a.s0:Nat),.int .u64 (a.s1:Nat),.int .u64 (a.s2:Nat),.int .u64 (a.s3:Nat),.slice a.ta a.tn a.tc,.int .i64 a.lo,.int .i64 a.hi,.slice a.sA a.n a.sC,.slice a.cA a.cN a.cC,.slice (some ⟨a.ga,0,none⟩) a.n a.aC,.slice a.fA a.fN a.fC,.slice (some ⟨a.mb,0,none⟩) a.n a.n,.slice (some ⟨a.lb,0,none⟩) a.n a.n,.bool a.em] w.heap.size gg ln lc i p.p p.a p.b p.c p.d av _ _ _ _ _ _ _ _ _ _ _ _ _ _ _ _ _ _ _ _ _ _ _ _ _ _ _ _ _ wr (fun W h=>(HF.out W (bhop HX.out h)).1.blk) (by kernel_rfl) (fun W h=>HKX.out W h) s1 s2 s3 (fun W h=>HRS.out W h) _ ?_
    intros
    rename_i w20 hb20
    have HX20:=Lib.hid (bhop HPI.out.2.2.2.2.2.2 hb20)
    clear hb20 hbr
    cases hv:av with
    | true =>
     have HE:=Lib.hid (show MatS m fl la L a.em u true from ⟨fun h=>absurd (by rw [HU.out.1,h];rfl) h0,fun _=>⟨fun _=>⟨p,HPI.out.2.2.1,HPI.out.2.1,by rw [← HPI.out.2.2.2.1];exact hv⟩,fun _=>rfl⟩⟩)
     clear hv
     go_wp2_with fail
     go_ret
     exact ⟨true,rfl,HE.out,bhop HB.out (bhop HO.out.2.2.2.2 HX20.out)⟩
    | false =>
     have HN:=Lib.hid (show ∀ j<i+1,∀ k,l[j]? = some k→accB m la k.p k.x=false from fun j hj k hk=>by
      by_cases e:j=i
      ·subst e
       rw [← Option.some.inj (HPI.out.1.symm.trans hk),← HPI.out.2.2.2.1]
       exact hv
      ·exact HPI.out.2.2.2.2.2.1 j (by omega) k hk)
     clear hv
     go_wp2_with fail
     go_roundw
     case rel=>exact ⟨i+1,by push_cast;rfl,HPI.out.2.2.2.2.1,HN.out,HX20.out⟩
     case measure=>have:=HPI.out.2.2.2.2.1;simp;omega
   ·have s2:¬ (i:Int)<(ln:Int):=by omega
    have HE:=Lib.hid (show MatS m fl la L a.em u false from ⟨fun h=>absurd (by rw [HU.out.1,h];rfl) h0,fun _=>⟨fun h=>absurd h Bool.false_ne_true,fun ⟨k,_,k2,k3⟩=>absurd k3 (by
     obtain ⟨j,hj⟩:=List.mem_iff_getElem?.1 ((HO.out.2.1 k).2 k2)
     rw [hno j (by have:=(List.getElem?_eq_some_iff.1 hj).1;have:=HO.out.2.2.1;omega) k hj]
     exact Bool.false_ne_true)⟩⟩)
    have HX20:=Lib.hid hbr
    clear hno hbr hi1
    go_wp2_with fail
    go_ret
    exact ⟨false,rfl,HE.out,bhop HB.out (bhop HO.out.2.2.2.2 HX20.out)⟩
end Go.Proofs.YtnmjicfpmkoldaaGreatDoor

/- A drawn region of the walk of NaiveMatch.
   Conditions: what they load lies in memory; the contracts of what they call. -/

namespace Go.Proofs.YtnmjicfpmkoldaaGreatDoor
open Go.RowKit
abbrev opsregNm4:Array Oper:=#[{ dst:=some 20,op:=Op.move (Operand.tmp 6),type:=4,pos := "law.go:37",after:=#[],guard:=none },
 { dst:=some 21,op:=Op.unOp UnOp.not 4 (Operand.tmp 20),type:=4,pos := "law.go:37",after:=#[{ on:=0,ground:=Ground.data }],guard:=none },
 { dst:=some 22,op:=Op.move (Operand.tmp 21),type:=4,pos := "law.go:37",after:=#[{ on:=1,ground:=Ground.data }],guard:=none },
 { dst:=some 23,op:=Op.load 39 (Operand.tmp 5),type:=39,pos := "law.go:37",after:=#[{ on:=2,ground:=Ground.guard }],guard:=some (2,false) },
 { dst:=some 24,op:=Op.move (Operand.tmp 1),type:=28,pos := "law.go:37",after:=#[{ on:=2,ground:=Ground.guard }],guard:=some (2,false) },
 { dst:=some 25,op:=Op.call { callee:=Callee.value (Operand.func 12),args:=#[Operand.tmp 23,Operand.tmp 24],argTypes:=#[39,28] },type:=4,pos := "law.go:37",after:=#[{ on:=3,ground:=Ground.data },{ on:=4,ground:=Ground.data },{ on:=2,ground:=Ground.chain },{ on:=2,ground:=Ground.guard }],guard:=some (2,false) },
 { dst:=some 26,op:=Op.load 39 (Operand.tmp 5),type:=39,pos := "law.go:37",after:=#[{ on:=2,ground:=Ground.guard }],guard:=some (2,false) },
 { dst:=some 27,op:=Op.move (Operand.tmp 1),type:=28,pos := "law.go:37",after:=#[{ on:=2,ground:=Ground.guard }],guard:=some (2,false) },
 { dst:=some 28,op:=Op.call { callee:=Callee.value (Operand.func 16),args:=#[Operand.tmp 26,Operand.tmp 27],argTypes:=#[39,28] },type:=4,pos := "law.go:37",after:=#[{ on:=6,ground:=Ground.data },{ on:=7,ground:=Ground.data },{ on:=5,ground:=Ground.chain },{ on:=2,ground:=Ground.guard }],guard:=some (2,false) },
 { dst:=some 29,op:=Op.binOp BinOp.eql 4 (Operand.tmp 25) (Operand.tmp 28) 4,type:=4,pos := "law.go:37",after:=#[{ on:=5,ground:=Ground.data },{ on:=8,ground:=Ground.data },{ on:=2,ground:=Ground.guard }],guard:=some (2,false) },
 { dst:=some 30,op:=Op.pick (Operand.tmp 22) (Operand.const (Value.bool true)) (Operand.tmp 29),type:=4,pos := "law.go:37",after:=#[{ on:=2,ground:=Ground.data },{ on:=9,ground:=Ground.data }],guard:=none },
 { dst:=some 4,op:=Op.assign (Operand.tmp 30),type:=4,pos := "law.go:37",after:=#[{ on:=10,ground:=Ground.data },{ on:=8,ground:=Ground.chain },{ on:=0,ground:=Ground.phase },{ on:=1,ground:=Ground.phase },{ on:=2,ground:=Ground.phase },{ on:=3,ground:=Ground.phase },{ on:=4,ground:=Ground.phase },{ on:=5,ground:=Ground.phase },{ on:=6,ground:=Ground.phase },{ on:=7,ground:=Ground.phase },{ on:=8,ground:=Ground.phase },{ on:=9,ground:=Ground.phase },{ on:=10,ground:=Ground.phase }],guard:=none }]
def WregNm4 (ca:Array Value) (ab:Nat) (wv:Value) (bv:Bool) (D:List Deferred) (v0 v2 v3 v7 v8 v9 v10 v11 v12 v13 v14 v15 v16 v17 v18 v19:Value) (w0:World) (l:Nat→Bool) (a:Act) (w:World):Prop :=
 ∃ (y0 y1 y2 y3 y4 y5 y6 y7 y8 y9 y10 y11:Value),a = { tmps:=#[v0,wv,v2,v3,y11,.pointer (some ⟨ab,0,none⟩),.bool true,v7,v8,v9,v10,v11,v12,v13,v14,v15,v16,v17,v18,v19,y0,y1,y2,y3,y4,y5,y6,y7,y8,y9,y10],defers:=D }∧Below w0.heap.size w0 w ∧
  (l 0=true→y0=.bool true)∧(l 1=true→y1=.bool false)∧(l 2=true→y2=.bool false)∧(l 3=true→y3=.agg ca)∧(l 4=true→y4=wv)∧(l 5=true→y5=.bool bv)∧(l 6=true→y6=.agg ca)∧(l 7=true→y7=wv)∧(l 8=true→y8=.bool bv)∧(l 9=true→y9=.bool true)∧(l 10=true→y10=.bool true)∧(l 11=true→y11=.bool true)
set_option maxHeartbeats 8000000 in
set_option maxRecDepth 100000 in
theorem regNm4 (ca:Array Value) (ab:Nat) (wv:Value) (bv:Bool) (D:List Deferred) (v0 v2 v3 v7 v8 v9 v10 v11 v12 v13 v14 v15 v16 v17 v18 v19 wy0 wy1 wy2 wy3 wy4 wy5 wy6 wy7 wy8 wy9 wy10 wy11:Value) (w:World) (hA:∀ w',Below w.heap.size w w'→w'.heap[ab]? = some (.cells ca 39 (0,0))) (shA:(Tryz.prog.info? 39).map (·.size)=some ca.size) (hc1:(∀ w',Below w.heap.size w w'→Calls Tryz.prog 12 #[.agg ca,wv] w' fun e w2=>e=.returned (.bool bv)∧Below w'.heap.size w' w2)) (hc2:(∀ w',Below w.heap.size w w'→Calls Tryz.prog 16 #[.agg ca,wv] w' fun e w2=>e=.returned (.bool bv)∧Below w'.heap.size w' w2)) (Q:Exit→Act→World→Prop)
  (hQ:∀ (y0 y1 y2 y3 y4 y5 y6 y7 y8 y9 y10:Value) (w':World),Below w.heap.size w w'→Q .normal { tmps:=#[v0,wv,v2,v3,.bool true,.pointer (some ⟨ab,0,none⟩),.bool true,v7,v8,v9,v10,v11,v12,v13,v14,v15,v16,v17,v18,v19,y0,y1,y2,y3,y4,y5,y6,y7,y8,y9,y10],defers:=D } w') :
  (Code.region 4 opsregNm4 true).wp Tryz.prog Q { tmps:=#[v0,wv,v2,v3,wy11,.pointer (some ⟨ab,0,none⟩),.bool true,v7,v8,v9,v10,v11,v12,v13,v14,v15,v16,v17,v18,v19,wy0,wy1,wy2,wy3,wy4,wy5,wy6,wy7,wy8,wy9,wy10],defers:=D } w:=by
 refine wp_region_inv (by kernel_rfl) (WregNm4 ca ab wv bv D v0 v2 v3 v7 v8 v9 v10 v11 v12 v13 v14 v15 v16 v17 v18 v19 w) ?hacy ?h0 ?hstep ?hdone
 case hacy=>kernel_rfl
 case h0=>exact ⟨wy0,wy1,wy2,wy3,wy4,wy5,wy6,wy7,wy8,wy9,wy10,wy11,rfl,below_drewN (Below.refl _ _) 1,(fun p=>by cases p),(fun p=>by cases p),(fun p=>by cases p),(fun p=>by cases p),(fun p=>by cases p),(fun p=>by cases p),(fun p=>by cases p),(fun p=>by cases p),(fun p=>by cases p),(fun p=>by cases p),(fun p=>by cases p),(fun p=>by cases p)⟩
 case hdone =>
  intro l a w1 hI hall
  obtain ⟨y0,y1,y2,y3,y4,y5,y6,y7,y8,y9,y10,y11,rfl,hb,h0,h1,h2,h3,h4,h5,h6,h7,h8,h9,h10,h11⟩:=hI
  obtain rfl:=h11 (hall 11 (by decide))
  exact hQ _ _ _ _ _ _ _ _ _ _ _ _ hb
 case hstep =>
  intro l a w1 i o hI ho hl hall
  obtain ⟨y0,y1,y2,y3,y4,y5,y6,y7,y8,y9,y10,y11,rfl,hb,h0,h1,h2,h3,h4,h5,h6,h7,h8,h9,h10,h11⟩:=hI
  have hi:i<12:=(Array.getElem?_eq_some_iff.1 ho).1
  match i,hi with
  | 0,_ =>
   have ho':=ho
   simp [opsregNm4] at ho
   subst ho
   refine wpOp_one ho' rfl fun K hK=>?_
   go_simp
   exact hK _ _ ⟨_,y1,y2,y3,y4,y5,y6,y7,y8,y9,y10,y11,rfl,hb,fun _=>(by first | rfl | simp),h1,h2,h3,h4,h5,h6,h7,h8,h9,h10,h11⟩
  | 1,_ =>
   have ho':=ho
   simp [opsregNm4] at ho
   subst ho
   obtain rfl:=h0 (hall ⟨0,.data⟩ (by simp) rfl)
   refine wpOp_one ho' rfl fun K hK=>?_
   go_simp
   exact hK _ _ ⟨_,_,y2,y3,y4,y5,y6,y7,y8,y9,y10,y11,rfl,hb,fun _=>rfl,fun _=>(by first | rfl | simp),h2,h3,h4,h5,h6,h7,h8,h9,h10,h11⟩
  | 2,_ =>
   have ho':=ho
   simp [opsregNm4] at ho
   subst ho
   obtain rfl:=h1 (hall ⟨1,.data⟩ (by simp) rfl)
   refine wpOp_one ho' rfl fun K hK=>?_
   go_simp
   exact hK _ _ ⟨y0,_,_,y3,y4,y5,y6,y7,y8,y9,y10,y11,rfl,hb,h0,fun _=>rfl,fun _=>(by first | rfl | simp),h3,h4,h5,h6,h7,h8,h9,h10,h11⟩
  | 3,_ =>
   have ho':=ho
   simp [opsregNm4] at ho
   subst ho
   obtain rfl:=h2 (hall ⟨2,.guard⟩ (by simp) rfl)
   refine wpOp_on ho' rfl fun K hK=>?_
   refine wp_load_row 39 (.tmp 5) rfl ab rfl 39 ca (0,0) _ (hA w1 hb) Tryz.underlying39 rfl shA ?_
   exact hK _ _ ⟨y0,y1,_,_,y4,y5,y6,y7,y8,y9,y10,y11,rfl,hb,h0,h1,fun _=>rfl,fun _=>(by first | rfl | simp),h4,h5,h6,h7,h8,h9,h10,h11⟩
  | 4,_ =>
   have ho':=ho
   simp [opsregNm4] at ho
   subst ho
   obtain rfl:=h2 (hall ⟨2,.guard⟩ (by simp) rfl)
   refine wpOp_on ho' rfl fun K hK=>?_
   go_simp
   exact hK _ _ ⟨y0,y1,_,y3,_,y5,y6,y7,y8,y9,y10,y11,rfl,hb,h0,h1,fun _=>rfl,h3,fun _=>(by first | rfl | simp),h5,h6,h7,h8,h9,h10,h11⟩
  | 5,_ =>
   have ho':=ho
   simp [opsregNm4] at ho
   subst ho
   obtain rfl:=h2 (hall ⟨2,.chain⟩ (by simp) rfl)
   obtain rfl:=h3 (hall ⟨3,.data⟩ (by simp) rfl)
   obtain rfl:=h4 (hall ⟨4,.data⟩ (by simp) rfl)
   refine wpOp_on ho' rfl fun K hK=>?_
   go_simp
   go_at_call 12
   refine (hc1 _ hb).mono ?_
   rintro e w2 ⟨rfl,hb2⟩
   exact hK _ _ ⟨y0,y1,_,_,_,_,y6,y7,y8,y9,y10,y11,rfl,(hb.trans (hb2.mono hb.size)),h0,h1,fun _=>rfl,fun _=>rfl,fun _=>rfl,fun _=>(by first | rfl | simp),h6,h7,h8,h9,h10,h11⟩
  | 6,_ =>
   have ho':=ho
   simp [opsregNm4] at ho
   subst ho
   obtain rfl:=h2 (hall ⟨2,.guard⟩ (by simp) rfl)
   refine wpOp_on ho' rfl fun K hK=>?_
   refine wp_load_row 39 (.tmp 5) rfl ab rfl 39 ca (0,0) _ (hA w1 hb) Tryz.underlying39 rfl shA ?_
   exact hK _ _ ⟨y0,y1,_,y3,y4,y5,_,y7,y8,y9,y10,y11,rfl,hb,h0,h1,fun _=>rfl,h3,h4,h5,fun _=>(by first | rfl | simp),h7,h8,h9,h10,h11⟩
  | 7,_ =>
   have ho':=ho
   simp [opsregNm4] at ho
   subst ho
   obtain rfl:=h2 (hall ⟨2,.guard⟩ (by simp) rfl)
   refine wpOp_on ho' rfl fun K hK=>?_
   go_simp
   exact hK _ _ ⟨y0,y1,_,y3,y4,y5,y6,_,y8,y9,y10,y11,rfl,hb,h0,h1,fun _=>rfl,h3,h4,h5,h6,fun _=>(by first | rfl | simp),h8,h9,h10,h11⟩
  | 8,_ =>
   have ho':=ho
   simp [opsregNm4] at ho
   subst ho
   obtain rfl:=h2 (hall ⟨2,.guard⟩ (by simp) rfl)
   obtain rfl:=h6 (hall ⟨6,.data⟩ (by simp) rfl)
   obtain rfl:=h7 (hall ⟨7,.data⟩ (by simp) rfl)
   refine wpOp_on ho' rfl fun K hK=>?_
   go_simp
   go_at_call 16
   refine (hc2 _ hb).mono ?_
   rintro e w2 ⟨rfl,hb2⟩
   exact hK _ _ ⟨y0,y1,_,y3,y4,y5,_,_,_,y9,y10,y11,rfl,(hb.trans (hb2.mono hb.size)),h0,h1,fun _=>rfl,h3,h4,h5,fun _=>rfl,fun _=>rfl,fun _=>(by first | rfl | simp),h9,h10,h11⟩
  | 9,_ =>
   have ho':=ho
   simp [opsregNm4] at ho
   subst ho
   obtain rfl:=h2 (hall ⟨2,.guard⟩ (by simp) rfl)
   obtain rfl:=h5 (hall ⟨5,.data⟩ (by simp) rfl)
   obtain rfl:=h8 (hall ⟨8,.data⟩ (by simp) rfl)
   refine wpOp_on ho' rfl fun K hK=>?_
   go_simp
   exact hK _ _ ⟨y0,y1,_,y3,y4,_,y6,y7,_,_,y10,y11,rfl,hb,h0,h1,fun _=>rfl,h3,h4,fun _=>rfl,h6,h7,fun _=>rfl,fun _=>(by first | rfl | (cases bv <;> rfl)),h10,h11⟩
  | 10,_ =>
   have ho':=ho
   simp [opsregNm4] at ho
   subst ho
   obtain rfl:=h2 (hall ⟨2,.data⟩ (by simp) rfl)
   obtain rfl:=h9 (hall ⟨9,.data⟩ (by simp) rfl)
   refine wpOp_one ho' rfl fun K hK=>?_
   go_simp
   exact hK _ _ ⟨y0,y1,_,y3,y4,y5,y6,y7,y8,_,_,y11,rfl,hb,h0,h1,fun _=>rfl,h3,h4,h5,h6,h7,h8,fun _=>rfl,fun _=>(by first | rfl | simp),h11⟩
  | 11,_ =>
   have ho':=ho
   simp [opsregNm4] at ho
   subst ho
   obtain rfl:=h10 (hall ⟨10,.data⟩ (by simp) rfl)
   refine wpOp_one ho' rfl fun K hK=>?_
   go_simp
   exact hK _ _ ⟨y0,y1,y2,y3,y4,y5,y6,y7,y8,y9,_,_,rfl,hb,h0,h1,h2,h3,h4,h5,h6,h7,h8,h9,fun _=>rfl,fun _=>(by first | rfl | simp)⟩
  | k+12,hi=>omega
def WregNm4f  (D:List Deferred) (v0 v1 v2 v3 v5 v7 v8 v9 v10 v11 v12 v13 v14 v15 v16 v17 v18 v19:Value) (w0:World) (l:Nat→Bool) (a:Act) (w:World):Prop :=
 ∃ (y0 y1 y2 y3 y4 y5 y6 y7 y8 y9 y10 y11:Value),a = { tmps:=#[v0,v1,v2,v3,y11,v5,.bool false,v7,v8,v9,v10,v11,v12,v13,v14,v15,v16,v17,v18,v19,y0,y1,y2,y3,y4,y5,y6,y7,y8,y9,y10],defers:=D }∧Below w0.heap.size w0 w ∧
  (l 0=true→y0=.bool false)∧(l 1=true→y1=.bool true)∧(l 2=true→y2=.bool true)∧(l 10=true→y10=.bool true)∧(l 11=true→y11=.bool true)
set_option maxHeartbeats 8000000 in
set_option maxRecDepth 100000 in
theorem regNm4f  (D:List Deferred) (v0 v1 v2 v3 v5 v7 v8 v9 v10 v11 v12 v13 v14 v15 v16 v17 v18 v19 wy0 wy1 wy2 wy3 wy4 wy5 wy6 wy7 wy8 wy9 wy10 wy11:Value) (w:World)  (Q:Exit→Act→World→Prop)
  (hQ:∀ (y0 y1 y2 y3 y4 y5 y6 y7 y8 y9 y10:Value) (w':World),Below w.heap.size w w'→Q .normal { tmps:=#[v0,v1,v2,v3,.bool true,v5,.bool false,v7,v8,v9,v10,v11,v12,v13,v14,v15,v16,v17,v18,v19,y0,y1,y2,y3,y4,y5,y6,y7,y8,y9,y10],defers:=D } w') :
  (Code.region 4 opsregNm4 true).wp Tryz.prog Q { tmps:=#[v0,v1,v2,v3,wy11,v5,.bool false,v7,v8,v9,v10,v11,v12,v13,v14,v15,v16,v17,v18,v19,wy0,wy1,wy2,wy3,wy4,wy5,wy6,wy7,wy8,wy9,wy10],defers:=D } w:=by
 refine wp_region_inv (by kernel_rfl) (WregNm4f  D v0 v1 v2 v3 v5 v7 v8 v9 v10 v11 v12 v13 v14 v15 v16 v17 v18 v19 w) ?hacy ?h0 ?hstep ?hdone
 case hacy=>kernel_rfl
 case h0=>exact ⟨wy0,wy1,wy2,wy3,wy4,wy5,wy6,wy7,wy8,wy9,wy10,wy11,rfl,below_drewN (Below.refl _ _) 1,(fun p=>by cases p),(fun p=>by cases p),(fun p=>by cases p),(fun p=>by cases p),(fun p=>by cases p)⟩
 case hdone =>
  intro l a w1 hI hall
  obtain ⟨y0,y1,y2,y3,y4,y5,y6,y7,y8,y9,y10,y11,rfl,hb,h0,h1,h2,h10,h11⟩:=hI
  obtain rfl:=h11 (hall 11 (by decide))
  exact hQ _ _ _ _ _ _ _ _ _ _ _ _ hb
 case hstep =>
  intro l a w1 i o hI ho hl hall
  obtain ⟨y0,y1,y2,y3,y4,y5,y6,y7,y8,y9,y10,y11,rfl,hb,h0,h1,h2,h10,h11⟩:=hI
  have hi:i<12:=(Array.getElem?_eq_some_iff.1 ho).1
  match i,hi with
  | 0,_ =>
   have ho':=ho
   simp [opsregNm4] at ho
   subst ho
   refine wpOp_one ho' rfl fun K hK=>?_
   go_simp
   exact hK _ _ ⟨_,y1,y2,y3,y4,y5,y6,y7,y8,y9,y10,y11,rfl,hb,fun _=>(by first | rfl | simp),h1,h2,h10,h11⟩
  | 1,_ =>
   have ho':=ho
   simp [opsregNm4] at ho
   subst ho
   obtain rfl:=h0 (hall ⟨0,.data⟩ (by simp) rfl)
   refine wpOp_one ho' rfl fun K hK=>?_
   go_simp
   exact hK _ _ ⟨_,_,y2,y3,y4,y5,y6,y7,y8,y9,y10,y11,rfl,hb,fun _=>rfl,fun _=>(by first | rfl | simp),h2,h10,h11⟩
  | 2,_ =>
   have ho':=ho
   simp [opsregNm4] at ho
   subst ho
   obtain rfl:=h1 (hall ⟨1,.data⟩ (by simp) rfl)
   refine wpOp_one ho' rfl fun K hK=>?_
   go_simp
   exact hK _ _ ⟨y0,_,_,y3,y4,y5,y6,y7,y8,y9,y10,y11,rfl,hb,h0,fun _=>rfl,fun _=>(by first | rfl | simp),h10,h11⟩
  | 3,_ =>
   have ho':=ho
   simp [opsregNm4] at ho
   subst ho
   obtain rfl:=h2 (hall ⟨2,.guard⟩ (by simp) rfl)
   refine wpOq_off ho' rfl ?_
   exact ⟨y0,y1,_,_,y4,y5,y6,y7,y8,y9,y10,y11,rfl,hb,h0,h1,fun _=>rfl,h10,h11⟩
  | 4,_ =>
   have ho':=ho
   simp [opsregNm4] at ho
   subst ho
   obtain rfl:=h2 (hall ⟨2,.guard⟩ (by simp) rfl)
   refine wpOq_off ho' rfl ?_
   exact ⟨y0,y1,_,y3,_,y5,y6,y7,y8,y9,y10,y11,rfl,hb,h0,h1,fun _=>rfl,h10,h11⟩
  | 5,_ =>
   have ho':=ho
   simp [opsregNm4] at ho
   subst ho
   obtain rfl:=h2 (hall ⟨2,.chain⟩ (by simp) rfl)
   refine wpOq_off ho' rfl ?_
   exact ⟨y0,y1,_,y3,y4,_,y6,y7,y8,y9,y10,y11,rfl,hb,h0,h1,fun _=>rfl,h10,h11⟩
  | 6,_ =>
   have ho':=ho
   simp [opsregNm4] at ho
   subst ho
   obtain rfl:=h2 (hall ⟨2,.guard⟩ (by simp) rfl)
   refine wpOq_off ho' rfl ?_
   exact ⟨y0,y1,_,y3,y4,y5,_,y7,y8,y9,y10,y11,rfl,hb,h0,h1,fun _=>rfl,h10,h11⟩
  | 7,_ =>
   have ho':=ho
   simp [opsregNm4] at ho
   subst ho
   obtain rfl:=h2 (hall ⟨2,.guard⟩ (by simp) rfl)
   refine wpOq_off ho' rfl ?_
   exact ⟨y0,y1,_,y3,y4,y5,y6,_,y8,y9,y10,y11,rfl,hb,h0,h1,fun _=>rfl,h10,h11⟩
  | 8,_ =>
   have ho':=ho
   simp [opsregNm4] at ho
   subst ho
   obtain rfl:=h2 (hall ⟨2,.guard⟩ (by simp) rfl)
   refine wpOq_off ho' rfl ?_
   exact ⟨y0,y1,_,y3,y4,y5,y6,y7,_,y9,y10,y11,rfl,hb,h0,h1,fun _=>rfl,h10,h11⟩
  | 9,_ =>
   have ho':=ho
   simp [opsregNm4] at ho
   subst ho
   obtain rfl:=h2 (hall ⟨2,.guard⟩ (by simp) rfl)
   refine wpOq_off ho' rfl ?_
   exact ⟨y0,y1,_,y3,y4,y5,y6,y7,y8,_,y10,y11,rfl,hb,h0,h1,fun _=>rfl,h10,h11⟩
  | 10,_ =>
   have ho':=ho
   simp [opsregNm4] at ho
   subst ho
   obtain rfl:=h2 (hall ⟨2,.data⟩ (by simp) rfl)
   refine wpOp_one ho' rfl fun K hK=>?_
   go_simp
   exact hK _ _ ⟨y0,y1,_,y3,y4,y5,y6,y7,y8,y9,_,y11,rfl,hb,h0,h1,fun _=>rfl,fun _=>(by first | rfl | simp),h11⟩
  | 11,_ =>
   have ho':=ho
   simp [opsregNm4] at ho
   subst ho
   obtain rfl:=h10 (hall ⟨10,.data⟩ (by simp) rfl)
   refine wpOp_one ho' rfl fun K hK=>?_
   go_simp
   exact hK _ _ ⟨y0,y1,y2,y3,y4,y5,y6,y7,y8,y9,_,_,rfl,hb,h0,h1,h2,fun _=>rfl,fun _=>(by first | rfl | simp)⟩
  | k+12,hi=>omega
end Go.Proofs.YtnmjicfpmkoldaaGreatDoor

/- The walk of the statement NaiveMatch: called with a tree and a word it returns true and changes nothing that was there.
   Conditions: the tree and the word lie in memory, the tree's sets are four words below 2^64, and the library's table lies there. -/
namespace Go.Proofs.YtnmjicfpmkoldaaGreatDoor
open Go.RowKit Go.Maps Go.Shelf
attribute [local go_sem] nodeAgg
theorem mat_ex (m:PM) (fl:List Nat) (la:Nat) (L:Nat→List Mv) (em:Bool) (u:List Nat):∃ bv,∀ b,MatS m fl la L em u b→b=bv:=by
 by_cases hu:u=[]
 ·exact ⟨em,fun b h=>h.1 hu⟩
 ·by_cases hk:∃ k,Kc63 k∧bhS m fl L u k∧accB m la k.p k.x=true
  ·exact ⟨true,fun b h=>(h.2 hu).2 hk⟩
  ·exact ⟨false,fun b h=>by
    cases b with
    | false=>rfl
    | true=>exact absurd ((h.2 hu).1 rfl) hk⟩
set_option maxHeartbeats 8000000 in
set_option maxRecDepth 100000 in
theorem match8_walk (t:V) (v1:Value) (u:List Nat) (w:World) (R:Nat→Prop) (ht:Laid w R t) (hgd:Good t) (hT:TabE w) (hTl:tabE<w.heap.size) (hu:WrdR w v1 u) :
  Calls Tryz.prog 6 #[nodeAgg t,v1] w fun e w'=>e=.returned (.bool true)∧Below w.heap.size w w':=by
 obtain ⟨sa,sc,hv0,_⟩:=laid_row' ht
 obtain ⟨sn,hsn⟩ : ∃ sn,sn=t.ps.length:=⟨_,rfl⟩
 rw [← hsn] at hv0
 have HTT:=Lib.hid (fun (W:World) (h:Below w.heap.size w W)=>show TabE W∧tabE<W.heap.size from ⟨tab_below hT hTl h,Nat.lt_of_lt_of_le hTl h.size⟩)
 have HAU:=Lib.hid (fun (W:World) (h:Below w.heap.size w W)=>by
  have:=auto_any t W R (laid_low ht h) (HTT.out W h).1 (HTT.out W h).2
  rw [nodeAgg_v hv0] at this
  exact this)
 have HW:=Lib.hid (fun (W:World) (h:Below w.heap.size w W)=>hu.below h)
 have HGD:=Lib.hid hgd
 obtain ⟨A1,c1,rfl,hu0⟩:=hu
 obtain ⟨un,hun⟩ : ∃ n,n=u.length:=⟨_,rfl⟩
 have HL:=Lib.hid hun
 have H256:=Lib.hid (show ∀ x∈u,x<256 from fun x hx=>by obtain ⟨i,hi⟩:=List.mem_iff_getElem?.1 hx;exact (hu0 i x hi).1)
 rw [← hun] at HW ⊢
 rw [nodeAgg_v hv0]
 have HAW:=Lib.hid (fun (W:World) (h:Below w.heap.size w W)=>awake8_any W (HTT.out W h).1 (HTT.out W h).2)
 obtain ⟨w0,hw0,hb0,hlt0,hbx⟩:=box_new w t (.slice sa sn sc)
 have HBX:=Lib.hid hbx
 have HB0:=Lib.hid hb0
 clear ht hv0 hsn hT hTl hu0 hun hgd hbx hb0 hlt0
 go_enter Tryz.func6,Tryz.ntmps6
 go_upto_region 1 with fail
 clear hw0
 go_wp2_with fail
 go_at_call 9
 refine (HAW.out _ HB0.out).mono ?_
 rintro e w2 ⟨rfl,hb2⟩
 have HB2:=Lib.hid (bhop HB0.out hb2)
 obtain ⟨q0,q1,q2,q3,q4,q5,q6,q7⟩:=HBX.out w2 hb2
 clear hb2
 by_cases h1:40<un
 ·have h1':(40:Int)<(un:Int):=by omega
  go_wp2_with fail
  go_at_call 9
  refine (HAW.out _ HB2.out).mono ?_
  rintro e w3 ⟨rfl,hb3⟩
  have HB3:=Lib.hid (bhop HB2.out hb3)
  clear hb3
  go_wp2_with fail
  go_ret
  exact ⟨rfl,HB3.out⟩
 have h1':¬ (40:Int)<(un:Int):=by omega
 go_wp2_with fail
 go_at_call 10
 refine Calls.mono (HAU.out w2 HB2.out) ?_
 rintro e w3 ⟨hh,hb3⟩
 have HB3:=Lib.hid (bhop HB2.out hb3)
 rcases hh with ⟨rfl,_⟩ | ⟨B,a,m,L,hG,rfl⟩
 ·clear hb3
  go_upto_region 4 with fail
  refine regNm4f _ _ _ _ _ _ _ _ _ _ _ _ _ _ _ _ _ _ _ _ _ _ _ _ _ _ _ _ _ _ _ _ _ ?_
  intros
  rename_i w20 hb20
  have HX:=Lib.hid (bhop (HB3.out.alloc HB3.out.size _) hb20)
  clear hb20
  go_wp2_with fail
  go_ret
  exact ⟨rfl,HX.out⟩
 obtain ⟨w4,hw4,hb4,ha4⟩:=au_box w3 a
 have hau:=hG.au
 obtain ⟨vs,hrw⟩:=hG.rows
 have hmv:=hG.mvl
 have hCl:∀ C∈m.sets,Cl C:=map_cl HGD.out hG.map
 have hfs:(bitsL (mvT (simT (erase t)) 0 0).1.fi).Pairwise (· < ·):=List.Pairwise.filter _ List.pairwise_lt_range
 generalize bitsL (mvT (simT (erase t)) 0 0).1.fi=fl at hau hfs
 generalize (mvT (simT (erase t)) 0 0).1.la=la at hau
 have hfl:fl.length≤41:=by have:=fl_few hfs fun q hq=>(hau.fin q hq).2;have:=hau.most;omega
 have HB4:=Lib.hid (bhop HB3.out hb4)
 have HF:=Lib.hid (fun (W:World) (h:Below w4.heap.size w4 W)=>show AuB W w3.heap.size a∧AuL W B m a fl la∧RowsM W B a.n (.slice (some ⟨a.mb,0,none⟩) a.n a.n) vs L∧True from ⟨ha4.below h,hau.below (bhop hb4 h),hrw.below (bhop hb4 h),trivial⟩)
 have HP:=Lib.hid (AuP.mk hCl hmv hau.wf hfl (fun q hq=>⟨(hau.fin q hq).1,by rw [hau.ars];exact (hau.fin q hq).2⟩) hfs (by rw [hau.ars];exact hau.most))
 have HU4:=Lib.hid (show u.length≤40 by have:=HL.out;omega)
 obtain ⟨z0,z1,z2,z3,z4,z5,z6,z7,z8,z9,z10,z11,z12,z13,z14⟩:=ha4.all
 clear hG hau hrw hmv hCl hfs hfl hb3 hb4 ha4
 go_upto_region 4 with fail
 clear hw4
 obtain ⟨bv,hbv⟩:=mat_ex m fl la L a.em u
 have HM1:=Lib.hid (fun (W:World) (h:Below w4.heap.size w4 W)=>show Calls Tryz.prog 12 #[.agg #[.int .i64 a.k,.int .u64 (a.s0:Nat),.int .u64 (a.s1:Nat),.int .u64 (a.s2:Nat),.int .u64 (a.s3:Nat),.slice a.ta a.tn a.tc,.int .i64 a.lo,.int .i64 a.hi,.slice a.sA a.n a.sC,.slice a.cA a.cN a.cC,.slice (some ⟨a.ga,0,none⟩) a.n a.aC,.slice a.fA a.fN a.fC,.slice (some ⟨a.mb,0,none⟩) a.n a.n,.slice (some ⟨a.lb,0,none⟩) a.n a.n,.bool a.em],.slice A1 un c1] W (fun e w'=>e=.returned (.bool bv)∧Below W.heap.size W w') from
  (nmatch_any W (HF.out W h).2.1 (HF.out W h).2.2.1 HP.out.cls HP.out.few HP.out.mvl _ u (HW.out W (bhop HB4.out h)) HU4.out).mono fun e w' ⟨b,e1,e2,e3⟩=>⟨by rw [e1,hbv b e2],e3⟩)
 have HM2:=Lib.hid (fun (W:World) (h:Below w4.heap.size w4 W)=>show Calls Tryz.prog 16 #[.agg #[.int .i64 a.k,.int .u64 (a.s0:Nat),.int .u64 (a.s1:Nat),.int .u64 (a.s2:Nat),.int .u64 (a.s3:Nat),.slice a.ta a.tn a.tc,.int .i64 a.lo,.int .i64 a.hi,.slice a.sA a.n a.sC,.slice a.cA a.cN a.cC,.slice (some ⟨a.ga,0,none⟩) a.n a.aC,.slice a.fA a.fN a.fC,.slice (some ⟨a.mb,0,none⟩) a.n a.n,.slice (some ⟨a.lb,0,none⟩) a.n a.n,.bool a.em],.slice A1 un c1] W (fun e w'=>e=.returned (.bool bv)∧Below W.heap.size W w') from
  (refMatch_any W (HF.out W h).2.1 (HF.out W h).2.2.1 HP.out _ u (HW.out W (bhop HB4.out h)) HU4.out).mono fun e w' ⟨b,e1,e2,e3⟩=>⟨by rw [e1,hbv b e2],e3⟩)
 clear hbv z0 z1 z2 z3 z4 z5 z6 z7 z8 z9 z10 z11 z12 z13 z14
 refine regNm4 #[.int .i64 a.k,.int .u64 (a.s0:Nat),.int .u64 (a.s1:Nat),.int .u64 (a.s2:Nat),.int .u64 (a.s3:Nat),.slice a.ta a.tn a.tc,.int .i64 a.lo,.int .i64 a.hi,.slice a.sA a.n a.sC,.slice a.cA a.cN a.cC,.slice (some ⟨a.ga,0,none⟩) a.n a.aC,.slice a.fA a.fN a.fC,.slice (some ⟨a.mb,0,none⟩) a.n a.n,.slice (some ⟨a.lb,0,none⟩) a.n a.n,.bool a.em] w3.heap.size (.slice A1 un c1) bv _ _ _ _ _ _ _ _ _ _ _ _ _ _ _ _ _ _ _ _ _ _ _ _ _ _ _ _ _ w4 (fun W h=>(HF.out W h).1.blk) (by kernel_rfl) (fun W h=>HM1.out W h) (fun W h=>HM2.out W h) _ ?_
 intros
 rename_i w20 hb20
 have HX:=Lib.hid (bhop HB4.out hb20)
 clear hb20
 go_wp2_with fail
 go_ret
 exact ⟨rfl,HX.out⟩
end Go.Proofs.YtnmjicfpmkoldaaGreatDoor

/- Of every input the statement NaiveMatch returns true, and it reads afterwards as before; the card: what its row lists is tied to the program's text.
   No condition. -/
namespace Go.Proofs.YtnmjicfpmkoldaaGreatDoor
open Go.ChangeShapes Go.WideShapes Go.ChangeAt Go.RowKit
theorem naiveMatchOwn:ownKnob Tryz.prog.godebug=none:=by kernel_rfl
theorem naiveMatchLaidOut:laidOutB Tryz.prog=true:=by kernel_rfl
theorem naiveMatchAgg (t:V):nodeAgg t=.agg (ndc t).toArray:=rfl
theorem naiveMatchDoor (os:Os) (args:Array Value):laidMetH Tryz.prog Rows.naiveMatchRow.laid ((World.doorLaid Tryz.prog 400 os).forCall (fun _ _=>0) ⟨#[],args,[]⟩).memory :=
 laidMetH_of_parts3 (fuel:=8) (laidMet_of_run' 8 (by kernel_rfl) (by kernel_rfl)) (by kernel_rfl) (by kernel_rfl)
set_option maxRecDepth 100000 in
theorem naiveMatch_lifted (os:Os) (started:os.Started) (H:Type) (enc:TypeId×Value→H) :
  ReturnsInHanded {} Tryz.checked os 6 .any (fun w args=>(Rows.naiveMatchSpec.pre enc Tryz.prog Tryz.f6 Rows.naiveMatchRow.domain false w args∧laidMetH Tryz.prog Rows.naiveMatchRow.laid w)∧sizedMet enc Tryz.prog Tryz.f6 (OpenSpec.ofChange Rows.naiveMatchSpec) false w args)
   (Rows.naiveMatchSpec.post enc Tryz.prog Tryz.f6 false true false false):=by
 refine returnsInHanded_of_change_and (C:=Tryz.checked) (X:=fun w _=>laidMetH Tryz.prog Rows.naiveMatchRow.laid w) (fun _ _ _ hh h=>h.of_heap hh) naiveMatchOwn started (by kernel_rfl) Tryz.func6
  (ChangeSpec.witness_shaped (enc:=enc) (C:=Tryz.checked) (os:=os) (X:=fun w _=>laidMetH Tryz.prog Rows.naiveMatchRow.laid w) false (World.doorLaid Tryz.prog 400 os) #[.agg #[.int .i64 0,.int .u64 0,.int .u64 0,.int .u64 0,.int .u64 0,.slice none 0 0,.int .i64 0,.int .i64 0],.slice none 0 0] 8 rfl (World.shaped_of_RefB (by kernel_rfl) (by kernel_rfl)) (by kernel_rfl) (by kernel_rfl) (by kernel_rfl) (naiveMatchDoor os _)) ?_
 intro W base args ds gs before hval0 hW _ _ hLaid _
 have hval:∀ (j:Nat) t v,Tryz.f6.params[j]? = some t→args[j]? = some v→Value.okWide Tryz.prog W .any base t v:=hval0
 have hW':=hW
 obtain ⟨hT,hTl⟩:=tab_laid hLaid
 obtain ⟨p,q,hA0,hV,rfl,hfz,hnd⟩:=hW
 have hA:DataW.TrodAll enc Tryz.prog W 0 (fun _=>true) true Tryz.f6.params.toList args.toList ds p:=hA0
 rw [Tryz.params6] at hA hval
 obtain ⟨v0,vs0,d0,ds0,p0,q0,hargs,rfl,rfl,h0,rr0⟩:=trodAll_cons hA
 obtain ⟨v1,vs1,d1,ds1,p1,q1,rfl,rfl,rfl,h1,rr1⟩:=trodAll_cons rr0
 obtain ⟨rfl,rfl,rfl⟩:=trodAll_nil rr1
 obtain rfl:args=#[v0,v1]:=by cases args;simp_all
 obtain ⟨rfl,rfl⟩:=trodVars_none hV
 have k0:=h0
 have lt0:∀ x∈p0,x.block<W.heap.size:=by obtain ⟨m,hm⟩:=k0;exact DataW.trod_lt m _ _ _ hm
 have k1:=h1
 have lt1:∀ x∈p1,x.block<W.heap.size:=by obtain ⟨m,hm⟩:=k1;exact DataW.trod_lt m _ _ _ hm
 obtain ⟨t0,rfl,l0,gd0⟩:=open_tree (hval 0 27 v0 rfl rfl) h0
 obtain ⟨wd1,hwd1,_⟩:=open_bytes8 (hval 1 28 v1 rfl rfl) h1
 clear hA0 hval0
 rw [← naiveMatchAgg] at *
 refine (match8_walk t0 v1 wd1 W _ l0 gd0 hT hTl hwd1).mono fun e W' ⟨he,bel⟩=>?_
 subst he
 exact ⟨_,rfl,_,_,_,[],_,[],hW',trodAll_mk1 (shut_bool Tryz.underlying4 _),(trodAll_cons_mk (Below.trod naiveMatchLaidOut (by kernel_rfl) (of_decide_eq_true (by kernel_rfl)) k0 bel lt0) (trodAll_cons_mk (Below.trod naiveMatchLaidOut (by kernel_rfl) (of_decide_eq_true (by kernel_rfl)) k1 bel lt1) trodAll_mk0)),rfl,bel.frame _,fun h=>by cases h⟩
theorem naiveMatch_holds:Rows.NaiveMatchSaid :=
 OpenClaim.holds_of_wide 6 Tryz.f6 rfl rfl rfl rfl rfl rfl rfl ⟨rfl,rfl,rfl,rfl,rfl⟩ rfl rfl rfl rfl rfl (by kernel_rfl) Tryz.func6 (by kernel_rfl)
  (of_decide_eq_true (by kernel_rfl)) (by unfold Func.isWrapper;rw [if_neg (of_decide_eq_false (by kernel_rfl))];exact ⟨rfl,rfl⟩)
  (fun os started H enc _=>naiveMatch_lifted os started H enc)
theorem naiveMatch_card_holds:Rows.NaiveMatchCardSaid :=
 Claim7.holds_tied_plain_at .later [] [.data] true _ false
  naiveMatch_holds (fun _ h=>by cases h) (by kernel_rfl) (fun _ h=>by cases h) naiveMatch_row_tie rfl ⟨rfl,rfl⟩ (by kernel_rfl) rfl
  (fun f fn hf hfn=>by
   obtain rfl:f=6:=Option.some.inj ((show Tryz.prog.funcNamed "ostinato/ostinatolaw08.NaiveMatch" = some 6 by kernel_rfl).symm.trans hf) |>.symm
   obtain rfl:fn=Tryz.f6:=(Option.some.inj (Tryz.func6.symm.trans hfn)).symm
   exact ⟨by kernel_rfl,fun j t ht=>by
    rw [Tryz.params6] at ht
    have hm:t∈[27,28]:=by simpa using Array.mem_of_getElem? ht
    have hall:([27,28].all fun u=>!Tryz.prog.wantsStandIn u)=true:=by kernel_rfl
    exact (show Tryz.prog.wantsStandIn t=false by simpa using List.all_eq_true.1 hall t hm)⟩)
  (by kernel_rfl)
#print axioms naiveMatch_card_holds
end Go.Proofs.YtnmjicfpmkoldaaGreatDoor
