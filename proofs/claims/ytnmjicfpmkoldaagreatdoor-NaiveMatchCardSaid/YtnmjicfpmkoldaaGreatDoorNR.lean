/- The document's May: what a move of a right config comes to: the contract.
   Conditions: the automaton lies in memory; the config is right; what a move keeps are scopes around both its positions. -/
import Derived.Test.YtnmjicfpmkoldaaGreatDoorPG
import Derived.Test.YtnmjicfpmkoldaaGreatDoorRows
import Derived.WalkKit
import Derived.KernelRfl
import Derived.Test.YtnmjicfpmkoldaaGreatDoorN1

/- A drawn region of the document's May: whether a count is its scope's greatest.
   Conditions: the cells that it loads lie in memory; the contract of what it calls. -/
namespace Go.Proofs.YtnmjicfpmkoldaaGreatDoor
open Go.RowKit
abbrev opsregKm13:Array Oper:=#[{ dst:=some 76,op:=Op.move (Operand.tmp 10),type:=3,pos := "ref.go:46",after:=#[],guard:=none },
 { dst:=some 77,op:=Op.fieldAddr 55 (Operand.tmp 4) 1,type:=0,pos := "ref.go:46",after:=#[],guard:=none },
 { dst:=some 78,op:=Op.indexAddr 53 (Operand.tmp 77) (Operand.tmp 76),type:=0,pos := "ref.go:46",after:=#[{ on:=1,ground:=Ground.data },{ on:=0,ground:=Ground.data }],guard:=none },
 { dst:=some 79,op:=Op.load 2 (Operand.tmp 78),type:=2,pos := "ref.go:46",after:=#[{ on:=2,ground:=Ground.data }],guard:=none },
 { dst:=some 80,op:=Op.load 117 (Operand.tmp 11),type:=117,pos := "ref.go:46",after:=#[],guard:=none },
 { dst:=some 81,op:=Op.call { callee:=Callee.value (Operand.func 55),args:=#[Operand.tmp 80],argTypes:=#[117] },type:=2,pos := "ref.go:46",after:=#[{ on:=4,ground:=Ground.data }],guard:=none },
 { dst:=some 82,op:=Op.binOp BinOp.eql 2 (Operand.tmp 79) (Operand.tmp 81) 2,type:=4,pos := "ref.go:46",after:=#[{ on:=3,ground:=Ground.data },{ on:=5,ground:=Ground.data }],guard:=none },
 { dst:=some 83,op:=Op.move (Operand.tmp 82),type:=4,pos := "ref.go:46",after:=#[{ on:=6,ground:=Ground.data },{ on:=5,ground:=Ground.chain }],guard:=none },
 { dst:=some 84,op:=Op.fieldAddr 117 (Operand.tmp 11) 1,type:=0,pos := "ref.go:46",after:=#[{ on:=7,ground:=Ground.guard }],guard:=some (7,true) },
 { dst:=some 85,op:=Op.load 2 (Operand.tmp 84),type:=2,pos := "ref.go:46",after:=#[{ on:=8,ground:=Ground.data },{ on:=7,ground:=Ground.guard }],guard:=some (7,true) },
 { dst:=some 86,op:=Op.binOp BinOp.geq 2 (Operand.tmp 85) (Operand.const (Value.int IntKind.i64 0)) 2,type:=4,pos := "ref.go:46",after:=#[{ on:=9,ground:=Ground.data },{ on:=7,ground:=Ground.guard }],guard:=some (7,true) },
 { dst:=some 87,op:=Op.pick (Operand.tmp 83) (Operand.tmp 86) (Operand.const (Value.bool false)),type:=4,pos := "ref.go:46",after:=#[{ on:=7,ground:=Ground.data },{ on:=10,ground:=Ground.data }],guard:=none }]
def WregKm13 (cb sb i:Nat) (xi sl sh tp:Int) (D:List Deferred) (v0 v1 v2 v3 v5 v6 v7 v8 v9 v12 v13 v14 v15 v16 v17 v18 v19 v20 v21 v22 v23 v24 v25 v26 v27 v28 v29 v30 v31 v32 v33 v34 v35 v36 v37 v38 v39 v40 v41 v42 v43 v44 v45 v46 v47 v48 v49 v50 v51 v52 v53 v54 v55 v56 v57 v58 v59 v60 v61 v62 v63 v64 v65 v66 v67 v68 v69 v70 v71 v72 v73 v74 v75 v88 v89 v90 v91 v92 v93 v94 v95 v96 v97 v98 v99 v100 v101 v102 v103 v104 v105 v106 v107 v108:Value) (w0:World) (l:Nat→Bool) (a:Act) (w:World):Prop :=
 ∃ (y0 y1 y2 y3 y4 y5 y6 y7 y8 y9 y10 y11:Value),a = { tmps:=#[v0,v1,v2,v3,.pointer (some ⟨cb,0,none⟩),v5,v6,v7,v8,v9,.int .i64 (i:Int),.pointer (some ⟨sb,0,none⟩),v12,v13,v14,v15,v16,v17,v18,v19,v20,v21,v22,v23,v24,v25,v26,v27,v28,v29,v30,v31,v32,v33,v34,v35,v36,v37,v38,v39,v40,v41,v42,v43,v44,v45,v46,v47,v48,v49,v50,v51,v52,v53,v54,v55,v56,v57,v58,v59,v60,v61,v62,v63,v64,v65,v66,v67,v68,v69,v70,v71,v72,v73,v74,v75,y0,y1,y2,y3,y4,y5,y6,y7,y8,y9,y10,y11,v88,v89,v90,v91,v92,v93,v94,v95,v96,v97,v98,v99,v100,v101,v102,v103,v104,v105,v106,v107,v108],defers:=D }∧Below w0.heap.size w0 w ∧
  (l 0=true→y0=.int .i64 (i:Int))∧(l 1=true→y1=.pointer (some ⟨cb,1,none⟩))∧(l 2=true→y2=.pointer (some ⟨cb,1+i,none⟩))∧(l 3=true→y3=.int .i64 xi)∧(l 4=true→y4=.agg #[.int .i64 sl,.int .i64 sh])∧(l 5=true→y5=.int .i64 tp)∧(l 6=true→y6=.bool false)∧(l 7=true→y7=.bool false)∧(l 11=true→y11=.bool false)
set_option maxHeartbeats 8000000 in
set_option maxRecDepth 100000 in
theorem regKm13 (cb sb i:Nat) (xi sl sh tp:Int) (D:List Deferred) (v0 v1 v2 v3 v5 v6 v7 v8 v9 v12 v13 v14 v15 v16 v17 v18 v19 v20 v21 v22 v23 v24 v25 v26 v27 v28 v29 v30 v31 v32 v33 v34 v35 v36 v37 v38 v39 v40 v41 v42 v43 v44 v45 v46 v47 v48 v49 v50 v51 v52 v53 v54 v55 v56 v57 v58 v59 v60 v61 v62 v63 v64 v65 v66 v67 v68 v69 v70 v71 v72 v73 v74 v75 v88 v89 v90 v91 v92 v93 v94 v95 v96 v97 v98 v99 v100 v101 v102 v103 v104 v105 v106 v107 v108 wy0 wy1 wy2 wy3 wy4 wy5 wy6 wy7 wy8 wy9 wy10 wy11:Value) (w:World) (hx:(∀ w',Below w.heap.size w w'→w'.cell? ⟨cb,1+i,none⟩=some (.int .i64 xi))) (hs0:(∀ w',Below w.heap.size w w'→w'.cell? ⟨sb,0,none⟩=some (.int .i64 sl))) (hs1:(∀ w',Below w.heap.size w w'→w'.cell? ⟨sb,1,none⟩=some (.int .i64 sh))) (hc1:(∀ w',Below w.heap.size w w'→Calls Tryz.prog 55 #[.agg #[.int .i64 sl,.int .i64 sh]] w' fun e w2=>e=.returned (.int .i64 tp)∧Below w'.heap.size w' w2)) (e1:(i:Int)<4) (e2:(0:Int)≤(i:Int)) (t1:((i:Int)).toNat=i) (ne:(xi == tp)=false) (Q:Exit→Act→World→Prop)
  (hQ:∀ (y0 y1 y2 y3 y4 y5 y6 y7 y8 y9 y10:Value) (w':World),Below w.heap.size w w'→Q .normal { tmps:=#[v0,v1,v2,v3,.pointer (some ⟨cb,0,none⟩),v5,v6,v7,v8,v9,.int .i64 (i:Int),.pointer (some ⟨sb,0,none⟩),v12,v13,v14,v15,v16,v17,v18,v19,v20,v21,v22,v23,v24,v25,v26,v27,v28,v29,v30,v31,v32,v33,v34,v35,v36,v37,v38,v39,v40,v41,v42,v43,v44,v45,v46,v47,v48,v49,v50,v51,v52,v53,v54,v55,v56,v57,v58,v59,v60,v61,v62,v63,v64,v65,v66,v67,v68,v69,v70,v71,v72,v73,v74,v75,y0,y1,y2,y3,y4,y5,y6,y7,y8,y9,y10,.bool false,v88,v89,v90,v91,v92,v93,v94,v95,v96,v97,v98,v99,v100,v101,v102,v103,v104,v105,v106,v107,v108],defers:=D } w') :
  (Code.region 13 opsregKm13 true).wp Tryz.prog Q { tmps:=#[v0,v1,v2,v3,.pointer (some ⟨cb,0,none⟩),v5,v6,v7,v8,v9,.int .i64 (i:Int),.pointer (some ⟨sb,0,none⟩),v12,v13,v14,v15,v16,v17,v18,v19,v20,v21,v22,v23,v24,v25,v26,v27,v28,v29,v30,v31,v32,v33,v34,v35,v36,v37,v38,v39,v40,v41,v42,v43,v44,v45,v46,v47,v48,v49,v50,v51,v52,v53,v54,v55,v56,v57,v58,v59,v60,v61,v62,v63,v64,v65,v66,v67,v68,v69,v70,v71,v72,v73,v74,v75,wy0,wy1,wy2,wy3,wy4,wy5,wy6,wy7,wy8,wy9,wy10,wy11,v88,v89,v90,v91,v92,v93,v94,v95,v96,v97,v98,v99,v100,v101,v102,v103,v104,v105,v106,v107,v108],defers:=D } w:=by
 refine wp_region_inv (by kernel_rfl) (WregKm13 cb sb i xi sl sh tp D v0 v1 v2 v3 v5 v6 v7 v8 v9 v12 v13 v14 v15 v16 v17 v18 v19 v20 v21 v22 v23 v24 v25 v26 v27 v28 v29 v30 v31 v32 v33 v34 v35 v36 v37 v38 v39 v40 v41 v42 v43 v44 v45 v46 v47 v48 v49 v50 v51 v52 v53 v54 v55 v56 v57 v58 v59 v60 v61 v62 v63 v64 v65 v66 v67 v68 v69 v70 v71 v72 v73 v74 v75 v88 v89 v90 v91 v92 v93 v94 v95 v96 v97 v98 v99 v100 v101 v102 v103 v104 v105 v106 v107 v108 w) ?hacy ?h0 ?hstep ?hdone
 case hacy=>kernel_rfl
 case h0=>exact ⟨wy0,wy1,wy2,wy3,wy4,wy5,wy6,wy7,wy8,wy9,wy10,wy11,rfl,below_drewN (Below.refl _ _) 1,(fun p=>by cases p),(fun p=>by cases p),(fun p=>by cases p),(fun p=>by cases p),(fun p=>by cases p),(fun p=>by cases p),(fun p=>by cases p),(fun p=>by cases p),(fun p=>by cases p)⟩
 case hdone =>
  intro l a w1 hI hall
  obtain ⟨y0,y1,y2,y3,y4,y5,y6,y7,y8,y9,y10,y11,rfl,hb,h0,h1,h2,h3,h4,h5,h6,h7,h11⟩:=hI
  obtain rfl:=h11 (hall 11 (by decide))
  exact hQ _ _ _ _ _ _ _ _ _ _ _ _ hb
 case hstep =>
  intro l a w1 i o hI ho hl hall
  obtain ⟨y0,y1,y2,y3,y4,y5,y6,y7,y8,y9,y10,y11,rfl,hb,h0,h1,h2,h3,h4,h5,h6,h7,h11⟩:=hI
  have hi:i<12:=(Array.getElem?_eq_some_iff.1 ho).1
  match i,hi with
  | 0,_ =>
   have ho':=ho
   simp [opsregKm13] at ho
   subst ho
   refine wpOp_one ho' rfl fun K hK=>?_
   go_simp
   refine hK _ _ ?_
   iterate 12 apply Exists.intro
   refine ⟨rfl,hb,?_⟩
   repeat' apply And.intro
   all_goals first | assumption | exact fun _=>rfl | exact fun _=>(by first | rfl | simp)
  | 1,_ =>
   have ho':=ho
   simp [opsregKm13] at ho
   subst ho
   refine wpOp_one ho' rfl fun K hK=>?_
   go_simp
   refine hK _ _ ?_
   iterate 12 apply Exists.intro
   refine ⟨rfl,hb,?_⟩
   repeat' apply And.intro
   all_goals first | assumption | exact fun _=>rfl | exact fun _=>(by first | rfl | simp)
  | 2,_ =>
   have ho':=ho
   simp [opsregKm13] at ho
   subst ho
   obtain rfl:=h0 (hall ⟨0,.data⟩ (by simp) rfl)
   obtain rfl:=h1 (hall ⟨1,.data⟩ (by simp) rfl)
   refine wpOp_one ho' rfl fun K hK=>?_
   go_simp
   refine hK _ _ ?_
   iterate 12 apply Exists.intro
   refine ⟨rfl,hb,?_⟩
   repeat' apply And.intro
   all_goals first | assumption | exact fun _=>rfl | exact fun _=>(by first | rfl | simp)
  | 3,_ =>
   have ho':=ho
   simp [opsregKm13] at ho
   subst ho
   obtain rfl:=h2 (hall ⟨2,.data⟩ (by simp) rfl)
   refine wpOp_one ho' rfl fun K hK=>?_
   have hc0:=hx w1 hb
   go_simp
   refine hK _ _ ?_
   iterate 12 apply Exists.intro
   refine ⟨rfl,hb,?_⟩
   repeat' apply And.intro
   all_goals first | assumption | exact fun _=>rfl | exact fun _=>(by first | rfl | simp)
  | 4,_ =>
   have ho':=ho
   simp [opsregKm13] at ho
   subst ho
   refine wpOp_one ho' rfl fun K hK=>?_
   have hc0:=hs0 w1 hb
   have hc1:=hs1 w1 hb
   go_simp
   refine hK _ _ ?_
   iterate 12 apply Exists.intro
   refine ⟨rfl,hb,?_⟩
   repeat' apply And.intro
   all_goals first | assumption | exact fun _=>rfl | exact fun _=>(by first | rfl | simp)
  | 5,_ =>
   have ho':=ho
   simp [opsregKm13] at ho
   subst ho
   obtain rfl:=h4 (hall ⟨4,.data⟩ (by simp) rfl)
   refine wpOp_one ho' rfl fun K hK=>?_
   go_simp
   go_at_call 55
   refine (hc1 _ hb).mono ?_
   rintro e w2 ⟨rfl,hb2⟩
   refine hK _ _ ?_
   iterate 12 apply Exists.intro
   refine ⟨rfl,(hb.trans (hb2.mono hb.size)),?_⟩
   repeat' apply And.intro
   all_goals first | assumption | exact fun _=>rfl | exact fun _=>(by first | rfl | simp)
  | 6,_ =>
   have ho':=ho
   simp [opsregKm13] at ho
   subst ho
   obtain rfl:=h3 (hall ⟨3,.data⟩ (by simp) rfl)
   obtain rfl:=h5 (hall ⟨5,.data⟩ (by simp) rfl)
   refine wpOp_one ho' rfl fun K hK=>?_
   go_simp
   refine hK _ _ ?_
   iterate 12 apply Exists.intro
   refine ⟨rfl,hb,?_⟩
   repeat' apply And.intro
   all_goals first | assumption | exact fun _=>rfl | exact fun _=>(by first | rfl | simp [ne])
  | 7,_ =>
   have ho':=ho
   simp [opsregKm13] at ho
   subst ho
   obtain rfl:=h6 (hall ⟨6,.data⟩ (by simp) rfl)
   refine wpOp_one ho' rfl fun K hK=>?_
   go_simp
   refine hK _ _ ?_
   iterate 12 apply Exists.intro
   refine ⟨rfl,hb,?_⟩
   repeat' apply And.intro
   all_goals first | assumption | exact fun _=>rfl | exact fun _=>(by first | rfl | simp)
  | 8,_ =>
   have ho':=ho
   simp [opsregKm13] at ho
   subst ho
   obtain rfl:=h7 (hall ⟨7,.guard⟩ (by simp) rfl)
   refine wpOq_off ho' rfl ?_
   iterate 12 apply Exists.intro
   refine ⟨rfl,hb,?_⟩
   repeat' apply And.intro
   all_goals first | assumption | exact fun _=>rfl
  | 9,_ =>
   have ho':=ho
   simp [opsregKm13] at ho
   subst ho
   obtain rfl:=h7 (hall ⟨7,.guard⟩ (by simp) rfl)
   refine wpOq_off ho' rfl ?_
   iterate 12 apply Exists.intro
   refine ⟨rfl,hb,?_⟩
   repeat' apply And.intro
   all_goals first | assumption | exact fun _=>rfl
  | 10,_ =>
   have ho':=ho
   simp [opsregKm13] at ho
   subst ho
   obtain rfl:=h7 (hall ⟨7,.guard⟩ (by simp) rfl)
   refine wpOq_off ho' rfl ?_
   iterate 12 apply Exists.intro
   refine ⟨rfl,hb,?_⟩
   repeat' apply And.intro
   all_goals first | assumption | exact fun _=>rfl
  | 11,_ =>
   have ho':=ho
   simp [opsregKm13] at ho
   subst ho
   obtain rfl:=h7 (hall ⟨7,.data⟩ (by simp) rfl)
   refine wpOp_one ho' rfl fun K hK=>?_
   go_simp
   refine hK _ _ ?_
   iterate 12 apply Exists.intro
   refine ⟨rfl,hb,?_⟩
   repeat' apply And.intro
   all_goals first | assumption | exact fun _=>rfl | exact fun _=>(by first | rfl | simp)
  | k+12,hi=>omega
end Go.Proofs.YtnmjicfpmkoldaaGreatDoor

/- The document's May: what a move of a right config comes to: the contract.
   Conditions: the automaton lies in memory; the config is right; what a move keeps are scopes around both its positions. -/
namespace Go.Proofs.YtnmjicfpmkoldaaGreatDoor
open Go.RowKit Go.Shelf
def MzI (w:World) (ob tt:Nat) (lt:List Nat) (n:Nat) (z:Value) (wr:World):Prop:=∃ i:Nat,z=.int .i64 i∧n=5 - i∧i≤lt.length∧CfB wr ob tt (fun j=>if j<i then 1 else 0)∧Below w.heap.size w wr
theorem mz_put {i:Nat}:putX (fun j=>if j<i then (1:Int) else 0) i 1=fun j=>if j<i+1 then 1 else 0:=by
 funext j
 unfold putX
 by_cases e:j=i
 ·rw [if_pos e,if_pos (by omega)]
 ·rw [if_neg e]
  show (if j<i then (1:Int) else 0)=_
  by_cases h:j<i
  ·rw [if_pos h,if_pos (by omega)]
  ·rw [if_neg h,if_neg (by omega)]
def MyI (w:World) (ob tt:Nat) (m:PM) (lf lt:List Nat) (x:Nat→Int) (kp:Nat) (ag:Bool) (v:Int) (n:Nat) (z:Value) (wr:World):Prop:=∃ i:Nat,z=.int .i64 i∧n=5 - i∧i≤lf.length∧CfB wr ob tt (mayI lt x kp ag v i)∧(∀ j,kp+(if ag then 1 else 0)≤j→j<i→(scA m lf j).1≤x j)∧(ag=true→kp<i→nextP (scA m lf kp) (x kp)=some v)∧Below w.heap.size w wr
theorem my_box (w:World) (a:Au) (p:Int) (x:Nat→Int) (tt kp:Nat) (ag:Bool):∃ w2,(((w.alloc (.cells #[.int .i64 a.k,.int .u64 (a.s0:Nat),.int .u64 (a.s1:Nat),.int .u64 (a.s2:Nat),.int .u64 (a.s3:Nat),.slice a.ta a.tn a.tc,.int .i64 a.lo,.int .i64 a.hi,.slice a.sA a.n a.sC,.slice a.cA a.cN a.cC,.slice (some ⟨a.ga,0,none⟩) a.n a.aC,.slice a.fA a.fN a.fC,.slice (some ⟨a.mb,0,none⟩) a.n a.n,.slice (some ⟨a.lb,0,none⟩) a.n a.n,.bool a.em] 39)).alloc (.cells #[.int .i64 p,.int .i64 (x 0),.int .i64 (x 1),.int .i64 (x 2),.int .i64 (x 3)] 55)).alloc (.cells #[.int .i64 (tt:Nat),.int .i64 (kp:Nat),.bool ag] 80)).alloc (.cells #[.int .i64 0,.int .i64 0,.int .i64 0,.int .i64 0,.int .i64 0] 55)=w2∧Below w.heap.size w w2∧AuB w2 w.heap.size a∧CfB w2 (w.heap.size+1) p x∧MvB w2 (w.heap.size+1+1) tt kp ag∧CfB w2 (w.heap.size+1+1+1) 0 (fun _=>0)∧w2.heap.size=w.heap.size+1+1+1+1:=by
 obtain ⟨w1,h1,b1,a1⟩:=au_box w a
 obtain ⟨w2,h2,b2,c2,d2,e2,s2⟩:=md_box w1 p x tt kp ag
 have hs:w1.heap.size=w.heap.size+1:=by rw [← h1];simp
 rw [hs] at c2 d2 e2 s2
 exact ⟨w2,by rw [h1];exact h2,bhop b1 b2,a1.below b2,c2,d2,e2,s2⟩
set_option maxHeartbeats 8000000 in
set_option maxRecDepth 100000 in
theorem refMay_any {B:Nat} {m:PM} {a:Au} {fl:List Nat} {la p tt kp:Nat} {ag:Bool} {lf lt:List Nat} (w:World) (hL:AuL w B m a fl la) (hp:m.ars[p]? = some lf) (ht:m.ars[tt]? = some lt) (hk:kp+(if ag then 1 else 0)≤lf.length) (x:Nat→Int) (hx:cntsB m lf x=true) (r:Option (Nat→Int)) (hr:madeX m lf lt x kp ag=r) :
  Calls Tryz.prog 32 #[.agg #[.int .i64 a.k,.int .u64 (a.s0:Nat),.int .u64 (a.s1:Nat),.int .u64 (a.s2:Nat),.int .u64 (a.s3:Nat),.slice a.ta a.tn a.tc,.int .i64 a.lo,.int .i64 a.hi,.slice a.sA a.n a.sC,.slice a.cA a.cN a.cC,.slice (some ⟨a.ga,0,none⟩) a.n a.aC,.slice a.fA a.fN a.fC,.slice (some ⟨a.mb,0,none⟩) a.n a.n,.slice (some ⟨a.lb,0,none⟩) a.n a.n,.bool a.em],.agg #[.int .i64 p,.int .i64 (x 0),.int .i64 (x 1),.int .i64 (x 2),.int .i64 (x 3)],.agg #[.int .i64 (tt:Nat),.int .i64 (kp:Nat),.bool ag]] w fun e w'=>e=.returned (.tuple #[.agg #[.int .i64 (mdP tt r),.int .i64 ((mdX r) 0),.int .i64 ((mdX r) 1),.int .i64 ((mdX r) 2),.int .i64 ((mdX r) 3)],.bool r.isSome])∧Below w.heap.size w w':=by
 obtain ⟨w2,hw2,hb2,ha2,hc2,hm2,hz2,hs2⟩:=my_box w a p x tt kp ag
 have hl4:lf.length≤4:=(hL.wf.ars _ (List.mem_of_getElem? hp)).1
 have hlt4:lt.length≤4:=(hL.wf.ars _ (List.mem_of_getElem? ht)).1
 have hk4:kp≤4:=by split at hk <;> omega
 have hpn:p<a.n:=by rw [← hL.ars];exact (List.getElem?_eq_some_iff.1 hp).1
 have htn:tt<a.n:=by rw [← hL.ars];exact (List.getElem?_eq_some_iff.1 ht).1
 have HF:=Lib.hid (fun (W:World) (h:Below w2.heap.size w2 W)=>show AuB W w.heap.size a∧AuL W B m a fl la∧CfB W (w.heap.size+1) p x∧MvB W (w.heap.size+1+1) tt kp ag∧CfB W (w.heap.size+1+1+1) 0 (fun _=>0) from ⟨ha2.below h,hL.below (bhop hb2 h),hc2.below h,hm2.below h,hz2.below h⟩)
 have HP:=Lib.hid (And.intro hp (And.intro ht (And.intro hk (And.intro hx (And.intro hr hL.wf)))))
 have HB:=Lib.hid hb2
 have HS:=Lib.hid hs2
 obtain ⟨k0,_,_⟩:=hm2.cells
 have t1:(0:Int)≤(tt:Int):=by omega
 have t2:(tt:Int)<(a.n:Int):=by omega
 have t3:((tt:Int)).toNat=tt:=by omega
 have p1:(0:Int)≤(p:Int):=by omega
 have p2:(p:Int)<(a.n:Int):=by omega
 have p3:((p:Int)).toNat=p:=by omega
 clear hb2 ha2 hc2 hm2 hz2 hL hp ht hx hr hs2 hpn htn
 go_enter Tryz.func32,Tryz.ntmps32
 go_upto_region 1 with fail
 clear hw2
 go_upto_region 2 with fail
 obtain ⟨w3,hw3,hb3,hc3⟩ : ∃ w3,w2.alloc (.cells #[.int .i64 (tt:Nat),.int .i64 0,.int .i64 0,.int .i64 0,.int .i64 0] 55)=w3∧Below w2.heap.size w2 w3∧CfB w3 w2.heap.size tt (fun _=>0):=⟨_,rfl,(Below.refl _ w2).alloc (Nat.le_refl _) _,heap_alloc_new w2 _⟩
 rw [hw3]
 obtain ⟨ob,hob⟩ : ∃ ob,ob=w2.heap.size:=⟨_,rfl⟩
 have HOB:=Lib.hid hob
 rw [← hob]
 rw [← hob] at hc3
 have H3:=Lib.hid (And.intro hb3 hc3)
 obtain ⟨v,hv⟩ : ∃ v,v=(nextP (scA m lf kp) (x kp)).getD 0:=⟨_,rfl⟩
 have HV:=Lib.hid hv
 obtain ⟨ln,hln⟩ : ∃ ln,ln=lt.length:=⟨_,rfl⟩
 have HLT:=Lib.hid hln
 obtain ⟨lm,hlm⟩ : ∃ lm,lm=lf.length:=⟨_,rfl⟩
 have HLF:=Lib.hid hlm
 rw [← hln] at hlt4
 rw [← hlm] at hl4 hk
 clear hw3 hob hb3 hc3 hv hln hlm k0
 go_wp2_with fail
 go_loopw [9] (fun z wr=>∃ n,MzI w2 ob tt lt n z wr) (fun z wr=>leastOf (fun n=>MzI w2 ob tt lt n z wr))
 case atStart=>exact ⟨_,0,rfl,rfl,Nat.zero_le _,H3.out.2,H3.out.1⟩
 case round =>
  have hls:=(leastOf_spec hrel).1
  obtain ⟨i,rfl,hN,hil,hcf,hb⟩:=hls
  have HN:=Lib.hid hN
  have HBR:=Lib.hid hb
  have HCF:=Lib.hid hcf
  clear hN hrel
  rw [← HLT.out] at hil
  obtain ⟨fA,fL,fC,fM,fZ⟩:=HF.out wr hb
  obtain ⟨A,c,r1,_⟩:=fL.row HP.out.2.1
  obtain ⟨_,_,c10,_⟩:=fA.cells
  obtain ⟨k0,_,_⟩:=fM.cells
  rw [← HLT.out] at r1
  have s1:(0:Int)≤(i:Int):=by omega
  have s3:((i:Int)).toNat=i:=by omega
  by_cases g:i<ln
  ·have s2:(i:Int)<(ln:Int):=by omega
   have s4:(i:Int)<4:=by omega
   have e1:=hcf.cell.2.1 i (by omega)
   have e2:=hcf.cell.2.2 (1+i)
   have e3:=hcf.lt
   have HP2:=Lib.hid (show MzI w2 ob tt lt (5 - (i+1)) (.int .i64 ((i:Int)+1)) (wr.setCell ⟨ob,1+i,none⟩ (.int .i64 1)) from ⟨i+1,by push_cast;rfl,rfl,by have:=HLT.out;omega,by
    have:=hcf.put (i:=i) (by omega) 1
    rw [mz_put] at this
    exact this,hb.setCell (by rw [HOB.out];exact Nat.le_refl _) _⟩)
   have HLE:=Lib.hid (show 5 - (i+1)<5 - i by omega)
   clear fA fL fC fM fZ hb hcf hil
   go_wp2_with fail
   go_roundw
   case rel=>exact ⟨_,HP2.out⟩
   case measure =>
    rw [HN.out]
    exact Nat.lt_of_le_of_lt ((leastOf_spec ⟨_,HP2.out⟩).2 _ HP2.out) HLE.out
  ·have s2:¬ (i:Int)<(ln:Int):=by omega
   have HC1:=Lib.hid (show CfB wr ob tt (mayI lt x kp ag v 0) from by
    rw [mayI_zero,show lt.length=i by have:=HLT.out;omega];exact hcf)
   clear fA fL fC fM fZ hb hcf hil
   go_wp2_with fail
   clear r1 c10 k0 s1 s2 s3 g
   go_loopw [10] (fun z wr=>∃ n,MyI w2 ob tt m lf lt x kp ag v n z wr) (fun z wr=>leastOf (fun n=>MyI w2 ob tt m lf lt x kp ag v n z wr))
   case atStart=>exact ⟨_,0,rfl,rfl,Nat.zero_le _,HC1.out,fun j _ h=>by omega,fun _ h=>by omega,HBR.out⟩
   case round =>
    clear HBR HN HCF HC1
    have hls:=(leastOf_spec hrel).1
    obtain ⟨i,rfl,hN,hil,hcf,hlow,hnx,hb⟩:=hls
    have HN:=Lib.hid hN
    have HBR:=Lib.hid hb
    have HCF:=Lib.hid hcf
    have HLW:=Lib.hid (And.intro hlow hnx)
    clear hN hrel hlow hnx
    rw [← HLF.out] at hil
    obtain ⟨fA,fL,fC,fM,fZ⟩:=HF.out wr hb
    obtain ⟨c0,_⟩:=fC.five
    obtain ⟨_,_,c10,_⟩:=fA.cells
    have s1:(0:Int)≤(i:Int):=by omega
    have s3:((i:Int)).toNat=i:=by omega
    by_cases g:i<lm
    ·have s2:(i:Int)<(lm:Int):=by omega
     have s4:(i:Int)<4:=by omega
     have gi:i<lf.length:=by have:=HLF.out;omega
     obtain ⟨g0,c,k,gs,h1,h2,h3,h4,h5,h6,hga,hg0,hgs⟩:=fL.sc HP.out.1 gi
     rw [← HLF.out] at h1
     obtain ⟨_,c9,_,_⟩:=fA.cells
     rw [h3] at c9
     obtain ⟨_,_,_,hok⟩:=sc_in fL.wf (List.mem_of_getElem? HP.out.1) gi
     have hxi:=cnts_iff.1 HP.out.2.2.2.1 i (by omega)
     rw [cnt_in gi,Bool.and_eq_true,decide_eq_true_eq,decide_eq_true_eq] at hxi
     have hnq:=next_eq hok hxi.1 hxi.2
     have htp:=top_pos hok
     obtain ⟨sl,hsl⟩ : ∃ sl,sl=(scA m lf i).1:=⟨_,rfl⟩
     obtain ⟨sh,hsh⟩ : ∃ sh,sh=(scA m lf i).2:=⟨_,rfl⟩
     obtain ⟨xi,hxe⟩ : ∃ xi,xi=x i:=⟨_,rfl⟩
     have HSC:=Lib.hid (And.intro hsl (And.intro hsh (And.intro hxe (And.intro hxi (And.intro hnq (And.intro htp hok))))))
     rw [← hsl] at h5
     rw [← hsh] at h6
     have d1:=fC.cell.2.1 i (by omega)
     rw [← hxe] at d1
     have hcbl:=fC.lt
     have hal:=fA.lt
     have v7:(0:Int)≤(k:Int):=by omega
     have v8:(k:Int)<(a.cN:Int):=by omega
     have v9:((k:Int)).toNat=k:=by omega
     have HLE:=Lib.hid (show 5 - (i+1)<5 - i by omega)
     have HGI:=Lib.hid gi
     clear fA fL fC fM fZ hb hcf hsl hsh hxe gi h3 h4 hok hxi hnq htp hil
     go_wp2_with fail
     have c9d:wr.drew.cell? ⟨w.heap.size,9,none⟩=some (.slice (some ⟨gs,0,none⟩) a.cN a.cC):=c9
     have c9e:(wr.alloc (.cells #[.int .i64 0,.int .i64 0] 117)).drew.cell? ⟨w.heap.size,9,none⟩=some (.slice (some ⟨gs,0,none⟩) a.cN a.cC):=(World.cell?_of_block (w:=wr) (Below.heap_alloc _ _ _ hal)).trans c9
     have c9f:(wr.alloc (.cells #[.int .i64 sl,.int .i64 sh] 117)).drew.cell? ⟨w.heap.size,9,none⟩=some (.slice (some ⟨gs,0,none⟩) a.cN a.cC):=(World.cell?_of_block (w:=wr) (Below.heap_alloc _ _ _ hal)).trans c9
     go_region_held3 (fun W=>W.cell? ⟨w.heap.size,9,none⟩=some (.slice (some ⟨gs,0,none⟩) a.cN a.cC)∧W.cell? ⟨w.heap.size,10,none⟩=some (.slice (some ⟨a.ga,0,none⟩) a.n a.aC)∧W.cell? ⟨w.heap.size+1,0,none⟩=some (.int .i64 p)∧W.cell? ⟨a.ga,p,none⟩=some (.slice (some ⟨g0,0,none⟩) lm c)∧W.cell? ⟨g0,i,none⟩=some (.int .i64 k)∧W.cell? ⟨gs,k * 2,none⟩=some (.int .i64 sl)∧W.cell? ⟨gs,k * 2+1,none⟩=some (.int .i64 sh))
      (first | go_keep | (go_split_ands;refine ⟨?_,?_,?_,?_,?_,?_,?_⟩ <;> first | go_keep | assumption | exact (World.cell?_of_block (w:=wr) (Below.heap_alloc _ _ _ (by assumption))).trans (by assumption) | exact (World.cell?_of_block (w:=wr) (Below.heap_alloc _ _ _ hal)).trans c9 | (simp;omega)))
      (fail)
     obtain ⟨w4,hw4,hb4,hs4⟩ : ∃ w4,(wr.alloc (.cells #[.int .i64 sl,.int .i64 sh] 117)).drew=w4∧Below wr.heap.size wr w4∧w4.heap[wr.heap.size]? = some (.cells #[.int .i64 sl,.int .i64 sh] 117 (0,0)):=⟨_,rfl,((Below.refl _ wr).alloc (Nat.le_refl _) _).drew,heap_alloc_new wr _⟩
     rw [hw4]
     have HB4:=Lib.hid (And.intro hb4 hs4)
     have HW4:=Lib.hid (fun (W:World) (h:Below w4.heap.size w4 W)=>show CfB W ob tt (mayI lt x kp ag v i)∧CfB W (w.heap.size+1) p x∧MvB W (w.heap.size+1+1) tt kp ag∧W.heap[wr.heap.size]? = some (.cells #[.int .i64 sl,.int .i64 sh] 117 (0,0))∧Below w2.heap.size w2 W from
      ⟨HCF.out.below (bhop hb4 h),(HF.out W (bhop HBR.out (bhop hb4 h))).2.2.1,(HF.out W (bhop HBR.out (bhop hb4 h))).2.2.2.1,(h.block _ (Array.getElem?_eq_some_iff.1 hs4).1).trans hs4,bhop HBR.out (bhop hb4 h)⟩)
     clear c9d c9e c9f hal hw4 hb4 hs4 h1 h2 h5 h6 c9 c10 c0 d1 hcbl hga hg0 hgs
     obtain ⟨y0,y1,y2,y3,_⟩:=HW4.out w4 (Below.refl _ _)
     obtain ⟨_,k1,k2⟩:=y2.cells
     have d1:=y1.cell.2.1 i (by omega)
     rw [← HSC.out.2.2.1] at d1
     have e2:=y0.cell.2.2 (1+i)
     have e3:=y0.lt
     have e1:=y0.cell.2.1 i (by omega)
     obtain ⟨q0,q1⟩:=cells2 y3
     by_cases gk:i<kp
     ·have gk':(i:Int)<(kp:Int):=by omega
      have HP2:=Lib.hid (show MyI w2 ob tt m lf lt x kp ag v (5 - (i+1)) (.int .i64 ((i:Int)+1)) (w4.setCell ⟨ob,1+i,none⟩ (.int .i64 xi)) from ⟨i+1,by push_cast;rfl,rfl,by have:=HGI.out;omega,by
       have:=y0.put (i:=i) (by omega) xi
       rw [HSC.out.2.2.1] at this ⊢
       rw [show putX (mayI lt x kp ag v i) i (x i)=mayI lt x kp ag v (i+1) from mayI_keep gk] at this
       exact this,fun j h1 h2=>HLW.out.1 j h1 (by split at h1 <;> omega),fun h1 h2=>HLW.out.2 h1 (by omega),(HW4.out w4 (Below.refl _ _)).2.2.2.2.setCell (by rw [HOB.out];exact Nat.le_refl _) _⟩)
      clear y0 y1 y2 y3
      go_wp2_with fail
      go_roundw
      case rel=>exact ⟨_,HP2.out⟩
      case measure =>
       rw [HN.out]
       exact Nat.lt_of_le_of_lt ((leastOf_spec ⟨_,HP2.out⟩).2 _ HP2.out) HLE.out
     ·have gk':¬ (i:Int)<(kp:Int):=by omega
      by_cases ge:i=kp∧ag=true
      ·obtain ⟨rfl,rfl⟩:=ge
       obtain ⟨tp,htp⟩ : ∃ tp,tp=topS (sl,sh):=⟨_,rfl⟩
       have HTP:=Lib.hid (fun (W:World)=>by
        have:=refTop_any sl sh W
        rw [← htp] at this
        exact this)
       have HNQ:=Lib.hid (show nextP (scA m lf i) (x i)=(if xi=tp∧0≤sh then none else some (min (xi+1) tp))∧1≤xi∧xi≤tp∧tp≤2147483647 from by
        obtain ⟨a1,a2,a3,a4,a5,a6,_⟩:=HSC.out
        have e4:topS (scA m lf i)=tp:=by rw [htp,a1,a2]
        rw [e4] at a4 a5 a6
        rw [a3,a2]
        exact ⟨a5,a4.1,a4.2,a6.2⟩)
       have hbd:=HNQ.out.2
       have o1:IntKind.i64.wrap (xi+1)=xi+1:=by rw [IntKind.wrap_i64];omega
       have HW4b:=Lib.hid (show Below w2.heap.size w2 w4 from (HW4.out w4 (Below.refl _ _)).2.2.2.2)
       clear y0 y1 y2 y3 htp
       go_wp2_with fail
       by_cases h1:xi=tp∧0≤sh
       ·have h2:=h1.2
        have h3:¬ sh<0:=by omega
        have h4:(xi == tp)=true:=by simp [h1.1]
        have HRN:=Lib.hid (show r=none from by
         rw [← HP.out.2.2.2.2.1]
         exact made_next (by rw [HNQ.out.1,if_pos h1]))
        clear h1 e1 e2 e3 hbd o1
        go_region_with (first
         | (go_at_call 55;refine (HTP.out _).mono ?_;rintro e w5 ⟨rfl,hb5⟩;have HB5:=Lib.hid (show Below w4.heap.size w4 w5 from by first | exact hb5 | exact bhop (Below.refl _ _).drew hb5 | exact bhop (below_drewN (Below.refl _ _) _) hb5);obtain ⟨_,yy1,_,yy3,_⟩:=HW4.out w5 HB5.out;have d1:=yy1.cell.2.1 i (by omega);rw [← HSC.out.2.2.1] at d1;obtain ⟨q0,q1⟩:=cells2 yy3;clear yy1 yy3 hb5))
        all_goals
         have fZ:=(HF.out _ (bhop HW4b.out HB5.out)).2.2.2.2
         obtain ⟨z0,z1,z2,z3,z4⟩:=fZ.five
         have zf:=fZ.cell.2.2
         have zl:=fZ.lt
         have zg0:=zf 0;have zg1:=zf 1;have zg2:=zf 2;have zg3:=zf 3;have zg4:=zf 4
         have HZZ:=Lib.hid (And.intro fZ (bhop HB.out (bhop HW4b.out HB5.out)))
         clear zf
         go_wp2_with fail
         have hf:=set5_heap HZZ.out.1 0 (fun _=>0)
         have hch:=set5_chg w5 (w.heap.size+1+1+1) (.int .i64 0) (.int .i64 0) (.int .i64 0) (.int .i64 0) (.int .i64 0)
         try dsimp only at hf
         generalize (((((w5.setCell ⟨w.heap.size+1+1+1,0,none⟩ (.int .i64 0)).setCell ⟨w.heap.size+1+1+1,1,none⟩ (.int .i64 0)).setCell ⟨w.heap.size+1+1+1,2,none⟩ (.int .i64 0)).setCell ⟨w.heap.size+1+1+1,3,none⟩ (.int .i64 0)).setCell ⟨w.heap.size+1+1+1,4,none⟩ (.int .i64 0))=w9 at *
         obtain ⟨r0,r1,r2,r3,r4⟩:=CfB.five (x:=fun _=>0) hf
         refine bodyPost_ret (v:=.tuple #[.agg #[.int .i64 0,.int .i64 0,.int .i64 0,.int .i64 0,.int .i64 0],.bool false]) (by simp [results,Tryz.results32,go_sem,r0,r1,r2,r3,r4]) rfl ⟨?_,?_⟩
         ·rw [HRN.out];rfl
         ·exact HZZ.out.2.trans (hch.below (by have:=HZZ.out.2.size;omega) fun k hk e=>by omega)
       ·have HHN:=Lib.hid (show nextP (scA m lf i) (x i)=some (min (xi+1) tp) from by rw [HNQ.out.1,if_neg h1])
        have HVN:=Lib.hid (show v=min (xi+1) tp from by rw [HV.out,HHN.out];rfl)
        have HP2:=Lib.hid (fun (W:World) (h:Below w4.heap.size w4 W)=>show MyI w2 ob tt m lf lt x i true v (5 - (i+1)) (.int .i64 ((i:Int)+1)) (W.setCell ⟨ob,1+i,none⟩ (.int .i64 (min (xi+1) tp))) from ⟨i+1,by push_cast;rfl,rfl,by have:=HGI.out;omega,by
         have:=(HW4.out W h).1.put (i:=i) (by omega) (min (xi+1) tp)
         rw [← HVN.out,show putX (mayI lt x i true v i) i v=mayI lt x i true v (i+1) from mayI_next rfl] at this
         rw [← HVN.out]
         exact this,fun j h1 h2=>HLW.out.1 j h1 (by simp at h1;omega),fun _ _=>by rw [HVN.out];exact HHN.out,(HW4.out W h).2.2.2.2.setCell (by rw [HOB.out];exact Nat.le_refl _) _⟩)
        have hways:(xi=tp∧sh<0)∨xi<tp:=by omega
        clear h1
        rcases hways with ⟨h2,h3⟩ | h2
        ·have h4:(xi == tp)=true:=by simp [h2]
         have h3':¬ 0≤sh:=by omega
         have HMV:=Lib.hid (show min (xi+1) tp=tp by omega)
         have hm1:tp<xi+1:=by omega
         have hm2:¬ xi+1<tp:=by omega
         have hm3:¬ xi+1≤tp:=by omega
         clear h2 hbd
         rw [HMV.out] at HP2
         go_region_with (first
          | (go_at_call 55;refine (HTP.out _).mono ?_;rintro e w5 ⟨rfl,hb5⟩;have HB5:=Lib.hid (show Below w4.heap.size w4 w5 from by first | exact hb5 | exact bhop (Below.refl _ _).drew hb5 | exact bhop (below_drewN (Below.refl _ _) _) hb5 | exact bhop HB5.out hb5 | exact bhop HB5.out.drew hb5 | exact bhop (below_drewN HB5.out _) hb5 | exact bhop (below_drewN HB5.out _).drew hb5 | exact bhop (below_drewN (below_drewN HB5.out _) _) hb5);obtain ⟨yy0,yy1,_,yy3,_⟩:=HW4.out w5 HB5.out;have d1:=yy1.cell.2.1 i (by omega);rw [← HSC.out.2.2.1] at d1;obtain ⟨q0,q1⟩:=cells2 yy3;have e1:=yy0.cell.2.1 i (by omega);have e2:=yy0.cell.2.2 (1+i);have e3:=yy0.lt;clear yy0 yy1 yy3 hb5))
         all_goals
          clear e1 e2 e3
          obtain ⟨yy0,yy1,_,yy3,_⟩:=HW4.out w5 HB5.out
          have e1:=yy0.cell.2.1 i (by omega)
          have e2:=yy0.cell.2.2 (1+i)
          have e3:=yy0.lt
          clear yy0 yy1 yy3
          go_wp2_with fail
          go_region_with (first
           | (go_at_call 55;refine (HTP.out _).mono ?_;rintro e w6 ⟨rfl,hb6⟩;have HB6:=Lib.hid (show Below w4.heap.size w4 w6 from by first | exact hb6 | exact bhop (Below.refl _ _).drew hb6 | exact bhop (below_drewN (Below.refl _ _) _) hb6 | exact bhop HB5.out hb6 | exact bhop HB5.out.drew hb6 | exact bhop (below_drewN HB5.out _) hb6 | exact bhop (below_drewN HB5.out _).drew hb6 | exact bhop (below_drewN (below_drewN HB5.out _) _) hb6);obtain ⟨yy0,yy1,_,yy3,_⟩:=HW4.out w6 HB6.out;have d1:=yy1.cell.2.1 i (by omega);rw [← HSC.out.2.2.1] at d1;obtain ⟨q0,q1⟩:=cells2 yy3;have e1:=yy0.cell.2.1 i (by omega);have e2:=yy0.cell.2.2 (1+i);have e3:=yy0.lt;clear yy0 yy1 yy3 hb6))
          all_goals
           go_wp2_with fail
           go_roundw
           case rel=>exact ⟨_,HP2.out _ HB6.out⟩
           case measure =>
            rw [HN.out]
            exact Nat.lt_of_le_of_lt ((leastOf_spec ⟨_,HP2.out _ HB6.out⟩).2 _ (HP2.out _ HB6.out)) HLE.out
        ·have h4:(xi == tp)=false:=by simp;omega
         have HMV:=Lib.hid (show min (xi+1) tp=xi+1 by omega)
         have hm1:¬ tp<xi+1:=by omega
         have hm3:xi+1≤tp:=by omega
         clear h2 hbd
         rw [HMV.out] at HP2
         have HXX:=Lib.hid (fun (W:World) (h:Below w4.heap.size w4 W)=>show W.cell? ⟨w.heap.size+1,1+i,none⟩=some (.int .i64 xi)∧W.cell? ⟨wr.heap.size,0,none⟩=some (.int .i64 sl)∧W.cell? ⟨wr.heap.size,1,none⟩=some (.int .i64 sh) from by
          obtain ⟨_,yy1,_,yy3,_⟩:=HW4.out W h
          obtain ⟨q0,q1⟩:=cells2 yy3
          exact ⟨by rw [HSC.out.2.2.1];exact yy1.cell.2.1 i (by omega),q0,q1⟩)
         go_upto_region 13 with fail
         refine regKm13 (cb:=w.heap.size+1) (sb:=wr.heap.size) (i:=i) (xi:=xi) (sl:=sl) (sh:=sh) (tp:=tp) (hx:=fun W h=>(HXX.out W h).1) (hs0:=fun W h=>(HXX.out W h).2.1) (hs1:=fun W h=>(HXX.out W h).2.2) (hc1:=fun W _=>HTP.out W) (e1:=s4) (e2:=s1) (t1:=s3) (ne:=h4) (D:=_) (v0:=_) (v1:=_) (v2:=_) (v3:=_) (v5:=_) (v6:=_) (v7:=_) (v8:=_) (v9:=_) (v12:=_) (v13:=_) (v14:=_) (v15:=_) (v16:=_) (v17:=_) (v18:=_) (v19:=_) (v20:=_) (v21:=_) (v22:=_) (v23:=_) (v24:=_) (v25:=_) (v26:=_) (v27:=_) (v28:=_) (v29:=_) (v30:=_) (v31:=_) (v32:=_) (v33:=_) (v34:=_) (v35:=_) (v36:=_) (v37:=_) (v38:=_) (v39:=_) (v40:=_) (v41:=_) (v42:=_) (v43:=_) (v44:=_) (v45:=_) (v46:=_) (v47:=_) (v48:=_) (v49:=_) (v50:=_) (v51:=_) (v52:=_) (v53:=_) (v54:=_) (v55:=_) (v56:=_) (v57:=_) (v58:=_) (v59:=_) (v60:=_) (v61:=_) (v62:=_) (v63:=_) (v64:=_) (v65:=_) (v66:=_) (v67:=_) (v68:=_) (v69:=_) (v70:=_) (v71:=_) (v72:=_) (v73:=_) (v74:=_) (v75:=_) (v88:=_) (v89:=_) (v90:=_) (v91:=_) (v92:=_) (v93:=_) (v94:=_) (v95:=_) (v96:=_) (v97:=_) (v98:=_) (v99:=_) (v100:=_) (v101:=_) (v102:=_) (v103:=_) (v104:=_) (v105:=_) (v106:=_) (v107:=_) (v108:=_) (wy0:=_) (wy1:=_) (wy2:=_) (wy3:=_) (wy4:=_) (wy5:=_) (wy6:=_) (wy7:=_) (wy8:=_) (wy9:=_) (wy10:=_) (wy11:=_) (w:=_) (Q:=_) (hQ:=?_)
         intros
         rename_i w5 hb5
         dsimp only
         have HB5:=Lib.hid hb5
         clear hb5
         rcases (show xi+1<tp∨tp=xi+1 by omega) with hm2 | hm2
         case' inr=>subst hm2;clear hm1 hm3 h4
         all_goals
          clear e1 e2 e3
          obtain ⟨yy0,yy1,_,yy3,_⟩:=HW4.out w5 HB5.out
          have e1:=yy0.cell.2.1 i (by omega)
          have e2:=yy0.cell.2.2 (1+i)
          have e3:=yy0.lt
          have d1:=yy1.cell.2.1 i (by omega)
          rw [← HSC.out.2.2.1] at d1
          obtain ⟨q0,q1⟩:=cells2 yy3
          clear yy0 yy1 yy3
          go_wp2_with fail
          go_region_with (first
           | (go_at_call 55;refine (HTP.out _).mono ?_;rintro e w6 ⟨rfl,hb6⟩;have HB6:=Lib.hid (show Below w4.heap.size w4 w6 from by first | exact hb6 | exact bhop (Below.refl _ _).drew hb6 | exact bhop (below_drewN (Below.refl _ _) _) hb6 | exact bhop HB5.out hb6 | exact bhop HB5.out.drew hb6 | exact bhop (below_drewN HB5.out _) hb6 | exact bhop (below_drewN HB5.out _).drew hb6 | exact bhop (below_drewN (below_drewN HB5.out _) _) hb6);obtain ⟨yy0,yy1,_,yy3,_⟩:=HW4.out w6 HB6.out;have d1:=yy1.cell.2.1 i (by omega);rw [← HSC.out.2.2.1] at d1;obtain ⟨q0,q1⟩:=cells2 yy3;have e1:=yy0.cell.2.1 i (by omega);have e2:=yy0.cell.2.2 (1+i);have e3:=yy0.lt;clear yy0 yy1 yy3 hb6))
          all_goals
           go_wp2_with fail
           go_roundw
           case rel=>exact ⟨_,HP2.out _ HB6.out⟩
           case measure =>
            rw [HN.out]
            exact Nat.lt_of_le_of_lt ((leastOf_spec ⟨_,HP2.out _ HB6.out⟩).2 _ (HP2.out _ HB6.out)) HLE.out
      ·have HSK:=Lib.hid (show mayI lt x kp ag v i=mayI lt x kp ag v (i+1) from mayI_skip (by omega) (fun h=>by cases hg:ag with | false=>rfl | true=>exact absurd ⟨h,hg⟩ ge))
       have HKI:=Lib.hid (show kp+(if ag then 1 else 0)≤i from by
        cases hg:ag with
        | false=>simp;omega
        | true=>simp only [if_true];by_cases h:i=kp;exact absurd ⟨h,hg⟩ ge;omega)
       have HW4b:=Lib.hid (show Below w2.heap.size w2 w4 from (HW4.out w4 (Below.refl _ _)).2.2.2.2)
       have HOC:=Lib.hid y0
       have hnat:∃ qb:Bool,((i:Int) == (kp:Int))=qb∧(qb=true→ag=false):=⟨_,rfl,fun h=>by
        have h'':(i:Int)=(kp:Int):=by simpa using h
        have h':i=kp:=by omega
        cases hg:ag with
        | false=>rfl
        | true=>exact absurd ⟨h',hg⟩ ge⟩
       obtain ⟨qb,hq1,hq2⟩:=hnat
       clear y0 y1 y2 y3 ge e1 e2 e3
       have hways:qb=false∨(qb=true∧ag=false):=by cases qb <;> simp_all
       by_cases hlo:xi<sl
       ·have HRN:=Lib.hid (show r=none from by
         rw [← HP.out.2.2.2.2.1]
         exact made_no HKI.out HGI.out (by rw [← HSC.out.1,← HSC.out.2.2.1];exact hlo))
        rcases hways with rfl | ⟨rfl,rfl⟩
        all_goals
         clear hq2
         go_wp2_with fail
         go_quiet (fail)
         have fZ:=(HF.out _ (bhop HW4b.out (below_drewN (Below.refl _ _) nq))).2.2.2.2
         obtain ⟨z0,z1,z2,z3,z4⟩:=fZ.five
         have zf:=fZ.cell.2.2
         have zl:=fZ.lt
         have zg0:=zf 0;have zg1:=zf 1;have zg2:=zf 2;have zg3:=zf 3;have zg4:=zf 4
         have HZZ:=Lib.hid (And.intro fZ (bhop HB.out (bhop HW4b.out (below_drewN (Below.refl _ _) nq))))
         clear zf
         go_wp2_with fail
         have hf:=set5_heap HZZ.out.1 0 (fun _=>0)
         have hch:=set5_chg (w4.drewN nq) (w.heap.size+1+1+1) (.int .i64 0) (.int .i64 0) (.int .i64 0) (.int .i64 0) (.int .i64 0)
         try dsimp only at hf
         generalize ((((((w4.drewN nq).setCell ⟨w.heap.size+1+1+1,0,none⟩ (.int .i64 0)).setCell ⟨w.heap.size+1+1+1,1,none⟩ (.int .i64 0)).setCell ⟨w.heap.size+1+1+1,2,none⟩ (.int .i64 0)).setCell ⟨w.heap.size+1+1+1,3,none⟩ (.int .i64 0)).setCell ⟨w.heap.size+1+1+1,4,none⟩ (.int .i64 0))=w9 at *
         obtain ⟨r0,r1,r2,r3,r4⟩:=CfB.five (x:=fun _=>0) hf
         refine bodyPost_ret (v:=.tuple #[.agg #[.int .i64 0,.int .i64 0,.int .i64 0,.int .i64 0,.int .i64 0],.bool false]) (by simp [results,Tryz.results32,go_sem,r0,r1,r2,r3,r4]) rfl ⟨?_,?_⟩
         ·rw [HRN.out];rfl
         ·exact HZZ.out.2.trans (hch.below (by have:=HZZ.out.2.size;omega) fun k hk e=>by omega)
       ·have HP2:=Lib.hid (fun (W:World) (h:Below w4.heap.size w4 W)=>show MyI w2 ob tt m lf lt x kp ag v (5 - (i+1)) (.int .i64 ((i:Int)+1)) W from ⟨i+1,by push_cast;rfl,rfl,by have:=HGI.out;omega,by rw [← HSK.out];exact HOC.out.below h,fun j h1 h2=>by
         by_cases ej:j=i
         ·rw [ej,← HSC.out.1,← HSC.out.2.2.1];omega
         ·exact HLW.out.1 j h1 (by omega),fun h1 h2=>HLW.out.2 h1 (by have:=HKI.out;rw [h1] at this;simp at this;omega),bhop HW4b.out h⟩)
        rcases hways with rfl | ⟨rfl,rfl⟩
        all_goals
         clear hq2
         go_wp2_with fail
         go_quiet (fail)
         go_wp2_with fail
         go_roundw
         case rel=>exact ⟨_,HP2.out _ (below_drewN (Below.refl _ _) _)⟩
         case measure =>
          rw [HN.out]
          exact Nat.lt_of_le_of_lt ((leastOf_spec ⟨_,HP2.out _ (below_drewN (Below.refl _ _) _)⟩).2 _ (HP2.out _ (below_drewN (Below.refl _ _) _))) HLE.out
    ·have s2:¬ (i:Int)<(lm:Int):=by omega
     have hil':i=lm:=by omega
     obtain ⟨AA,cc,rr1,_⟩:=fL.row HP.out.1
     rw [← HLF.out] at rr1
     have HE:=Lib.hid (show r=some (toX lt x kp (if ag then some v else none)) from by
      have h1:=HLW.out
      rw [← HP.out.2.2.2.2.1]
      refine made_yes (fun h2=>h1.2 h2 (by subst h2;simp only [if_true] at hk;omega)) (fun j h2 h3=>h1.1 j h2 (by have:=HLF.out;omega)))
     obtain ⟨y,hy⟩ : ∃ y,y=toX lt x kp (if ag then some v else none):=⟨_,rfl⟩
     rw [← hy] at HE
     have hcy:CfB wr ob tt y:=by
      rw [hy,← mayI_end (n:=lf.length) (by have:=HLF.out;omega),show lf.length=i by have:=HLF.out;omega]
      exact hcf
     obtain ⟨d0,d1,d2,d3,d4⟩:=hcy.five
     clear fA fL fC fM hcf hcy hy hil hil' hb
     obtain ⟨z0,z1,z2,z3,z4⟩:=fZ.five
     have zf:=fZ.cell.2.2
     have zl:=fZ.lt
     have zg0:=zf 0;have zg1:=zf 1;have zg2:=zf 2;have zg3:=zf 3;have zg4:=zf 4
     have HZZ:=Lib.hid (And.intro fZ (bhop HB.out HBR.out))
     clear zf
     go_wp2_with fail
     have hf:=set5_heap HZZ.out.1 (tt:Int) y
     have hch:=set5_chg wr (w.heap.size+1+1+1) (.int .i64 (tt:Int)) (.int .i64 (y 0)) (.int .i64 (y 1)) (.int .i64 (y 2)) (.int .i64 (y 3))
     generalize (((((wr.setCell ⟨w.heap.size+1+1+1,0,none⟩ (.int .i64 (tt:Int))).setCell ⟨w.heap.size+1+1+1,1,none⟩ (.int .i64 (y 0))).setCell ⟨w.heap.size+1+1+1,2,none⟩ (.int .i64 (y 1))).setCell ⟨w.heap.size+1+1+1,3,none⟩ (.int .i64 (y 2))).setCell ⟨w.heap.size+1+1+1,4,none⟩ (.int .i64 (y 3)))=w9 at *
     obtain ⟨r0,r1,r2,r3,r4⟩:=CfB.five hf
     refine bodyPost_ret (v:=.tuple #[.agg #[.int .i64 (tt:Int),.int .i64 (y 0),.int .i64 (y 1),.int .i64 (y 2),.int .i64 (y 3)],.bool true]) (by simp [results,Tryz.results32,go_sem,r0,r1,r2,r3,r4]) rfl ⟨?_,?_⟩
     ·rw [HE.out];rfl
     ·exact HZZ.out.2.trans (hch.below (by have:=HZZ.out.2.size;omega) fun k hk e=>by omega)
end Go.Proofs.YtnmjicfpmkoldaaGreatDoor
