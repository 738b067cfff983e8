/- What comes behind one byte more, as the document gathers it in a row of its own: plain facts.
   Conditions: those that each theorem states. -/
import Derived.Test.YtnmjicfpmkoldaaGreatDoorN2
import Derived.Test.YtnmjicfpmkoldaaGreatDoorPG
import Derived.WalkKit
import Derived.KernelRfl
import Derived.Test.YtnmjicfpmkoldaaGreatDoorPA
import Derived.Test.YtnmjicfpmkoldaaGreatDoorN5
import Derived.Test.YtnmjicfpmkoldaaGreatDoorNR
import Derived.Deep.AppendLies

/- A drawn region of the document's Sorted.
   Conditions: what it loads lies in memory; what it calls. -/
namespace Go.Proofs.YtnmjicfpmkoldaaGreatDoor
open Go.RowKit
abbrev opsregSra:Array Oper:=#[{ dst:=some 17,op:=Op.move (Operand.tmp 1),type:=42,pos := "ref.go:129",after:=#[],guard:=none },
 { dst:=some 18,op:=Op.move (Operand.tmp 0),type:=42,pos := "ref.go:129",after:=#[],guard:=none },
 { dst:=some 19,op:=Op.move (Operand.tmp 5),type:=3,pos := "ref.go:129",after:=#[],guard:=none },
 { dst:=some 20,op:=Op.indexAddr 42 (Operand.tmp 18) (Operand.tmp 19),type:=0,pos := "ref.go:129",after:=#[{ on:=1,ground:=Ground.data },{ on:=2,ground:=Ground.data }],guard:=none },
 { dst:=some 21,op:=Op.load 55 (Operand.tmp 20),type:=55,pos := "ref.go:129",after:=#[{ on:=3,ground:=Ground.data }],guard:=none },
 { dst:=some 22,op:=Op.call { callee:=Callee.value (Operand.func 18),args:=#[Operand.tmp 17,Operand.tmp 21],argTypes:=#[42,55] },type:=4,pos := "ref.go:129",after:=#[{ on:=0,ground:=Ground.data },{ on:=4,ground:=Ground.data }],guard:=none },
 { dst:=some 23,op:=Op.unOp UnOp.not 4 (Operand.tmp 22),type:=4,pos := "ref.go:129",after:=#[{ on:=5,ground:=Ground.data }],guard:=none },
 { dst:=some 24,op:=Op.move (Operand.tmp 23),type:=4,pos := "ref.go:129",after:=#[{ on:=6,ground:=Ground.data },{ on:=5,ground:=Ground.chain }],guard:=none },
 { dst:=some 25,op:=Op.move (Operand.tmp 5),type:=3,pos := "ref.go:129",after:=#[{ on:=7,ground:=Ground.guard }],guard:=some (7,false) },
 { dst:=some 26,op:=Op.binOp BinOp.gtr 3 (Operand.tmp 25) (Operand.const (Value.int IntKind.i64 0)) 3,type:=4,pos := "ref.go:129",after:=#[{ on:=8,ground:=Ground.data },{ on:=7,ground:=Ground.guard }],guard:=some (7,false) },
 { dst:=some 27,op:=Op.move (Operand.tmp 26),type:=4,pos := "ref.go:129",after:=#[{ on:=9,ground:=Ground.data },{ on:=7,ground:=Ground.chain },{ on:=7,ground:=Ground.guard }],guard:=some (7,false) },
 { dst:=some 28,op:=Op.move (Operand.tmp 0),type:=42,pos := "ref.go:129",after:=#[{ on:=10,ground:=Ground.guard }],guard:=some (10,true) },
 { dst:=some 29,op:=Op.move (Operand.tmp 5),type:=3,pos := "ref.go:129",after:=#[{ on:=10,ground:=Ground.guard }],guard:=some (10,true) },
 { dst:=some 30,op:=Op.binOp BinOp.sub 3 (Operand.tmp 29) (Operand.const (Value.int IntKind.i64 1)) 3,type:=3,pos := "ref.go:129",after:=#[{ on:=12,ground:=Ground.data },{ on:=10,ground:=Ground.guard }],guard:=some (10,true) },
 { dst:=some 31,op:=Op.indexAddr 42 (Operand.tmp 28) (Operand.tmp 30),type:=0,pos := "ref.go:129",after:=#[{ on:=11,ground:=Ground.data },{ on:=13,ground:=Ground.data },{ on:=10,ground:=Ground.guard }],guard:=some (10,true) },
 { dst:=some 32,op:=Op.load 55 (Operand.tmp 31),type:=55,pos := "ref.go:129",after:=#[{ on:=14,ground:=Ground.data },{ on:=10,ground:=Ground.guard }],guard:=some (10,true) },
 { dst:=some 33,op:=Op.move (Operand.tmp 0),type:=42,pos := "ref.go:129",after:=#[{ on:=10,ground:=Ground.guard }],guard:=some (10,true) },
 { dst:=some 34,op:=Op.move (Operand.tmp 5),type:=3,pos := "ref.go:129",after:=#[{ on:=10,ground:=Ground.guard }],guard:=some (10,true) },
 { dst:=some 35,op:=Op.indexAddr 42 (Operand.tmp 33) (Operand.tmp 34),type:=0,pos := "ref.go:129",after:=#[{ on:=16,ground:=Ground.data },{ on:=17,ground:=Ground.data },{ on:=10,ground:=Ground.guard }],guard:=some (10,true) },
 { dst:=some 36,op:=Op.load 55 (Operand.tmp 35),type:=55,pos := "ref.go:129",after:=#[{ on:=18,ground:=Ground.data },{ on:=10,ground:=Ground.guard }],guard:=some (10,true) },
 { dst:=some 37,op:=Op.call { callee:=Callee.value (Operand.func 30),args:=#[Operand.tmp 32,Operand.tmp 36],argTypes:=#[55,55] },type:=3,pos := "ref.go:129",after:=#[{ on:=15,ground:=Ground.data },{ on:=19,ground:=Ground.data },{ on:=10,ground:=Ground.chain },{ on:=10,ground:=Ground.guard }],guard:=some (10,true) },
 { dst:=some 38,op:=Op.binOp BinOp.geq 3 (Operand.tmp 37) (Operand.const (Value.int IntKind.i64 0)) 3,type:=4,pos := "ref.go:129",after:=#[{ on:=20,ground:=Ground.data },{ on:=10,ground:=Ground.guard }],guard:=some (10,true) },
 { dst:=some 39,op:=Op.pick (Operand.tmp 27) (Operand.tmp 38) (Operand.const (Value.bool false)),type:=4,pos := "ref.go:129",after:=#[{ on:=10,ground:=Ground.data },{ on:=21,ground:=Ground.data },{ on:=7,ground:=Ground.guard }],guard:=some (7,false) },
 { dst:=some 40,op:=Op.pick (Operand.tmp 24) (Operand.const (Value.bool true)) (Operand.tmp 39),type:=4,pos := "ref.go:129",after:=#[{ on:=7,ground:=Ground.data },{ on:=22,ground:=Ground.data }],guard:=none }]
def WregSra (i ln c1 c2 g:Nat) (dA:Option Addr) (x0 x1 x2 x3 x4:Int) (D:List Deferred) (v2 v3 v4 v6 v7 v8 v9 v10 v11 v12 v13 v14 v15 v16:Value) (w0:World) (l:Nat→Bool) (a:Act) (w:World):Prop :=
 ∃ (y0 y1 y2 y3 y4 y5 y6 y7 y8 y9 y10 y11 y12 y13 y14 y15 y16 y17 y18 y19 y20 y21 y22 y23:Value),a = { tmps:=#[.slice (some ⟨g,0,none⟩) ln c1,.slice dA ln c2,v2,v3,v4,.int .i64 (i:Int),v6,v7,v8,v9,v10,v11,v12,v13,v14,v15,v16,y0,y1,y2,y3,y4,y5,y6,y7,y8,y9,y10,y11,y12,y13,y14,y15,y16,y17,y18,y19,y20,y21,y22,y23],defers:=D }∧Below w0.heap.size w0 w ∧
  (l 0=true→y0=.slice dA ln c2)∧(l 1=true→y1=.slice (some ⟨g,0,none⟩) ln c1)∧(l 2=true→y2=.int .i64 (i:Int))∧(l 3=true→y3=.pointer (some ⟨g,i * 5,none⟩))∧(l 4=true→y4=.agg #[.int .i64 x0,.int .i64 x1,.int .i64 x2,.int .i64 x3,.int .i64 x4])∧(l 5=true→y5=.bool true)∧(l 6=true→y6=.bool false)∧(l 7=true→y7=.bool false)∧(l 8=true→y8=.int .i64 (i:Int))∧(l 9=true→y9=.bool false)∧(l 10=true→y10=.bool false)∧(l 22=true→y22=.bool false)∧(l 23=true→y23=.bool false)
set_option maxHeartbeats 8000000 in
set_option maxRecDepth 100000 in
theorem regSra (i ln c1 c2 g:Nat) (dA:Option Addr) (x0 x1 x2 x3 x4:Int) (D:List Deferred) (v2 v3 v4 v6 v7 v8 v9 v10 v11 v12 v13 v14 v15 v16 wy0 wy1 wy2 wy3 wy4 wy5 wy6 wy7 wy8 wy9 wy10 wy11 wy12 wy13 wy14 wy15 wy16 wy17 wy18 wy19 wy20 wy21 wy22 wy23:Value) (w:World) (s1:(0:Int)≤(i:Int)) (s2:(i:Int)<(ln:Int)) (s3:((i:Int)).toNat=i) (hx:(∀ w',Below w.heap.size w w'→w'.cell? ⟨g,i * 5,none⟩=some (.int .i64 x0)∧w'.cell? ⟨g,i * 5+1,none⟩=some (.int .i64 x1)∧w'.cell? ⟨g,i * 5+2,none⟩=some (.int .i64 x2)∧w'.cell? ⟨g,i * 5+3,none⟩=some (.int .i64 x3)∧w'.cell? ⟨g,i * 5+4,none⟩=some (.int .i64 x4))) (hc1:∀ w',Below w.heap.size w w'→Calls Tryz.prog 18 #[.slice dA ln c2,.agg #[.int .i64 x0,.int .i64 x1,.int .i64 x2,.int .i64 x3,.int .i64 x4]] w' fun e w2=>e=.returned (.bool true)∧Below w'.heap.size w' w2) (g3:¬ (0:Int)<(i:Int)) (Q:Exit→Act→World→Prop)
  (hQ:∀ (y0 y1 y2 y3 y4 y5 y6 y7 y8 y9 y10 y11 y12 y13 y14 y15 y16 y17 y18 y19 y20 y21 y22:Value) (w':World),Below w.heap.size w w'→Q .normal { tmps:=#[.slice (some ⟨g,0,none⟩) ln c1,.slice dA ln c2,v2,v3,v4,.int .i64 (i:Int),v6,v7,v8,v9,v10,v11,v12,v13,v14,v15,v16,y0,y1,y2,y3,y4,y5,y6,y7,y8,y9,y10,y11,y12,y13,y14,y15,y16,y17,y18,y19,y20,y21,y22,.bool false],defers:=D } w') :
  (Code.region 6 opsregSra true).wp Tryz.prog Q { tmps:=#[.slice (some ⟨g,0,none⟩) ln c1,.slice dA ln c2,v2,v3,v4,.int .i64 (i:Int),v6,v7,v8,v9,v10,v11,v12,v13,v14,v15,v16,wy0,wy1,wy2,wy3,wy4,wy5,wy6,wy7,wy8,wy9,wy10,wy11,wy12,wy13,wy14,wy15,wy16,wy17,wy18,wy19,wy20,wy21,wy22,wy23],defers:=D } w:=by
 refine wp_region_inv (by kernel_rfl) (WregSra i ln c1 c2 g dA x0 x1 x2 x3 x4 D v2 v3 v4 v6 v7 v8 v9 v10 v11 v12 v13 v14 v15 v16 w) ?hacy ?h0 ?hstep ?hdone
 case hacy=>kernel_rfl
 case h0=>exact ⟨wy0,wy1,wy2,wy3,wy4,wy5,wy6,wy7,wy8,wy9,wy10,wy11,wy12,wy13,wy14,wy15,wy16,wy17,wy18,wy19,wy20,wy21,wy22,wy23,rfl,below_drewN (Below.refl _ _) 1,(fun p=>by cases p),(fun p=>by cases p),(fun p=>by cases p),(fun p=>by cases p),(fun p=>by cases p),(fun p=>by cases p),(fun p=>by cases p),(fun p=>by cases p),(fun p=>by cases p),(fun p=>by cases p),(fun p=>by cases p),(fun p=>by cases p),(fun p=>by cases p)⟩
 case hdone =>
  intro l a w1 hI hall
  obtain ⟨y0,y1,y2,y3,y4,y5,y6,y7,y8,y9,y10,y11,y12,y13,y14,y15,y16,y17,y18,y19,y20,y21,y22,y23,rfl,hb,h0,h1,h2,h3,h4,h5,h6,h7,h8,h9,h10,h22,h23⟩:=hI
  obtain rfl:=h23 (hall 23 (by decide))
  exact hQ _ _ _ _ _ _ _ _ _ _ _ _ _ _ _ _ _ _ _ _ _ _ _ _ hb
 case hstep =>
  intro l a w1 i o hI ho hl hall
  obtain ⟨y0,y1,y2,y3,y4,y5,y6,y7,y8,y9,y10,y11,y12,y13,y14,y15,y16,y17,y18,y19,y20,y21,y22,y23,rfl,hb,h0,h1,h2,h3,h4,h5,h6,h7,h8,h9,h10,h22,h23⟩:=hI
  have hi:i<24:=(Array.getElem?_eq_some_iff.1 ho).1
  match i,hi with
  | 0,_ =>
   have ho':=ho
   simp [opsregSra] at ho
   subst ho
   refine wpOp_one ho' rfl fun K hK=>?_
   go_simp
   exact hK _ _ ⟨_,y1,y2,y3,y4,y5,y6,y7,y8,y9,y10,y11,y12,y13,y14,y15,y16,y17,y18,y19,y20,y21,y22,y23,rfl,hb,fun _=>(by first | rfl | simp),h1,h2,h3,h4,h5,h6,h7,h8,h9,h10,h22,h23⟩
  | 1,_ =>
   have ho':=ho
   simp [opsregSra] at ho
   subst ho
   refine wpOp_one ho' rfl fun K hK=>?_
   go_simp
   exact hK _ _ ⟨y0,_,y2,y3,y4,y5,y6,y7,y8,y9,y10,y11,y12,y13,y14,y15,y16,y17,y18,y19,y20,y21,y22,y23,rfl,hb,h0,fun _=>(by first | rfl | simp),h2,h3,h4,h5,h6,h7,h8,h9,h10,h22,h23⟩
  | 2,_ =>
   have ho':=ho
   simp [opsregSra] at ho
   subst ho
   refine wpOp_one ho' rfl fun K hK=>?_
   go_simp
   exact hK _ _ ⟨y0,y1,_,y3,y4,y5,y6,y7,y8,y9,y10,y11,y12,y13,y14,y15,y16,y17,y18,y19,y20,y21,y22,y23,rfl,hb,h0,h1,fun _=>(by first | rfl | simp),h3,h4,h5,h6,h7,h8,h9,h10,h22,h23⟩
  | 3,_ =>
   have ho':=ho
   simp [opsregSra] at ho
   subst ho
   obtain rfl:=h1 (hall ⟨1,.data⟩ (by simp) rfl)
   obtain rfl:=h2 (hall ⟨2,.data⟩ (by simp) rfl)
   refine wpOp_one ho' rfl fun K hK=>?_
   go_simp
   exact hK _ _ ⟨y0,_,_,_,y4,y5,y6,y7,y8,y9,y10,y11,y12,y13,y14,y15,y16,y17,y18,y19,y20,y21,y22,y23,rfl,hb,h0,fun _=>rfl,fun _=>rfl,fun _=>(by first | rfl | simp),h4,h5,h6,h7,h8,h9,h10,h22,h23⟩
  | 4,_ =>
   have ho':=ho
   simp [opsregSra] at ho
   subst ho
   obtain rfl:=h3 (hall ⟨3,.data⟩ (by simp) rfl)
   refine wpOp_one ho' rfl fun K hK=>?_
   obtain ⟨q0,q1,q2,q3,q4⟩:=hx w1 hb
   go_simp
   exact hK _ _ ⟨y0,y1,y2,_,_,y5,y6,y7,y8,y9,y10,y11,y12,y13,y14,y15,y16,y17,y18,y19,y20,y21,y22,y23,rfl,hb,h0,h1,h2,fun _=>rfl,fun _=>(by first | rfl | simp),h5,h6,h7,h8,h9,h10,h22,h23⟩
  | 5,_ =>
   have ho':=ho
   simp [opsregSra] at ho
   subst ho
   obtain rfl:=h0 (hall ⟨0,.data⟩ (by simp) rfl)
   obtain rfl:=h4 (hall ⟨4,.data⟩ (by simp) rfl)
   refine wpOp_one ho' rfl fun K hK=>?_
   go_simp
   go_at_call 18
   refine (hc1 _ hb).mono ?_
   rintro e w2 ⟨rfl,hb2⟩
   exact hK _ _ ⟨_,y1,y2,y3,_,_,y6,y7,y8,y9,y10,y11,y12,y13,y14,y15,y16,y17,y18,y19,y20,y21,y22,y23,rfl,(hb.trans (hb2.mono hb.size)),fun _=>rfl,h1,h2,h3,fun _=>rfl,fun _=>(by first | rfl | simp),h6,h7,h8,h9,h10,h22,h23⟩
  | 6,_ =>
   have ho':=ho
   simp [opsregSra] at ho
   subst ho
   obtain rfl:=h5 (hall ⟨5,.data⟩ (by simp) rfl)
   refine wpOp_one ho' rfl fun K hK=>?_
   go_simp
   exact hK _ _ ⟨y0,y1,y2,y3,y4,_,_,y7,y8,y9,y10,y11,y12,y13,y14,y15,y16,y17,y18,y19,y20,y21,y22,y23,rfl,hb,h0,h1,h2,h3,h4,fun _=>rfl,fun _=>(by first | rfl | simp),h7,h8,h9,h10,h22,h23⟩
  | 7,_ =>
   have ho':=ho
   simp [opsregSra] at ho
   subst ho
   obtain rfl:=h6 (hall ⟨6,.data⟩ (by simp) rfl)
   refine wpOp_one ho' rfl fun K hK=>?_
   go_simp
   exact hK _ _ ⟨y0,y1,y2,y3,y4,y5,_,_,y8,y9,y10,y11,y12,y13,y14,y15,y16,y17,y18,y19,y20,y21,y22,y23,rfl,hb,h0,h1,h2,h3,h4,h5,fun _=>rfl,fun _=>(by first | rfl | simp),h8,h9,h10,h22,h23⟩
  | 8,_ =>
   have ho':=ho
   simp [opsregSra] at ho
   subst ho
   obtain rfl:=h7 (hall ⟨7,.guard⟩ (by simp) rfl)
   refine wpOp_on ho' rfl fun K hK=>?_
   go_simp
   exact hK _ _ ⟨y0,y1,y2,y3,y4,y5,y6,_,_,y9,y10,y11,y12,y13,y14,y15,y16,y17,y18,y19,y20,y21,y22,y23,rfl,hb,h0,h1,h2,h3,h4,h5,h6,fun _=>rfl,fun _=>(by first | rfl | simp),h9,h10,h22,h23⟩
  | 9,_ =>
   have ho':=ho
   simp [opsregSra] at ho
   subst ho
   obtain rfl:=h7 (hall ⟨7,.guard⟩ (by simp) rfl)
   obtain rfl:=h8 (hall ⟨8,.data⟩ (by simp) rfl)
   refine wpOp_on ho' rfl fun K hK=>?_
   go_simp
   exact hK _ _ ⟨y0,y1,y2,y3,y4,y5,y6,_,_,_,y10,y11,y12,y13,y14,y15,y16,y17,y18,y19,y20,y21,y22,y23,rfl,hb,h0,h1,h2,h3,h4,h5,h6,fun _=>rfl,fun _=>rfl,fun _=>(by first | rfl | (simp;omega)),h10,h22,h23⟩
  | 10,_ =>
   have ho':=ho
   simp [opsregSra] at ho
   subst ho
   obtain rfl:=h7 (hall ⟨7,.chain⟩ (by simp) rfl)
   obtain rfl:=h9 (hall ⟨9,.data⟩ (by simp) rfl)
   refine wpOp_on ho' rfl fun K hK=>?_
   go_simp
   exact hK _ _ ⟨y0,y1,y2,y3,y4,y5,y6,_,y8,_,_,y11,y12,y13,y14,y15,y16,y17,y18,y19,y20,y21,y22,y23,rfl,hb,h0,h1,h2,h3,h4,h5,h6,fun _=>rfl,h8,fun _=>rfl,fun _=>(by first | rfl | simp),h22,h23⟩
  | 11,_ =>
   have ho':=ho
   simp [opsregSra] at ho
   subst ho
   obtain rfl:=h10 (hall ⟨10,.guard⟩ (by simp) rfl)
   refine wpOq_off ho' rfl ?_
   exact ⟨y0,y1,y2,y3,y4,y5,y6,y7,y8,y9,_,_,y12,y13,y14,y15,y16,y17,y18,y19,y20,y21,y22,y23,rfl,hb,h0,h1,h2,h3,h4,h5,h6,h7,h8,h9,fun _=>rfl,h22,h23⟩
  | 12,_ =>
   have ho':=ho
   simp [opsregSra] at ho
   subst ho
   obtain rfl:=h10 (hall ⟨10,.guard⟩ (by simp) rfl)
   refine wpOq_off ho' rfl ?_
   exact ⟨y0,y1,y2,y3,y4,y5,y6,y7,y8,y9,_,y11,_,y13,y14,y15,y16,y17,y18,y19,y20,y21,y22,y23,rfl,hb,h0,h1,h2,h3,h4,h5,h6,h7,h8,h9,fun _=>rfl,h22,h23⟩
  | 13,_ =>
   have ho':=ho
   simp [opsregSra] at ho
   subst ho
   obtain rfl:=h10 (hall ⟨10,.guard⟩ (by simp) rfl)
   refine wpOq_off ho' rfl ?_
   exact ⟨y0,y1,y2,y3,y4,y5,y6,y7,y8,y9,_,y11,y12,_,y14,y15,y16,y17,y18,y19,y20,y21,y22,y23,rfl,hb,h0,h1,h2,h3,h4,h5,h6,h7,h8,h9,fun _=>rfl,h22,h23⟩
  | 14,_ =>
   have ho':=ho
   simp [opsregSra] at ho
   subst ho
   obtain rfl:=h10 (hall ⟨10,.guard⟩ (by simp) rfl)
   refine wpOq_off ho' rfl ?_
   exact ⟨y0,y1,y2,y3,y4,y5,y6,y7,y8,y9,_,y11,y12,y13,_,y15,y16,y17,y18,y19,y20,y21,y22,y23,rfl,hb,h0,h1,h2,h3,h4,h5,h6,h7,h8,h9,fun _=>rfl,h22,h23⟩
  | 15,_ =>
   have ho':=ho
   simp [opsregSra] at ho
   subst ho
   obtain rfl:=h10 (hall ⟨10,.guard⟩ (by simp) rfl)
   refine wpOq_off ho' rfl ?_
   exact ⟨y0,y1,y2,y3,y4,y5,y6,y7,y8,y9,_,y11,y12,y13,y14,_,y16,y17,y18,y19,y20,y21,y22,y23,rfl,hb,h0,h1,h2,h3,h4,h5,h6,h7,h8,h9,fun _=>rfl,h22,h23⟩
  | 16,_ =>
   have ho':=ho
   simp [opsregSra] at ho
   subst ho
   obtain rfl:=h10 (hall ⟨10,.guard⟩ (by simp) rfl)
   refine wpOq_off ho' rfl ?_
   exact ⟨y0,y1,y2,y3,y4,y5,y6,y7,y8,y9,_,y11,y12,y13,y14,y15,_,y17,y18,y19,y20,y21,y22,y23,rfl,hb,h0,h1,h2,h3,h4,h5,h6,h7,h8,h9,fun _=>rfl,h22,h23⟩
  | 17,_ =>
   have ho':=ho
   simp [opsregSra] at ho
   subst ho
   obtain rfl:=h10 (hall ⟨10,.guard⟩ (by simp) rfl)
   refine wpOq_off ho' rfl ?_
   exact ⟨y0,y1,y2,y3,y4,y5,y6,y7,y8,y9,_,y11,y12,y13,y14,y15,y16,_,y18,y19,y20,y21,y22,y23,rfl,hb,h0,h1,h2,h3,h4,h5,h6,h7,h8,h9,fun _=>rfl,h22,h23⟩
  | 18,_ =>
   have ho':=ho
   simp [opsregSra] at ho
   subst ho
   obtain rfl:=h10 (hall ⟨10,.guard⟩ (by simp) rfl)
   refine wpOq_off ho' rfl ?_
   exact ⟨y0,y1,y2,y3,y4,y5,y6,y7,y8,y9,_,y11,y12,y13,y14,y15,y16,y17,_,y19,y20,y21,y22,y23,rfl,hb,h0,h1,h2,h3,h4,h5,h6,h7,h8,h9,fun _=>rfl,h22,h23⟩
  | 19,_ =>
   have ho':=ho
   simp [opsregSra] at ho
   subst ho
   obtain rfl:=h10 (hall ⟨10,.guard⟩ (by simp) rfl)
   refine wpOq_off ho' rfl ?_
   exact ⟨y0,y1,y2,y3,y4,y5,y6,y7,y8,y9,_,y11,y12,y13,y14,y15,y16,y17,y18,_,y20,y21,y22,y23,rfl,hb,h0,h1,h2,h3,h4,h5,h6,h7,h8,h9,fun _=>rfl,h22,h23⟩
  | 20,_ =>
   have ho':=ho
   simp [opsregSra] at ho
   subst ho
   obtain rfl:=h10 (hall ⟨10,.chain⟩ (by simp) rfl)
   refine wpOq_off ho' rfl ?_
   exact ⟨y0,y1,y2,y3,y4,y5,y6,y7,y8,y9,_,y11,y12,y13,y14,y15,y16,y17,y18,y19,_,y21,y22,y23,rfl,hb,h0,h1,h2,h3,h4,h5,h6,h7,h8,h9,fun _=>rfl,h22,h23⟩
  | 21,_ =>
   have ho':=ho
   simp [opsregSra] at ho
   subst ho
   obtain rfl:=h10 (hall ⟨10,.guard⟩ (by simp) rfl)
   refine wpOq_off ho' rfl ?_
   exact ⟨y0,y1,y2,y3,y4,y5,y6,y7,y8,y9,_,y11,y12,y13,y14,y15,y16,y17,y18,y19,y20,_,y22,y23,rfl,hb,h0,h1,h2,h3,h4,h5,h6,h7,h8,h9,fun _=>rfl,h22,h23⟩
  | 22,_ =>
   have ho':=ho
   simp [opsregSra] at ho
   subst ho
   obtain rfl:=h7 (hall ⟨7,.guard⟩ (by simp) rfl)
   obtain rfl:=h10 (hall ⟨10,.data⟩ (by simp) rfl)
   refine wpOp_on ho' rfl fun K hK=>?_
   go_simp
   exact hK _ _ ⟨y0,y1,y2,y3,y4,y5,y6,_,y8,y9,_,y11,y12,y13,y14,y15,y16,y17,y18,y19,y20,y21,_,y23,rfl,hb,h0,h1,h2,h3,h4,h5,h6,fun _=>rfl,h8,h9,fun _=>rfl,fun _=>(by first | rfl | simp),h23⟩
  | 23,_ =>
   have ho':=ho
   simp [opsregSra] at ho
   subst ho
   obtain rfl:=h7 (hall ⟨7,.data⟩ (by simp) rfl)
   obtain rfl:=h22 (hall ⟨22,.data⟩ (by simp) rfl)
   refine wpOp_one ho' rfl fun K hK=>?_
   go_simp
   exact hK _ _ ⟨y0,y1,y2,y3,y4,y5,y6,_,y8,y9,y10,y11,y12,y13,y14,y15,y16,y17,y18,y19,y20,y21,_,_,rfl,hb,h0,h1,h2,h3,h4,h5,h6,fun _=>rfl,h8,h9,h10,fun _=>rfl,fun _=>(by first | rfl | simp)⟩
  | k+24,hi=>omega
def WregSrb (i k ln c1 c2 g:Nat) (dA:Option Addr) (x0 x1 x2 x3 x4 u0 u1 u2 u3 u4 r:Int) (D:List Deferred) (v2 v3 v4 v6 v7 v8 v9 v10 v11 v12 v13 v14 v15 v16:Value) (w0:World) (l:Nat→Bool) (a:Act) (w:World):Prop :=
 ∃ (y0 y1 y2 y3 y4 y5 y6 y7 y8 y9 y10 y11 y12 y13 y14 y15 y16 y17 y18 y19 y20 y21 y22 y23:Value),a = { tmps:=#[.slice (some ⟨g,0,none⟩) ln c1,.slice dA ln c2,v2,v3,v4,.int .i64 (i:Int),v6,v7,v8,v9,v10,v11,v12,v13,v14,v15,v16,y0,y1,y2,y3,y4,y5,y6,y7,y8,y9,y10,y11,y12,y13,y14,y15,y16,y17,y18,y19,y20,y21,y22,y23],defers:=D }∧Below w0.heap.size w0 w ∧
  (l 0=true→y0=.slice dA ln c2)∧(l 1=true→y1=.slice (some ⟨g,0,none⟩) ln c1)∧(l 2=true→y2=.int .i64 (i:Int))∧(l 3=true→y3=.pointer (some ⟨g,i * 5,none⟩))∧(l 4=true→y4=.agg #[.int .i64 x0,.int .i64 x1,.int .i64 x2,.int .i64 x3,.int .i64 x4])∧(l 5=true→y5=.bool true)∧(l 6=true→y6=.bool false)∧(l 7=true→y7=.bool false)∧(l 8=true→y8=.int .i64 (i:Int))∧(l 9=true→y9=.bool true)∧(l 10=true→y10=.bool true)∧(l 11=true→y11=.slice (some ⟨g,0,none⟩) ln c1)∧(l 12=true→y12=.int .i64 (i:Int))∧(l 13=true→y13=.int .i64 (k:Int))∧(l 14=true→y14=.pointer (some ⟨g,k * 5,none⟩))∧(l 15=true→y15=.agg #[.int .i64 u0,.int .i64 u1,.int .i64 u2,.int .i64 u3,.int .i64 u4])∧(l 16=true→y16=.slice (some ⟨g,0,none⟩) ln c1)∧(l 17=true→y17=.int .i64 (i:Int))∧(l 18=true→y18=.pointer (some ⟨g,i * 5,none⟩))∧(l 19=true→y19=.agg #[.int .i64 x0,.int .i64 x1,.int .i64 x2,.int .i64 x3,.int .i64 x4])∧(l 20=true→y20=.int .i64 r)∧(l 21=true→y21=.bool false)∧(l 22=true→y22=.bool false)∧(l 23=true→y23=.bool false)
set_option maxHeartbeats 8000000 in
set_option maxRecDepth 100000 in
theorem regSrb (i k ln c1 c2 g:Nat) (dA:Option Addr) (x0 x1 x2 x3 x4 u0 u1 u2 u3 u4 r:Int) (D:List Deferred) (v2 v3 v4 v6 v7 v8 v9 v10 v11 v12 v13 v14 v15 v16 wy0 wy1 wy2 wy3 wy4 wy5 wy6 wy7 wy8 wy9 wy10 wy11 wy12 wy13 wy14 wy15 wy16 wy17 wy18 wy19 wy20 wy21 wy22 wy23:Value) (w:World) (s1:(0:Int)≤(i:Int)) (s2:(i:Int)<(ln:Int)) (s3:((i:Int)).toNat=i) (hx:(∀ w',Below w.heap.size w w'→w'.cell? ⟨g,i * 5,none⟩=some (.int .i64 x0)∧w'.cell? ⟨g,i * 5+1,none⟩=some (.int .i64 x1)∧w'.cell? ⟨g,i * 5+2,none⟩=some (.int .i64 x2)∧w'.cell? ⟨g,i * 5+3,none⟩=some (.int .i64 x3)∧w'.cell? ⟨g,i * 5+4,none⟩=some (.int .i64 x4))) (hc1:∀ w',Below w.heap.size w w'→Calls Tryz.prog 18 #[.slice dA ln c2,.agg #[.int .i64 x0,.int .i64 x1,.int .i64 x2,.int .i64 x3,.int .i64 x4]] w' fun e w2=>e=.returned (.bool true)∧Below w'.heap.size w' w2) (g3:(0:Int)<(i:Int)) (hy:(∀ w',Below w.heap.size w w'→w'.cell? ⟨g,k * 5,none⟩=some (.int .i64 u0)∧w'.cell? ⟨g,k * 5+1,none⟩=some (.int .i64 u1)∧w'.cell? ⟨g,k * 5+2,none⟩=some (.int .i64 u2)∧w'.cell? ⟨g,k * 5+3,none⟩=some (.int .i64 u3)∧w'.cell? ⟨g,k * 5+4,none⟩=some (.int .i64 u4))) (hc2:∀ w',Below w.heap.size w w'→Calls Tryz.prog 30 #[.agg #[.int .i64 u0,.int .i64 u1,.int .i64 u2,.int .i64 u3,.int .i64 u4],.agg #[.int .i64 x0,.int .i64 x1,.int .i64 x2,.int .i64 x3,.int .i64 x4]] w' fun e w2=>e=.returned (.int .i64 r)∧Below w'.heap.size w' w2) (hr:¬ (0:Int)≤r) (wm:IntKind.i64.wrap ((i:Int) - 1)=(k:Int)) (k1:(0:Int)≤(k:Int)) (k2:(k:Int)<(ln:Int)) (k3:((k:Int)).toNat=k) (Q:Exit→Act→World→Prop)
  (hQ:∀ (y0 y1 y2 y3 y4 y5 y6 y7 y8 y9 y10 y11 y12 y13 y14 y15 y16 y17 y18 y19 y20 y21 y22:Value) (w':World),Below w.heap.size w w'→Q .normal { tmps:=#[.slice (some ⟨g,0,none⟩) ln c1,.slice dA ln c2,v2,v3,v4,.int .i64 (i:Int),v6,v7,v8,v9,v10,v11,v12,v13,v14,v15,v16,y0,y1,y2,y3,y4,y5,y6,y7,y8,y9,y10,y11,y12,y13,y14,y15,y16,y17,y18,y19,y20,y21,y22,.bool false],defers:=D } w') :
  (Code.region 6 opsregSra true).wp Tryz.prog Q { tmps:=#[.slice (some ⟨g,0,none⟩) ln c1,.slice dA ln c2,v2,v3,v4,.int .i64 (i:Int),v6,v7,v8,v9,v10,v11,v12,v13,v14,v15,v16,wy0,wy1,wy2,wy3,wy4,wy5,wy6,wy7,wy8,wy9,wy10,wy11,wy12,wy13,wy14,wy15,wy16,wy17,wy18,wy19,wy20,wy21,wy22,wy23],defers:=D } w:=by
 refine wp_region_inv (by kernel_rfl) (WregSrb i k ln c1 c2 g dA x0 x1 x2 x3 x4 u0 u1 u2 u3 u4 r D v2 v3 v4 v6 v7 v8 v9 v10 v11 v12 v13 v14 v15 v16 w) ?hacy ?h0 ?hstep ?hdone
 case hacy=>kernel_rfl
 case h0=>exact ⟨wy0,wy1,wy2,wy3,wy4,wy5,wy6,wy7,wy8,wy9,wy10,wy11,wy12,wy13,wy14,wy15,wy16,wy17,wy18,wy19,wy20,wy21,wy22,wy23,rfl,below_drewN (Below.refl _ _) 1,(fun p=>by cases p),(fun p=>by cases p),(fun p=>by cases p),(fun p=>by cases p),(fun p=>by cases p),(fun p=>by cases p),(fun p=>by cases p),(fun p=>by cases p),(fun p=>by cases p),(fun p=>by cases p),(fun p=>by cases p),(fun p=>by cases p),(fun p=>by cases p),(fun p=>by cases p),(fun p=>by cases p),(fun p=>by cases p),(fun p=>by cases p),(fun p=>by cases p),(fun p=>by cases p),(fun p=>by cases p),(fun p=>by cases p),(fun p=>by cases p),(fun p=>by cases p),(fun p=>by cases p)⟩
 case hdone =>
  intro l a w1 hI hall
  obtain ⟨y0,y1,y2,y3,y4,y5,y6,y7,y8,y9,y10,y11,y12,y13,y14,y15,y16,y17,y18,y19,y20,y21,y22,y23,rfl,hb,h0,h1,h2,h3,h4,h5,h6,h7,h8,h9,h10,h11,h12,h13,h14,h15,h16,h17,h18,h19,h20,h21,h22,h23⟩:=hI
  obtain rfl:=h23 (hall 23 (by decide))
  exact hQ _ _ _ _ _ _ _ _ _ _ _ _ _ _ _ _ _ _ _ _ _ _ _ _ hb
 case hstep =>
  intro l a w1 i o hI ho hl hall
  obtain ⟨y0,y1,y2,y3,y4,y5,y6,y7,y8,y9,y10,y11,y12,y13,y14,y15,y16,y17,y18,y19,y20,y21,y22,y23,rfl,hb,h0,h1,h2,h3,h4,h5,h6,h7,h8,h9,h10,h11,h12,h13,h14,h15,h16,h17,h18,h19,h20,h21,h22,h23⟩:=hI
  have hi:i<24:=(Array.getElem?_eq_some_iff.1 ho).1
  match i,hi with
  | 0,_ =>
   have ho':=ho
   simp [opsregSra] at ho
   subst ho
   refine wpOp_one ho' rfl fun K hK=>?_
   go_simp
   exact hK _ _ ⟨_,y1,y2,y3,y4,y5,y6,y7,y8,y9,y10,y11,y12,y13,y14,y15,y16,y17,y18,y19,y20,y21,y22,y23,rfl,hb,fun _=>(by first | rfl | simp),h1,h2,h3,h4,h5,h6,h7,h8,h9,h10,h11,h12,h13,h14,h15,h16,h17,h18,h19,h20,h21,h22,h23⟩
  | 1,_ =>
   have ho':=ho
   simp [opsregSra] at ho
   subst ho
   refine wpOp_one ho' rfl fun K hK=>?_
   go_simp
   exact hK _ _ ⟨y0,_,y2,y3,y4,y5,y6,y7,y8,y9,y10,y11,y12,y13,y14,y15,y16,y17,y18,y19,y20,y21,y22,y23,rfl,hb,h0,fun _=>(by first | rfl | simp),h2,h3,h4,h5,h6,h7,h8,h9,h10,h11,h12,h13,h14,h15,h16,h17,h18,h19,h20,h21,h22,h23⟩
  | 2,_ =>
   have ho':=ho
   simp [opsregSra] at ho
   subst ho
   refine wpOp_one ho' rfl fun K hK=>?_
   go_simp
   exact hK _ _ ⟨y0,y1,_,y3,y4,y5,y6,y7,y8,y9,y10,y11,y12,y13,y14,y15,y16,y17,y18,y19,y20,y21,y22,y23,rfl,hb,h0,h1,fun _=>(by first | rfl | simp),h3,h4,h5,h6,h7,h8,h9,h10,h11,h12,h13,h14,h15,h16,h17,h18,h19,h20,h21,h22,h23⟩
  | 3,_ =>
   have ho':=ho
   simp [opsregSra] at ho
   subst ho
   obtain rfl:=h1 (hall ⟨1,.data⟩ (by simp) rfl)
   obtain rfl:=h2 (hall ⟨2,.data⟩ (by simp) rfl)
   refine wpOp_one ho' rfl fun K hK=>?_
   go_simp
   exact hK _ _ ⟨y0,_,_,_,y4,y5,y6,y7,y8,y9,y10,y11,y12,y13,y14,y15,y16,y17,y18,y19,y20,y21,y22,y23,rfl,hb,h0,fun _=>rfl,fun _=>rfl,fun _=>(by first | rfl | simp),h4,h5,h6,h7,h8,h9,h10,h11,h12,h13,h14,h15,h16,h17,h18,h19,h20,h21,h22,h23⟩
  | 4,_ =>
   have ho':=ho
   simp [opsregSra] at ho
   subst ho
   obtain rfl:=h3 (hall ⟨3,.data⟩ (by simp) rfl)
   refine wpOp_one ho' rfl fun K hK=>?_
   obtain ⟨q0,q1,q2,q3,q4⟩:=hx w1 hb
   go_simp
   exact hK _ _ ⟨y0,y1,y2,_,_,y5,y6,y7,y8,y9,y10,y11,y12,y13,y14,y15,y16,y17,y18,y19,y20,y21,y22,y23,rfl,hb,h0,h1,h2,fun _=>rfl,fun _=>(by first | rfl | simp),h5,h6,h7,h8,h9,h10,h11,h12,h13,h14,h15,h16,h17,h18,h19,h20,h21,h22,h23⟩
  | 5,_ =>
   have ho':=ho
   simp [opsregSra] at ho
   subst ho
   obtain rfl:=h0 (hall ⟨0,.data⟩ (by simp) rfl)
   obtain rfl:=h4 (hall ⟨4,.data⟩ (by simp) rfl)
   refine wpOp_one ho' rfl fun K hK=>?_
   go_simp
   go_at_call 18
   refine (hc1 _ hb).mono ?_
   rintro e w2 ⟨rfl,hb2⟩
   exact hK _ _ ⟨_,y1,y2,y3,_,_,y6,y7,y8,y9,y10,y11,y12,y13,y14,y15,y16,y17,y18,y19,y20,y21,y22,y23,rfl,(hb.trans (hb2.mono hb.size)),fun _=>rfl,h1,h2,h3,fun _=>rfl,fun _=>(by first | rfl | simp),h6,h7,h8,h9,h10,h11,h12,h13,h14,h15,h16,h17,h18,h19,h20,h21,h22,h23⟩
  | 6,_ =>
   have ho':=ho
   simp [opsregSra] at ho
   subst ho
   obtain rfl:=h5 (hall ⟨5,.data⟩ (by simp) rfl)
   refine wpOp_one ho' rfl fun K hK=>?_
   go_simp
   exact hK _ _ ⟨y0,y1,y2,y3,y4,_,_,y7,y8,y9,y10,y11,y12,y13,y14,y15,y16,y17,y18,y19,y20,y21,y22,y23,rfl,hb,h0,h1,h2,h3,h4,fun _=>rfl,fun _=>(by first | rfl | simp),h7,h8,h9,h10,h11,h12,h13,h14,h15,h16,h17,h18,h19,h20,h21,h22,h23⟩
  | 7,_ =>
   have ho':=ho
   simp [opsregSra] at ho
   subst ho
   obtain rfl:=h6 (hall ⟨6,.data⟩ (by simp) rfl)
   refine wpOp_one ho' rfl fun K hK=>?_
   go_simp
   exact hK _ _ ⟨y0,y1,y2,y3,y4,y5,_,_,y8,y9,y10,y11,y12,y13,y14,y15,y16,y17,y18,y19,y20,y21,y22,y23,rfl,hb,h0,h1,h2,h3,h4,h5,fun _=>rfl,fun _=>(by first | rfl | simp),h8,h9,h10,h11,h12,h13,h14,h15,h16,h17,h18,h19,h20,h21,h22,h23⟩
  | 8,_ =>
   have ho':=ho
   simp [opsregSra] at ho
   subst ho
   obtain rfl:=h7 (hall ⟨7,.guard⟩ (by simp) rfl)
   refine wpOp_on ho' rfl fun K hK=>?_
   go_simp
   exact hK _ _ ⟨y0,y1,y2,y3,y4,y5,y6,_,_,y9,y10,y11,y12,y13,y14,y15,y16,y17,y18,y19,y20,y21,y22,y23,rfl,hb,h0,h1,h2,h3,h4,h5,h6,fun _=>rfl,fun _=>(by first | rfl | simp),h9,h10,h11,h12,h13,h14,h15,h16,h17,h18,h19,h20,h21,h22,h23⟩
  | 9,_ =>
   have ho':=ho
   simp [opsregSra] at ho
   subst ho
   obtain rfl:=h7 (hall ⟨7,.guard⟩ (by simp) rfl)
   obtain rfl:=h8 (hall ⟨8,.data⟩ (by simp) rfl)
   refine wpOp_on ho' rfl fun K hK=>?_
   go_simp
   exact hK _ _ ⟨y0,y1,y2,y3,y4,y5,y6,_,_,_,y10,y11,y12,y13,y14,y15,y16,y17,y18,y19,y20,y21,y22,y23,rfl,hb,h0,h1,h2,h3,h4,h5,h6,fun _=>rfl,fun _=>rfl,fun _=>(by first | rfl | (simp;omega)),h10,h11,h12,h13,h14,h15,h16,h17,h18,h19,h20,h21,h22,h23⟩
  | 10,_ =>
   have ho':=ho
   simp [opsregSra] at ho
   subst ho
   obtain rfl:=h7 (hall ⟨7,.chain⟩ (by simp) rfl)
   obtain rfl:=h9 (hall ⟨9,.data⟩ (by simp) rfl)
   refine wpOp_on ho' rfl fun K hK=>?_
   go_simp
   exact hK _ _ ⟨y0,y1,y2,y3,y4,y5,y6,_,y8,_,_,y11,y12,y13,y14,y15,y16,y17,y18,y19,y20,y21,y22,y23,rfl,hb,h0,h1,h2,h3,h4,h5,h6,fun _=>rfl,h8,fun _=>rfl,fun _=>(by first | rfl | simp),h11,h12,h13,h14,h15,h16,h17,h18,h19,h20,h21,h22,h23⟩
  | 11,_ =>
   have ho':=ho
   simp [opsregSra] at ho
   subst ho
   obtain rfl:=h10 (hall ⟨10,.guard⟩ (by simp) rfl)
   refine wpOp_on ho' rfl fun K hK=>?_
   go_simp
   exact hK _ _ ⟨y0,y1,y2,y3,y4,y5,y6,y7,y8,y9,_,_,y12,y13,y14,y15,y16,y17,y18,y19,y20,y21,y22,y23,rfl,hb,h0,h1,h2,h3,h4,h5,h6,h7,h8,h9,fun _=>rfl,fun _=>(by first | rfl | simp),h12,h13,h14,h15,h16,h17,h18,h19,h20,h21,h22,h23⟩
  | 12,_ =>
   have ho':=ho
   simp [opsregSra] at ho
   subst ho
   obtain rfl:=h10 (hall ⟨10,.guard⟩ (by simp) rfl)
   refine wpOp_on ho' rfl fun K hK=>?_
   go_simp
   exact hK _ _ ⟨y0,y1,y2,y3,y4,y5,y6,y7,y8,y9,_,y11,_,y13,y14,y15,y16,y17,y18,y19,y20,y21,y22,y23,rfl,hb,h0,h1,h2,h3,h4,h5,h6,h7,h8,h9,fun _=>rfl,h11,fun _=>(by first | rfl | simp),h13,h14,h15,h16,h17,h18,h19,h20,h21,h22,h23⟩
  | 13,_ =>
   have ho':=ho
   simp [opsregSra] at ho
   subst ho
   obtain rfl:=h10 (hall ⟨10,.guard⟩ (by simp) rfl)
   obtain rfl:=h12 (hall ⟨12,.data⟩ (by simp) rfl)
   refine wpOp_on ho' rfl fun K hK=>?_
   go_simp
   exact hK _ _ ⟨y0,y1,y2,y3,y4,y5,y6,y7,y8,y9,_,y11,_,_,y14,y15,y16,y17,y18,y19,y20,y21,y22,y23,rfl,hb,h0,h1,h2,h3,h4,h5,h6,h7,h8,h9,fun _=>rfl,h11,fun _=>rfl,fun _=>(by first | rfl | simp),h14,h15,h16,h17,h18,h19,h20,h21,h22,h23⟩
  | 14,_ =>
   have ho':=ho
   simp [opsregSra] at ho
   subst ho
   obtain rfl:=h10 (hall ⟨10,.guard⟩ (by simp) rfl)
   obtain rfl:=h11 (hall ⟨11,.data⟩ (by simp) rfl)
   obtain rfl:=h13 (hall ⟨13,.data⟩ (by simp) rfl)
   refine wpOp_on ho' rfl fun K hK=>?_
   go_simp
   exact hK _ _ ⟨y0,y1,y2,y3,y4,y5,y6,y7,y8,y9,_,_,y12,_,_,y15,y16,y17,y18,y19,y20,y21,y22,y23,rfl,hb,h0,h1,h2,h3,h4,h5,h6,h7,h8,h9,fun _=>rfl,fun _=>rfl,h12,fun _=>rfl,fun _=>(by first | rfl | simp),h15,h16,h17,h18,h19,h20,h21,h22,h23⟩
  | 15,_ =>
   have ho':=ho
   simp [opsregSra] at ho
   subst ho
   obtain rfl:=h10 (hall ⟨10,.guard⟩ (by simp) rfl)
   obtain rfl:=h14 (hall ⟨14,.data⟩ (by simp) rfl)
   refine wpOp_on ho' rfl fun K hK=>?_
   obtain ⟨q0,q1,q2,q3,q4⟩:=hy w1 hb
   go_simp
   exact hK _ _ ⟨y0,y1,y2,y3,y4,y5,y6,y7,y8,y9,_,y11,y12,y13,_,_,y16,y17,y18,y19,y20,y21,y22,y23,rfl,hb,h0,h1,h2,h3,h4,h5,h6,h7,h8,h9,fun _=>rfl,h11,h12,h13,fun _=>rfl,fun _=>(by first | rfl | simp),h16,h17,h18,h19,h20,h21,h22,h23⟩
  | 16,_ =>
   have ho':=ho
   simp [opsregSra] at ho
   subst ho
   obtain rfl:=h10 (hall ⟨10,.guard⟩ (by simp) rfl)
   refine wpOp_on ho' rfl fun K hK=>?_
   go_simp
   exact hK _ _ ⟨y0,y1,y2,y3,y4,y5,y6,y7,y8,y9,_,y11,y12,y13,y14,y15,_,y17,y18,y19,y20,y21,y22,y23,rfl,hb,h0,h1,h2,h3,h4,h5,h6,h7,h8,h9,fun _=>rfl,h11,h12,h13,h14,h15,fun _=>(by first | rfl | simp),h17,h18,h19,h20,h21,h22,h23⟩
  | 17,_ =>
   have ho':=ho
   simp [opsregSra] at ho
   subst ho
   obtain rfl:=h10 (hall ⟨10,.guard⟩ (by simp) rfl)
   refine wpOp_on ho' rfl fun K hK=>?_
   go_simp
   exact hK _ _ ⟨y0,y1,y2,y3,y4,y5,y6,y7,y8,y9,_,y11,y12,y13,y14,y15,y16,_,y18,y19,y20,y21,y22,y23,rfl,hb,h0,h1,h2,h3,h4,h5,h6,h7,h8,h9,fun _=>rfl,h11,h12,h13,h14,h15,h16,fun _=>(by first | rfl | simp),h18,h19,h20,h21,h22,h23⟩
  | 18,_ =>
   have ho':=ho
   simp [opsregSra] at ho
   subst ho
   obtain rfl:=h10 (hall ⟨10,.guard⟩ (by simp) rfl)
   obtain rfl:=h16 (hall ⟨16,.data⟩ (by simp) rfl)
   obtain rfl:=h17 (hall ⟨17,.data⟩ (by simp) rfl)
   refine wpOp_on ho' rfl fun K hK=>?_
   go_simp
   exact hK _ _ ⟨y0,y1,y2,y3,y4,y5,y6,y7,y8,y9,_,y11,y12,y13,y14,y15,_,_,_,y19,y20,y21,y22,y23,rfl,hb,h0,h1,h2,h3,h4,h5,h6,h7,h8,h9,fun _=>rfl,h11,h12,h13,h14,h15,fun _=>rfl,fun _=>rfl,fun _=>(by first | rfl | simp),h19,h20,h21,h22,h23⟩
  | 19,_ =>
   have ho':=ho
   simp [opsregSra] at ho
   subst ho
   obtain rfl:=h10 (hall ⟨10,.guard⟩ (by simp) rfl)
   obtain rfl:=h18 (hall ⟨18,.data⟩ (by simp) rfl)
   refine wpOp_on ho' rfl fun K hK=>?_
   obtain ⟨q0,q1,q2,q3,q4⟩:=hx w1 hb
   go_simp
   exact hK _ _ ⟨y0,y1,y2,y3,y4,y5,y6,y7,y8,y9,_,y11,y12,y13,y14,y15,y16,y17,_,_,y20,y21,y22,y23,rfl,hb,h0,h1,h2,h3,h4,h5,h6,h7,h8,h9,fun _=>rfl,h11,h12,h13,h14,h15,h16,h17,fun _=>rfl,fun _=>(by first | rfl | simp),h20,h21,h22,h23⟩
  | 20,_ =>
   have ho':=ho
   simp [opsregSra] at ho
   subst ho
   obtain rfl:=h10 (hall ⟨10,.chain⟩ (by simp) rfl)
   obtain rfl:=h15 (hall ⟨15,.data⟩ (by simp) rfl)
   obtain rfl:=h19 (hall ⟨19,.data⟩ (by simp) rfl)
   refine wpOp_on ho' rfl fun K hK=>?_
   go_simp
   go_at_call 30
   refine (hc2 _ hb).mono ?_
   rintro e w2 ⟨rfl,hb2⟩
   exact hK _ _ ⟨y0,y1,y2,y3,y4,y5,y6,y7,y8,y9,_,y11,y12,y13,y14,_,y16,y17,y18,_,_,y21,y22,y23,rfl,(hb.trans (hb2.mono hb.size)),h0,h1,h2,h3,h4,h5,h6,h7,h8,h9,fun _=>rfl,h11,h12,h13,h14,fun _=>rfl,h16,h17,h18,fun _=>rfl,fun _=>(by first | rfl | simp),h21,h22,h23⟩
  | 21,_ =>
   have ho':=ho
   simp [opsregSra] at ho
   subst ho
   obtain rfl:=h10 (hall ⟨10,.guard⟩ (by simp) rfl)
   obtain rfl:=h20 (hall ⟨20,.data⟩ (by simp) rfl)
   refine wpOp_on ho' rfl fun K hK=>?_
   go_simp
   exact hK _ _ ⟨y0,y1,y2,y3,y4,y5,y6,y7,y8,y9,_,y11,y12,y13,y14,y15,y16,y17,y18,y19,_,_,y22,y23,rfl,hb,h0,h1,h2,h3,h4,h5,h6,h7,h8,h9,fun _=>rfl,h11,h12,h13,h14,h15,h16,h17,h18,h19,fun _=>rfl,fun _=>(by first | rfl | (simp;omega)),h22,h23⟩
  | 22,_ =>
   have ho':=ho
   simp [opsregSra] at ho
   subst ho
   obtain rfl:=h7 (hall ⟨7,.guard⟩ (by simp) rfl)
   obtain rfl:=h10 (hall ⟨10,.data⟩ (by simp) rfl)
   obtain rfl:=h21 (hall ⟨21,.data⟩ (by simp) rfl)
   refine wpOp_on ho' rfl fun K hK=>?_
   go_simp
   exact hK _ _ ⟨y0,y1,y2,y3,y4,y5,y6,_,y8,y9,_,y11,y12,y13,y14,y15,y16,y17,y18,y19,y20,_,_,y23,rfl,hb,h0,h1,h2,h3,h4,h5,h6,fun _=>rfl,h8,h9,fun _=>rfl,h11,h12,h13,h14,h15,h16,h17,h18,h19,h20,fun _=>rfl,fun _=>(by first | rfl | simp),h23⟩
  | 23,_ =>
   have ho':=ho
   simp [opsregSra] at ho
   subst ho
   obtain rfl:=h7 (hall ⟨7,.data⟩ (by simp) rfl)
   obtain rfl:=h22 (hall ⟨22,.data⟩ (by simp) rfl)
   refine wpOp_one ho' rfl fun K hK=>?_
   go_simp
   exact hK _ _ ⟨y0,y1,y2,y3,y4,y5,y6,_,y8,y9,y10,y11,y12,y13,y14,y15,y16,y17,y18,y19,y20,y21,_,_,rfl,hb,h0,h1,h2,h3,h4,h5,h6,fun _=>rfl,h8,h9,h10,h11,h12,h13,h14,h15,h16,h17,h18,h19,h20,h21,fun _=>rfl,fun _=>(by first | rfl | simp)⟩
  | k+24,hi=>omega
end Go.Proofs.YtnmjicfpmkoldaaGreatDoor

/- The document's Sorted, where a list rises and has just what another one has: a contract.
   Conditions: both lists lie in memory. -/
namespace Go.Proofs.YtnmjicfpmkoldaaGreatDoor
open Go.RowKit
def SdI (w:World) (l:List Kc) (z:Value) (wr:World):Prop:=∃ i:Nat,z=.int .i64 i∧i≤l.length∧Below w.heap.size w wr
set_option maxHeartbeats 8000000 in
set_option maxRecDepth 100000 in
theorem sortedR_true (w:World) (A D:Option Addr) (c1 c2:Nat) (l want:List Kc) (hl:CfsR w A l) (hw:CfsR w D want) (hlen:l.length=want.length) (hbig:l.length<1000000000000) (hmem:∀ x∈l,x∈want) (hs:l.Pairwise kcLt) :
  Calls Tryz.prog 14 #[.slice A l.length c1,.slice D want.length c2] w fun e w'=>e=.returned (.bool true)∧Below w.heap.size w w':=by
 have HW:=Lib.hid (fun (W:World) (hb:Below w.heap.size w W) (k:Kc)=>hasC_any W D c2 want (hw.below hb) (by omega) k)
 obtain ⟨ln,hln⟩ : ∃ ln,ln=l.length:=⟨_,rfl⟩
 have HR:=Lib.hid (And.intro hl (And.intro hln (And.intro hmem (And.intro hs hbig))))
 rw [← hln] at hlen ⊢
 rw [← hlen] at HW ⊢
 clear hl hw hln hmem hs hlen hbig
 have g0:((ln:Int) != (ln:Int))=false:=by simp
 go_enter Tryz.func14,Tryz.ntmps14
 go_wp2_with fail
 go_loopw [5] (fun z wr=>SdI w l z wr) (fun z _=>match z with | .int _ z=>l.length - z.toNat | _=>0)
 case atStart=>exact ⟨0,rfl,Nat.zero_le _,Below.refl _ _⟩
 case round =>
  obtain ⟨i,rfl,hif,hb⟩:=hrel
  have HN:=Lib.hid (And.intro hif hb)
  have s1:(0:Int)≤(i:Int):=by omega
  have s3:((i:Int)).toNat=i:=by omega
  have hib:i<1000000000000:=by have h1:=HR.out.2.2.2.2;omega
  have wk:IntKind.i64.wrap ((i:Int)+1)=(i:Int)+1:=by rw [IntKind.wrap_i64];omega
  clear hif
  by_cases g:i<ln
  ·have s2:(i:Int)<(ln:Int):=by omega
   have gi:i<l.length:=by have:=HR.out.2.1;omega
   obtain ⟨j,hj⟩ : ∃ j,l[i]? = some j:=⟨_,List.getElem?_eq_getElem gi⟩
   obtain ⟨gg,rfl,_⟩:=HR.out.1 i j hj
   have HX:=Lib.hid (fun (W:World) (h:Below wr.heap.size wr W)=>show W.cell? ⟨gg,i * 5,none⟩=some (.int .i64 j.p)∧W.cell? ⟨gg,i * 5+1,none⟩=some (.int .i64 j.a)∧W.cell? ⟨gg,i * 5+2,none⟩=some (.int .i64 j.b)∧W.cell? ⟨gg,i * 5+3,none⟩=some (.int .i64 j.c)∧W.cell? ⟨gg,i * 5+4,none⟩=some (.int .i64 j.d) from by
    obtain ⟨g2,h1,_,h3⟩:=(HR.out.1.below (bhop hb h)) i j hj
    obtain rfl:gg=g2:=by simpa using h1
    exact h3)
   have HC:=Lib.hid (fun (W:World) (h:Below wr.heap.size wr W)=>(HW.out W (bhop hb h) j).mono fun e w' ⟨he,hb'⟩=>show e=Ending.returned (Value.bool true)∧Below W.heap.size W w' from ⟨by rw [he,hasK_iff.2 (HR.out.2.2.1 j (List.mem_of_getElem? hj))],hb'⟩)
   have HJ:=Lib.hid (And.intro hj gi)
   clear hj
   by_cases g3:0<i
   ·have g3':(0:Int)<(i:Int):=by omega
    obtain ⟨k,hk⟩ : ∃ k,i=k+1:=⟨i - 1,by omega⟩
    obtain ⟨y,hy⟩ : ∃ y,l[k]? = some y:=⟨_,List.getElem?_eq_getElem (by omega)⟩
    have hlt:kcLt y j:=rise_next HR.out.2.2.2.1 hy (by rw [← hk];exact HJ.out.1)
    obtain ⟨r,hr⟩ : ∃ r,r=lexI [y.p,y.a,y.b,y.c,y.d] [j.p,j.a,j.b,j.c,j.d]:=⟨_,rfl⟩
    have hr0:¬ (0:Int)≤r:=by
     have h1:=(cfC_lt y j).2 hlt
     rw [hr]
     show ¬ (0:Int)≤cfC y j
     omega
    have HY:=Lib.hid (fun (W:World) (h:Below wr.heap.size wr W)=>show W.cell? ⟨gg,k * 5,none⟩=some (.int .i64 y.p)∧W.cell? ⟨gg,k * 5+1,none⟩=some (.int .i64 y.a)∧W.cell? ⟨gg,k * 5+2,none⟩=some (.int .i64 y.b)∧W.cell? ⟨gg,k * 5+3,none⟩=some (.int .i64 y.c)∧W.cell? ⟨gg,k * 5+4,none⟩=some (.int .i64 y.d) from by
     obtain ⟨g2,h1,_,h3⟩:=(HR.out.1.below (bhop hb h)) k y hy
     obtain rfl:gg=g2:=by simpa using h1
     exact h3)
    have HO:=Lib.hid (fun (W:World)=>by
     have:=refOrder_any y.p y.a y.b y.c y.d j.p j.a j.b j.c j.d W
     rw [← hr] at this
     exact this)
    have wm:IntKind.i64.wrap ((i:Int) - 1)=(k:Int):=by rw [IntKind.wrap_i64];omega
    have k1:(0:Int)≤(k:Int):=by omega
    have k2:(k:Int)<(ln:Int):=by omega
    have k3:((k:Int)).toNat=k:=by omega
    clear hk hy hlt hr hb
    go_upto_region 6 with fail
    refine regSrb i k ln c1 c2 gg D j.p j.a j.b j.c j.d y.p y.a y.b y.c y.d r _ _ _ _ _ _ _ _ _ _ _ _ _ _ _ _ _ _ _ _ _ _ _ _ _ _ _ _ _ _ _ _ _ _ _ _ _ _ _ wr s1 s2 s3 (fun W h=>HX.out W h) (fun W h=>HC.out W h) g3' (fun W h=>HY.out W h) (fun W _=>HO.out W) hr0 wm k1 k2 k3 _ ?_
    intros
    rename_i W' hW'
    have HW':=Lib.hid hW'
    clear hW'
    go_wp2_with fail
    go_roundw
    case rel=>exact ⟨i+1,by push_cast;rfl,HJ.out.2,bhop HN.out.2 HW'.out⟩
    case measure=>have:=HJ.out.2;simp;omega
   ·have g3':¬ (0:Int)<(i:Int):=by omega
    clear hb
    go_upto_region 6 with fail
    refine regSra i ln c1 c2 gg D j.p j.a j.b j.c j.d _ _ _ _ _ _ _ _ _ _ _ _ _ _ _ _ _ _ _ _ _ _ _ _ _ _ _ _ _ _ _ _ _ _ _ _ _ _ _ wr s1 s2 s3 (fun W h=>HX.out W h) (fun W h=>HC.out W h) g3' _ ?_
    intros
    rename_i W' hW'
    have HW':=Lib.hid hW'
    clear hW'
    go_wp2_with fail
    go_roundw
    case rel=>exact ⟨i+1,by push_cast;rfl,HJ.out.2,bhop HN.out.2 HW'.out⟩
    case measure=>have:=HJ.out.2;simp;omega
  ·have s2:¬ (i:Int)<(ln:Int):=by omega
   clear hb
   go_wp2_with fail
   go_ret
   exact ⟨rfl,HN.out.2⟩
end Go.Proofs.YtnmjicfpmkoldaaGreatDoor

/- The document's Step at a right config: a contract.
   Conditions: the automaton lies in memory; its moves go where it has positions. -/
namespace Go.Proofs.YtnmjicfpmkoldaaGreatDoor
open Go.RowKit Go.Maps Go.Shelf
attribute [local go_sem] Oper.semAt_some
theorem infoKc:(Tryz.prog.info? 55).map (fun i=>(i.zero,i.size,i.bytes))=some (some (.agg #[.int .i64 0,.int .i64 0,.int .i64 0,.int .i64 0,.int .i64 0]),5,40):=by kernel_rfl
def RsI (w:World) (m:PM) (lf:List Nat) (x:Nat→Int) (b:Nat) (l:List Mv) (v z:Value) (wr:World):Prop:=∃ (i:Nat) (out:List Kc),z=.int .i64 i∧i≤l.length∧wr.ownsRow w.heap.size 55 5 v out.length (out.flatMap kcc)∧out.Nodup∧out.length≤i∧(∀ k,k∈out↔StS m lf x b (l.take i) k)∧Below w.heap.size w wr
def RsO (w:World) (m:PM) (lf:List Nat) (x:Nat→Int) (b:Nat) (l:List Mv) (e:Ending) (w':World):Prop:=∃ (v:Value) (out:List Kc),e=.returned v∧out.Nodup∧(∀ k,k∈out↔StS m lf x b l k)∧out.length≤l.length∧w'.ownsRow w.heap.size 55 5 v out.length (out.flatMap kcc)∧Below w.heap.size w w'
theorem own_pushK {w wr w2:World} {H g cap:Nat} {q:Kc} {acc:List Kc} {v:Value} {o:Obj} (hown:wr.ownsRow H 55 5 v acc.length (acc.flatMap kcc)) (hb:Below H w wr) (hH:H≤wr.heap.size) (h:w2.ownsRow H 55 5 (.slice (some ⟨g,0,none⟩) (acc.length+1) cap) (acc.length+1) (acc.flatMap kcc ++ kcc q)) (hgrow:(wr.alloc o).grownBy w2 v.ownBlock) :
  w2.ownsRow H 55 5 (.slice (some ⟨g,0,none⟩) (acc.length+1) cap) (acc ++ [q]).length ((acc ++ [q]).flatMap kcc)∧Below H w w2:=by
 refine ⟨by rw [List.length_append,List.flatMap_append];simpa using h,?_⟩
 have hc:Chg (fun k=>H≤k) wr w2:=((Chg.refl (fun k=>H≤k) wr).alloc o).grown hgrow (fun k hk _=>(World.ownsRow.lt hown k hk).1)
 exact hb.trans (hc.below hH fun k hk e=>by omega)
theorem rs_skip {m:PM} {lf:List Nat} {x:Nat→Int} {b i:Nat} {l:List Mv} {out:List Kc} {j:Mv} (hj:l[i]? = some j) (hall:∀ k,k∈out↔StS m lf x b (l.take i) k) (hn:∀ k,StM m lf x b j k→k∈out):∀ k,k∈out↔StS m lf x b (l.take (i+1)) k:=fun k=>by
 rw [sts_snoc hj,← hall k]
 exact ⟨.inl,fun h=>h.elim id (hn k)⟩
set_option maxHeartbeats 8000000 in
set_option maxRecDepth 100000 in
theorem refStep_any {B:Nat} {m:PM} {a:Au} {fl:List Nat} {la:Nat} (w:World) (hL:AuL w B m a fl la) {vs:List Value} {L:Nat→List Mv} (hrows:RowsM w B a.n (.slice (some ⟨a.mb,0,none⟩) a.n a.n) vs L) {p:Nat} {lf:List Nat} (hp:m.ars[p]? = some lf) (x:Nat→Int) (hcn:cntsB m lf x=true) (hC:∀ C∈m.sets,Cl C)
  (hM:∀ j∈L p,j.tt<a.n∧j.kp+(if j.ag then 1 else 0)≤lf.length) (hlen:(L p).length<1000000000) (b:Nat) (hb:b<256) :
  Calls Tryz.prog 17 #[.agg #[.int .i64 a.k,.int .u64 (a.s0:Nat),.int .u64 (a.s1:Nat),.int .u64 (a.s2:Nat),.int .u64 (a.s3:Nat),.slice a.ta a.tn a.tc,.int .i64 a.lo,.int .i64 a.hi,.slice a.sA a.n a.sC,.slice a.cA a.cN a.cC,.slice (some ⟨a.ga,0,none⟩) a.n a.aC,.slice a.fA a.fN a.fC,.slice (some ⟨a.mb,0,none⟩) a.n a.n,.slice (some ⟨a.lb,0,none⟩) a.n a.n,.bool a.em],.agg #[.int .i64 p,.int .i64 (x 0),.int .i64 (x 1),.int .i64 (x 2),.int .i64 (x 3)],.int .u8 b] w (RsO w m lf x b (L p)):=by
 obtain ⟨i0,hi,hz0,hz1,hz2⟩:=info_parts infoKc
 obtain ⟨w2,hw2,hb2,ha2,hc2⟩:=au_cf_box w a p x
 have hpn:p<a.n:=by rw [← hL.ars];exact (List.getElem?_eq_some_iff.1 hp).1
 have HF:=Lib.hid (fun (W:World) (h:Below w2.heap.size w2 W)=>show AuB W w.heap.size a∧AuL W B m a fl la∧CfB W (w.heap.size+1) p x from ⟨ha2.below h,hL.below (bhop hb2 h),hc2.below h⟩)
 have HB:=Lib.hid hb2
 obtain ⟨A,c,m1,m2,_⟩:=mv_read hrows hpn
 have HRW:=Lib.hid (fun (W:World) (h:Below w2.heap.size w2 W)=>hrows.below (bhop hb2 h))
 obtain ⟨ln,hln⟩ : ∃ ln,ln=(L p).length:=⟨_,rfl⟩
 have HLN:=Lib.hid (And.intro hln hlen)
 rw [← hln] at m1
 have HM:=Lib.hid (fun (W:World) (h:Below w2.heap.size w2 W)=>show W.cell? ⟨a.mb,p,none⟩=some (.slice A ln c) from ((bhop hb2 h).cell (p:=⟨a.mb,p,none⟩) m2).trans m1)
 have HP:=Lib.hid (And.intro hp (And.intro hM (And.intro hC hcn)))
 have v1:(0:Int)≤(p:Int):=by omega
 have v2:(p:Int)<(a.n:Int):=by omega
 have v3:((p:Int)).toNat=p:=by omega
 have wb:IntKind.i64.wrap (b:Int)=(b:Int):=by rw [IntKind.wrap_i64];omega
 clear hb2 ha2 hc2 hL hcn hp hpn m1 m2 hln hrows hM hC hlen
 go_enter Tryz.func17,Tryz.ntmps17
 go_upto_region 1 with fail
 clear hw2
 go_wp2_with fail
 go_loopw [7,8] (fun v z wr=>RsI w2 m lf x b (L p) v z wr) (fun _ z _=>match z with | .int _ z=>(L p).length - z.toNat | _=>0)
 case atStart=>exact ⟨0,[],rfl,Nat.zero_le _,World.ownsRow_nil _ _ _ _,List.nodup_nil,Nat.le_refl _,fun k=>⟨fun h=>(by cases h),by rintro ⟨j,hj,_⟩;simp at hj⟩,Below.refl _ _⟩
 case round =>
  obtain ⟨i,out,rfl,hif,hown,hnd,hol,hall,hbr⟩:=hrel
  obtain ⟨oA,oc,rfl⟩:=own_form hown
  have HO:=Lib.hid (And.intro hown (And.intro hnd (And.intro hol (And.intro hall hbr))))
  have s1:(0:Int)≤(i:Int):=by omega
  have s3:((i:Int)).toNat=i:=by omega
  obtain ⟨on,hon⟩ : ∃ n,n=out.length:=⟨_,rfl⟩
  have HON:=Lib.hid hon
  have hm12:=(HF.out wr hbr).1.cells.2.2.2.2.1
  have d0:=(HF.out wr hbr).2.2.five.1
  have m1':=HM.out wr hbr
  by_cases g:i<ln
  ·have s2:(i:Int)<(ln:Int):=by omega
   have gi:i<(L p).length:=by have:=HLN.out.1;omega
   have hib:i<1000000000:=by have:=HLN.out;omega
   have wk:IntKind.i64.wrap ((i:Int)+1)=(i:Int)+1:=by rw [IntKind.wrap_i64];omega
   obtain ⟨j,hj⟩ : ∃ j,(L p)[i]? = some j:=⟨_,List.getElem?_eq_getElem gi⟩
   obtain ⟨A',c',n1,_,n3⟩:=mv_read (HRW.out wr hbr) (by omega:p<a.n)
   obtain ⟨rfl,rfl⟩ : A=A'∧c=c':=by
    have:=(HM.out wr hbr).symm.trans n1
    simp only [Option.some.injEq,Value.slice.injEq] at this
    exact ⟨this.1,this.2.2⟩
   obtain ⟨gg,rfl,hgl,y0,y1,y2⟩:=n3 i j hj
   obtain ⟨fA,fL,fC⟩:=HF.out wr hbr
   obtain ⟨hjt,hjk⟩:=HP.out.2.1 j (List.mem_of_getElem? hj)
   obtain ⟨C,hCt⟩ : ∃ C,m.sets[j.tt]? = some C:=⟨_,List.getElem?_eq_getElem (by rw [fL.sets];exact hjt)⟩
   obtain ⟨lt,hlt⟩ : ∃ lt,m.ars[j.tt]? = some lt:=⟨_,List.getElem?_eq_getElem (by rw [fL.ars];exact hjt)⟩
   obtain ⟨tt,htt⟩ : ∃ tt,tt=j.tt:=⟨_,rfl⟩
   obtain ⟨kp,hkp⟩ : ∃ kp,kp=j.kp:=⟨_,rfl⟩
   obtain ⟨ag,hag⟩ : ∃ ag,ag=j.ag:=⟨_,rfl⟩
   rw [← htt] at y0
   rw [← hkp] at y1
   rw [← hag] at y2
   rw [← htt] at hCt hlt hjt
   rw [← hkp,← hag] at hjk
   have HJ:=Lib.hid (And.intro hj (And.intro hjt (And.intro hjk (And.intro hCt (And.intro hlt (And.intro htt (And.intro hkp (And.intro hag gi))))))))
   obtain ⟨w5,hw5⟩ : ∃ w5,wr.alloc (.cells #[.int .i64 tt,.int .i64 kp,.bool ag] 80)=w5:=⟨_,rfl⟩
   have hb5:Below wr.heap.size wr w5:=hw5▸(Below.refl _ wr).alloc (Nat.le_refl _) _
   have hm5:MvB w5 wr.heap.size tt kp ag:=by rw [← hw5];exact heap_alloc_new wr _
   obtain ⟨r,hr⟩ : ∃ r,madeX m lf lt x kp ag=r:=⟨_,rfl⟩
   have HMR:=Lib.hid hr
   have HMY:=Lib.hid (fun (W:World) (h:Below w2.heap.size w2 W)=>refMay_any W (HF.out W h).2.1 HP.out.1 hlt hjk x HP.out.2.2.2 r hr)
   have HCl:Hid (Cl C):=Lib.hid (HP.out.2.2.1 C (List.mem_of_getElem? hCt))
   have HH0:=Lib.hid (show hasB (m.sets.getD j.tt zeros) b=hasB C b by rw [← htt,List.getD_eq_getElem?_getD,hCt];rfl)
   have HLT2:=Lib.hid (show m.ars.getD j.tt []=lt by rw [← htt,List.getD_eq_getElem?_getD,hlt];rfl)
   have H5:=Lib.hid (And.intro hb5 (And.intro (bhop hbr hb5) hm5))
   clear fA fL fC hj hjt hjk hCt hlt htt hkp hag n1 n3 hif gi hown hnd hol hall hbr hb5 hm5 hr hon
   go_upto_region 6 with fail
   clear hw5 y0 y1 y2 m1' hm12 d0
   obtain ⟨k0,k1,k2⟩:=H5.out.2.2.cells
   obtain ⟨z0,z1,z2,z3,z4,z5,z6,z7,z8,z9,z10,z11,z12,z13,z14⟩:=(HF.out w5 H5.out.2.1).1.all
   obtain ⟨d0,d1,d2,d3,d4⟩:=(HF.out w5 H5.out.2.1).2.2.five
   go_wp2_with fail
   go_at_call 32
   refine (HMY.out w5 H5.out.2.1).mono ?_
   rintro e w6 ⟨rfl,hb6⟩
   have HB6:=Lib.hid (And.intro (bhop H5.out.1 hb6) (bhop H5.out.2.1 hb6))
   have HM6:=Lib.hid (H5.out.2.2.below hb6)
   clear hb6 k0 k1 k2 z0 z1 z2 z3 z4 z5 z6 z7 z8 z9 z10 z11 z12 z13 z14 d0 d1 d2 d3 d4
   obtain ⟨w7,hw7,hb7,hc7⟩ : ∃ w7,w6.alloc (.cells #[.int .i64 (mdP tt r),.int .i64 ((mdX r) 0),.int .i64 ((mdX r) 1),.int .i64 ((mdX r) 2),.int .i64 ((mdX r) 3)] 55)=w7∧Below w6.heap.size w6 w7∧CfB w7 w6.heap.size (mdP tt r) (mdX r):=⟨_,rfl,(Below.refl _ w6).alloc (Nat.le_refl _) _,heap_alloc_new w6 _⟩
   have HB7:=Lib.hid (And.intro (bhop HB6.out.1 hb7) (bhop HB6.out.2 hb7))
   have HM7:=Lib.hid (And.intro (HM6.out.below hb7) hc7)
   obtain ⟨nb,hnb⟩ : ∃ n,n=w6.heap.size:=⟨_,rfl⟩
   rw [← hnb] at HM7
   clear hb7 hc7
   cases r with
   | none =>
    have HSK:=Lib.hid (show ∀ k,StM m lf x b j k→k∈out from fun k hk=>by
     obtain ⟨_,y,hy,_⟩:=hk
     rw [HLT2.out,← HJ.out.2.2.2.2.2.2.1,← HJ.out.2.2.2.2.2.2.2.1,HMR.out] at hy;cases hy)
    have HWW:=Lib.hid (And.intro HB7.out.1 (bhop HB7.out.2 (Below.refl _ _)))
    simp only [mdP,mdX,Option.isSome_none,Option.getD_none,Bool.false_eq_true,if_false] at hw7 ⊢
    have HW7:=Lib.hid hw7
    clear hw7
    go_upto_region 7 with fail
    rw [HW7.out]
    go_wp2_with fail
    go_roundw
    case rel=>exact ⟨i+1,out,by push_cast;rfl,HJ.out.2.2.2.2.2.2.2.2,own_chg HO.out.1 (Chg.of_below (R:=fun _=>False) HWW.out.1) fun _ _=>id,HO.out.2.1,by have:=HO.out.2.2.1;omega,rs_skip HJ.out.1 HO.out.2.2.2.1 HSK.out,HWW.out.2⟩
    case measure=>have:=HJ.out.2.2.2.2.2.2.2.2;simp;omega
   | some y =>
    simp only [mdP,mdX,Option.isSome_some,Option.getD_some,if_true] at hw7 HM7 ⊢
    go_upto_region 7 with fail
    rw [← hnb]
    clear hw7 hnb
    obtain ⟨k0,k1,k2⟩:=HM7.out.1.cells
    obtain ⟨fA,fL,_⟩:=HF.out w7 HB7.out.2
    have hsz:=fL.lists.sets
    rw [own_num hsz] at hsz
    obtain ⟨gs,hgs,hgsl,e0,e1,e2,e3⟩:=cls_at hsz HJ.out.2.2.2.1
    have c8:=fA.cells.1
    rw [hgs] at c8
    have u1:(0:Int)≤(tt:Int):=by omega
    have u2:(tt:Int)<(a.n:Int):=by have:=HJ.out.2.1;omega
    have u3:((tt:Int)).toNat=tt:=by omega
    obtain ⟨d0,d1,d2,d3,d4⟩:=HM7.out.2.five
    clear hsz hgs fA fL
    go_wp2_with fail
    go_at_call 33
    refine (rhas_any C b _ HCl.out hb).mono ?_
    rintro e w8 ⟨rfl,hb8⟩
    have HB8:=Lib.hid (And.intro (bhop HB7.out.1 hb8) (bhop HB7.out.2 hb8))
    have HM8:=Lib.hid (HM7.out.2.below hb8)
    clear hb8 k0 k1 k2 e0 e1 e2 e3 c8 d0 d1 d2 d3 d4
    cases hh:hasB C b with
    | false =>
     have HSK:=Lib.hid (show ∀ k,StM m lf x b j k→k∈out from fun k hk=>by
      have:=hk.1
      rw [HH0.out,hh] at this;cases this)
     have HWW:=Lib.hid (And.intro HB8.out.1 HB8.out.2)
     clear hh
     go_wp2_with fail
     go_roundw
     case rel=>exact ⟨i+1,out,by push_cast;rfl,HJ.out.2.2.2.2.2.2.2.2,own_chg HO.out.1 (Chg.of_below (R:=fun _=>False) HWW.out.1) fun _ _=>id,HO.out.2.1,by have:=HO.out.2.2.1;omega,rs_skip HJ.out.1 HO.out.2.2.2.1 HSK.out,HWW.out.2⟩
     case measure=>have:=HJ.out.2.2.2.2.2.2.2.2;simp;omega
    | true =>
     obtain ⟨k,hk⟩ : ∃ k,k=kcOf (tt:Nat) y:=⟨_,rfl⟩
     have HST:=Lib.hid (show StM m lf x b j k from ⟨by rw [HH0.out];exact hh,y,by rw [HLT2.out,← HJ.out.2.2.2.2.2.2.1,← HJ.out.2.2.2.2.2.2.2.1];exact HMR.out,by rw [hk,← HJ.out.2.2.2.2.2.1]⟩)
     have HSU:=Lib.hid (show ∀ k',StM m lf x b j k'→k'=k from fun k' hk'=>by
      obtain ⟨_,y2,h2,h3⟩:=hk'
      rw [HLT2.out,← HJ.out.2.2.2.2.2.2.1,← HJ.out.2.2.2.2.2.2.2.1,HMR.out] at h2
      obtain rfl:=Option.some.inj h2
      rw [h3,hk,← HJ.out.2.2.2.2.2.1])
     have HKc:=Lib.hid hk
     have own8:=own_chg HO.out.1 (Chg.of_below (R:=fun _=>False) HB8.out.1) fun _ _=>id
     have HHC:=Lib.hid (hasC_any w8 oA oc out (own_cfs own8) (by have:=HO.out.2.2.1;omega) k)
     obtain ⟨d0,d1,d2,d3,d4⟩:=HM8.out.five
     have hp0:k.p=(tt:Int):=by rw [hk];rfl
     have hp1:k.a=y 0:=by rw [hk];rfl
     have hp2:k.b=y 1:=by rw [hk];rfl
     have hp3:k.c=y 2:=by rw [hk];rfl
     have hp4:k.d=y 3:=by rw [hk];rfl
     rw [← hp0] at d0
     rw [← hp1] at d1
     rw [← hp2] at d2
     rw [← hp3] at d3
     rw [← hp4] at d4
     clear hh hk own8 hp0 hp1 hp2 hp3 hp4
     go_wp2_with fail
     go_at_call 18
     refine HHC.out.mono ?_
     rintro e w9 ⟨rfl,hb9⟩
     have HB9:=Lib.hid (And.intro (bhop HB8.out.1 hb9) (bhop HB8.out.2 hb9))
     obtain ⟨q0,q1,q2,q3,q4⟩:=HM8.out.five
     have e0:=(hb9.cell (p:=⟨nb,0,none⟩) HM8.out.lt).trans d0
     have e1:=(hb9.cell (p:=⟨nb,1,none⟩) HM8.out.lt).trans d1
     have e2:=(hb9.cell (p:=⟨nb,2,none⟩) HM8.out.lt).trans d2
     have e3:=(hb9.cell (p:=⟨nb,3,none⟩) HM8.out.lt).trans d3
     have e4:=(hb9.cell (p:=⟨nb,4,none⟩) HM8.out.lt).trans d4
     clear hb9 d0 d1 d2 d3 d4 q0 q1 q2 q3 q4
     cases hk2:hasK out k with
     | true =>
      have HSK:=Lib.hid (show ∀ k',StM m lf x b j k'→k'∈out from fun k' hk'=>by rw [HSU.out k' hk'];exact hasK_iff.1 hk2)
      have HWW:=Lib.hid (And.intro HB9.out.1 HB9.out.2)
      clear hk2 e0 e1 e2 e3 e4
      go_wp2_with fail
      go_roundw
      case rel=>exact ⟨i+1,out,by push_cast;rfl,HJ.out.2.2.2.2.2.2.2.2,own_chg HO.out.1 (Chg.of_below (R:=fun _=>False) HWW.out.1) fun _ _=>id,HO.out.2.1,by have:=HO.out.2.2.1;omega,rs_skip HJ.out.1 HO.out.2.2.2.1 HSK.out,HWW.out.2⟩
      case measure=>have:=HJ.out.2.2.2.2.2.2.2.2;simp;omega
     | false =>
      have hkn:k ∉ out:=fun h=>by rw [hasK_iff.2 h] at hk2;cases hk2
      have HKN:=Lib.hid hkn
      have own9:=own_chg HO.out.1 (Chg.of_below (R:=fun _=>False) HB9.out.1) fun _ _=>id
      have hob:out.length≤1000000000:=by have:=HO.out.2.2.1;omega
      have HSz:=Lib.hid HB9.out.2.size
      have own10:w9.ownsRow w2.heap.size 55 5 (.slice oA on oc) on (out.flatMap kcc):=by rw [HON.out];exact own9
      have HO10:=Lib.hid own10
      have hob2:on≤1000000000:=by rw [HON.out];exact hob
      rw [← HON.out]
      clear hk2 hkn own9 hob
      go_upto_region 8 with fail
      go_wp2_with ((at_builtin;refine wpList_append_lies _ (by rfl) _ _ 42 (by rfl) w2.heap.size 55 i0 _ 5 40 Tryz.underlying42 hi hz0 hz1 hz2 rfl (by decide) (.slice oA on oc) on (out.flatMap kcc) (by rfl) (World.ownsRow.alloc own10 _) ⟨w9.heap.size,0,none⟩ 1 1 [.int .i64 k.p,.int .i64 k.a,.int .i64 k.b,.int .i64 k.c,.int .i64 k.d] (by rfl) rfl (World.news_of_block (heap_alloc_new w9 _)) (by simp [Value.oneCell']) (by decide) ?c3 ?c4 ?c5 _ rfl ?_))
      case c3=>unfold maxLen;omega
      case c4=>omega
      case c5=>have:=HSz.out;simp;omega
      intro gB cpB wB hown2 hgrow _ _
      have HA:=Lib.hid (own_pushK (q:=k) (acc:=out) (v:=.slice oA on oc) (by rw [← HON.out];exact HO10.out) HB9.out.2 HB9.out.2.size (by rw [← HON.out];exact hown2) hgrow)
      clear hown2 hgrow e0 e1 e2 e3 e4 own10
      go_wp2_with fail
      go_roundw
      case rel=>exact ⟨i+1,out ++ [k],by push_cast;rfl,HJ.out.2.2.2.2.2.2.2.2,by rw [HON.out];exact HA.out.1,List.nodup_append.2 ⟨HO.out.2.1,by simp,fun u hu v hv e=>by
       rw [List.mem_singleton.1 hv] at e
       exact HKN.out (e▸hu)⟩,by have:=HO.out.2.2.1;simp;omega,fun k'=>by
        rw [sts_snoc HJ.out.1,← HO.out.2.2.2.1 k',List.mem_append,List.mem_singleton]
        exact or_congr Iff.rfl ⟨fun h=>h▸HST.out,HSU.out k'⟩,HA.out.2⟩
      case measure=>have:=HJ.out.2.2.2.2.2.2.2.2;simp;omega
  ·have s2:¬ (i:Int)<(ln:Int):=by omega
   have hil:i=(L p).length:=by have:=HLN.out.1;omega
   have HE:=Lib.hid (show ∀ k,k∈out↔StS m lf x b (L p) k by rw [hil,List.take_length] at hall;exact hall)
   have HLL:=Lib.hid (show out.length≤(L p).length by omega)
   clear hil hif hall hown hnd hol hbr
   go_wp2_with fail
   go_ret
   exact ⟨_,out,rfl,HO.out.2.1,HE.out,HLL.out,own_low HO.out.1 HB.out.size,bhop HB.out HO.out.2.2.2.2⟩
end Go.Proofs.YtnmjicfpmkoldaaGreatDoor

/- What comes behind one byte more, as the document gathers it in a row of its own: plain facts.
   Conditions: those that each theorem states. -/
namespace Go.Proofs.YtnmjicfpmkoldaaGreatDoor
open Go.RowKit
structure AuP (m:PM) (fl:List Nat) (L:Nat→List Mv):Prop where
 cls:∀ C∈m.sets,Cl C
 mvl:MvL m L
 wf:MapW m
 few:fl.length≤41
 fin:∀ q∈fl,1≤q∧q<m.ars.length
 rise:fl.Pairwise (· < ·)
 most:m.ars.length≤41
def NxQ (w2:World) (S:Kc→Prop) (nv:Value) (wr:World):Prop:=∃ out:List Kc,out.Nodup∧(∀ q,q∈out↔S q)∧wr.ownsRow w2.heap.size 55 5 nv out.length (out.flatMap kcc)∧Below w2.heap.size w2 wr
theorem NxQ.step {w2:World} {S S':Kc→Prop} {nv:Value} {wr wq:World} (h:NxQ w2 S nv wr) (hb:Below wr.heap.size wr wq) (hS:∀ q,S q↔S' q):NxQ w2 S' nv wq:=by
 obtain ⟨out,a,b,c,d⟩:=h
 exact ⟨out,a,fun q=>(b q).trans (hS q),own_chg c (Chg.of_below (R:=fun _=>False) hb) fun _ _=>id,bhop d hb⟩
theorem NxQ.nil (w2:World) {S:Kc→Prop} (h:∀ q,¬ S q):NxQ w2 S (.slice none 0 0) w2:=⟨[],List.nodup_nil,fun q=>⟨fun hq=>(by cases hq),fun hq=>absurd hq (h q)⟩,World.ownsRow_nil _ _ _ _,Below.refl _ _⟩
theorem stepB_take {m:PM} {L:Nat→List Mv} {b i:Nat} {l:List Kc} {p:Kc} (hp:l[i]? = some p) (q:Kc):stepB m L (fun k=>k∈l.take (i+1)) b q↔stepB m L (fun k=>k∈l.take i) b q∨StS m (m.ars.getD p.p.toNat []) p.x b (L p.p.toNat) q:=by
 have e:l.take (i+1)=l.take i ++ [p]:=by rw [List.take_add_one,hp];rfl
 unfold stepB
 rw [e]
 constructor
 ·rintro ⟨k,hk,h⟩
  rcases List.mem_append.1 hk with hk | hk
  ·exact .inl ⟨k,hk,h⟩
  ·rw [List.mem_singleton.1 hk] at h;exact .inr h
 ·rintro (⟨k,hk,h⟩ | h)
  ·exact ⟨k,List.mem_append_left _ hk,h⟩
  ·exact ⟨p,List.mem_append_right _ (by simp),h⟩
theorem stepB_none {m:PM} {L:Nat→List Mv} {b:Nat} {l:List Kc} (q:Kc):¬ stepB m L (fun k=>k∈l.take 0) b q:=fun ⟨_,h,_⟩=>by simp at h
theorem stepB_sub {m:PM} {L:Nat→List Mv} {b i:Nat} {l:List Kc} {q:Kc} (h:stepB m L (fun k=>k∈l.take i) b q):stepB m L (fun k=>k∈l) b q:=by
 obtain ⟨k,hk,h⟩:=h
 exact ⟨k,List.mem_of_mem_take hk,h⟩
theorem few_step {m:PM} {L:Nat→List Mv} (hL:MvL m L) (hm:m.ars.length≤41) {l:List Kc} (hl:∀ k∈l,OkC m 39 k) {b:Nat} {out:List Kc} (hn:out.Nodup) (ho:∀ q∈out,stepB m L (fun k=>k∈l) b q):out.length≤115856201 :=
 few_C hn (fun q hq=>ok_more (stepB_ok hL (n:=39) (by omega) hl q (ho q hq)) (by omega)) hm
def StQ (H:Nat) (m:PM) (lf:List Nat) (x:Nat→Int) (b:Nat) (l:List Mv) (W:World) (v:Value):Prop:=∃ st:List Kc,st.Nodup∧(∀ q,q∈st↔StS m lf x b l q)∧st.length≤l.length∧W.ownsRow H 55 5 v st.length (st.flatMap kcc)
theorem StQ.keep {H:Nat} {m:PM} {lf:List Nat} {x:Nat→Int} {b:Nat} {l:List Mv} (W:World) (v:Value) (W':World) (h:StQ H m lf x b l W v) (hb:Below W.heap.size W W'):StQ H m lf x b l W' v:=by
 obtain ⟨st,a,b,c,d⟩:=h
 exact ⟨st,a,b,c,own_chg d (Chg.of_below (R:=fun _=>False) hb) fun _ _=>id⟩
theorem take_mem {l:List Kc} {i:Nat} {k:Kc} (hk:l[i]? = some k) (q:Kc):q∈l.take (i+1)↔q∈l.take i∨q=k:=by
 rw [List.take_add_one,hk]
 simp
theorem bg_nodup {m:PM} {b:Nat} {fl:List Nat} (h:fl.Pairwise (· < ·)):((bgL m b fl).map kcB).Nodup :=
 (bg_rise h).imp (S:=fun x y=>x≠y) fun {x y} hlt e=>by
  subst e
  exact kcLt_irr _ hlt
theorem bh_cd {m:PM} (hw:MapW m) (hm:m.ars.length≤41) {fl:List Nat} (hfl:∀ q∈fl,1≤q∧q<m.ars.length) {L:Nat→List Mv} (hL:MvL m L) {u:List Nat} {out:List Kc} (hn:out.Nodup) (h:∀ q,q∈out↔bhS m fl L u q):Cd (bhS m fl L u) out.length :=
 ⟨out,hn,fun k=>⟨fun hk=>⟨ok_63 hw hm (bhS_ok hw hfl hL _ k ((h k).1 hk)),(h k).1 hk⟩,fun hk=>(h k).2 hk.2⟩,rfl⟩
end Go.Proofs.YtnmjicfpmkoldaaGreatDoor
