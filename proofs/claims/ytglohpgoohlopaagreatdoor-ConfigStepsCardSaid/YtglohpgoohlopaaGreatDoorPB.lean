/- A drawn region of the document's Right: a count is held against the greatest one of the scope that stands there.
   Conditions: the cells that it loads lie in memory; top's contract. -/
import Derived.Test.YtglohpgoohlopaaGreatDoorPG
import Derived.Test.YtglohpgoohlopaaGreatDoorRows
import Derived.WalkKit
import Derived.KernelRfl

/- A drawn region of the document's Right: a count is held against the greatest one of the scope that stands there.
   Conditions: the cells that it loads lie in memory; top's contract. -/
namespace Go.Proofs.YtglohpgoohlopaaGreatDoor
open Go.RowKit
abbrev opsregGfQ:Array Oper:=#[{ dst:=some 31,op:=Op.move (Operand.tmp 6),type:=3,pos := "ref.go:26",after:=#[],guard:=none },
 { dst:=some 32,op:=Op.move (Operand.tmp 5),type:=3,pos := "ref.go:26",after:=#[],guard:=none },
 { dst:=some 33,op:=Op.binOp BinOp.geq 3 (Operand.tmp 31) (Operand.tmp 32) 3,type:=4,pos := "ref.go:26",after:=#[{ on:=0,ground:=Ground.data },{ on:=1,ground:=Ground.data }],guard:=none },
 { dst:=some 34,op:=Op.move (Operand.tmp 33),type:=4,pos := "ref.go:26",after:=#[{ on:=2,ground:=Ground.data }],guard:=none },
 { dst:=some 35,op:=Op.move (Operand.tmp 6),type:=3,pos := "ref.go:26",after:=#[{ on:=3,ground:=Ground.guard }],guard:=some (3,true) },
 { dst:=some 36,op:=Op.fieldAddr 30 (Operand.tmp 3) 1,type:=0,pos := "ref.go:26",after:=#[{ on:=3,ground:=Ground.guard }],guard:=some (3,true) },
 { dst:=some 37,op:=Op.indexAddr 28 (Operand.tmp 36) (Operand.tmp 35),type:=0,pos := "ref.go:26",after:=#[{ on:=5,ground:=Ground.data },{ on:=4,ground:=Ground.data },{ on:=3,ground:=Ground.guard }],guard:=some (3,true) },
 { dst:=some 38,op:=Op.load 2 (Operand.tmp 37),type:=2,pos := "ref.go:26",after:=#[{ on:=6,ground:=Ground.data },{ on:=3,ground:=Ground.guard }],guard:=some (3,true) },
 { dst:=some 39,op:=Op.binOp BinOp.neq 2 (Operand.tmp 38) (Operand.const (Value.int IntKind.i64 0)) 2,type:=4,pos := "ref.go:26",after:=#[{ on:=7,ground:=Ground.data },{ on:=3,ground:=Ground.guard }],guard:=some (3,true) },
 { dst:=some 40,op:=Op.pick (Operand.tmp 34) (Operand.tmp 39) (Operand.const (Value.bool false)),type:=4,pos := "ref.go:26",after:=#[{ on:=3,ground:=Ground.data },{ on:=8,ground:=Ground.data }],guard:=none },
 { dst:=some 41,op:=Op.move (Operand.tmp 40),type:=4,pos := "ref.go:26",after:=#[{ on:=9,ground:=Ground.data },{ on:=3,ground:=Ground.chain }],guard:=none },
 { dst:=some 42,op:=Op.move (Operand.tmp 6),type:=3,pos := "ref.go:26",after:=#[{ on:=10,ground:=Ground.guard }],guard:=some (10,false) },
 { dst:=some 43,op:=Op.move (Operand.tmp 5),type:=3,pos := "ref.go:26",after:=#[{ on:=10,ground:=Ground.guard }],guard:=some (10,false) },
 { dst:=some 44,op:=Op.binOp BinOp.lss 3 (Operand.tmp 42) (Operand.tmp 43) 3,type:=4,pos := "ref.go:26",after:=#[{ on:=11,ground:=Ground.data },{ on:=12,ground:=Ground.data },{ on:=10,ground:=Ground.guard }],guard:=some (10,false) },
 { dst:=some 45,op:=Op.move (Operand.tmp 44),type:=4,pos := "ref.go:26",after:=#[{ on:=13,ground:=Ground.data },{ on:=10,ground:=Ground.chain },{ on:=10,ground:=Ground.guard }],guard:=some (10,false) },
 { dst:=some 46,op:=Op.move (Operand.tmp 6),type:=3,pos := "ref.go:26",after:=#[{ on:=14,ground:=Ground.guard }],guard:=some (14,true) },
 { dst:=some 47,op:=Op.fieldAddr 30 (Operand.tmp 3) 1,type:=0,pos := "ref.go:26",after:=#[{ on:=14,ground:=Ground.guard }],guard:=some (14,true) },
 { dst:=some 48,op:=Op.indexAddr 28 (Operand.tmp 47) (Operand.tmp 46),type:=0,pos := "ref.go:26",after:=#[{ on:=16,ground:=Ground.data },{ on:=15,ground:=Ground.data },{ on:=14,ground:=Ground.guard }],guard:=some (14,true) },
 { dst:=some 49,op:=Op.load 2 (Operand.tmp 48),type:=2,pos := "ref.go:26",after:=#[{ on:=17,ground:=Ground.data },{ on:=14,ground:=Ground.guard }],guard:=some (14,true) },
 { dst:=some 50,op:=Op.binOp BinOp.lss 2 (Operand.tmp 49) (Operand.const (Value.int IntKind.i64 1)) 2,type:=4,pos := "ref.go:26",after:=#[{ on:=18,ground:=Ground.data },{ on:=14,ground:=Ground.guard }],guard:=some (14,true) },
 { dst:=some 51,op:=Op.move (Operand.tmp 50),type:=4,pos := "ref.go:26",after:=#[{ on:=19,ground:=Ground.data },{ on:=14,ground:=Ground.chain },{ on:=14,ground:=Ground.guard }],guard:=some (14,true) },
 { dst:=some 52,op:=Op.move (Operand.tmp 6),type:=3,pos := "ref.go:26",after:=#[{ on:=20,ground:=Ground.guard }],guard:=some (20,false) },
 { dst:=some 53,op:=Op.fieldAddr 30 (Operand.tmp 3) 1,type:=0,pos := "ref.go:26",after:=#[{ on:=20,ground:=Ground.guard }],guard:=some (20,false) },
 { dst:=some 54,op:=Op.indexAddr 28 (Operand.tmp 53) (Operand.tmp 52),type:=0,pos := "ref.go:26",after:=#[{ on:=22,ground:=Ground.data },{ on:=21,ground:=Ground.data },{ on:=20,ground:=Ground.guard }],guard:=some (20,false) },
 { dst:=some 55,op:=Op.load 2 (Operand.tmp 54),type:=2,pos := "ref.go:26",after:=#[{ on:=23,ground:=Ground.data },{ on:=20,ground:=Ground.guard }],guard:=some (20,false) },
 { dst:=some 56,op:=Op.fieldAddr 41 (Operand.tmp 2) 0,type:=0,pos := "ref.go:26",after:=#[{ on:=20,ground:=Ground.guard }],guard:=some (20,false) },
 { dst:=some 57,op:=Op.fieldAddr 36 (Operand.tmp 56) 2,type:=0,pos := "ref.go:26",after:=#[{ on:=25,ground:=Ground.data },{ on:=20,ground:=Ground.guard }],guard:=some (20,false) },
 { dst:=some 58,op:=Op.load 33 (Operand.tmp 57),type:=33,pos := "ref.go:26",after:=#[{ on:=26,ground:=Ground.data },{ on:=20,ground:=Ground.guard }],guard:=some (20,false) },
 { dst:=some 59,op:=Op.fieldAddr 41 (Operand.tmp 2) 0,type:=0,pos := "ref.go:26",after:=#[{ on:=20,ground:=Ground.guard }],guard:=some (20,false) },
 { dst:=some 60,op:=Op.fieldAddr 36 (Operand.tmp 59) 3,type:=0,pos := "ref.go:26",after:=#[{ on:=28,ground:=Ground.data },{ on:=20,ground:=Ground.guard }],guard:=some (20,false) },
 { dst:=some 61,op:=Op.load 34 (Operand.tmp 60),type:=34,pos := "ref.go:26",after:=#[{ on:=29,ground:=Ground.data },{ on:=20,ground:=Ground.guard }],guard:=some (20,false) },
 { dst:=some 62,op:=Op.fieldAddr 30 (Operand.tmp 3) 0,type:=0,pos := "ref.go:26",after:=#[{ on:=20,ground:=Ground.guard }],guard:=some (20,false) },
 { dst:=some 63,op:=Op.load 3 (Operand.tmp 62),type:=3,pos := "ref.go:26",after:=#[{ on:=31,ground:=Ground.data },{ on:=20,ground:=Ground.guard }],guard:=some (20,false) },
 { dst:=some 64,op:=Op.indexAddr 34 (Operand.tmp 61) (Operand.tmp 63),type:=0,pos := "ref.go:26",after:=#[{ on:=30,ground:=Ground.data },{ on:=32,ground:=Ground.data },{ on:=20,ground:=Ground.guard }],guard:=some (20,false) },
 { dst:=some 65,op:=Op.load 37 (Operand.tmp 64),type:=37,pos := "ref.go:26",after:=#[{ on:=33,ground:=Ground.data },{ on:=20,ground:=Ground.guard }],guard:=some (20,false) },
 { dst:=some 66,op:=Op.move (Operand.tmp 6),type:=3,pos := "ref.go:26",after:=#[{ on:=20,ground:=Ground.guard }],guard:=some (20,false) },
 { dst:=some 67,op:=Op.indexAddr 37 (Operand.tmp 65) (Operand.tmp 66),type:=0,pos := "ref.go:26",after:=#[{ on:=34,ground:=Ground.data },{ on:=35,ground:=Ground.data },{ on:=20,ground:=Ground.guard }],guard:=some (20,false) },
 { dst:=some 68,op:=Op.load 3 (Operand.tmp 67),type:=3,pos := "ref.go:26",after:=#[{ on:=36,ground:=Ground.data },{ on:=20,ground:=Ground.guard }],guard:=some (20,false) },
 { dst:=some 69,op:=Op.indexAddr 33 (Operand.tmp 58) (Operand.tmp 68),type:=0,pos := "ref.go:26",after:=#[{ on:=27,ground:=Ground.data },{ on:=37,ground:=Ground.data },{ on:=20,ground:=Ground.guard }],guard:=some (20,false) },
 { dst:=some 70,op:=Op.load 67 (Operand.tmp 69),type:=67,pos := "ref.go:26",after:=#[{ on:=38,ground:=Ground.data },{ on:=20,ground:=Ground.guard }],guard:=some (20,false) },
 { dst:=some 71,op:=Op.call { callee:=Callee.value (Operand.func 33),args:=#[Operand.tmp 70],argTypes:=#[67] },type:=2,pos := "ref.go:26",after:=#[{ on:=39,ground:=Ground.data },{ on:=20,ground:=Ground.chain },{ on:=20,ground:=Ground.guard }],guard:=some (20,false) },
 { dst:=some 72,op:=Op.binOp BinOp.gtr 2 (Operand.tmp 55) (Operand.tmp 71) 2,type:=4,pos := "ref.go:26",after:=#[{ on:=24,ground:=Ground.data },{ on:=40,ground:=Ground.data },{ on:=20,ground:=Ground.guard }],guard:=some (20,false) },
 { dst:=some 73,op:=Op.pick (Operand.tmp 51) (Operand.const (Value.bool true)) (Operand.tmp 72),type:=4,pos := "ref.go:26",after:=#[{ on:=20,ground:=Ground.data },{ on:=41,ground:=Ground.data },{ on:=14,ground:=Ground.guard }],guard:=some (14,true) },
 { dst:=some 74,op:=Op.pick (Operand.tmp 45) (Operand.tmp 73) (Operand.const (Value.bool false)),type:=4,pos := "ref.go:26",after:=#[{ on:=14,ground:=Ground.data },{ on:=42,ground:=Ground.data },{ on:=10,ground:=Ground.guard }],guard:=some (10,false) },
 { dst:=some 75,op:=Op.pick (Operand.tmp 41) (Operand.const (Value.bool true)) (Operand.tmp 74),type:=4,pos := "ref.go:26",after:=#[{ on:=10,ground:=Ground.data },{ on:=43,ground:=Ground.data }],guard:=none }]
def WregGfQ (ab cb q ln i an aC ga g c gs cN cC k:Nat) (v sl sh tp:Int) (D:List Deferred) (v0 v1 v4 v7 v8 v9 v10 v11 v12 v13 v14 v15 v16 v17 v18 v19 v20 v21 v22 v23 v24 v25 v26 v27 v28 v29 v30:Value) (w0:World) (l:Nat→Bool) (a:Act) (w:World):Prop :=
 ∃ (y0 y1 y2 y3 y4 y5 y6 y7 y8 y9 y10 y11 y12 y13 y14 y15 y16 y17 y18 y19 y20 y21 y22 y23 y24 y25 y26 y27 y28 y29 y30 y31 y32 y33 y34 y35 y36 y37 y38 y39 y40 y41 y42 y43 y44:Value),a = { tmps:=#[v0,v1,.pointer (some ⟨ab,0,none⟩),.pointer (some ⟨cb,0,none⟩),v4,.int .i64 (ln:Int),.int .i64 (i:Int),v7,v8,v9,v10,v11,v12,v13,v14,v15,v16,v17,v18,v19,v20,v21,v22,v23,v24,v25,v26,v27,v28,v29,v30,y0,y1,y2,y3,y4,y5,y6,y7,y8,y9,y10,y11,y12,y13,y14,y15,y16,y17,y18,y19,y20,y21,y22,y23,y24,y25,y26,y27,y28,y29,y30,y31,y32,y33,y34,y35,y36,y37,y38,y39,y40,y41,y42,y43,y44],defers:=D }∧Below w0.heap.size w0 w ∧
  (l 0=true→y0=.int .i64 (i:Int))∧(l 1=true→y1=.int .i64 (ln:Int))∧(l 2=true→y2=.bool false)∧(l 3=true→y3=.bool false)∧(l 9=true→y9=.bool false)∧(l 10=true→y10=.bool false)∧(l 11=true→y11=.int .i64 (i:Int))∧(l 12=true→y12=.int .i64 (ln:Int))∧(l 13=true→y13=.bool true)∧(l 14=true→y14=.bool true)∧(l 15=true→y15=.int .i64 (i:Int))∧(l 16=true→y16=.pointer (some ⟨cb,1,none⟩))∧(l 17=true→y17=.pointer (some ⟨cb,1+i,none⟩))∧(l 18=true→y18=.int .i64 v)∧(l 19=true→y19=.bool false)∧(l 20=true→y20=.bool false)∧(l 21=true→y21=.int .i64 (i:Int))∧(l 22=true→y22=.pointer (some ⟨cb,1,none⟩))∧(l 23=true→y23=.pointer (some ⟨cb,1+i,none⟩))∧(l 24=true→y24=.int .i64 v)∧(l 25=true→y25=.pointer (some ⟨ab,0,none⟩))∧(l 26=true→y26=.pointer (some ⟨ab,9,none⟩))∧(l 27=true→y27=.slice (some ⟨gs,0,none⟩) cN cC)∧(l 28=true→y28=.pointer (some ⟨ab,0,none⟩))∧(l 29=true→y29=.pointer (some ⟨ab,10,none⟩))∧(l 30=true→y30=.slice (some ⟨ga,0,none⟩) an aC)∧(l 31=true→y31=.pointer (some ⟨cb,0,none⟩))∧(l 32=true→y32=.int .i64 (q:Int))∧(l 33=true→y33=.pointer (some ⟨ga,q,none⟩))∧(l 34=true→y34=.slice (some ⟨g,0,none⟩) ln c)∧(l 35=true→y35=.int .i64 (i:Int))∧(l 36=true→y36=.pointer (some ⟨g,i,none⟩))∧(l 37=true→y37=.int .i64 (k:Int))∧(l 38=true→y38=.pointer (some ⟨gs,k * 2,none⟩))∧(l 39=true→y39=.agg #[.int .i64 sl,.int .i64 sh])∧(l 40=true→y40=.int .i64 tp)∧(l 41=true→y41=.bool (decide (tp<v)))∧(l 42=true→y42=.bool (decide (tp<v)))∧(l 43=true→y43=.bool (decide (tp<v)))∧(l 44=true→y44=.bool (decide (tp<v)))
set_option maxHeartbeats 8000000 in
set_option maxRecDepth 100000 in
theorem regGfQ (ab cb q ln i an aC ga g c gs cN cC k:Nat) (v sl sh tp:Int) (D:List Deferred) (v0 v1 v4 v7 v8 v9 v10 v11 v12 v13 v14 v15 v16 v17 v18 v19 v20 v21 v22 v23 v24 v25 v26 v27 v28 v29 v30 wy0 wy1 wy2 wy3 wy4 wy5 wy6 wy7 wy8 wy9 wy10 wy11 wy12 wy13 wy14 wy15 wy16 wy17 wy18 wy19 wy20 wy21 wy22 wy23 wy24 wy25 wy26 wy27 wy28 wy29 wy30 wy31 wy32 wy33 wy34 wy35 wy36 wy37 wy38 wy39 wy40 wy41 wy42 wy43 wy44:Value) (w:World) (hv:(∀ w',Below w.heap.size w w'→w'.cell? ⟨cb,1+i,none⟩=some (.int .i64 v))) (kc0:(∀ w',Below w.heap.size w w'→w'.cell? ⟨cb,0,none⟩=some (.int .i64 (q:Int)))) (kc9:(∀ w',Below w.heap.size w w'→w'.cell? ⟨ab,9,none⟩=some (.slice (some ⟨gs,0,none⟩) cN cC))) (kc10:(∀ w',Below w.heap.size w w'→w'.cell? ⟨ab,10,none⟩=some (.slice (some ⟨ga,0,none⟩) an aC))) (hga:(∀ w',Below w.heap.size w w'→w'.cell? ⟨ga,q,none⟩=some (.slice (some ⟨g,0,none⟩) ln c))) (hg:(∀ w',Below w.heap.size w w'→w'.cell? ⟨g,i,none⟩=some (.int .i64 (k:Int)))) (hs0:(∀ w',Below w.heap.size w w'→w'.cell? ⟨gs,k * 2,none⟩=some (.int .i64 sl))) (hs1:(∀ w',Below w.heap.size w w'→w'.cell? ⟨gs,k * 2+1,none⟩=some (.int .i64 sh))) (hc:∀ w',Below w.heap.size w w'→Calls Tryz.prog 33 #[.agg #[.int .i64 sl,.int .i64 sh]] w' fun e w2=>e=.returned (.int .i64 tp)∧Below w'.heap.size w' w2) (e1:(i:Int)<(ln:Int)) (e2:(i:Int)<4) (e3:(q:Int)<(an:Int)) (e4:(k:Int)<(cN:Int)) (e5:¬ v<1) (e6:¬ (ln:Int)≤(i:Int)) (p1:(0:Int)≤(i:Int)) (p2:(0:Int)≤(q:Int)) (p3:(0:Int)≤(k:Int)) (t1:((i:Int)).toNat=i) (t2:((q:Int)).toNat=q) (t3:((k:Int)).toNat=k) (Q:Exit→Act→World→Prop)
  (hQ:∀ (y0 y1 y2 y3 y4 y5 y6 y7 y8 y9 y10 y11 y12 y13 y14 y15 y16 y17 y18 y19 y20 y21 y22 y23 y24 y25 y26 y27 y28 y29 y30 y31 y32 y33 y34 y35 y36 y37 y38 y39 y40 y41 y42 y43:Value) (w':World),Below w.heap.size w w'→Q .normal { tmps:=#[v0,v1,.pointer (some ⟨ab,0,none⟩),.pointer (some ⟨cb,0,none⟩),v4,.int .i64 (ln:Int),.int .i64 (i:Int),v7,v8,v9,v10,v11,v12,v13,v14,v15,v16,v17,v18,v19,v20,v21,v22,v23,v24,v25,v26,v27,v28,v29,v30,y0,y1,y2,y3,y4,y5,y6,y7,y8,y9,y10,y11,y12,y13,y14,y15,y16,y17,y18,y19,y20,y21,y22,y23,y24,y25,y26,y27,y28,y29,y30,y31,y32,y33,y34,y35,y36,y37,y38,y39,y40,y41,y42,y43,.bool (decide (tp<v))],defers:=D } w') :
  (Code.region 7 opsregGfQ true).wp Tryz.prog Q { tmps:=#[v0,v1,.pointer (some ⟨ab,0,none⟩),.pointer (some ⟨cb,0,none⟩),v4,.int .i64 (ln:Int),.int .i64 (i:Int),v7,v8,v9,v10,v11,v12,v13,v14,v15,v16,v17,v18,v19,v20,v21,v22,v23,v24,v25,v26,v27,v28,v29,v30,wy0,wy1,wy2,wy3,wy4,wy5,wy6,wy7,wy8,wy9,wy10,wy11,wy12,wy13,wy14,wy15,wy16,wy17,wy18,wy19,wy20,wy21,wy22,wy23,wy24,wy25,wy26,wy27,wy28,wy29,wy30,wy31,wy32,wy33,wy34,wy35,wy36,wy37,wy38,wy39,wy40,wy41,wy42,wy43,wy44],defers:=D } w:=by
 refine wp_region_inv (by kernel_rfl) (WregGfQ ab cb q ln i an aC ga g c gs cN cC k v sl sh tp D v0 v1 v4 v7 v8 v9 v10 v11 v12 v13 v14 v15 v16 v17 v18 v19 v20 v21 v22 v23 v24 v25 v26 v27 v28 v29 v30 w) ?hacy ?h0 ?hstep ?hdone
 case hacy=>kernel_rfl
 case h0=>exact ⟨wy0,wy1,wy2,wy3,wy4,wy5,wy6,wy7,wy8,wy9,wy10,wy11,wy12,wy13,wy14,wy15,wy16,wy17,wy18,wy19,wy20,wy21,wy22,wy23,wy24,wy25,wy26,wy27,wy28,wy29,wy30,wy31,wy32,wy33,wy34,wy35,wy36,wy37,wy38,wy39,wy40,wy41,wy42,wy43,wy44,rfl,below_drewN (Below.refl _ _) 1,(fun p=>by cases p),(fun p=>by cases p),(fun p=>by cases p),(fun p=>by cases p),(fun p=>by cases p),(fun p=>by cases p),(fun p=>by cases p),(fun p=>by cases p),(fun p=>by cases p),(fun p=>by cases p),(fun p=>by cases p),(fun p=>by cases p),(fun p=>by cases p),(fun p=>by cases p),(fun p=>by cases p),(fun p=>by cases p),(fun p=>by cases p),(fun p=>by cases p),(fun p=>by cases p),(fun p=>by cases p),(fun p=>by cases p),(fun p=>by cases p),(fun p=>by cases p),(fun p=>by cases p),(fun p=>by cases p),(fun p=>by cases p),(fun p=>by cases p),(fun p=>by cases p),(fun p=>by cases p),(fun p=>by cases p),(fun p=>by cases p),(fun p=>by cases p),(fun p=>by cases p),(fun p=>by cases p),(fun p=>by cases p),(fun p=>by cases p),(fun p=>by cases p),(fun p=>by cases p),(fun p=>by cases p),(fun p=>by cases p)⟩
 case hdone =>
  intro l a w1 hI hall
  obtain ⟨y0,y1,y2,y3,y4,y5,y6,y7,y8,y9,y10,y11,y12,y13,y14,y15,y16,y17,y18,y19,y20,y21,y22,y23,y24,y25,y26,y27,y28,y29,y30,y31,y32,y33,y34,y35,y36,y37,y38,y39,y40,y41,y42,y43,y44,rfl,hb,h0,h1,h2,h3,h9,h10,h11,h12,h13,h14,h15,h16,h17,h18,h19,h20,h21,h22,h23,h24,h25,h26,h27,h28,h29,h30,h31,h32,h33,h34,h35,h36,h37,h38,h39,h40,h41,h42,h43,h44⟩:=hI
  obtain rfl:=h44 (hall 44 (by decide))
  exact hQ _ _ _ _ _ _ _ _ _ _ _ _ _ _ _ _ _ _ _ _ _ _ _ _ _ _ _ _ _ _ _ _ _ _ _ _ _ _ _ _ _ _ _ _ _ hb
 case hstep =>
  intro l a w1 i o hI ho hl hall
  obtain ⟨y0,y1,y2,y3,y4,y5,y6,y7,y8,y9,y10,y11,y12,y13,y14,y15,y16,y17,y18,y19,y20,y21,y22,y23,y24,y25,y26,y27,y28,y29,y30,y31,y32,y33,y34,y35,y36,y37,y38,y39,y40,y41,y42,y43,y44,rfl,hb,h0,h1,h2,h3,h9,h10,h11,h12,h13,h14,h15,h16,h17,h18,h19,h20,h21,h22,h23,h24,h25,h26,h27,h28,h29,h30,h31,h32,h33,h34,h35,h36,h37,h38,h39,h40,h41,h42,h43,h44⟩:=hI
  have hi:i<45:=(Array.getElem?_eq_some_iff.1 ho).1
  match i,hi with
  | 0,_ =>
   have ho':=ho
   simp [opsregGfQ] at ho
   subst ho
   refine wpOp_one ho' rfl fun K hK=>?_
   go_simp
   exact hK _ _ ⟨_,y1,y2,y3,y4,y5,y6,y7,y8,y9,y10,y11,y12,y13,y14,y15,y16,y17,y18,y19,y20,y21,y22,y23,y24,y25,y26,y27,y28,y29,y30,y31,y32,y33,y34,y35,y36,y37,y38,y39,y40,y41,y42,y43,y44,rfl,hb,fun _=>(by first | rfl | simp),h1,h2,h3,h9,h10,h11,h12,h13,h14,h15,h16,h17,h18,h19,h20,h21,h22,h23,h24,h25,h26,h27,h28,h29,h30,h31,h32,h33,h34,h35,h36,h37,h38,h39,h40,h41,h42,h43,h44⟩
  | 1,_ =>
   have ho':=ho
   simp [opsregGfQ] at ho
   subst ho
   refine wpOp_one ho' rfl fun K hK=>?_
   go_simp
   exact hK _ _ ⟨y0,_,y2,y3,y4,y5,y6,y7,y8,y9,y10,y11,y12,y13,y14,y15,y16,y17,y18,y19,y20,y21,y22,y23,y24,y25,y26,y27,y28,y29,y30,y31,y32,y33,y34,y35,y36,y37,y38,y39,y40,y41,y42,y43,y44,rfl,hb,h0,fun _=>(by first | rfl | simp),h2,h3,h9,h10,h11,h12,h13,h14,h15,h16,h17,h18,h19,h20,h21,h22,h23,h24,h25,h26,h27,h28,h29,h30,h31,h32,h33,h34,h35,h36,h37,h38,h39,h40,h41,h42,h43,h44⟩
  | 2,_ =>
   have ho':=ho
   simp [opsregGfQ] at ho
   subst ho
   obtain rfl:=h0 (hall ⟨0,.data⟩ (by simp) rfl)
   obtain rfl:=h1 (hall ⟨1,.data⟩ (by simp) rfl)
   refine wpOp_one ho' rfl fun K hK=>?_
   go_simp
   exact hK _ _ ⟨_,_,_,y3,y4,y5,y6,y7,y8,y9,y10,y11,y12,y13,y14,y15,y16,y17,y18,y19,y20,y21,y22,y23,y24,y25,y26,y27,y28,y29,y30,y31,y32,y33,y34,y35,y36,y37,y38,y39,y40,y41,y42,y43,y44,rfl,hb,fun _=>rfl,fun _=>rfl,fun _=>(by first | rfl | simp),h3,h9,h10,h11,h12,h13,h14,h15,h16,h17,h18,h19,h20,h21,h22,h23,h24,h25,h26,h27,h28,h29,h30,h31,h32,h33,h34,h35,h36,h37,h38,h39,h40,h41,h42,h43,h44⟩
  | 3,_ =>
   have ho':=ho
   simp [opsregGfQ] at ho
   subst ho
   obtain rfl:=h2 (hall ⟨2,.data⟩ (by simp) rfl)
   refine wpOp_one ho' rfl fun K hK=>?_
   go_simp
   exact hK _ _ ⟨y0,y1,_,_,y4,y5,y6,y7,y8,y9,y10,y11,y12,y13,y14,y15,y16,y17,y18,y19,y20,y21,y22,y23,y24,y25,y26,y27,y28,y29,y30,y31,y32,y33,y34,y35,y36,y37,y38,y39,y40,y41,y42,y43,y44,rfl,hb,h0,h1,fun _=>rfl,fun _=>(by first | rfl | simp),h9,h10,h11,h12,h13,h14,h15,h16,h17,h18,h19,h20,h21,h22,h23,h24,h25,h26,h27,h28,h29,h30,h31,h32,h33,h34,h35,h36,h37,h38,h39,h40,h41,h42,h43,h44⟩
  | 4,_ =>
   have ho':=ho
   simp [opsregGfQ] at ho
   subst ho
   obtain rfl:=h3 (hall ⟨3,.guard⟩ (by simp) rfl)
   refine wpOq_off ho' rfl ?_
   exact ⟨y0,y1,y2,_,_,y5,y6,y7,y8,y9,y10,y11,y12,y13,y14,y15,y16,y17,y18,y19,y20,y21,y22,y23,y24,y25,y26,y27,y28,y29,y30,y31,y32,y33,y34,y35,y36,y37,y38,y39,y40,y41,y42,y43,y44,rfl,hb,h0,h1,h2,fun _=>rfl,h9,h10,h11,h12,h13,h14,h15,h16,h17,h18,h19,h20,h21,h22,h23,h24,h25,h26,h27,h28,h29,h30,h31,h32,h33,h34,h35,h36,h37,h38,h39,h40,h41,h42,h43,h44⟩
  | 5,_ =>
   have ho':=ho
   simp [opsregGfQ] at ho
   subst ho
   obtain rfl:=h3 (hall ⟨3,.guard⟩ (by simp) rfl)
   refine wpOq_off ho' rfl ?_
   exact ⟨y0,y1,y2,_,y4,_,y6,y7,y8,y9,y10,y11,y12,y13,y14,y15,y16,y17,y18,y19,y20,y21,y22,y23,y24,y25,y26,y27,y28,y29,y30,y31,y32,y33,y34,y35,y36,y37,y38,y39,y40,y41,y42,y43,y44,rfl,hb,h0,h1,h2,fun _=>rfl,h9,h10,h11,h12,h13,h14,h15,h16,h17,h18,h19,h20,h21,h22,h23,h24,h25,h26,h27,h28,h29,h30,h31,h32,h33,h34,h35,h36,h37,h38,h39,h40,h41,h42,h43,h44⟩
  | 6,_ =>
   have ho':=ho
   simp [opsregGfQ] at ho
   subst ho
   obtain rfl:=h3 (hall ⟨3,.guard⟩ (by simp) rfl)
   refine wpOq_off ho' rfl ?_
   exact ⟨y0,y1,y2,_,y4,y5,_,y7,y8,y9,y10,y11,y12,y13,y14,y15,y16,y17,y18,y19,y20,y21,y22,y23,y24,y25,y26,y27,y28,y29,y30,y31,y32,y33,y34,y35,y36,y37,y38,y39,y40,y41,y42,y43,y44,rfl,hb,h0,h1,h2,fun _=>rfl,h9,h10,h11,h12,h13,h14,h15,h16,h17,h18,h19,h20,h21,h22,h23,h24,h25,h26,h27,h28,h29,h30,h31,h32,h33,h34,h35,h36,h37,h38,h39,h40,h41,h42,h43,h44⟩
  | 7,_ =>
   have ho':=ho
   simp [opsregGfQ] at ho
   subst ho
   obtain rfl:=h3 (hall ⟨3,.guard⟩ (by simp) rfl)
   refine wpOq_off ho' rfl ?_
   exact ⟨y0,y1,y2,_,y4,y5,y6,_,y8,y9,y10,y11,y12,y13,y14,y15,y16,y17,y18,y19,y20,y21,y22,y23,y24,y25,y26,y27,y28,y29,y30,y31,y32,y33,y34,y35,y36,y37,y38,y39,y40,y41,y42,y43,y44,rfl,hb,h0,h1,h2,fun _=>rfl,h9,h10,h11,h12,h13,h14,h15,h16,h17,h18,h19,h20,h21,h22,h23,h24,h25,h26,h27,h28,h29,h30,h31,h32,h33,h34,h35,h36,h37,h38,h39,h40,h41,h42,h43,h44⟩
  | 8,_ =>
   have ho':=ho
   simp [opsregGfQ] at ho
   subst ho
   obtain rfl:=h3 (hall ⟨3,.guard⟩ (by simp) rfl)
   refine wpOq_off ho' rfl ?_
   exact ⟨y0,y1,y2,_,y4,y5,y6,y7,_,y9,y10,y11,y12,y13,y14,y15,y16,y17,y18,y19,y20,y21,y22,y23,y24,y25,y26,y27,y28,y29,y30,y31,y32,y33,y34,y35,y36,y37,y38,y39,y40,y41,y42,y43,y44,rfl,hb,h0,h1,h2,fun _=>rfl,h9,h10,h11,h12,h13,h14,h15,h16,h17,h18,h19,h20,h21,h22,h23,h24,h25,h26,h27,h28,h29,h30,h31,h32,h33,h34,h35,h36,h37,h38,h39,h40,h41,h42,h43,h44⟩
  | 9,_ =>
   have ho':=ho
   simp [opsregGfQ] at ho
   subst ho
   obtain rfl:=h3 (hall ⟨3,.data⟩ (by simp) rfl)
   refine wpOp_one ho' rfl fun K hK=>?_
   go_simp
   exact hK _ _ ⟨y0,y1,y2,_,y4,y5,y6,y7,y8,_,y10,y11,y12,y13,y14,y15,y16,y17,y18,y19,y20,y21,y22,y23,y24,y25,y26,y27,y28,y29,y30,y31,y32,y33,y34,y35,y36,y37,y38,y39,y40,y41,y42,y43,y44,rfl,hb,h0,h1,h2,fun _=>rfl,fun _=>(by first | rfl | simp),h10,h11,h12,h13,h14,h15,h16,h17,h18,h19,h20,h21,h22,h23,h24,h25,h26,h27,h28,h29,h30,h31,h32,h33,h34,h35,h36,h37,h38,h39,h40,h41,h42,h43,h44⟩
  | 10,_ =>
   have ho':=ho
   simp [opsregGfQ] at ho
   subst ho
   obtain rfl:=h9 (hall ⟨9,.data⟩ (by simp) rfl)
   refine wpOp_one ho' rfl fun K hK=>?_
   go_simp
   exact hK _ _ ⟨y0,y1,y2,y3,y4,y5,y6,y7,y8,_,_,y11,y12,y13,y14,y15,y16,y17,y18,y19,y20,y21,y22,y23,y24,y25,y26,y27,y28,y29,y30,y31,y32,y33,y34,y35,y36,y37,y38,y39,y40,y41,y42,y43,y44,rfl,hb,h0,h1,h2,h3,fun _=>rfl,fun _=>(by first | rfl | simp),h11,h12,h13,h14,h15,h16,h17,h18,h19,h20,h21,h22,h23,h24,h25,h26,h27,h28,h29,h30,h31,h32,h33,h34,h35,h36,h37,h38,h39,h40,h41,h42,h43,h44⟩
  | 11,_ =>
   have ho':=ho
   simp [opsregGfQ] at ho
   subst ho
   obtain rfl:=h10 (hall ⟨10,.guard⟩ (by simp) rfl)
   refine wpOp_on ho' rfl fun K hK=>?_
   go_simp
   exact hK _ _ ⟨y0,y1,y2,y3,y4,y5,y6,y7,y8,y9,_,_,y12,y13,y14,y15,y16,y17,y18,y19,y20,y21,y22,y23,y24,y25,y26,y27,y28,y29,y30,y31,y32,y33,y34,y35,y36,y37,y38,y39,y40,y41,y42,y43,y44,rfl,hb,h0,h1,h2,h3,h9,fun _=>rfl,fun _=>(by first | rfl | simp),h12,h13,h14,h15,h16,h17,h18,h19,h20,h21,h22,h23,h24,h25,h26,h27,h28,h29,h30,h31,h32,h33,h34,h35,h36,h37,h38,h39,h40,h41,h42,h43,h44⟩
  | 12,_ =>
   have ho':=ho
   simp [opsregGfQ] at ho
   subst ho
   obtain rfl:=h10 (hall ⟨10,.guard⟩ (by simp) rfl)
   refine wpOp_on ho' rfl fun K hK=>?_
   go_simp
   exact hK _ _ ⟨y0,y1,y2,y3,y4,y5,y6,y7,y8,y9,_,y11,_,y13,y14,y15,y16,y17,y18,y19,y20,y21,y22,y23,y24,y25,y26,y27,y28,y29,y30,y31,y32,y33,y34,y35,y36,y37,y38,y39,y40,y41,y42,y43,y44,rfl,hb,h0,h1,h2,h3,h9,fun _=>rfl,h11,fun _=>(by first | rfl | simp),h13,h14,h15,h16,h17,h18,h19,h20,h21,h22,h23,h24,h25,h26,h27,h28,h29,h30,h31,h32,h33,h34,h35,h36,h37,h38,h39,h40,h41,h42,h43,h44⟩
  | 13,_ =>
   have ho':=ho
   simp [opsregGfQ] at ho
   subst ho
   obtain rfl:=h10 (hall ⟨10,.guard⟩ (by simp) rfl)
   obtain rfl:=h11 (hall ⟨11,.data⟩ (by simp) rfl)
   obtain rfl:=h12 (hall ⟨12,.data⟩ (by simp) rfl)
   refine wpOp_on ho' rfl fun K hK=>?_
   go_simp
   exact hK _ _ ⟨y0,y1,y2,y3,y4,y5,y6,y7,y8,y9,_,_,_,_,y14,y15,y16,y17,y18,y19,y20,y21,y22,y23,y24,y25,y26,y27,y28,y29,y30,y31,y32,y33,y34,y35,y36,y37,y38,y39,y40,y41,y42,y43,y44,rfl,hb,h0,h1,h2,h3,h9,fun _=>rfl,fun _=>rfl,fun _=>rfl,fun _=>(by first | rfl | simp),h14,h15,h16,h17,h18,h19,h20,h21,h22,h23,h24,h25,h26,h27,h28,h29,h30,h31,h32,h33,h34,h35,h36,h37,h38,h39,h40,h41,h42,h43,h44⟩
  | 14,_ =>
   have ho':=ho
   simp [opsregGfQ] at ho
   subst ho
   obtain rfl:=h10 (hall ⟨10,.chain⟩ (by simp) rfl)
   obtain rfl:=h13 (hall ⟨13,.data⟩ (by simp) rfl)
   refine wpOp_on ho' rfl fun K hK=>?_
   go_simp
   exact hK _ _ ⟨y0,y1,y2,y3,y4,y5,y6,y7,y8,y9,_,y11,y12,_,_,y15,y16,y17,y18,y19,y20,y21,y22,y23,y24,y25,y26,y27,y28,y29,y30,y31,y32,y33,y34,y35,y36,y37,y38,y39,y40,y41,y42,y43,y44,rfl,hb,h0,h1,h2,h3,h9,fun _=>rfl,h11,h12,fun _=>rfl,fun _=>(by first | rfl | simp),h15,h16,h17,h18,h19,h20,h21,h22,h23,h24,h25,h26,h27,h28,h29,h30,h31,h32,h33,h34,h35,h36,h37,h38,h39,h40,h41,h42,h43,h44⟩
  | 15,_ =>
   have ho':=ho
   simp [opsregGfQ] at ho
   subst ho
   obtain rfl:=h14 (hall ⟨14,.guard⟩ (by simp) rfl)
   refine wpOp_on ho' rfl fun K hK=>?_
   go_simp
   exact hK _ _ ⟨y0,y1,y2,y3,y4,y5,y6,y7,y8,y9,y10,y11,y12,y13,_,_,y16,y17,y18,y19,y20,y21,y22,y23,y24,y25,y26,y27,y28,y29,y30,y31,y32,y33,y34,y35,y36,y37,y38,y39,y40,y41,y42,y43,y44,rfl,hb,h0,h1,h2,h3,h9,h10,h11,h12,h13,fun _=>rfl,fun _=>(by first | rfl | simp),h16,h17,h18,h19,h20,h21,h22,h23,h24,h25,h26,h27,h28,h29,h30,h31,h32,h33,h34,h35,h36,h37,h38,h39,h40,h41,h42,h43,h44⟩
  | 16,_ =>
   have ho':=ho
   simp [opsregGfQ] at ho
   subst ho
   obtain rfl:=h14 (hall ⟨14,.guard⟩ (by simp) rfl)
   refine wpOp_on ho' rfl fun K hK=>?_
   go_simp
   exact hK _ _ ⟨y0,y1,y2,y3,y4,y5,y6,y7,y8,y9,y10,y11,y12,y13,_,y15,_,y17,y18,y19,y20,y21,y22,y23,y24,y25,y26,y27,y28,y29,y30,y31,y32,y33,y34,y35,y36,y37,y38,y39,y40,y41,y42,y43,y44,rfl,hb,h0,h1,h2,h3,h9,h10,h11,h12,h13,fun _=>rfl,h15,fun _=>(by first | rfl | simp),h17,h18,h19,h20,h21,h22,h23,h24,h25,h26,h27,h28,h29,h30,h31,h32,h33,h34,h35,h36,h37,h38,h39,h40,h41,h42,h43,h44⟩
  | 17,_ =>
   have ho':=ho
   simp [opsregGfQ] at ho
   subst ho
   obtain rfl:=h14 (hall ⟨14,.guard⟩ (by simp) rfl)
   obtain rfl:=h15 (hall ⟨15,.data⟩ (by simp) rfl)
   obtain rfl:=h16 (hall ⟨16,.data⟩ (by simp) rfl)
   refine wpOp_on ho' rfl fun K hK=>?_
   go_simp
   exact hK _ _ ⟨y0,y1,y2,y3,y4,y5,y6,y7,y8,y9,y10,y11,y12,y13,_,_,_,_,y18,y19,y20,y21,y22,y23,y24,y25,y26,y27,y28,y29,y30,y31,y32,y33,y34,y35,y36,y37,y38,y39,y40,y41,y42,y43,y44,rfl,hb,h0,h1,h2,h3,h9,h10,h11,h12,h13,fun _=>rfl,fun _=>rfl,fun _=>rfl,fun _=>(by first | rfl | simp),h18,h19,h20,h21,h22,h23,h24,h25,h26,h27,h28,h29,h30,h31,h32,h33,h34,h35,h36,h37,h38,h39,h40,h41,h42,h43,h44⟩
  | 18,_ =>
   have ho':=ho
   simp [opsregGfQ] at ho
   subst ho
   obtain rfl:=h14 (hall ⟨14,.guard⟩ (by simp) rfl)
   obtain rfl:=h17 (hall ⟨17,.data⟩ (by simp) rfl)
   refine wpOp_on ho' rfl fun K hK=>?_
   have hc0:=hv w1 hb
   go_simp
   exact hK _ _ ⟨y0,y1,y2,y3,y4,y5,y6,y7,y8,y9,y10,y11,y12,y13,_,y15,y16,_,_,y19,y20,y21,y22,y23,y24,y25,y26,y27,y28,y29,y30,y31,y32,y33,y34,y35,y36,y37,y38,y39,y40,y41,y42,y43,y44,rfl,hb,h0,h1,h2,h3,h9,h10,h11,h12,h13,fun _=>rfl,h15,h16,fun _=>rfl,fun _=>(by first | rfl | simp),h19,h20,h21,h22,h23,h24,h25,h26,h27,h28,h29,h30,h31,h32,h33,h34,h35,h36,h37,h38,h39,h40,h41,h42,h43,h44⟩
  | 19,_ =>
   have ho':=ho
   simp [opsregGfQ] at ho
   subst ho
   obtain rfl:=h14 (hall ⟨14,.guard⟩ (by simp) rfl)
   obtain rfl:=h18 (hall ⟨18,.data⟩ (by simp) rfl)
   refine wpOp_on ho' rfl fun K hK=>?_
   go_simp
   exact hK _ _ ⟨y0,y1,y2,y3,y4,y5,y6,y7,y8,y9,y10,y11,y12,y13,_,y15,y16,y17,_,_,y20,y21,y22,y23,y24,y25,y26,y27,y28,y29,y30,y31,y32,y33,y34,y35,y36,y37,y38,y39,y40,y41,y42,y43,y44,rfl,hb,h0,h1,h2,h3,h9,h10,h11,h12,h13,fun _=>rfl,h15,h16,h17,fun _=>rfl,fun _=>(by first | rfl | simp),h20,h21,h22,h23,h24,h25,h26,h27,h28,h29,h30,h31,h32,h33,h34,h35,h36,h37,h38,h39,h40,h41,h42,h43,h44⟩
  | 20,_ =>
   have ho':=ho
   simp [opsregGfQ] at ho
   subst ho
   obtain rfl:=h14 (hall ⟨14,.chain⟩ (by simp) rfl)
   obtain rfl:=h19 (hall ⟨19,.data⟩ (by simp) rfl)
   refine wpOp_on ho' rfl fun K hK=>?_
   go_simp
   exact hK _ _ ⟨y0,y1,y2,y3,y4,y5,y6,y7,y8,y9,y10,y11,y12,y13,_,y15,y16,y17,y18,_,_,y21,y22,y23,y24,y25,y26,y27,y28,y29,y30,y31,y32,y33,y34,y35,y36,y37,y38,y39,y40,y41,y42,y43,y44,rfl,hb,h0,h1,h2,h3,h9,h10,h11,h12,h13,fun _=>rfl,h15,h16,h17,h18,fun _=>rfl,fun _=>(by first | rfl | simp),h21,h22,h23,h24,h25,h26,h27,h28,h29,h30,h31,h32,h33,h34,h35,h36,h37,h38,h39,h40,h41,h42,h43,h44⟩
  | 21,_ =>
   have ho':=ho
   simp [opsregGfQ] at ho
   subst ho
   obtain rfl:=h20 (hall ⟨20,.guard⟩ (by simp) rfl)
   refine wpOp_on ho' rfl fun K hK=>?_
   go_simp
   exact hK _ _ ⟨y0,y1,y2,y3,y4,y5,y6,y7,y8,y9,y10,y11,y12,y13,y14,y15,y16,y17,y18,y19,_,_,y22,y23,y24,y25,y26,y27,y28,y29,y30,y31,y32,y33,y34,y35,y36,y37,y38,y39,y40,y41,y42,y43,y44,rfl,hb,h0,h1,h2,h3,h9,h10,h11,h12,h13,h14,h15,h16,h17,h18,h19,fun _=>rfl,fun _=>(by first | rfl | simp),h22,h23,h24,h25,h26,h27,h28,h29,h30,h31,h32,h33,h34,h35,h36,h37,h38,h39,h40,h41,h42,h43,h44⟩
  | 22,_ =>
   have ho':=ho
   simp [opsregGfQ] at ho
   subst ho
   obtain rfl:=h20 (hall ⟨20,.guard⟩ (by simp) rfl)
   refine wpOp_on ho' rfl fun K hK=>?_
   go_simp
   exact hK _ _ ⟨y0,y1,y2,y3,y4,y5,y6,y7,y8,y9,y10,y11,y12,y13,y14,y15,y16,y17,y18,y19,_,y21,_,y23,y24,y25,y26,y27,y28,y29,y30,y31,y32,y33,y34,y35,y36,y37,y38,y39,y40,y41,y42,y43,y44,rfl,hb,h0,h1,h2,h3,h9,h10,h11,h12,h13,h14,h15,h16,h17,h18,h19,fun _=>rfl,h21,fun _=>(by first | rfl | simp),h23,h24,h25,h26,h27,h28,h29,h30,h31,h32,h33,h34,h35,h36,h37,h38,h39,h40,h41,h42,h43,h44⟩
  | 23,_ =>
   have ho':=ho
   simp [opsregGfQ] at ho
   subst ho
   obtain rfl:=h20 (hall ⟨20,.guard⟩ (by simp) rfl)
   obtain rfl:=h21 (hall ⟨21,.data⟩ (by simp) rfl)
   obtain rfl:=h22 (hall ⟨22,.data⟩ (by simp) rfl)
   refine wpOp_on ho' rfl fun K hK=>?_
   go_simp
   exact hK _ _ ⟨y0,y1,y2,y3,y4,y5,y6,y7,y8,y9,y10,y11,y12,y13,y14,y15,y16,y17,y18,y19,_,_,_,_,y24,y25,y26,y27,y28,y29,y30,y31,y32,y33,y34,y35,y36,y37,y38,y39,y40,y41,y42,y43,y44,rfl,hb,h0,h1,h2,h3,h9,h10,h11,h12,h13,h14,h15,h16,h17,h18,h19,fun _=>rfl,fun _=>rfl,fun _=>rfl,fun _=>(by first | rfl | simp),h24,h25,h26,h27,h28,h29,h30,h31,h32,h33,h34,h35,h36,h37,h38,h39,h40,h41,h42,h43,h44⟩
  | 24,_ =>
   have ho':=ho
   simp [opsregGfQ] at ho
   subst ho
   obtain rfl:=h20 (hall ⟨20,.guard⟩ (by simp) rfl)
   obtain rfl:=h23 (hall ⟨23,.data⟩ (by simp) rfl)
   refine wpOp_on ho' rfl fun K hK=>?_
   have hc0:=hv w1 hb
   go_simp
   exact hK _ _ ⟨y0,y1,y2,y3,y4,y5,y6,y7,y8,y9,y10,y11,y12,y13,y14,y15,y16,y17,y18,y19,_,y21,y22,_,_,y25,y26,y27,y28,y29,y30,y31,y32,y33,y34,y35,y36,y37,y38,y39,y40,y41,y42,y43,y44,rfl,hb,h0,h1,h2,h3,h9,h10,h11,h12,h13,h14,h15,h16,h17,h18,h19,fun _=>rfl,h21,h22,fun _=>rfl,fun _=>(by first | rfl | simp),h25,h26,h27,h28,h29,h30,h31,h32,h33,h34,h35,h36,h37,h38,h39,h40,h41,h42,h43,h44⟩
  | 25,_ =>
   have ho':=ho
   simp [opsregGfQ] at ho
   subst ho
   obtain rfl:=h20 (hall ⟨20,.guard⟩ (by simp) rfl)
   refine wpOp_on ho' rfl fun K hK=>?_
   go_simp
   exact hK _ _ ⟨y0,y1,y2,y3,y4,y5,y6,y7,y8,y9,y10,y11,y12,y13,y14,y15,y16,y17,y18,y19,_,y21,y22,y23,y24,_,y26,y27,y28,y29,y30,y31,y32,y33,y34,y35,y36,y37,y38,y39,y40,y41,y42,y43,y44,rfl,hb,h0,h1,h2,h3,h9,h10,h11,h12,h13,h14,h15,h16,h17,h18,h19,fun _=>rfl,h21,h22,h23,h24,fun _=>(by first | rfl | simp),h26,h27,h28,h29,h30,h31,h32,h33,h34,h35,h36,h37,h38,h39,h40,h41,h42,h43,h44⟩
  | 26,_ =>
   have ho':=ho
   simp [opsregGfQ] at ho
   subst ho
   obtain rfl:=h20 (hall ⟨20,.guard⟩ (by simp) rfl)
   obtain rfl:=h25 (hall ⟨25,.data⟩ (by simp) rfl)
   refine wpOp_on ho' rfl fun K hK=>?_
   go_simp
   exact hK _ _ ⟨y0,y1,y2,y3,y4,y5,y6,y7,y8,y9,y10,y11,y12,y13,y14,y15,y16,y17,y18,y19,_,y21,y22,y23,y24,_,_,y27,y28,y29,y30,y31,y32,y33,y34,y35,y36,y37,y38,y39,y40,y41,y42,y43,y44,rfl,hb,h0,h1,h2,h3,h9,h10,h11,h12,h13,h14,h15,h16,h17,h18,h19,fun _=>rfl,h21,h22,h23,h24,fun _=>rfl,fun _=>(by first | rfl | simp),h27,h28,h29,h30,h31,h32,h33,h34,h35,h36,h37,h38,h39,h40,h41,h42,h43,h44⟩
  | 27,_ =>
   have ho':=ho
   simp [opsregGfQ] at ho
   subst ho
   obtain rfl:=h20 (hall ⟨20,.guard⟩ (by simp) rfl)
   obtain rfl:=h26 (hall ⟨26,.data⟩ (by simp) rfl)
   refine wpOp_on ho' rfl fun K hK=>?_
   have hc0:=kc9 w1 hb
   go_simp
   exact hK _ _ ⟨y0,y1,y2,y3,y4,y5,y6,y7,y8,y9,y10,y11,y12,y13,y14,y15,y16,y17,y18,y19,_,y21,y22,y23,y24,y25,_,_,y28,y29,y30,y31,y32,y33,y34,y35,y36,y37,y38,y39,y40,y41,y42,y43,y44,rfl,hb,h0,h1,h2,h3,h9,h10,h11,h12,h13,h14,h15,h16,h17,h18,h19,fun _=>rfl,h21,h22,h23,h24,h25,fun _=>rfl,fun _=>(by first | rfl | simp),h28,h29,h30,h31,h32,h33,h34,h35,h36,h37,h38,h39,h40,h41,h42,h43,h44⟩
  | 28,_ =>
   have ho':=ho
   simp [opsregGfQ] at ho
   subst ho
   obtain rfl:=h20 (hall ⟨20,.guard⟩ (by simp) rfl)
   refine wpOp_on ho' rfl fun K hK=>?_
   go_simp
   exact hK _ _ ⟨y0,y1,y2,y3,y4,y5,y6,y7,y8,y9,y10,y11,y12,y13,y14,y15,y16,y17,y18,y19,_,y21,y22,y23,y24,y25,y26,y27,_,y29,y30,y31,y32,y33,y34,y35,y36,y37,y38,y39,y40,y41,y42,y43,y44,rfl,hb,h0,h1,h2,h3,h9,h10,h11,h12,h13,h14,h15,h16,h17,h18,h19,fun _=>rfl,h21,h22,h23,h24,h25,h26,h27,fun _=>(by first | rfl | simp),h29,h30,h31,h32,h33,h34,h35,h36,h37,h38,h39,h40,h41,h42,h43,h44⟩
  | 29,_ =>
   have ho':=ho
   simp [opsregGfQ] at ho
   subst ho
   obtain rfl:=h20 (hall ⟨20,.guard⟩ (by simp) rfl)
   obtain rfl:=h28 (hall ⟨28,.data⟩ (by simp) rfl)
   refine wpOp_on ho' rfl fun K hK=>?_
   go_simp
   exact hK _ _ ⟨y0,y1,y2,y3,y4,y5,y6,y7,y8,y9,y10,y11,y12,y13,y14,y15,y16,y17,y18,y19,_,y21,y22,y23,y24,y25,y26,y27,_,_,y30,y31,y32,y33,y34,y35,y36,y37,y38,y39,y40,y41,y42,y43,y44,rfl,hb,h0,h1,h2,h3,h9,h10,h11,h12,h13,h14,h15,h16,h17,h18,h19,fun _=>rfl,h21,h22,h23,h24,h25,h26,h27,fun _=>rfl,fun _=>(by first | rfl | simp),h30,h31,h32,h33,h34,h35,h36,h37,h38,h39,h40,h41,h42,h43,h44⟩
  | 30,_ =>
   have ho':=ho
   simp [opsregGfQ] at ho
   subst ho
   obtain rfl:=h20 (hall ⟨20,.guard⟩ (by simp) rfl)
   obtain rfl:=h29 (hall ⟨29,.data⟩ (by simp) rfl)
   refine wpOp_on ho' rfl fun K hK=>?_
   have hc0:=kc10 w1 hb
   go_simp
   exact hK _ _ ⟨y0,y1,y2,y3,y4,y5,y6,y7,y8,y9,y10,y11,y12,y13,y14,y15,y16,y17,y18,y19,_,y21,y22,y23,y24,y25,y26,y27,y28,_,_,y31,y32,y33,y34,y35,y36,y37,y38,y39,y40,y41,y42,y43,y44,rfl,hb,h0,h1,h2,h3,h9,h10,h11,h12,h13,h14,h15,h16,h17,h18,h19,fun _=>rfl,h21,h22,h23,h24,h25,h26,h27,h28,fun _=>rfl,fun _=>(by first | rfl | simp),h31,h32,h33,h34,h35,h36,h37,h38,h39,h40,h41,h42,h43,h44⟩
  | 31,_ =>
   have ho':=ho
   simp [opsregGfQ] at ho
   subst ho
   obtain rfl:=h20 (hall ⟨20,.guard⟩ (by simp) rfl)
   refine wpOp_on ho' rfl fun K hK=>?_
   go_simp
   exact hK _ _ ⟨y0,y1,y2,y3,y4,y5,y6,y7,y8,y9,y10,y11,y12,y13,y14,y15,y16,y17,y18,y19,_,y21,y22,y23,y24,y25,y26,y27,y28,y29,y30,_,y32,y33,y34,y35,y36,y37,y38,y39,y40,y41,y42,y43,y44,rfl,hb,h0,h1,h2,h3,h9,h10,h11,h12,h13,h14,h15,h16,h17,h18,h19,fun _=>rfl,h21,h22,h23,h24,h25,h26,h27,h28,h29,h30,fun _=>(by first | rfl | simp),h32,h33,h34,h35,h36,h37,h38,h39,h40,h41,h42,h43,h44⟩
  | 32,_ =>
   have ho':=ho
   simp [opsregGfQ] at ho
   subst ho
   obtain rfl:=h20 (hall ⟨20,.guard⟩ (by simp) rfl)
   obtain rfl:=h31 (hall ⟨31,.data⟩ (by simp) rfl)
   refine wpOp_on ho' rfl fun K hK=>?_
   have hc0:=kc0 w1 hb
   go_simp
   exact hK _ _ ⟨y0,y1,y2,y3,y4,y5,y6,y7,y8,y9,y10,y11,y12,y13,y14,y15,y16,y17,y18,y19,_,y21,y22,y23,y24,y25,y26,y27,y28,y29,y30,_,_,y33,y34,y35,y36,y37,y38,y39,y40,y41,y42,y43,y44,rfl,hb,h0,h1,h2,h3,h9,h10,h11,h12,h13,h14,h15,h16,h17,h18,h19,fun _=>rfl,h21,h22,h23,h24,h25,h26,h27,h28,h29,h30,fun _=>rfl,fun _=>(by first | rfl | simp),h33,h34,h35,h36,h37,h38,h39,h40,h41,h42,h43,h44⟩
  | 33,_ =>
   have ho':=ho
   simp [opsregGfQ] at ho
   subst ho
   obtain rfl:=h20 (hall ⟨20,.guard⟩ (by simp) rfl)
   obtain rfl:=h30 (hall ⟨30,.data⟩ (by simp) rfl)
   obtain rfl:=h32 (hall ⟨32,.data⟩ (by simp) rfl)
   refine wpOp_on ho' rfl fun K hK=>?_
   go_simp
   exact hK _ _ ⟨y0,y1,y2,y3,y4,y5,y6,y7,y8,y9,y10,y11,y12,y13,y14,y15,y16,y17,y18,y19,_,y21,y22,y23,y24,y25,y26,y27,y28,y29,_,y31,_,_,y34,y35,y36,y37,y38,y39,y40,y41,y42,y43,y44,rfl,hb,h0,h1,h2,h3,h9,h10,h11,h12,h13,h14,h15,h16,h17,h18,h19,fun _=>rfl,h21,h22,h23,h24,h25,h26,h27,h28,h29,fun _=>rfl,h31,fun _=>rfl,fun _=>(by first | rfl | simp),h34,h35,h36,h37,h38,h39,h40,h41,h42,h43,h44⟩
  | 34,_ =>
   have ho':=ho
   simp [opsregGfQ] at ho
   subst ho
   obtain rfl:=h20 (hall ⟨20,.guard⟩ (by simp) rfl)
   obtain rfl:=h33 (hall ⟨33,.data⟩ (by simp) rfl)
   refine wpOp_on ho' rfl fun K hK=>?_
   have hc0:=hga w1 hb
   go_simp
   exact hK _ _ ⟨y0,y1,y2,y3,y4,y5,y6,y7,y8,y9,y10,y11,y12,y13,y14,y15,y16,y17,y18,y19,_,y21,y22,y23,y24,y25,y26,y27,y28,y29,y30,y31,y32,_,_,y35,y36,y37,y38,y39,y40,y41,y42,y43,y44,rfl,hb,h0,h1,h2,h3,h9,h10,h11,h12,h13,h14,h15,h16,h17,h18,h19,fun _=>rfl,h21,h22,h23,h24,h25,h26,h27,h28,h29,h30,h31,h32,fun _=>rfl,fun _=>(by first | rfl | simp),h35,h36,h37,h38,h39,h40,h41,h42,h43,h44⟩
  | 35,_ =>
   have ho':=ho
   simp [opsregGfQ] at ho
   subst ho
   obtain rfl:=h20 (hall ⟨20,.guard⟩ (by simp) rfl)
   refine wpOp_on ho' rfl fun K hK=>?_
   go_simp
   exact hK _ _ ⟨y0,y1,y2,y3,y4,y5,y6,y7,y8,y9,y10,y11,y12,y13,y14,y15,y16,y17,y18,y19,_,y21,y22,y23,y24,y25,y26,y27,y28,y29,y30,y31,y32,y33,y34,_,y36,y37,y38,y39,y40,y41,y42,y43,y44,rfl,hb,h0,h1,h2,h3,h9,h10,h11,h12,h13,h14,h15,h16,h17,h18,h19,fun _=>rfl,h21,h22,h23,h24,h25,h26,h27,h28,h29,h30,h31,h32,h33,h34,fun _=>(by first | rfl | simp),h36,h37,h38,h39,h40,h41,h42,h43,h44⟩
  | 36,_ =>
   have ho':=ho
   simp [opsregGfQ] at ho
   subst ho
   obtain rfl:=h20 (hall ⟨20,.guard⟩ (by simp) rfl)
   obtain rfl:=h34 (hall ⟨34,.data⟩ (by simp) rfl)
   obtain rfl:=h35 (hall ⟨35,.data⟩ (by simp) rfl)
   refine wpOp_on ho' rfl fun K hK=>?_
   go_simp
   exact hK _ _ ⟨y0,y1,y2,y3,y4,y5,y6,y7,y8,y9,y10,y11,y12,y13,y14,y15,y16,y17,y18,y19,_,y21,y22,y23,y24,y25,y26,y27,y28,y29,y30,y31,y32,y33,_,_,_,y37,y38,y39,y40,y41,y42,y43,y44,rfl,hb,h0,h1,h2,h3,h9,h10,h11,h12,h13,h14,h15,h16,h17,h18,h19,fun _=>rfl,h21,h22,h23,h24,h25,h26,h27,h28,h29,h30,h31,h32,h33,fun _=>rfl,fun _=>rfl,fun _=>(by first | rfl | simp),h37,h38,h39,h40,h41,h42,h43,h44⟩
  | 37,_ =>
   have ho':=ho
   simp [opsregGfQ] at ho
   subst ho
   obtain rfl:=h20 (hall ⟨20,.guard⟩ (by simp) rfl)
   obtain rfl:=h36 (hall ⟨36,.data⟩ (by simp) rfl)
   refine wpOp_on ho' rfl fun K hK=>?_
   have hc0:=hg w1 hb
   go_simp
   exact hK _ _ ⟨y0,y1,y2,y3,y4,y5,y6,y7,y8,y9,y10,y11,y12,y13,y14,y15,y16,y17,y18,y19,_,y21,y22,y23,y24,y25,y26,y27,y28,y29,y30,y31,y32,y33,y34,y35,_,_,y38,y39,y40,y41,y42,y43,y44,rfl,hb,h0,h1,h2,h3,h9,h10,h11,h12,h13,h14,h15,h16,h17,h18,h19,fun _=>rfl,h21,h22,h23,h24,h25,h26,h27,h28,h29,h30,h31,h32,h33,h34,h35,fun _=>rfl,fun _=>(by first | rfl | simp),h38,h39,h40,h41,h42,h43,h44⟩
  | 38,_ =>
   have ho':=ho
   simp [opsregGfQ] at ho
   subst ho
   obtain rfl:=h20 (hall ⟨20,.guard⟩ (by simp) rfl)
   obtain rfl:=h27 (hall ⟨27,.data⟩ (by simp) rfl)
   obtain rfl:=h37 (hall ⟨37,.data⟩ (by simp) rfl)
   refine wpOp_on ho' rfl fun K hK=>?_
   go_simp
   exact hK _ _ ⟨y0,y1,y2,y3,y4,y5,y6,y7,y8,y9,y10,y11,y12,y13,y14,y15,y16,y17,y18,y19,_,y21,y22,y23,y24,y25,y26,_,y28,y29,y30,y31,y32,y33,y34,y35,y36,_,_,y39,y40,y41,y42,y43,y44,rfl,hb,h0,h1,h2,h3,h9,h10,h11,h12,h13,h14,h15,h16,h17,h18,h19,fun _=>rfl,h21,h22,h23,h24,h25,h26,fun _=>rfl,h28,h29,h30,h31,h32,h33,h34,h35,h36,fun _=>rfl,fun _=>(by first | rfl | simp),h39,h40,h41,h42,h43,h44⟩
  | 39,_ =>
   have ho':=ho
   simp [opsregGfQ] at ho
   subst ho
   obtain rfl:=h20 (hall ⟨20,.guard⟩ (by simp) rfl)
   obtain rfl:=h38 (hall ⟨38,.data⟩ (by simp) rfl)
   refine wpOp_on ho' rfl fun K hK=>?_
   have hc0:=hs0 w1 hb
   have hc1:=hs1 w1 hb
   go_simp
   exact hK _ _ ⟨y0,y1,y2,y3,y4,y5,y6,y7,y8,y9,y10,y11,y12,y13,y14,y15,y16,y17,y18,y19,_,y21,y22,y23,y24,y25,y26,y27,y28,y29,y30,y31,y32,y33,y34,y35,y36,y37,_,_,y40,y41,y42,y43,y44,rfl,hb,h0,h1,h2,h3,h9,h10,h11,h12,h13,h14,h15,h16,h17,h18,h19,fun _=>rfl,h21,h22,h23,h24,h25,h26,h27,h28,h29,h30,h31,h32,h33,h34,h35,h36,h37,fun _=>rfl,fun _=>(by first | rfl | simp),h40,h41,h42,h43,h44⟩
  | 40,_ =>
   have ho':=ho
   simp [opsregGfQ] at ho
   subst ho
   obtain rfl:=h20 (hall ⟨20,.chain⟩ (by simp) rfl)
   obtain rfl:=h39 (hall ⟨39,.data⟩ (by simp) rfl)
   refine wpOp_on ho' rfl fun K hK=>?_
   go_simp
   go_at_call 33
   refine (hc _ hb).mono ?_
   rintro e w2 ⟨rfl,hb2⟩
   exact hK _ _ ⟨y0,y1,y2,y3,y4,y5,y6,y7,y8,y9,y10,y11,y12,y13,y14,y15,y16,y17,y18,y19,_,y21,y22,y23,y24,y25,y26,y27,y28,y29,y30,y31,y32,y33,y34,y35,y36,y37,y38,_,_,y41,y42,y43,y44,rfl,(hb.trans (hb2.mono hb.size)),h0,h1,h2,h3,h9,h10,h11,h12,h13,h14,h15,h16,h17,h18,h19,fun _=>rfl,h21,h22,h23,h24,h25,h26,h27,h28,h29,h30,h31,h32,h33,h34,h35,h36,h37,h38,fun _=>rfl,fun _=>(by first | rfl | simp),h41,h42,h43,h44⟩
  | 41,_ =>
   have ho':=ho
   simp [opsregGfQ] at ho
   subst ho
   obtain rfl:=h20 (hall ⟨20,.guard⟩ (by simp) rfl)
   obtain rfl:=h24 (hall ⟨24,.data⟩ (by simp) rfl)
   obtain rfl:=h40 (hall ⟨40,.data⟩ (by simp) rfl)
   refine wpOp_on ho' rfl fun K hK=>?_
   go_simp
   exact hK _ _ ⟨y0,y1,y2,y3,y4,y5,y6,y7,y8,y9,y10,y11,y12,y13,y14,y15,y16,y17,y18,y19,_,y21,y22,y23,_,y25,y26,y27,y28,y29,y30,y31,y32,y33,y34,y35,y36,y37,y38,y39,_,_,y42,y43,y44,rfl,hb,h0,h1,h2,h3,h9,h10,h11,h12,h13,h14,h15,h16,h17,h18,h19,fun _=>rfl,h21,h22,h23,fun _=>rfl,h25,h26,h27,h28,h29,h30,h31,h32,h33,h34,h35,h36,h37,h38,h39,fun _=>rfl,fun _=>(by first | rfl | simp),h42,h43,h44⟩
  | 42,_ =>
   have ho':=ho
   simp [opsregGfQ] at ho
   subst ho
   obtain rfl:=h14 (hall ⟨14,.guard⟩ (by simp) rfl)
   obtain rfl:=h20 (hall ⟨20,.data⟩ (by simp) rfl)
   obtain rfl:=h41 (hall ⟨41,.data⟩ (by simp) rfl)
   refine wpOp_on ho' rfl fun K hK=>?_
   go_simp
   exact hK _ _ ⟨y0,y1,y2,y3,y4,y5,y6,y7,y8,y9,y10,y11,y12,y13,_,y15,y16,y17,y18,y19,_,y21,y22,y23,y24,y25,y26,y27,y28,y29,y30,y31,y32,y33,y34,y35,y36,y37,y38,y39,y40,_,_,y43,y44,rfl,hb,h0,h1,h2,h3,h9,h10,h11,h12,h13,fun _=>rfl,h15,h16,h17,h18,h19,fun _=>rfl,h21,h22,h23,h24,h25,h26,h27,h28,h29,h30,h31,h32,h33,h34,h35,h36,h37,h38,h39,h40,fun _=>rfl,fun _=>(by first | rfl | simp),h43,h44⟩
  | 43,_ =>
   have ho':=ho
   simp [opsregGfQ] at ho
   subst ho
   obtain rfl:=h10 (hall ⟨10,.guard⟩ (by simp) rfl)
   obtain rfl:=h14 (hall ⟨14,.data⟩ (by simp) rfl)
   obtain rfl:=h42 (hall ⟨42,.data⟩ (by simp) rfl)
   refine wpOp_on ho' rfl fun K hK=>?_
   go_simp
   exact hK _ _ ⟨y0,y1,y2,y3,y4,y5,y6,y7,y8,y9,_,y11,y12,y13,_,y15,y16,y17,y18,y19,y20,y21,y22,y23,y24,y25,y26,y27,y28,y29,y30,y31,y32,y33,y34,y35,y36,y37,y38,y39,y40,y41,_,_,y44,rfl,hb,h0,h1,h2,h3,h9,fun _=>rfl,h11,h12,h13,fun _=>rfl,h15,h16,h17,h18,h19,h20,h21,h22,h23,h24,h25,h26,h27,h28,h29,h30,h31,h32,h33,h34,h35,h36,h37,h38,h39,h40,h41,fun _=>rfl,fun _=>(by first | rfl | simp),h44⟩
  | 44,_ =>
   have ho':=ho
   simp [opsregGfQ] at ho
   subst ho
   obtain rfl:=h10 (hall ⟨10,.data⟩ (by simp) rfl)
   obtain rfl:=h43 (hall ⟨43,.data⟩ (by simp) rfl)
   refine wpOp_one ho' rfl fun K hK=>?_
   go_simp
   exact hK _ _ ⟨y0,y1,y2,y3,y4,y5,y6,y7,y8,y9,_,y11,y12,y13,y14,y15,y16,y17,y18,y19,y20,y21,y22,y23,y24,y25,y26,y27,y28,y29,y30,y31,y32,y33,y34,y35,y36,y37,y38,y39,y40,y41,y42,_,_,rfl,hb,h0,h1,h2,h3,h9,fun _=>rfl,h11,h12,h13,h14,h15,h16,h17,h18,h19,h20,h21,h22,h23,h24,h25,h26,h27,h28,h29,h30,h31,h32,h33,h34,h35,h36,h37,h38,h39,h40,h41,h42,fun _=>rfl,fun _=>(by first | rfl | simp)⟩
  | k+45,hi=>omega
end Go.Proofs.YtglohpgoohlopaaGreatDoor
