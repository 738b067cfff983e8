/- A drawn region of the walk of MovesAll: whether a move is among the edges, and whether it is behind the one before it.
   Conditions: the cells that it loads lie in memory; the contracts of what it calls. -/
import Derived.Test.YtjcfmbmepmlckaaDoorOrder
import Derived.Test.YtjcfmbmepmlckaaDoorRows
import Derived.WalkKit
import Derived.KernelRfl

/- An operation whose guard is false passes.
   No conditions. -/

namespace Go.Proofs.YtjcfmbmepmlckaaDoor
open Go.RowKit
theorem wpOq_off {P:Program} {ops:Array Oper} {Q:Exit→Act→World→Prop} {i:Nat} {o:Oper} {I:Act→World→Prop} {a:Act} {w:World} (hi:ops[i]? = some o) (hg:Region.wanted o (yielded ops a.tmps)=false)
  (h:I (a.put o.dst undef) w):wpOp P ops Q i I a w:=by
 unfold wpOp
 simp only [hi]
 rw [if_neg (by simp [hg])]
 exact h
end Go.Proofs.YtjcfmbmepmlckaaDoor

/- A drawn region of the walk of MovesAll: whether a move is among the edges, and whether it is behind the one before it.
   Conditions: the cells that it loads lie in memory; the contracts of what it calls. -/
namespace Go.Proofs.YtjcfmbmepmlckaaDoor
open Go.RowKit
abbrev opsregRa0:Array Oper:=#[{ dst:=some 60,op:=Op.move (Operand.tmp 7),type:=46,pos := "law.go:68",after:=#[],guard:=none },
 { dst:=some 61,op:=Op.move (Operand.tmp 8),type:=3,pos := "law.go:68",after:=#[],guard:=none },
 { dst:=some 62,op:=Op.fieldAddr 43 (Operand.tmp 5) 2,type:=0,pos := "law.go:68",after:=#[],guard:=none },
 { dst:=some 63,op:=Op.load 40 (Operand.tmp 62),type:=40,pos := "law.go:68",after:=#[{ on:=2,ground:=Ground.data }],guard:=none },
 { dst:=some 64,op:=Op.move (Operand.tmp 8),type:=3,pos := "law.go:68",after:=#[],guard:=none },
 { dst:=some 65,op:=Op.indexAddr 40 (Operand.tmp 63) (Operand.tmp 64),type:=0,pos := "law.go:68",after:=#[{ on:=3,ground:=Ground.data },{ on:=4,ground:=Ground.data }],guard:=none },
 { dst:=some 66,op:=Op.load 48 (Operand.tmp 65),type:=48,pos := "law.go:68",after:=#[{ on:=5,ground:=Ground.data }],guard:=none },
 { dst:=some 67,op:=Op.move (Operand.tmp 9),type:=3,pos := "law.go:68",after:=#[],guard:=none },
 { dst:=some 68,op:=Op.indexAddr 48 (Operand.tmp 66) (Operand.tmp 67),type:=0,pos := "law.go:68",after:=#[{ on:=6,ground:=Ground.data },{ on:=7,ground:=Ground.data }],guard:=none },
 { dst:=some 69,op:=Op.load 51 (Operand.tmp 68),type:=51,pos := "law.go:68",after:=#[{ on:=8,ground:=Ground.data }],guard:=none },
 { dst:=some 70,op:=Op.call { callee:=Callee.value (Operand.func 10),args:=#[Operand.tmp 60,Operand.tmp 61,Operand.tmp 69],argTypes:=#[46,3,51] },type:=4,pos := "law.go:68",after:=#[{ on:=0,ground:=Ground.data },{ on:=1,ground:=Ground.data },{ on:=9,ground:=Ground.data }],guard:=none },
 { dst:=some 71,op:=Op.unOp UnOp.not 4 (Operand.tmp 70),type:=4,pos := "law.go:68",after:=#[{ on:=10,ground:=Ground.data }],guard:=none },
 { dst:=some 72,op:=Op.move (Operand.tmp 71),type:=4,pos := "law.go:68",after:=#[{ on:=11,ground:=Ground.data },{ on:=10,ground:=Ground.chain }],guard:=none },
 { dst:=some 73,op:=Op.move (Operand.tmp 9),type:=3,pos := "law.go:68",after:=#[{ on:=12,ground:=Ground.guard }],guard:=some (12,false) },
 { dst:=some 74,op:=Op.binOp BinOp.gtr 3 (Operand.tmp 73) (Operand.const (Value.int IntKind.i64 0)) 3,type:=4,pos := "law.go:68",after:=#[{ on:=13,ground:=Ground.data },{ on:=12,ground:=Ground.guard }],guard:=some (12,false) },
 { dst:=some 75,op:=Op.move (Operand.tmp 74),type:=4,pos := "law.go:68",after:=#[{ on:=14,ground:=Ground.data },{ on:=12,ground:=Ground.chain },{ on:=12,ground:=Ground.guard }],guard:=some (12,false) },
 { dst:=some 76,op:=Op.fieldAddr 43 (Operand.tmp 5) 2,type:=0,pos := "law.go:68",after:=#[{ on:=15,ground:=Ground.guard }],guard:=some (15,true) },
 { dst:=some 77,op:=Op.load 40 (Operand.tmp 76),type:=40,pos := "law.go:68",after:=#[{ on:=16,ground:=Ground.data },{ on:=15,ground:=Ground.guard }],guard:=some (15,true) },
 { dst:=some 78,op:=Op.move (Operand.tmp 8),type:=3,pos := "law.go:68",after:=#[{ on:=15,ground:=Ground.guard }],guard:=some (15,true) },
 { dst:=some 79,op:=Op.indexAddr 40 (Operand.tmp 77) (Operand.tmp 78),type:=0,pos := "law.go:68",after:=#[{ on:=17,ground:=Ground.data },{ on:=18,ground:=Ground.data },{ on:=15,ground:=Ground.guard }],guard:=some (15,true) },
 { dst:=some 80,op:=Op.load 48 (Operand.tmp 79),type:=48,pos := "law.go:68",after:=#[{ on:=19,ground:=Ground.data },{ on:=15,ground:=Ground.guard }],guard:=some (15,true) },
 { dst:=some 81,op:=Op.move (Operand.tmp 9),type:=3,pos := "law.go:68",after:=#[{ on:=15,ground:=Ground.guard }],guard:=some (15,true) },
 { dst:=some 82,op:=Op.binOp BinOp.sub 3 (Operand.tmp 81) (Operand.const (Value.int IntKind.i64 1)) 3,type:=3,pos := "law.go:68",after:=#[{ on:=21,ground:=Ground.data },{ on:=15,ground:=Ground.guard }],guard:=some (15,true) },
 { dst:=some 83,op:=Op.indexAddr 48 (Operand.tmp 80) (Operand.tmp 82),type:=0,pos := "law.go:68",after:=#[{ on:=20,ground:=Ground.data },{ on:=22,ground:=Ground.data },{ on:=15,ground:=Ground.guard }],guard:=some (15,true) },
 { dst:=some 84,op:=Op.load 51 (Operand.tmp 83),type:=51,pos := "law.go:68",after:=#[{ on:=23,ground:=Ground.data },{ on:=15,ground:=Ground.guard }],guard:=some (15,true) },
 { dst:=some 85,op:=Op.fieldAddr 43 (Operand.tmp 5) 2,type:=0,pos := "law.go:68",after:=#[{ on:=15,ground:=Ground.guard }],guard:=some (15,true) },
 { dst:=some 86,op:=Op.load 40 (Operand.tmp 85),type:=40,pos := "law.go:68",after:=#[{ on:=25,ground:=Ground.data },{ on:=15,ground:=Ground.guard }],guard:=some (15,true) },
 { dst:=some 87,op:=Op.move (Operand.tmp 8),type:=3,pos := "law.go:68",after:=#[{ on:=15,ground:=Ground.guard }],guard:=some (15,true) },
 { dst:=some 88,op:=Op.indexAddr 40 (Operand.tmp 86) (Operand.tmp 87),type:=0,pos := "law.go:68",after:=#[{ on:=26,ground:=Ground.data },{ on:=27,ground:=Ground.data },{ on:=15,ground:=Ground.guard }],guard:=some (15,true) },
 { dst:=some 89,op:=Op.load 48 (Operand.tmp 88),type:=48,pos := "law.go:68",after:=#[{ on:=28,ground:=Ground.data },{ on:=15,ground:=Ground.guard }],guard:=some (15,true) },
 { dst:=some 90,op:=Op.move (Operand.tmp 9),type:=3,pos := "law.go:68",after:=#[{ on:=15,ground:=Ground.guard }],guard:=some (15,true) },
 { dst:=some 91,op:=Op.indexAddr 48 (Operand.tmp 89) (Operand.tmp 90),type:=0,pos := "law.go:68",after:=#[{ on:=29,ground:=Ground.data },{ on:=30,ground:=Ground.data },{ on:=15,ground:=Ground.guard }],guard:=some (15,true) },
 { dst:=some 92,op:=Op.load 51 (Operand.tmp 91),type:=51,pos := "law.go:68",after:=#[{ on:=31,ground:=Ground.data },{ on:=15,ground:=Ground.guard }],guard:=some (15,true) },
 { dst:=some 93,op:=Op.call { callee:=Callee.value (Operand.func 11),args:=#[Operand.tmp 84,Operand.tmp 92],argTypes:=#[51,51] },type:=4,pos := "law.go:68",after:=#[{ on:=24,ground:=Ground.data },{ on:=32,ground:=Ground.data },{ on:=15,ground:=Ground.chain },{ on:=15,ground:=Ground.guard }],guard:=some (15,true) },
 { dst:=some 94,op:=Op.unOp UnOp.not 4 (Operand.tmp 93),type:=4,pos := "law.go:68",after:=#[{ on:=33,ground:=Ground.data },{ on:=15,ground:=Ground.guard }],guard:=some (15,true) },
 { dst:=some 95,op:=Op.pick (Operand.tmp 75) (Operand.tmp 94) (Operand.const (Value.bool false)),type:=4,pos := "law.go:68",after:=#[{ on:=15,ground:=Ground.data },{ on:=34,ground:=Ground.data },{ on:=12,ground:=Ground.guard }],guard:=some (12,false) },
 { dst:=some 96,op:=Op.pick (Operand.tmp 72) (Operand.const (Value.bool true)) (Operand.tmp 95),type:=4,pos := "law.go:68",after:=#[{ on:=12,ground:=Ground.data },{ on:=35,ground:=Ground.data }],guard:=none }]
def WregRa0 (ab lb g sN ln c p ix en eC:Nat) (eA:Option Addr) (xt xk:Int) (xa:Bool) (D:List Deferred) (v0 v1 v2 v3 v4 v6 v10 v11 v12 v13 v14 v15 v16 v17 v18 v19 v20 v21 v22 v23 v24 v25 v26 v27 v28 v29 v30 v31 v32 v33 v34 v35 v36 v37 v38 v39 v40 v41 v42 v43 v44 v45 v46 v47 v48 v49 v50 v51 v52 v53 v54 v55 v56 v57 v58 v59 v97 v98 v99 v100 v101 v102 v103 v104 v105 v106 v107 v108 v109 v110 v111 v112 v113 v114 v115 v116 v117 v118 v119 v120 v121 v122 v123 v124 v125 v126 v127 v128 v129 v130 v131 v132 v133 v134 v135 v136 v137 v138 v139 v140 v141 v142 v143 v144 v145 v146 v147 v148 v149 v150:Value) (w0:World) (l:Nat→Bool) (a:Act) (w:World):Prop :=
 ∃ (y0 y1 y2 y3 y4 y5 y6 y7 y8 y9 y10 y11 y12 y13 y14 y15 y16 y17 y18 y19 y20 y21 y22 y23 y24 y25 y26 y27 y28 y29 y30 y31 y32 y33 y34 y35 y36:Value),a = { tmps:=#[v0,v1,v2,v3,v4,.pointer (some ⟨ab,0,none⟩),v6,.slice eA en eC,.int .i64 (p:Int),.int .i64 (ix:Int),v10,v11,v12,v13,v14,v15,v16,v17,v18,v19,v20,v21,v22,v23,v24,v25,v26,v27,v28,v29,v30,v31,v32,v33,v34,v35,v36,v37,v38,v39,v40,v41,v42,v43,v44,v45,v46,v47,v48,v49,v50,v51,v52,v53,v54,v55,v56,v57,v58,v59,y0,y1,y2,y3,y4,y5,y6,y7,y8,y9,y10,y11,y12,y13,y14,y15,y16,y17,y18,y19,y20,y21,y22,y23,y24,y25,y26,y27,y28,y29,y30,y31,y32,y33,y34,y35,y36,v97,v98,v99,v100,v101,v102,v103,v104,v105,v106,v107,v108,v109,v110,v111,v112,v113,v114,v115,v116,v117,v118,v119,v120,v121,v122,v123,v124,v125,v126,v127,v128,v129,v130,v131,v132,v133,v134,v135,v136,v137,v138,v139,v140,v141,v142,v143,v144,v145,v146,v147,v148,v149,v150],defers:=D }∧Below w0.heap.size w0 w ∧
  (l 0=true→y0=.slice eA en eC)∧(l 1=true→y1=.int .i64 (p:Int))∧(l 2=true→y2=.pointer (some ⟨ab,12,none⟩))∧(l 3=true→y3=.slice (some ⟨lb,0,none⟩) sN sN)∧(l 4=true→y4=.int .i64 (p:Int))∧(l 5=true→y5=.pointer (some ⟨lb,p,none⟩))∧(l 6=true→y6=.slice (some ⟨g,0,none⟩) ln c)∧(l 7=true→y7=.int .i64 (ix:Int))∧(l 8=true→y8=.pointer (some ⟨g,ix * 3,none⟩))∧(l 9=true→y9=.agg #[.int .i64 xt,.int .i64 xk,.bool xa])∧(l 10=true→y10=.bool true)∧(l 11=true→y11=.bool false)∧(l 12=true→y12=.bool false)∧(l 13=true→y13=.int .i64 (ix:Int))∧(l 14=true→y14=.bool false)∧(l 15=true→y15=.bool false)∧(l 35=true→y35=.bool false)∧(l 36=true→y36=.bool false)
set_option maxHeartbeats 8000000 in
set_option maxRecDepth 100000 in
theorem regRa0 (ab lb g sN ln c p ix en eC:Nat) (eA:Option Addr) (xt xk:Int) (xa:Bool) (D:List Deferred) (v0 v1 v2 v3 v4 v6 v10 v11 v12 v13 v14 v15 v16 v17 v18 v19 v20 v21 v22 v23 v24 v25 v26 v27 v28 v29 v30 v31 v32 v33 v34 v35 v36 v37 v38 v39 v40 v41 v42 v43 v44 v45 v46 v47 v48 v49 v50 v51 v52 v53 v54 v55 v56 v57 v58 v59 v97 v98 v99 v100 v101 v102 v103 v104 v105 v106 v107 v108 v109 v110 v111 v112 v113 v114 v115 v116 v117 v118 v119 v120 v121 v122 v123 v124 v125 v126 v127 v128 v129 v130 v131 v132 v133 v134 v135 v136 v137 v138 v139 v140 v141 v142 v143 v144 v145 v146 v147 v148 v149 v150 wy0 wy1 wy2 wy3 wy4 wy5 wy6 wy7 wy8 wy9 wy10 wy11 wy12 wy13 wy14 wy15 wy16 wy17 wy18 wy19 wy20 wy21 wy22 wy23 wy24 wy25 wy26 wy27 wy28 wy29 wy30 wy31 wy32 wy33 wy34 wy35 wy36:Value) (w:World) (hlm:(∀ w',Below w.heap.size w w'→w'.cell? ⟨ab,12,none⟩=some (.slice (some ⟨lb,0,none⟩) sN sN))) (hr:(∀ w',Below w.heap.size w w'→w'.cell? ⟨lb,p,none⟩=some (.slice (some ⟨g,0,none⟩) ln c))) (hx0:(∀ w',Below w.heap.size w w'→w'.cell? ⟨g,ix * 3,none⟩=some (.int .i64 xt))) (hx1:(∀ w',Below w.heap.size w w'→w'.cell? ⟨g,ix * 3+1,none⟩=some (.int .i64 xk))) (hx2:(∀ w',Below w.heap.size w w'→w'.cell? ⟨g,ix * 3+2,none⟩=some (.bool xa))) (hc1:(∀ w',Below w.heap.size w w'→Calls Tryd.prog 10 #[.slice eA en eC,.int .i64 (p:Int),.agg #[.int .i64 xt,.int .i64 xk,.bool xa]] w' fun e w2=>e=.returned (.bool true)∧Below w'.heap.size w' w2)) (e1:(p:Int)<(sN:Int)) (e2:(0:Int)≤(p:Int)) (t1:((p:Int)).toNat=p) (e3:(ix:Int)<(ln:Int)) (e4:(0:Int)≤(ix:Int)) (t2:((ix:Int)).toNat=ix) (e5:¬ 0<ix) (Q:Exit→Act→World→Prop)
  (hQ:∀ (y0 y1 y2 y3 y4 y5 y6 y7 y8 y9 y10 y11 y12 y13 y14 y15 y16 y17 y18 y19 y20 y21 y22 y23 y24 y25 y26 y27 y28 y29 y30 y31 y32 y33 y34 y35:Value) (w':World),Below w.heap.size w w'→Q .normal { tmps:=#[v0,v1,v2,v3,v4,.pointer (some ⟨ab,0,none⟩),v6,.slice eA en eC,.int .i64 (p:Int),.int .i64 (ix:Int),v10,v11,v12,v13,v14,v15,v16,v17,v18,v19,v20,v21,v22,v23,v24,v25,v26,v27,v28,v29,v30,v31,v32,v33,v34,v35,v36,v37,v38,v39,v40,v41,v42,v43,v44,v45,v46,v47,v48,v49,v50,v51,v52,v53,v54,v55,v56,v57,v58,v59,y0,y1,y2,y3,y4,y5,y6,y7,y8,y9,y10,y11,y12,y13,y14,y15,y16,y17,y18,y19,y20,y21,y22,y23,y24,y25,y26,y27,y28,y29,y30,y31,y32,y33,y34,y35,.bool false,v97,v98,v99,v100,v101,v102,v103,v104,v105,v106,v107,v108,v109,v110,v111,v112,v113,v114,v115,v116,v117,v118,v119,v120,v121,v122,v123,v124,v125,v126,v127,v128,v129,v130,v131,v132,v133,v134,v135,v136,v137,v138,v139,v140,v141,v142,v143,v144,v145,v146,v147,v148,v149,v150],defers:=D } w') :
  (Code.region 16 opsregRa0 true).wp Tryd.prog Q { tmps:=#[v0,v1,v2,v3,v4,.pointer (some ⟨ab,0,none⟩),v6,.slice eA en eC,.int .i64 (p:Int),.int .i64 (ix:Int),v10,v11,v12,v13,v14,v15,v16,v17,v18,v19,v20,v21,v22,v23,v24,v25,v26,v27,v28,v29,v30,v31,v32,v33,v34,v35,v36,v37,v38,v39,v40,v41,v42,v43,v44,v45,v46,v47,v48,v49,v50,v51,v52,v53,v54,v55,v56,v57,v58,v59,wy0,wy1,wy2,wy3,wy4,wy5,wy6,wy7,wy8,wy9,wy10,wy11,wy12,wy13,wy14,wy15,wy16,wy17,wy18,wy19,wy20,wy21,wy22,wy23,wy24,wy25,wy26,wy27,wy28,wy29,wy30,wy31,wy32,wy33,wy34,wy35,wy36,v97,v98,v99,v100,v101,v102,v103,v104,v105,v106,v107,v108,v109,v110,v111,v112,v113,v114,v115,v116,v117,v118,v119,v120,v121,v122,v123,v124,v125,v126,v127,v128,v129,v130,v131,v132,v133,v134,v135,v136,v137,v138,v139,v140,v141,v142,v143,v144,v145,v146,v147,v148,v149,v150],defers:=D } w:=by
 refine wp_region_inv (by kernel_rfl) (WregRa0 ab lb g sN ln c p ix en eC eA xt xk xa D v0 v1 v2 v3 v4 v6 v10 v11 v12 v13 v14 v15 v16 v17 v18 v19 v20 v21 v22 v23 v24 v25 v26 v27 v28 v29 v30 v31 v32 v33 v34 v35 v36 v37 v38 v39 v40 v41 v42 v43 v44 v45 v46 v47 v48 v49 v50 v51 v52 v53 v54 v55 v56 v57 v58 v59 v97 v98 v99 v100 v101 v102 v103 v104 v105 v106 v107 v108 v109 v110 v111 v112 v113 v114 v115 v116 v117 v118 v119 v120 v121 v122 v123 v124 v125 v126 v127 v128 v129 v130 v131 v132 v133 v134 v135 v136 v137 v138 v139 v140 v141 v142 v143 v144 v145 v146 v147 v148 v149 v150 w) ?hacy ?h0 ?hstep ?hdone
 case hacy=>kernel_rfl
 case h0=>exact ⟨wy0,wy1,wy2,wy3,wy4,wy5,wy6,wy7,wy8,wy9,wy10,wy11,wy12,wy13,wy14,wy15,wy16,wy17,wy18,wy19,wy20,wy21,wy22,wy23,wy24,wy25,wy26,wy27,wy28,wy29,wy30,wy31,wy32,wy33,wy34,wy35,wy36,rfl,below_drewN (Below.refl _ _) 1,(fun p=>by cases p),(fun p=>by cases p),(fun p=>by cases p),(fun p=>by cases p),(fun p=>by cases p),(fun p=>by cases p),(fun p=>by cases p),(fun p=>by cases p),(fun p=>by cases p),(fun p=>by cases p),(fun p=>by cases p),(fun p=>by cases p),(fun p=>by cases p),(fun p=>by cases p),(fun p=>by cases p),(fun p=>by cases p),(fun p=>by cases p),(fun p=>by cases p)⟩
 case hdone =>
  intro l a w1 hI hall
  obtain ⟨y0,y1,y2,y3,y4,y5,y6,y7,y8,y9,y10,y11,y12,y13,y14,y15,y16,y17,y18,y19,y20,y21,y22,y23,y24,y25,y26,y27,y28,y29,y30,y31,y32,y33,y34,y35,y36,rfl,hb,h0,h1,h2,h3,h4,h5,h6,h7,h8,h9,h10,h11,h12,h13,h14,h15,h35,h36⟩:=hI
  obtain rfl:=h36 (hall 36 (by decide))
  exact hQ _ _ _ _ _ _ _ _ _ _ _ _ _ _ _ _ _ _ _ _ _ _ _ _ _ _ _ _ _ _ _ _ _ _ _ _ _ hb
 case hstep =>
  intro l a w1 i o hI ho hl hall
  obtain ⟨y0,y1,y2,y3,y4,y5,y6,y7,y8,y9,y10,y11,y12,y13,y14,y15,y16,y17,y18,y19,y20,y21,y22,y23,y24,y25,y26,y27,y28,y29,y30,y31,y32,y33,y34,y35,y36,rfl,hb,h0,h1,h2,h3,h4,h5,h6,h7,h8,h9,h10,h11,h12,h13,h14,h15,h35,h36⟩:=hI
  have hi:i<37:=(Array.getElem?_eq_some_iff.1 ho).1
  match i,hi with
  | 0,_ =>
   have ho':=ho
   simp [opsregRa0] at ho
   subst ho
   refine wpOp_one ho' rfl fun K hK=>?_
   go_simp
   refine hK _ _ ?_
   iterate 37 apply Exists.intro
   refine ⟨rfl,hb,?_⟩
   repeat' apply And.intro
   all_goals first | assumption | exact fun _=>rfl | exact fun _=>(by first | rfl | simp)
  | 1,_ =>
   have ho':=ho
   simp [opsregRa0] at ho
   subst ho
   refine wpOp_one ho' rfl fun K hK=>?_
   go_simp
   refine hK _ _ ?_
   iterate 37 apply Exists.intro
   refine ⟨rfl,hb,?_⟩
   repeat' apply And.intro
   all_goals first | assumption | exact fun _=>rfl | exact fun _=>(by first | rfl | simp)
  | 2,_ =>
   have ho':=ho
   simp [opsregRa0] at ho
   subst ho
   refine wpOp_one ho' rfl fun K hK=>?_
   go_simp
   refine hK _ _ ?_
   iterate 37 apply Exists.intro
   refine ⟨rfl,hb,?_⟩
   repeat' apply And.intro
   all_goals first | assumption | exact fun _=>rfl | exact fun _=>(by first | rfl | simp)
  | 3,_ =>
   have ho':=ho
   simp [opsregRa0] at ho
   subst ho
   obtain rfl:=h2 (hall ⟨2,.data⟩ (by simp) rfl)
   refine wpOp_one ho' rfl fun K hK=>?_
   have hc0:=hlm w1 hb
   go_simp
   refine hK _ _ ?_
   iterate 37 apply Exists.intro
   refine ⟨rfl,hb,?_⟩
   repeat' apply And.intro
   all_goals first | assumption | exact fun _=>rfl | exact fun _=>(by first | rfl | simp)
  | 4,_ =>
   have ho':=ho
   simp [opsregRa0] at ho
   subst ho
   refine wpOp_one ho' rfl fun K hK=>?_
   go_simp
   refine hK _ _ ?_
   iterate 37 apply Exists.intro
   refine ⟨rfl,hb,?_⟩
   repeat' apply And.intro
   all_goals first | assumption | exact fun _=>rfl | exact fun _=>(by first | rfl | simp)
  | 5,_ =>
   have ho':=ho
   simp [opsregRa0] at ho
   subst ho
   obtain rfl:=h3 (hall ⟨3,.data⟩ (by simp) rfl)
   obtain rfl:=h4 (hall ⟨4,.data⟩ (by simp) rfl)
   refine wpOp_one ho' rfl fun K hK=>?_
   go_simp
   refine hK _ _ ?_
   iterate 37 apply Exists.intro
   refine ⟨rfl,hb,?_⟩
   repeat' apply And.intro
   all_goals first | assumption | exact fun _=>rfl | exact fun _=>(by first | rfl | simp)
  | 6,_ =>
   have ho':=ho
   simp [opsregRa0] at ho
   subst ho
   obtain rfl:=h5 (hall ⟨5,.data⟩ (by simp) rfl)
   refine wpOp_one ho' rfl fun K hK=>?_
   have hc0:=hr w1 hb
   go_simp
   refine hK _ _ ?_
   iterate 37 apply Exists.intro
   refine ⟨rfl,hb,?_⟩
   repeat' apply And.intro
   all_goals first | assumption | exact fun _=>rfl | exact fun _=>(by first | rfl | simp)
  | 7,_ =>
   have ho':=ho
   simp [opsregRa0] at ho
   subst ho
   refine wpOp_one ho' rfl fun K hK=>?_
   go_simp
   refine hK _ _ ?_
   iterate 37 apply Exists.intro
   refine ⟨rfl,hb,?_⟩
   repeat' apply And.intro
   all_goals first | assumption | exact fun _=>rfl | exact fun _=>(by first | rfl | simp)
  | 8,_ =>
   have ho':=ho
   simp [opsregRa0] at ho
   subst ho
   obtain rfl:=h6 (hall ⟨6,.data⟩ (by simp) rfl)
   obtain rfl:=h7 (hall ⟨7,.data⟩ (by simp) rfl)
   refine wpOp_one ho' rfl fun K hK=>?_
   go_simp
   refine hK _ _ ?_
   iterate 37 apply Exists.intro
   refine ⟨rfl,hb,?_⟩
   repeat' apply And.intro
   all_goals first | assumption | exact fun _=>rfl | exact fun _=>(by first | rfl | simp)
  | 9,_ =>
   have ho':=ho
   simp [opsregRa0] at ho
   subst ho
   obtain rfl:=h8 (hall ⟨8,.data⟩ (by simp) rfl)
   refine wpOp_one ho' rfl fun K hK=>?_
   have hc0:=hx0 w1 hb
   have hc1:=hx1 w1 hb
   have hc2:=hx2 w1 hb
   go_simp
   refine hK _ _ ?_
   iterate 37 apply Exists.intro
   refine ⟨rfl,hb,?_⟩
   repeat' apply And.intro
   all_goals first | assumption | exact fun _=>rfl | exact fun _=>(by first | rfl | simp)
  | 10,_ =>
   have ho':=ho
   simp [opsregRa0] at ho
   subst ho
   obtain rfl:=h0 (hall ⟨0,.data⟩ (by simp) rfl)
   obtain rfl:=h1 (hall ⟨1,.data⟩ (by simp) rfl)
   obtain rfl:=h9 (hall ⟨9,.data⟩ (by simp) rfl)
   refine wpOp_one ho' rfl fun K hK=>?_
   go_simp
   go_at_call 10
   refine (hc1 _ hb).mono ?_
   rintro e w2 ⟨rfl,hb2⟩
   refine hK _ _ ?_
   iterate 37 apply Exists.intro
   refine ⟨rfl,(hb.trans (hb2.mono hb.size)),?_⟩
   repeat' apply And.intro
   all_goals first | assumption | exact fun _=>rfl | exact fun _=>(by first | rfl | simp)
  | 11,_ =>
   have ho':=ho
   simp [opsregRa0] at ho
   subst ho
   obtain rfl:=h10 (hall ⟨10,.data⟩ (by simp) rfl)
   refine wpOp_one ho' rfl fun K hK=>?_
   go_simp
   refine hK _ _ ?_
   iterate 37 apply Exists.intro
   refine ⟨rfl,hb,?_⟩
   repeat' apply And.intro
   all_goals first | assumption | exact fun _=>rfl | exact fun _=>(by first | rfl | simp)
  | 12,_ =>
   have ho':=ho
   simp [opsregRa0] at ho
   subst ho
   obtain rfl:=h11 (hall ⟨11,.data⟩ (by simp) rfl)
   refine wpOp_one ho' rfl fun K hK=>?_
   go_simp
   refine hK _ _ ?_
   iterate 37 apply Exists.intro
   refine ⟨rfl,hb,?_⟩
   repeat' apply And.intro
   all_goals first | assumption | exact fun _=>rfl | exact fun _=>(by first | rfl | simp)
  | 13,_ =>
   have ho':=ho
   simp [opsregRa0] at ho
   subst ho
   obtain rfl:=h12 (hall ⟨12,.guard⟩ (by simp) rfl)
   refine wpOp_on ho' rfl fun K hK=>?_
   go_simp
   refine hK _ _ ?_
   iterate 37 apply Exists.intro
   refine ⟨rfl,hb,?_⟩
   repeat' apply And.intro
   all_goals first | assumption | exact fun _=>rfl | exact fun _=>(by first | rfl | simp)
  | 14,_ =>
   have ho':=ho
   simp [opsregRa0] at ho
   subst ho
   obtain rfl:=h12 (hall ⟨12,.guard⟩ (by simp) rfl)
   obtain rfl:=h13 (hall ⟨13,.data⟩ (by simp) rfl)
   refine wpOp_on ho' rfl fun K hK=>?_
   go_simp
   refine hK _ _ ?_
   iterate 37 apply Exists.intro
   refine ⟨rfl,hb,?_⟩
   repeat' apply And.intro
   all_goals first | assumption | exact fun _=>rfl | exact fun _=>(by first | rfl | simp [e5])
  | 15,_ =>
   have ho':=ho
   simp [opsregRa0] at ho
   subst ho
   obtain rfl:=h12 (hall ⟨12,.chain⟩ (by simp) rfl)
   obtain rfl:=h14 (hall ⟨14,.data⟩ (by simp) rfl)
   refine wpOp_on ho' rfl fun K hK=>?_
   go_simp
   refine hK _ _ ?_
   iterate 37 apply Exists.intro
   refine ⟨rfl,hb,?_⟩
   repeat' apply And.intro
   all_goals first | assumption | exact fun _=>rfl | exact fun _=>(by first | rfl | simp)
  | 16,_ =>
   have ho':=ho
   simp [opsregRa0] at ho
   subst ho
   obtain rfl:=h15 (hall ⟨15,.guard⟩ (by simp) rfl)
   refine wpOq_off ho' rfl ?_
   iterate 37 apply Exists.intro
   refine ⟨rfl,hb,?_⟩
   repeat' apply And.intro
   all_goals first | assumption | exact fun _=>rfl
  | 17,_ =>
   have ho':=ho
   simp [opsregRa0] at ho
   subst ho
   obtain rfl:=h15 (hall ⟨15,.guard⟩ (by simp) rfl)
   refine wpOq_off ho' rfl ?_
   iterate 37 apply Exists.intro
   refine ⟨rfl,hb,?_⟩
   repeat' apply And.intro
   all_goals first | assumption | exact fun _=>rfl
  | 18,_ =>
   have ho':=ho
   simp [opsregRa0] at ho
   subst ho
   obtain rfl:=h15 (hall ⟨15,.guard⟩ (by simp) rfl)
   refine wpOq_off ho' rfl ?_
   iterate 37 apply Exists.intro
   refine ⟨rfl,hb,?_⟩
   repeat' apply And.intro
   all_goals first | assumption | exact fun _=>rfl
  | 19,_ =>
   have ho':=ho
   simp [opsregRa0] at ho
   subst ho
   obtain rfl:=h15 (hall ⟨15,.guard⟩ (by simp) rfl)
   refine wpOq_off ho' rfl ?_
   iterate 37 apply Exists.intro
   refine ⟨rfl,hb,?_⟩
   repeat' apply And.intro
   all_goals first | assumption | exact fun _=>rfl
  | 20,_ =>
   have ho':=ho
   simp [opsregRa0] at ho
   subst ho
   obtain rfl:=h15 (hall ⟨15,.guard⟩ (by simp) rfl)
   refine wpOq_off ho' rfl ?_
   iterate 37 apply Exists.intro
   refine ⟨rfl,hb,?_⟩
   repeat' apply And.intro
   all_goals first | assumption | exact fun _=>rfl
  | 21,_ =>
   have ho':=ho
   simp [opsregRa0] at ho
   subst ho
   obtain rfl:=h15 (hall ⟨15,.guard⟩ (by simp) rfl)
   refine wpOq_off ho' rfl ?_
   iterate 37 apply Exists.intro
   refine ⟨rfl,hb,?_⟩
   repeat' apply And.intro
   all_goals first | assumption | exact fun _=>rfl
  | 22,_ =>
   have ho':=ho
   simp [opsregRa0] at ho
   subst ho
   obtain rfl:=h15 (hall ⟨15,.guard⟩ (by simp) rfl)
   refine wpOq_off ho' rfl ?_
   iterate 37 apply Exists.intro
   refine ⟨rfl,hb,?_⟩
   repeat' apply And.intro
   all_goals first | assumption | exact fun _=>rfl
  | 23,_ =>
   have ho':=ho
   simp [opsregRa0] at ho
   subst ho
   obtain rfl:=h15 (hall ⟨15,.guard⟩ (by simp) rfl)
   refine wpOq_off ho' rfl ?_
   iterate 37 apply Exists.intro
   refine ⟨rfl,hb,?_⟩
   repeat' apply And.intro
   all_goals first | assumption | exact fun _=>rfl
  | 24,_ =>
   have ho':=ho
   simp [opsregRa0] at ho
   subst ho
   obtain rfl:=h15 (hall ⟨15,.guard⟩ (by simp) rfl)
   refine wpOq_off ho' rfl ?_
   iterate 37 apply Exists.intro
   refine ⟨rfl,hb,?_⟩
   repeat' apply And.intro
   all_goals first | assumption | exact fun _=>rfl
  | 25,_ =>
   have ho':=ho
   simp [opsregRa0] at ho
   subst ho
   obtain rfl:=h15 (hall ⟨15,.guard⟩ (by simp) rfl)
   refine wpOq_off ho' rfl ?_
   iterate 37 apply Exists.intro
   refine ⟨rfl,hb,?_⟩
   repeat' apply And.intro
   all_goals first | assumption | exact fun _=>rfl
  | 26,_ =>
   have ho':=ho
   simp [opsregRa0] at ho
   subst ho
   obtain rfl:=h15 (hall ⟨15,.guard⟩ (by simp) rfl)
   refine wpOq_off ho' rfl ?_
   iterate 37 apply Exists.intro
   refine ⟨rfl,hb,?_⟩
   repeat' apply And.intro
   all_goals first | assumption | exact fun _=>rfl
  | 27,_ =>
   have ho':=ho
   simp [opsregRa0] at ho
   subst ho
   obtain rfl:=h15 (hall ⟨15,.guard⟩ (by simp) rfl)
   refine wpOq_off ho' rfl ?_
   iterate 37 apply Exists.intro
   refine ⟨rfl,hb,?_⟩
   repeat' apply And.intro
   all_goals first | assumption | exact fun _=>rfl
  | 28,_ =>
   have ho':=ho
   simp [opsregRa0] at ho
   subst ho
   obtain rfl:=h15 (hall ⟨15,.guard⟩ (by simp) rfl)
   refine wpOq_off ho' rfl ?_
   iterate 37 apply Exists.intro
   refine ⟨rfl,hb,?_⟩
   repeat' apply And.intro
   all_goals first | assumption | exact fun _=>rfl
  | 29,_ =>
   have ho':=ho
   simp [opsregRa0] at ho
   subst ho
   obtain rfl:=h15 (hall ⟨15,.guard⟩ (by simp) rfl)
   refine wpOq_off ho' rfl ?_
   iterate 37 apply Exists.intro
   refine ⟨rfl,hb,?_⟩
   repeat' apply And.intro
   all_goals first | assumption | exact fun _=>rfl
  | 30,_ =>
   have ho':=ho
   simp [opsregRa0] at ho
   subst ho
   obtain rfl:=h15 (hall ⟨15,.guard⟩ (by simp) rfl)
   refine wpOq_off ho' rfl ?_
   iterate 37 apply Exists.intro
   refine ⟨rfl,hb,?_⟩
   repeat' apply And.intro
   all_goals first | assumption | exact fun _=>rfl
  | 31,_ =>
   have ho':=ho
   simp [opsregRa0] at ho
   subst ho
   obtain rfl:=h15 (hall ⟨15,.guard⟩ (by simp) rfl)
   refine wpOq_off ho' rfl ?_
   iterate 37 apply Exists.intro
   refine ⟨rfl,hb,?_⟩
   repeat' apply And.intro
   all_goals first | assumption | exact fun _=>rfl
  | 32,_ =>
   have ho':=ho
   simp [opsregRa0] at ho
   subst ho
   obtain rfl:=h15 (hall ⟨15,.guard⟩ (by simp) rfl)
   refine wpOq_off ho' rfl ?_
   iterate 37 apply Exists.intro
   refine ⟨rfl,hb,?_⟩
   repeat' apply And.intro
   all_goals first | assumption | exact fun _=>rfl
  | 33,_ =>
   have ho':=ho
   simp [opsregRa0] at ho
   subst ho
   obtain rfl:=h15 (hall ⟨15,.chain⟩ (by simp) rfl)
   refine wpOq_off ho' rfl ?_
   iterate 37 apply Exists.intro
   refine ⟨rfl,hb,?_⟩
   repeat' apply And.intro
   all_goals first | assumption | exact fun _=>rfl
  | 34,_ =>
   have ho':=ho
   simp [opsregRa0] at ho
   subst ho
   obtain rfl:=h15 (hall ⟨15,.guard⟩ (by simp) rfl)
   refine wpOq_off ho' rfl ?_
   iterate 37 apply Exists.intro
   refine ⟨rfl,hb,?_⟩
   repeat' apply And.intro
   all_goals first | assumption | exact fun _=>rfl
  | 35,_ =>
   have ho':=ho
   simp [opsregRa0] at ho
   subst ho
   obtain rfl:=h12 (hall ⟨12,.guard⟩ (by simp) rfl)
   obtain rfl:=h15 (hall ⟨15,.data⟩ (by simp) rfl)
   refine wpOp_on ho' rfl fun K hK=>?_
   go_simp
   refine hK _ _ ?_
   iterate 37 apply Exists.intro
   refine ⟨rfl,hb,?_⟩
   repeat' apply And.intro
   all_goals first | assumption | exact fun _=>rfl | exact fun _=>(by first | rfl | simp)
  | 36,_ =>
   have ho':=ho
   simp [opsregRa0] at ho
   subst ho
   obtain rfl:=h12 (hall ⟨12,.data⟩ (by simp) rfl)
   obtain rfl:=h35 (hall ⟨35,.data⟩ (by simp) rfl)
   refine wpOp_one ho' rfl fun K hK=>?_
   go_simp
   refine hK _ _ ?_
   iterate 37 apply Exists.intro
   refine ⟨rfl,hb,?_⟩
   repeat' apply And.intro
   all_goals first | assumption | exact fun _=>rfl | exact fun _=>(by first | rfl | simp)
  | k+37,hi=>omega
def WregRa1 (ab lb g sN ln c p ix en eC:Nat) (eA:Option Addr) (xt xk:Int) (xa:Bool) (jx:Nat) (yt yk:Int) (ya:Bool) (D:List Deferred) (v0 v1 v2 v3 v4 v6 v10 v11 v12 v13 v14 v15 v16 v17 v18 v19 v20 v21 v22 v23 v24 v25 v26 v27 v28 v29 v30 v31 v32 v33 v34 v35 v36 v37 v38 v39 v40 v41 v42 v43 v44 v45 v46 v47 v48 v49 v50 v51 v52 v53 v54 v55 v56 v57 v58 v59 v97 v98 v99 v100 v101 v102 v103 v104 v105 v106 v107 v108 v109 v110 v111 v112 v113 v114 v115 v116 v117 v118 v119 v120 v121 v122 v123 v124 v125 v126 v127 v128 v129 v130 v131 v132 v133 v134 v135 v136 v137 v138 v139 v140 v141 v142 v143 v144 v145 v146 v147 v148 v149 v150:Value) (w0:World) (l:Nat→Bool) (a:Act) (w:World):Prop :=
 ∃ (y0 y1 y2 y3 y4 y5 y6 y7 y8 y9 y10 y11 y12 y13 y14 y15 y16 y17 y18 y19 y20 y21 y22 y23 y24 y25 y26 y27 y28 y29 y30 y31 y32 y33 y34 y35 y36:Value),a = { tmps:=#[v0,v1,v2,v3,v4,.pointer (some ⟨ab,0,none⟩),v6,.slice eA en eC,.int .i64 (p:Int),.int .i64 (ix:Int),v10,v11,v12,v13,v14,v15,v16,v17,v18,v19,v20,v21,v22,v23,v24,v25,v26,v27,v28,v29,v30,v31,v32,v33,v34,v35,v36,v37,v38,v39,v40,v41,v42,v43,v44,v45,v46,v47,v48,v49,v50,v51,v52,v53,v54,v55,v56,v57,v58,v59,y0,y1,y2,y3,y4,y5,y6,y7,y8,y9,y10,y11,y12,y13,y14,y15,y16,y17,y18,y19,y20,y21,y22,y23,y24,y25,y26,y27,y28,y29,y30,y31,y32,y33,y34,y35,y36,v97,v98,v99,v100,v101,v102,v103,v104,v105,v106,v107,v108,v109,v110,v111,v112,v113,v114,v115,v116,v117,v118,v119,v120,v121,v122,v123,v124,v125,v126,v127,v128,v129,v130,v131,v132,v133,v134,v135,v136,v137,v138,v139,v140,v141,v142,v143,v144,v145,v146,v147,v148,v149,v150],defers:=D }∧Below w0.heap.size w0 w ∧
  (l 0=true→y0=.slice eA en eC)∧(l 1=true→y1=.int .i64 (p:Int))∧(l 2=true→y2=.pointer (some ⟨ab,12,none⟩))∧(l 3=true→y3=.slice (some ⟨lb,0,none⟩) sN sN)∧(l 4=true→y4=.int .i64 (p:Int))∧(l 5=true→y5=.pointer (some ⟨lb,p,none⟩))∧(l 6=true→y6=.slice (some ⟨g,0,none⟩) ln c)∧(l 7=true→y7=.int .i64 (ix:Int))∧(l 8=true→y8=.pointer (some ⟨g,ix * 3,none⟩))∧(l 9=true→y9=.agg #[.int .i64 xt,.int .i64 xk,.bool xa])∧(l 10=true→y10=.bool true)∧(l 11=true→y11=.bool false)∧(l 12=true→y12=.bool false)∧(l 13=true→y13=.int .i64 (ix:Int))∧(l 14=true→y14=.bool true)∧(l 15=true→y15=.bool true)∧(l 16=true→y16=.pointer (some ⟨ab,12,none⟩))∧(l 17=true→y17=.slice (some ⟨lb,0,none⟩) sN sN)∧(l 18=true→y18=.int .i64 (p:Int))∧(l 19=true→y19=.pointer (some ⟨lb,p,none⟩))∧(l 20=true→y20=.slice (some ⟨g,0,none⟩) ln c)∧(l 21=true→y21=.int .i64 (ix:Int))∧(l 22=true→y22=.int .i64 (jx:Int))∧(l 23=true→y23=.pointer (some ⟨g,jx * 3,none⟩))∧(l 24=true→y24=.agg #[.int .i64 yt,.int .i64 yk,.bool ya])∧(l 25=true→y25=.pointer (some ⟨ab,12,none⟩))∧(l 26=true→y26=.slice (some ⟨lb,0,none⟩) sN sN)∧(l 27=true→y27=.int .i64 (p:Int))∧(l 28=true→y28=.pointer (some ⟨lb,p,none⟩))∧(l 29=true→y29=.slice (some ⟨g,0,none⟩) ln c)∧(l 30=true→y30=.int .i64 (ix:Int))∧(l 31=true→y31=.pointer (some ⟨g,ix * 3,none⟩))∧(l 32=true→y32=.agg #[.int .i64 xt,.int .i64 xk,.bool xa])∧(l 33=true→y33=.bool true)∧(l 34=true→y34=.bool false)∧(l 35=true→y35=.bool false)∧(l 36=true→y36=.bool false)
set_option maxHeartbeats 8000000 in
set_option maxRecDepth 100000 in
theorem regRa1 (ab lb g sN ln c p ix en eC:Nat) (eA:Option Addr) (xt xk:Int) (xa:Bool) (jx:Nat) (yt yk:Int) (ya:Bool) (D:List Deferred) (v0 v1 v2 v3 v4 v6 v10 v11 v12 v13 v14 v15 v16 v17 v18 v19 v20 v21 v22 v23 v24 v25 v26 v27 v28 v29 v30 v31 v32 v33 v34 v35 v36 v37 v38 v39 v40 v41 v42 v43 v44 v45 v46 v47 v48 v49 v50 v51 v52 v53 v54 v55 v56 v57 v58 v59 v97 v98 v99 v100 v101 v102 v103 v104 v105 v106 v107 v108 v109 v110 v111 v112 v113 v114 v115 v116 v117 v118 v119 v120 v121 v122 v123 v124 v125 v126 v127 v128 v129 v130 v131 v132 v133 v134 v135 v136 v137 v138 v139 v140 v141 v142 v143 v144 v145 v146 v147 v148 v149 v150 wy0 wy1 wy2 wy3 wy4 wy5 wy6 wy7 wy8 wy9 wy10 wy11 wy12 wy13 wy14 wy15 wy16 wy17 wy18 wy19 wy20 wy21 wy22 wy23 wy24 wy25 wy26 wy27 wy28 wy29 wy30 wy31 wy32 wy33 wy34 wy35 wy36:Value) (w:World) (hlm:(∀ w',Below w.heap.size w w'→w'.cell? ⟨ab,12,none⟩=some (.slice (some ⟨lb,0,none⟩) sN sN))) (hr:(∀ w',Below w.heap.size w w'→w'.cell? ⟨lb,p,none⟩=some (.slice (some ⟨g,0,none⟩) ln c))) (hx0:(∀ w',Below w.heap.size w w'→w'.cell? ⟨g,ix * 3,none⟩=some (.int .i64 xt))) (hx1:(∀ w',Below w.heap.size w w'→w'.cell? ⟨g,ix * 3+1,none⟩=some (.int .i64 xk))) (hx2:(∀ w',Below w.heap.size w w'→w'.cell? ⟨g,ix * 3+2,none⟩=some (.bool xa))) (hc1:(∀ w',Below w.heap.size w w'→Calls Tryd.prog 10 #[.slice eA en eC,.int .i64 (p:Int),.agg #[.int .i64 xt,.int .i64 xk,.bool xa]] w' fun e w2=>e=.returned (.bool true)∧Below w'.heap.size w' w2)) (e1:(p:Int)<(sN:Int)) (e2:(0:Int)≤(p:Int)) (t1:((p:Int)).toNat=p) (e3:(ix:Int)<(ln:Int)) (e4:(0:Int)≤(ix:Int)) (t2:((ix:Int)).toNat=ix) (hy0:(∀ w',Below w.heap.size w w'→w'.cell? ⟨g,jx * 3,none⟩=some (.int .i64 yt))) (hy1:(∀ w',Below w.heap.size w w'→w'.cell? ⟨g,jx * 3+1,none⟩=some (.int .i64 yk))) (hy2:(∀ w',Below w.heap.size w w'→w'.cell? ⟨g,jx * 3+2,none⟩=some (.bool ya))) (hc2:(∀ w',Below w.heap.size w w'→Calls Tryd.prog 11 #[.agg #[.int .i64 yt,.int .i64 yk,.bool ya],.agg #[.int .i64 xt,.int .i64 xk,.bool xa]] w' fun e w2=>e=.returned (.bool true)∧Below w'.heap.size w' w2)) (e5:0<ix) (e6:(ix:Int) - 1=(jx:Int)) (e7:(jx:Int)<(ln:Int)) (e8:(0:Int)≤(jx:Int)) (t3:((jx:Int)).toNat=jx) (e9:IntKind.i64.wrap ((jx:Int))=(jx:Int)) (Q:Exit→Act→World→Prop)
  (hQ:∀ (y0 y1 y2 y3 y4 y5 y6 y7 y8 y9 y10 y11 y12 y13 y14 y15 y16 y17 y18 y19 y20 y21 y22 y23 y24 y25 y26 y27 y28 y29 y30 y31 y32 y33 y34 y35:Value) (w':World),Below w.heap.size w w'→Q .normal { tmps:=#[v0,v1,v2,v3,v4,.pointer (some ⟨ab,0,none⟩),v6,.slice eA en eC,.int .i64 (p:Int),.int .i64 (ix:Int),v10,v11,v12,v13,v14,v15,v16,v17,v18,v19,v20,v21,v22,v23,v24,v25,v26,v27,v28,v29,v30,v31,v32,v33,v34,v35,v36,v37,v38,v39,v40,v41,v42,v43,v44,v45,v46,v47,v48,v49,v50,v51,v52,v53,v54,v55,v56,v57,v58,v59,y0,y1,y2,y3,y4,y5,y6,y7,y8,y9,y10,y11,y12,y13,y14,y15,y16,y17,y18,y19,y20,y21,y22,y23,y24,y25,y26,y27,y28,y29,y30,y31,y32,y33,y34,y35,.bool false,v97,v98,v99,v100,v101,v102,v103,v104,v105,v106,v107,v108,v109,v110,v111,v112,v113,v114,v115,v116,v117,v118,v119,v120,v121,v122,v123,v124,v125,v126,v127,v128,v129,v130,v131,v132,v133,v134,v135,v136,v137,v138,v139,v140,v141,v142,v143,v144,v145,v146,v147,v148,v149,v150],defers:=D } w') :
  (Code.region 16 opsregRa0 true).wp Tryd.prog Q { tmps:=#[v0,v1,v2,v3,v4,.pointer (some ⟨ab,0,none⟩),v6,.slice eA en eC,.int .i64 (p:Int),.int .i64 (ix:Int),v10,v11,v12,v13,v14,v15,v16,v17,v18,v19,v20,v21,v22,v23,v24,v25,v26,v27,v28,v29,v30,v31,v32,v33,v34,v35,v36,v37,v38,v39,v40,v41,v42,v43,v44,v45,v46,v47,v48,v49,v50,v51,v52,v53,v54,v55,v56,v57,v58,v59,wy0,wy1,wy2,wy3,wy4,wy5,wy6,wy7,wy8,wy9,wy10,wy11,wy12,wy13,wy14,wy15,wy16,wy17,wy18,wy19,wy20,wy21,wy22,wy23,wy24,wy25,wy26,wy27,wy28,wy29,wy30,wy31,wy32,wy33,wy34,wy35,wy36,v97,v98,v99,v100,v101,v102,v103,v104,v105,v106,v107,v108,v109,v110,v111,v112,v113,v114,v115,v116,v117,v118,v119,v120,v121,v122,v123,v124,v125,v126,v127,v128,v129,v130,v131,v132,v133,v134,v135,v136,v137,v138,v139,v140,v141,v142,v143,v144,v145,v146,v147,v148,v149,v150],defers:=D } w:=by
 refine wp_region_inv (by kernel_rfl) (WregRa1 ab lb g sN ln c p ix en eC eA xt xk xa jx yt yk ya D v0 v1 v2 v3 v4 v6 v10 v11 v12 v13 v14 v15 v16 v17 v18 v19 v20 v21 v22 v23 v24 v25 v26 v27 v28 v29 v30 v31 v32 v33 v34 v35 v36 v37 v38 v39 v40 v41 v42 v43 v44 v45 v46 v47 v48 v49 v50 v51 v52 v53 v54 v55 v56 v57 v58 v59 v97 v98 v99 v100 v101 v102 v103 v104 v105 v106 v107 v108 v109 v110 v111 v112 v113 v114 v115 v116 v117 v118 v119 v120 v121 v122 v123 v124 v125 v126 v127 v128 v129 v130 v131 v132 v133 v134 v135 v136 v137 v138 v139 v140 v141 v142 v143 v144 v145 v146 v147 v148 v149 v150 w) ?hacy ?h0 ?hstep ?hdone
 case hacy=>kernel_rfl
 case h0=>exact ⟨wy0,wy1,wy2,wy3,wy4,wy5,wy6,wy7,wy8,wy9,wy10,wy11,wy12,wy13,wy14,wy15,wy16,wy17,wy18,wy19,wy20,wy21,wy22,wy23,wy24,wy25,wy26,wy27,wy28,wy29,wy30,wy31,wy32,wy33,wy34,wy35,wy36,rfl,below_drewN (Below.refl _ _) 1,(fun p=>by cases p),(fun p=>by cases p),(fun p=>by cases p),(fun p=>by cases p),(fun p=>by cases p),(fun p=>by cases p),(fun p=>by cases p),(fun p=>by cases p),(fun p=>by cases p),(fun p=>by cases p),(fun p=>by cases p),(fun p=>by cases p),(fun p=>by cases p),(fun p=>by cases p),(fun p=>by cases p),(fun p=>by cases p),(fun p=>by cases p),(fun p=>by cases p),(fun p=>by cases p),(fun p=>by cases p),(fun p=>by cases p),(fun p=>by cases p),(fun p=>by cases p),(fun p=>by cases p),(fun p=>by cases p),(fun p=>by cases p),(fun p=>by cases p),(fun p=>by cases p),(fun p=>by cases p),(fun p=>by cases p),(fun p=>by cases p),(fun p=>by cases p),(fun p=>by cases p),(fun p=>by cases p),(fun p=>by cases p),(fun p=>by cases p),(fun p=>by cases p)⟩
 case hdone =>
  intro l a w1 hI hall
  obtain ⟨y0,y1,y2,y3,y4,y5,y6,y7,y8,y9,y10,y11,y12,y13,y14,y15,y16,y17,y18,y19,y20,y21,y22,y23,y24,y25,y26,y27,y28,y29,y30,y31,y32,y33,y34,y35,y36,rfl,hb,h0,h1,h2,h3,h4,h5,h6,h7,h8,h9,h10,h11,h12,h13,h14,h15,h16,h17,h18,h19,h20,h21,h22,h23,h24,h25,h26,h27,h28,h29,h30,h31,h32,h33,h34,h35,h36⟩:=hI
  obtain rfl:=h36 (hall 36 (by decide))
  exact hQ _ _ _ _ _ _ _ _ _ _ _ _ _ _ _ _ _ _ _ _ _ _ _ _ _ _ _ _ _ _ _ _ _ _ _ _ _ hb
 case hstep =>
  intro l a w1 i o hI ho hl hall
  obtain ⟨y0,y1,y2,y3,y4,y5,y6,y7,y8,y9,y10,y11,y12,y13,y14,y15,y16,y17,y18,y19,y20,y21,y22,y23,y24,y25,y26,y27,y28,y29,y30,y31,y32,y33,y34,y35,y36,rfl,hb,h0,h1,h2,h3,h4,h5,h6,h7,h8,h9,h10,h11,h12,h13,h14,h15,h16,h17,h18,h19,h20,h21,h22,h23,h24,h25,h26,h27,h28,h29,h30,h31,h32,h33,h34,h35,h36⟩:=hI
  have hi:i<37:=(Array.getElem?_eq_some_iff.1 ho).1
  match i,hi with
  | 0,_ =>
   have ho':=ho
   simp [opsregRa0] at ho
   subst ho
   refine wpOp_one ho' rfl fun K hK=>?_
   go_simp
   refine hK _ _ ?_
   iterate 37 apply Exists.intro
   refine ⟨rfl,hb,?_⟩
   repeat' apply And.intro
   all_goals first | assumption | exact fun _=>rfl | exact fun _=>(by first | rfl | simp)
  | 1,_ =>
   have ho':=ho
   simp [opsregRa0] at ho
   subst ho
   refine wpOp_one ho' rfl fun K hK=>?_
   go_simp
   refine hK _ _ ?_
   iterate 37 apply Exists.intro
   refine ⟨rfl,hb,?_⟩
   repeat' apply And.intro
   all_goals first | assumption | exact fun _=>rfl | exact fun _=>(by first | rfl | simp)
  | 2,_ =>
   have ho':=ho
   simp [opsregRa0] at ho
   subst ho
   refine wpOp_one ho' rfl fun K hK=>?_
   go_simp
   refine hK _ _ ?_
   iterate 37 apply Exists.intro
   refine ⟨rfl,hb,?_⟩
   repeat' apply And.intro
   all_goals first | assumption | exact fun _=>rfl | exact fun _=>(by first | rfl | simp)
  | 3,_ =>
   have ho':=ho
   simp [opsregRa0] at ho
   subst ho
   obtain rfl:=h2 (hall ⟨2,.data⟩ (by simp) rfl)
   refine wpOp_one ho' rfl fun K hK=>?_
   have hc0:=hlm w1 hb
   go_simp
   refine hK _ _ ?_
   iterate 37 apply Exists.intro
   refine ⟨rfl,hb,?_⟩
   repeat' apply And.intro
   all_goals first | assumption | exact fun _=>rfl | exact fun _=>(by first | rfl | simp)
  | 4,_ =>
   have ho':=ho
   simp [opsregRa0] at ho
   subst ho
   refine wpOp_one ho' rfl fun K hK=>?_
   go_simp
   refine hK _ _ ?_
   iterate 37 apply Exists.intro
   refine ⟨rfl,hb,?_⟩
   repeat' apply And.intro
   all_goals first | assumption | exact fun _=>rfl | exact fun _=>(by first | rfl | simp)
  | 5,_ =>
   have ho':=ho
   simp [opsregRa0] at ho
   subst ho
   obtain rfl:=h3 (hall ⟨3,.data⟩ (by simp) rfl)
   obtain rfl:=h4 (hall ⟨4,.data⟩ (by simp) rfl)
   refine wpOp_one ho' rfl fun K hK=>?_
   go_simp
   refine hK _ _ ?_
   iterate 37 apply Exists.intro
   refine ⟨rfl,hb,?_⟩
   repeat' apply And.intro
   all_goals first | assumption | exact fun _=>rfl | exact fun _=>(by first | rfl | simp)
  | 6,_ =>
   have ho':=ho
   simp [opsregRa0] at ho
   subst ho
   obtain rfl:=h5 (hall ⟨5,.data⟩ (by simp) rfl)
   refine wpOp_one ho' rfl fun K hK=>?_
   have hc0:=hr w1 hb
   go_simp
   refine hK _ _ ?_
   iterate 37 apply Exists.intro
   refine ⟨rfl,hb,?_⟩
   repeat' apply And.intro
   all_goals first | assumption | exact fun _=>rfl | exact fun _=>(by first | rfl | simp)
  | 7,_ =>
   have ho':=ho
   simp [opsregRa0] at ho
   subst ho
   refine wpOp_one ho' rfl fun K hK=>?_
   go_simp
   refine hK _ _ ?_
   iterate 37 apply Exists.intro
   refine ⟨rfl,hb,?_⟩
   repeat' apply And.intro
   all_goals first | assumption | exact fun _=>rfl | exact fun _=>(by first | rfl | simp)
  | 8,_ =>
   have ho':=ho
   simp [opsregRa0] at ho
   subst ho
   obtain rfl:=h6 (hall ⟨6,.data⟩ (by simp) rfl)
   obtain rfl:=h7 (hall ⟨7,.data⟩ (by simp) rfl)
   refine wpOp_one ho' rfl fun K hK=>?_
   go_simp
   refine hK _ _ ?_
   iterate 37 apply Exists.intro
   refine ⟨rfl,hb,?_⟩
   repeat' apply And.intro
   all_goals first | assumption | exact fun _=>rfl | exact fun _=>(by first | rfl | simp)
  | 9,_ =>
   have ho':=ho
   simp [opsregRa0] at ho
   subst ho
   obtain rfl:=h8 (hall ⟨8,.data⟩ (by simp) rfl)
   refine wpOp_one ho' rfl fun K hK=>?_
   have hc0:=hx0 w1 hb
   have hc1:=hx1 w1 hb
   have hc2:=hx2 w1 hb
   go_simp
   refine hK _ _ ?_
   iterate 37 apply Exists.intro
   refine ⟨rfl,hb,?_⟩
   repeat' apply And.intro
   all_goals first | assumption | exact fun _=>rfl | exact fun _=>(by first | rfl | simp)
  | 10,_ =>
   have ho':=ho
   simp [opsregRa0] at ho
   subst ho
   obtain rfl:=h0 (hall ⟨0,.data⟩ (by simp) rfl)
   obtain rfl:=h1 (hall ⟨1,.data⟩ (by simp) rfl)
   obtain rfl:=h9 (hall ⟨9,.data⟩ (by simp) rfl)
   refine wpOp_one ho' rfl fun K hK=>?_
   go_simp
   go_at_call 10
   refine (hc1 _ hb).mono ?_
   rintro e w2 ⟨rfl,hb2⟩
   refine hK _ _ ?_
   iterate 37 apply Exists.intro
   refine ⟨rfl,(hb.trans (hb2.mono hb.size)),?_⟩
   repeat' apply And.intro
   all_goals first | assumption | exact fun _=>rfl | exact fun _=>(by first | rfl | simp)
  | 11,_ =>
   have ho':=ho
   simp [opsregRa0] at ho
   subst ho
   obtain rfl:=h10 (hall ⟨10,.data⟩ (by simp) rfl)
   refine wpOp_one ho' rfl fun K hK=>?_
   go_simp
   refine hK _ _ ?_
   iterate 37 apply Exists.intro
   refine ⟨rfl,hb,?_⟩
   repeat' apply And.intro
   all_goals first | assumption | exact fun _=>rfl | exact fun _=>(by first | rfl | simp)
  | 12,_ =>
   have ho':=ho
   simp [opsregRa0] at ho
   subst ho
   obtain rfl:=h11 (hall ⟨11,.data⟩ (by simp) rfl)
   refine wpOp_one ho' rfl fun K hK=>?_
   go_simp
   refine hK _ _ ?_
   iterate 37 apply Exists.intro
   refine ⟨rfl,hb,?_⟩
   repeat' apply And.intro
   all_goals first | assumption | exact fun _=>rfl | exact fun _=>(by first | rfl | simp)
  | 13,_ =>
   have ho':=ho
   simp [opsregRa0] at ho
   subst ho
   obtain rfl:=h12 (hall ⟨12,.guard⟩ (by simp) rfl)
   refine wpOp_on ho' rfl fun K hK=>?_
   go_simp
   refine hK _ _ ?_
   iterate 37 apply Exists.intro
   refine ⟨rfl,hb,?_⟩
   repeat' apply And.intro
   all_goals first | assumption | exact fun _=>rfl | exact fun _=>(by first | rfl | simp)
  | 14,_ =>
   have ho':=ho
   simp [opsregRa0] at ho
   subst ho
   obtain rfl:=h12 (hall ⟨12,.guard⟩ (by simp) rfl)
   obtain rfl:=h13 (hall ⟨13,.data⟩ (by simp) rfl)
   refine wpOp_on ho' rfl fun K hK=>?_
   go_simp
   refine hK _ _ ?_
   iterate 37 apply Exists.intro
   refine ⟨rfl,hb,?_⟩
   repeat' apply And.intro
   all_goals first | assumption | exact fun _=>rfl | exact fun _=>(by first | rfl | simp [e5])
  | 15,_ =>
   have ho':=ho
   simp [opsregRa0] at ho
   subst ho
   obtain rfl:=h12 (hall ⟨12,.chain⟩ (by simp) rfl)
   obtain rfl:=h14 (hall ⟨14,.data⟩ (by simp) rfl)
   refine wpOp_on ho' rfl fun K hK=>?_
   go_simp
   refine hK _ _ ?_
   iterate 37 apply Exists.intro
   refine ⟨rfl,hb,?_⟩
   repeat' apply And.intro
   all_goals first | assumption | exact fun _=>rfl | exact fun _=>(by first | rfl | simp)
  | 16,_ =>
   have ho':=ho
   simp [opsregRa0] at ho
   subst ho
   obtain rfl:=h15 (hall ⟨15,.guard⟩ (by simp) rfl)
   refine wpOp_on ho' rfl fun K hK=>?_
   go_simp
   refine hK _ _ ?_
   iterate 37 apply Exists.intro
   refine ⟨rfl,hb,?_⟩
   repeat' apply And.intro
   all_goals first | assumption | exact fun _=>rfl | exact fun _=>(by first | rfl | simp)
  | 17,_ =>
   have ho':=ho
   simp [opsregRa0] at ho
   subst ho
   obtain rfl:=h15 (hall ⟨15,.guard⟩ (by simp) rfl)
   obtain rfl:=h16 (hall ⟨16,.data⟩ (by simp) rfl)
   refine wpOp_on ho' rfl fun K hK=>?_
   have hc0:=hlm w1 hb
   go_simp
   refine hK _ _ ?_
   iterate 37 apply Exists.intro
   refine ⟨rfl,hb,?_⟩
   repeat' apply And.intro
   all_goals first | assumption | exact fun _=>rfl | exact fun _=>(by first | rfl | simp)
  | 18,_ =>
   have ho':=ho
   simp [opsregRa0] at ho
   subst ho
   obtain rfl:=h15 (hall ⟨15,.guard⟩ (by simp) rfl)
   refine wpOp_on ho' rfl fun K hK=>?_
   go_simp
   refine hK _ _ ?_
   iterate 37 apply Exists.intro
   refine ⟨rfl,hb,?_⟩
   repeat' apply And.intro
   all_goals first | assumption | exact fun _=>rfl | exact fun _=>(by first | rfl | simp)
  | 19,_ =>
   have ho':=ho
   simp [opsregRa0] at ho
   subst ho
   obtain rfl:=h15 (hall ⟨15,.guard⟩ (by simp) rfl)
   obtain rfl:=h17 (hall ⟨17,.data⟩ (by simp) rfl)
   obtain rfl:=h18 (hall ⟨18,.data⟩ (by simp) rfl)
   refine wpOp_on ho' rfl fun K hK=>?_
   go_simp
   refine hK _ _ ?_
   iterate 37 apply Exists.intro
   refine ⟨rfl,hb,?_⟩
   repeat' apply And.intro
   all_goals first | assumption | exact fun _=>rfl | exact fun _=>(by first | rfl | simp)
  | 20,_ =>
   have ho':=ho
   simp [opsregRa0] at ho
   subst ho
   obtain rfl:=h15 (hall ⟨15,.guard⟩ (by simp) rfl)
   obtain rfl:=h19 (hall ⟨19,.data⟩ (by simp) rfl)
   refine wpOp_on ho' rfl fun K hK=>?_
   have hc0:=hr w1 hb
   go_simp
   refine hK _ _ ?_
   iterate 37 apply Exists.intro
   refine ⟨rfl,hb,?_⟩
   repeat' apply And.intro
   all_goals first | assumption | exact fun _=>rfl | exact fun _=>(by first | rfl | simp)
  | 21,_ =>
   have ho':=ho
   simp [opsregRa0] at ho
   subst ho
   obtain rfl:=h15 (hall ⟨15,.guard⟩ (by simp) rfl)
   refine wpOp_on ho' rfl fun K hK=>?_
   go_simp
   refine hK _ _ ?_
   iterate 37 apply Exists.intro
   refine ⟨rfl,hb,?_⟩
   repeat' apply And.intro
   all_goals first | assumption | exact fun _=>rfl | exact fun _=>(by first | rfl | simp)
  | 22,_ =>
   have ho':=ho
   simp [opsregRa0] at ho
   subst ho
   obtain rfl:=h15 (hall ⟨15,.guard⟩ (by simp) rfl)
   obtain rfl:=h21 (hall ⟨21,.data⟩ (by simp) rfl)
   refine wpOp_on ho' rfl fun K hK=>?_
   go_simp
   refine hK _ _ ?_
   iterate 37 apply Exists.intro
   refine ⟨rfl,hb,?_⟩
   repeat' apply And.intro
   all_goals first | assumption | exact fun _=>rfl | exact fun _=>(by first | rfl | simp)
  | 23,_ =>
   have ho':=ho
   simp [opsregRa0] at ho
   subst ho
   obtain rfl:=h15 (hall ⟨15,.guard⟩ (by simp) rfl)
   obtain rfl:=h20 (hall ⟨20,.data⟩ (by simp) rfl)
   obtain rfl:=h22 (hall ⟨22,.data⟩ (by simp) rfl)
   refine wpOp_on ho' rfl fun K hK=>?_
   go_simp
   refine hK _ _ ?_
   iterate 37 apply Exists.intro
   refine ⟨rfl,hb,?_⟩
   repeat' apply And.intro
   all_goals first | assumption | exact fun _=>rfl | exact fun _=>(by first | rfl | simp)
  | 24,_ =>
   have ho':=ho
   simp [opsregRa0] at ho
   subst ho
   obtain rfl:=h15 (hall ⟨15,.guard⟩ (by simp) rfl)
   obtain rfl:=h23 (hall ⟨23,.data⟩ (by simp) rfl)
   refine wpOp_on ho' rfl fun K hK=>?_
   have hc0:=hy0 w1 hb
   have hc1:=hy1 w1 hb
   have hc2:=hy2 w1 hb
   go_simp
   refine hK _ _ ?_
   iterate 37 apply Exists.intro
   refine ⟨rfl,hb,?_⟩
   repeat' apply And.intro
   all_goals first | assumption | exact fun _=>rfl | exact fun _=>(by first | rfl | simp)
  | 25,_ =>
   have ho':=ho
   simp [opsregRa0] at ho
   subst ho
   obtain rfl:=h15 (hall ⟨15,.guard⟩ (by simp) rfl)
   refine wpOp_on ho' rfl fun K hK=>?_
   go_simp
   refine hK _ _ ?_
   iterate 37 apply Exists.intro
   refine ⟨rfl,hb,?_⟩
   repeat' apply And.intro
   all_goals first | assumption | exact fun _=>rfl | exact fun _=>(by first | rfl | simp)
  | 26,_ =>
   have ho':=ho
   simp [opsregRa0] at ho
   subst ho
   obtain rfl:=h15 (hall ⟨15,.guard⟩ (by simp) rfl)
   obtain rfl:=h25 (hall ⟨25,.data⟩ (by simp) rfl)
   refine wpOp_on ho' rfl fun K hK=>?_
   have hc0:=hlm w1 hb
   go_simp
   refine hK _ _ ?_
   iterate 37 apply Exists.intro
   refine ⟨rfl,hb,?_⟩
   repeat' apply And.intro
   all_goals first | assumption | exact fun _=>rfl | exact fun _=>(by first | rfl | simp)
  | 27,_ =>
   have ho':=ho
   simp [opsregRa0] at ho
   subst ho
   obtain rfl:=h15 (hall ⟨15,.guard⟩ (by simp) rfl)
   refine wpOp_on ho' rfl fun K hK=>?_
   go_simp
   refine hK _ _ ?_
   iterate 37 apply Exists.intro
   refine ⟨rfl,hb,?_⟩
   repeat' apply And.intro
   all_goals first | assumption | exact fun _=>rfl | exact fun _=>(by first | rfl | simp)
  | 28,_ =>
   have ho':=ho
   simp [opsregRa0] at ho
   subst ho
   obtain rfl:=h15 (hall ⟨15,.guard⟩ (by simp) rfl)
   obtain rfl:=h26 (hall ⟨26,.data⟩ (by simp) rfl)
   obtain rfl:=h27 (hall ⟨27,.data⟩ (by simp) rfl)
   refine wpOp_on ho' rfl fun K hK=>?_
   go_simp
   refine hK _ _ ?_
   iterate 37 apply Exists.intro
   refine ⟨rfl,hb,?_⟩
   repeat' apply And.intro
   all_goals first | assumption | exact fun _=>rfl | exact fun _=>(by first | rfl | simp)
  | 29,_ =>
   have ho':=ho
   simp [opsregRa0] at ho
   subst ho
   obtain rfl:=h15 (hall ⟨15,.guard⟩ (by simp) rfl)
   obtain rfl:=h28 (hall ⟨28,.data⟩ (by simp) rfl)
   refine wpOp_on ho' rfl fun K hK=>?_
   have hc0:=hr w1 hb
   go_simp
   refine hK _ _ ?_
   iterate 37 apply Exists.intro
   refine ⟨rfl,hb,?_⟩
   repeat' apply And.intro
   all_goals first | assumption | exact fun _=>rfl | exact fun _=>(by first | rfl | simp)
  | 30,_ =>
   have ho':=ho
   simp [opsregRa0] at ho
   subst ho
   obtain rfl:=h15 (hall ⟨15,.guard⟩ (by simp) rfl)
   refine wpOp_on ho' rfl fun K hK=>?_
   go_simp
   refine hK _ _ ?_
   iterate 37 apply Exists.intro
   refine ⟨rfl,hb,?_⟩
   repeat' apply And.intro
   all_goals first | assumption | exact fun _=>rfl | exact fun _=>(by first | rfl | simp)
  | 31,_ =>
   have ho':=ho
   simp [opsregRa0] at ho
   subst ho
   obtain rfl:=h15 (hall ⟨15,.guard⟩ (by simp) rfl)
   obtain rfl:=h29 (hall ⟨29,.data⟩ (by simp) rfl)
   obtain rfl:=h30 (hall ⟨30,.data⟩ (by simp) rfl)
   refine wpOp_on ho' rfl fun K hK=>?_
   go_simp
   refine hK _ _ ?_
   iterate 37 apply Exists.intro
   refine ⟨rfl,hb,?_⟩
   repeat' apply And.intro
   all_goals first | assumption | exact fun _=>rfl | exact fun _=>(by first | rfl | simp)
  | 32,_ =>
   have ho':=ho
   simp [opsregRa0] at ho
   subst ho
   obtain rfl:=h15 (hall ⟨15,.guard⟩ (by simp) rfl)
   obtain rfl:=h31 (hall ⟨31,.data⟩ (by simp) rfl)
   refine wpOp_on ho' rfl fun K hK=>?_
   have hc0:=hx0 w1 hb
   have hc1:=hx1 w1 hb
   have hc2:=hx2 w1 hb
   go_simp
   refine hK _ _ ?_
   iterate 37 apply Exists.intro
   refine ⟨rfl,hb,?_⟩
   repeat' apply And.intro
   all_goals first | assumption | exact fun _=>rfl | exact fun _=>(by first | rfl | simp)
  | 33,_ =>
   have ho':=ho
   simp [opsregRa0] at ho
   subst ho
   obtain rfl:=h15 (hall ⟨15,.chain⟩ (by simp) rfl)
   obtain rfl:=h24 (hall ⟨24,.data⟩ (by simp) rfl)
   obtain rfl:=h32 (hall ⟨32,.data⟩ (by simp) rfl)
   refine wpOp_on ho' rfl fun K hK=>?_
   go_simp
   go_at_call 11
   refine (hc2 _ hb).mono ?_
   rintro e w2 ⟨rfl,hb2⟩
   refine hK _ _ ?_
   iterate 37 apply Exists.intro
   refine ⟨rfl,(hb.trans (hb2.mono hb.size)),?_⟩
   repeat' apply And.intro
   all_goals first | assumption | exact fun _=>rfl | exact fun _=>(by first | rfl | simp)
  | 34,_ =>
   have ho':=ho
   simp [opsregRa0] at ho
   subst ho
   obtain rfl:=h15 (hall ⟨15,.guard⟩ (by simp) rfl)
   obtain rfl:=h33 (hall ⟨33,.data⟩ (by simp) rfl)
   refine wpOp_on ho' rfl fun K hK=>?_
   go_simp
   refine hK _ _ ?_
   iterate 37 apply Exists.intro
   refine ⟨rfl,hb,?_⟩
   repeat' apply And.intro
   all_goals first | assumption | exact fun _=>rfl | exact fun _=>(by first | rfl | simp)
  | 35,_ =>
   have ho':=ho
   simp [opsregRa0] at ho
   subst ho
   obtain rfl:=h12 (hall ⟨12,.guard⟩ (by simp) rfl)
   obtain rfl:=h15 (hall ⟨15,.data⟩ (by simp) rfl)
   obtain rfl:=h34 (hall ⟨34,.data⟩ (by simp) rfl)
   refine wpOp_on ho' rfl fun K hK=>?_
   go_simp
   refine hK _ _ ?_
   iterate 37 apply Exists.intro
   refine ⟨rfl,hb,?_⟩
   repeat' apply And.intro
   all_goals first | assumption | exact fun _=>rfl | exact fun _=>(by first | rfl | simp)
  | 36,_ =>
   have ho':=ho
   simp [opsregRa0] at ho
   subst ho
   obtain rfl:=h12 (hall ⟨12,.data⟩ (by simp) rfl)
   obtain rfl:=h35 (hall ⟨35,.data⟩ (by simp) rfl)
   refine wpOp_one ho' rfl fun K hK=>?_
   go_simp
   refine hK _ _ ?_
   iterate 37 apply Exists.intro
   refine ⟨rfl,hb,?_⟩
   repeat' apply And.intro
   all_goals first | assumption | exact fun _=>rfl | exact fun _=>(by first | rfl | simp)
  | k+37,hi=>omega
end Go.Proofs.YtjcfmbmepmlckaaDoor
