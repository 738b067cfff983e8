/- A drawn region of the walk of LettersMakes: a set, its byte.
   Conditions: what it loads lies in memory; the contracts of what it calls. -/
import Derived.Test.YtbohmcfplgdlpaaDoorPG
import Derived.Test.YtbohmcfplgdlpaaDoorRows
import Derived.WalkKit
import Derived.KernelRfl

namespace Go.Proofs.YtbohmcfplgdlpaaDoor.Lc
open Go.RowKit
set_option linter.unusedVariables false
abbrev opsregLm16:Array Oper:=#[{ dst:=some 64,op:=Op.fieldAddr 44 (Operand.tmp 10) 0,type:=0,pos := "law.go:39",after:=#[],guard:=none },
 { dst:=some 65,op:=Op.load 29 (Operand.tmp 64),type:=29,pos := "law.go:39",after:=#[{ on:=0,ground:=Ground.data }],guard:=none },
 { dst:=some 66,op:=Op.move (Operand.tmp 12),type:=3,pos := "law.go:39",after:=#[],guard:=none },
 { dst:=some 67,op:=Op.indexAddr 29 (Operand.tmp 65) (Operand.tmp 66),type:=0,pos := "law.go:39",after:=#[{ on:=1,ground:=Ground.data },{ on:=2,ground:=Ground.data }],guard:=none },
 { dst:=some 68,op:=Op.load 24 (Operand.tmp 67),type:=24,pos := "law.go:39",after:=#[{ on:=3,ground:=Ground.data }],guard:=none },
 { dst:=some 69,op:=Op.move (Operand.tmp 11),type:=29,pos := "law.go:39",after:=#[],guard:=none },
 { dst:=some 70,op:=Op.move (Operand.tmp 12),type:=3,pos := "law.go:39",after:=#[],guard:=none },
 { dst:=some 71,op:=Op.indexAddr 29 (Operand.tmp 69) (Operand.tmp 70),type:=0,pos := "law.go:39",after:=#[{ on:=5,ground:=Ground.data },{ on:=6,ground:=Ground.data }],guard:=none },
 { dst:=some 72,op:=Op.load 24 (Operand.tmp 71),type:=24,pos := "law.go:39",after:=#[{ on:=7,ground:=Ground.data }],guard:=none },
 { dst:=some 73,op:=Op.binOp BinOp.neq 24 (Operand.tmp 68) (Operand.tmp 72) 24,type:=4,pos := "law.go:39",after:=#[{ on:=4,ground:=Ground.data },{ on:=8,ground:=Ground.data }],guard:=none },
 { dst:=some 74,op:=Op.move (Operand.tmp 73),type:=4,pos := "law.go:39",after:=#[{ on:=9,ground:=Ground.data }],guard:=none },
 { dst:=some 75,op:=Op.move (Operand.tmp 14),type:=4,pos := "law.go:39",after:=#[{ on:=10,ground:=Ground.guard }],guard:=some (10,false) },
 { dst:=some 76,op:=Op.unOp UnOp.not 4 (Operand.tmp 75),type:=4,pos := "law.go:39",after:=#[{ on:=11,ground:=Ground.data },{ on:=10,ground:=Ground.guard }],guard:=some (10,false) },
 { dst:=some 77,op:=Op.pick (Operand.tmp 74) (Operand.const (Value.bool true)) (Operand.tmp 76),type:=4,pos := "law.go:39",after:=#[{ on:=10,ground:=Ground.data },{ on:=12,ground:=Ground.data }],guard:=none },
 { dst:=some 78,op:=Op.move (Operand.tmp 77),type:=4,pos := "law.go:39",after:=#[{ on:=13,ground:=Ground.data },{ on:=10,ground:=Ground.chain }],guard:=none },
 { dst:=some 79,op:=Op.move (Operand.tmp 11),type:=29,pos := "law.go:39",after:=#[{ on:=14,ground:=Ground.guard }],guard:=some (14,false) },
 { dst:=some 80,op:=Op.move (Operand.tmp 12),type:=3,pos := "law.go:39",after:=#[{ on:=14,ground:=Ground.guard }],guard:=some (14,false) },
 { dst:=some 81,op:=Op.indexAddr 29 (Operand.tmp 79) (Operand.tmp 80),type:=0,pos := "law.go:39",after:=#[{ on:=15,ground:=Ground.data },{ on:=16,ground:=Ground.data },{ on:=14,ground:=Ground.guard }],guard:=some (14,false) },
 { dst:=some 82,op:=Op.load 24 (Operand.tmp 81),type:=24,pos := "law.go:39",after:=#[{ on:=17,ground:=Ground.data },{ on:=14,ground:=Ground.guard }],guard:=some (14,false) },
 { dst:=some 83,op:=Op.move (Operand.tmp 13),type:=5,pos := "law.go:39",after:=#[{ on:=14,ground:=Ground.guard }],guard:=some (14,false) },
 { dst:=some 84,op:=Op.convert 5 3 (Operand.tmp 83),type:=3,pos := "law.go:39",after:=#[{ on:=19,ground:=Ground.data },{ on:=14,ground:=Ground.guard }],guard:=some (14,false) },
 { dst:=some 85,op:=Op.call { callee:=Callee.value (Operand.func 10),args:=#[Operand.tmp 82,Operand.tmp 84],argTypes:=#[24,3] },type:=4,pos := "law.go:39",after:=#[{ on:=18,ground:=Ground.data },{ on:=20,ground:=Ground.data },{ on:=14,ground:=Ground.chain },{ on:=14,ground:=Ground.guard }],guard:=some (14,false) },
 { dst:=some 86,op:=Op.unOp UnOp.not 4 (Operand.tmp 85),type:=4,pos := "law.go:39",after:=#[{ on:=21,ground:=Ground.data },{ on:=14,ground:=Ground.guard }],guard:=some (14,false) },
 { dst:=some 87,op:=Op.pick (Operand.tmp 78) (Operand.const (Value.bool true)) (Operand.tmp 86),type:=4,pos := "law.go:39",after:=#[{ on:=14,ground:=Ground.data },{ on:=22,ground:=Ground.data }],guard:=none },
 { dst:=some 88,op:=Op.move (Operand.tmp 87),type:=4,pos := "law.go:39",after:=#[{ on:=23,ground:=Ground.data },{ on:=21,ground:=Ground.chain }],guard:=none },
 { dst:=some 89,op:=Op.move (Operand.tmp 9),type:=41,pos := "law.go:39",after:=#[{ on:=24,ground:=Ground.guard }],guard:=some (24,false) },
 { dst:=some 90,op:=Op.move (Operand.tmp 13),type:=5,pos := "law.go:39",after:=#[{ on:=24,ground:=Ground.guard }],guard:=some (24,false) },
 { dst:=some 91,op:=Op.convert 5 3 (Operand.tmp 90),type:=3,pos := "law.go:39",after:=#[{ on:=26,ground:=Ground.data },{ on:=24,ground:=Ground.guard }],guard:=some (24,false) },
 { dst:=some 92,op:=Op.call { callee:=Callee.value (Operand.func 11),args:=#[Operand.tmp 89,Operand.tmp 91],argTypes:=#[41,3] },type:=3,pos := "law.go:39",after:=#[{ on:=25,ground:=Ground.data },{ on:=27,ground:=Ground.data },{ on:=24,ground:=Ground.chain },{ on:=24,ground:=Ground.guard }],guard:=some (24,false) },
 { dst:=some 93,op:=Op.move (Operand.tmp 13),type:=5,pos := "law.go:39",after:=#[{ on:=24,ground:=Ground.guard }],guard:=some (24,false) },
 { dst:=some 94,op:=Op.convert 5 3 (Operand.tmp 93),type:=3,pos := "law.go:39",after:=#[{ on:=29,ground:=Ground.data },{ on:=24,ground:=Ground.guard }],guard:=some (24,false) },
 { dst:=some 95,op:=Op.binOp BinOp.neq 3 (Operand.tmp 92) (Operand.tmp 94) 3,type:=4,pos := "law.go:39",after:=#[{ on:=28,ground:=Ground.data },{ on:=30,ground:=Ground.data },{ on:=24,ground:=Ground.guard }],guard:=some (24,false) },
 { dst:=some 96,op:=Op.pick (Operand.tmp 88) (Operand.const (Value.bool true)) (Operand.tmp 95),type:=4,pos := "law.go:39",after:=#[{ on:=24,ground:=Ground.data },{ on:=31,ground:=Ground.data }],guard:=none }]
def WregLm16 (C:Nat→Nat) (lx ag sg wb n wc i b:Nat) (D:List Deferred) (v0 v1 v2 v3 v4 v5 v6 v7 v8 v15 v16 v17 v18 v19 v20 v21 v22 v23 v24 v25 v26 v27 v28 v29 v30 v31 v32 v33 v34 v35 v36 v37 v38 v39 v40 v41 v42 v43 v44 v45 v46 v47 v48 v49 v50 v51 v52 v53 v54 v55 v56 v57 v58 v59 v60 v61 v62 v63 v97 v98 v99 v100 v101 v102 v103 v104 v105 v106 v107 v108 v109 v110 v111 v112 v113 v114 v115 v116 v117 v118 v119 v120 v121 v122 v123 v124 v125 v126 v127 v128 v129 v130 v131 v132 v133 v134 v135 v136 v137 v138 v139 v140 v141 v142 v143 v144:Value) (w0:World) (l:Nat→Bool) (a:Act) (w:World):Prop :=
 ∃ (y0 y1 y2 y3 y4 y5 y6 y7 y8 y9 y10 y11 y12 y13 y14 y15 y16 y17 y18 y19 y20 y21 y22 y23 y24 y25 y26 y27 y28 y29 y30 y31 y32:Value),a = { tmps:=#[v0,v1,v2,v3,v4,v5,v6,v7,v8,.slice (some ⟨ag,0,none⟩) 2 2,.pointer (some ⟨lx,0,none⟩),.slice (some ⟨wb,0,none⟩) n wc,.int .i64 (i:Int),.int .u8 (b:Int),.bool true,v15,v16,v17,v18,v19,v20,v21,v22,v23,v24,v25,v26,v27,v28,v29,v30,v31,v32,v33,v34,v35,v36,v37,v38,v39,v40,v41,v42,v43,v44,v45,v46,v47,v48,v49,v50,v51,v52,v53,v54,v55,v56,v57,v58,v59,v60,v61,v62,v63,y0,y1,y2,y3,y4,y5,y6,y7,y8,y9,y10,y11,y12,y13,y14,y15,y16,y17,y18,y19,y20,y21,y22,y23,y24,y25,y26,y27,y28,y29,y30,y31,y32,v97,v98,v99,v100,v101,v102,v103,v104,v105,v106,v107,v108,v109,v110,v111,v112,v113,v114,v115,v116,v117,v118,v119,v120,v121,v122,v123,v124,v125,v126,v127,v128,v129,v130,v131,v132,v133,v134,v135,v136,v137,v138,v139,v140,v141,v142,v143,v144],defers:=D }∧Below w0.heap.size w0 w ∧
  (l 0=true→y0=.pointer (some ⟨lx,0,none⟩))∧(l 1=true→y1=.slice (some ⟨sg,0,none⟩) n n)∧(l 2=true→y2=.int .i64 (i:Int))∧(l 3=true→y3=.pointer (some ⟨sg,i * 4,none⟩))∧(l 4=true→y4=.agg #[.int .u64 (C 0:Nat),.int .u64 (C 1:Nat),.int .u64 (C 2:Nat),.int .u64 (C 3:Nat)])∧(l 5=true→y5=.slice (some ⟨wb,0,none⟩) n wc)∧(l 6=true→y6=.int .i64 (i:Int))∧(l 7=true→y7=.pointer (some ⟨wb,i * 4,none⟩))∧(l 8=true→y8=.agg #[.int .u64 (C 0:Nat),.int .u64 (C 1:Nat),.int .u64 (C 2:Nat),.int .u64 (C 3:Nat)])∧(l 9=true→y9=.bool false)∧(l 10=true→y10=.bool false)∧(l 11=true→y11=.bool true)∧(l 12=true→y12=.bool false)∧(l 13=true→y13=.bool false)∧(l 14=true→y14=.bool false)∧(l 15=true→y15=.slice (some ⟨wb,0,none⟩) n wc)∧(l 16=true→y16=.int .i64 (i:Int))∧(l 17=true→y17=.pointer (some ⟨wb,i * 4,none⟩))∧(l 18=true→y18=.agg #[.int .u64 (C 0:Nat),.int .u64 (C 1:Nat),.int .u64 (C 2:Nat),.int .u64 (C 3:Nat)])∧(l 19=true→y19=.int .u8 (b:Int))∧(l 20=true→y20=.int .i64 (b:Int))∧(l 21=true→y21=.bool true)∧(l 22=true→y22=.bool false)∧(l 23=true→y23=.bool false)∧(l 24=true→y24=.bool false)∧(l 25=true→y25=.slice (some ⟨ag,0,none⟩) 2 2)∧(l 26=true→y26=.int .u8 (b:Int))∧(l 27=true→y27=.int .i64 (b:Int))∧(l 28=true→y28=.int .i64 (b:Int))∧(l 29=true→y29=.int .u8 (b:Int))∧(l 30=true→y30=.int .i64 (b:Int))∧(l 31=true→y31=.bool false)∧(l 32=true→y32=.bool false)
set_option maxHeartbeats 8000000 in
set_option maxRecDepth 100000 in
theorem regLm16 (C:Nat→Nat) (lx ag sg wb n wc i b:Nat) (D:List Deferred) (v0 v1 v2 v3 v4 v5 v6 v7 v8 v15 v16 v17 v18 v19 v20 v21 v22 v23 v24 v25 v26 v27 v28 v29 v30 v31 v32 v33 v34 v35 v36 v37 v38 v39 v40 v41 v42 v43 v44 v45 v46 v47 v48 v49 v50 v51 v52 v53 v54 v55 v56 v57 v58 v59 v60 v61 v62 v63 v97 v98 v99 v100 v101 v102 v103 v104 v105 v106 v107 v108 v109 v110 v111 v112 v113 v114 v115 v116 v117 v118 v119 v120 v121 v122 v123 v124 v125 v126 v127 v128 v129 v130 v131 v132 v133 v134 v135 v136 v137 v138 v139 v140 v141 v142 v143 v144 wy0 wy1 wy2 wy3 wy4 wy5 wy6 wy7 wy8 wy9 wy10 wy11 wy12 wy13 wy14 wy15 wy16 wy17 wy18 wy19 wy20 wy21 wy22 wy23 wy24 wy25 wy26 wy27 wy28 wy29 wy30 wy31 wy32:Value) (w:World) (hsv:∀ w',Below w.heap.size w w'→w'.cell? ⟨lx,0,none⟩=some (.slice (some ⟨sg,0,none⟩) n n)) (hx:∀ w',Below w.heap.size w w'→w'.cell? ⟨sg,i * 4,none⟩=some (.int .u64 (C 0:Nat))∧w'.cell? ⟨sg,i * 4+1,none⟩=some (.int .u64 (C 1:Nat))∧w'.cell? ⟨sg,i * 4+2,none⟩=some (.int .u64 (C 2:Nat))∧w'.cell? ⟨sg,i * 4+3,none⟩=some (.int .u64 (C 3:Nat))) (hy:∀ w',Below w.heap.size w w'→w'.cell? ⟨wb,i * 4,none⟩=some (.int .u64 (C 0:Nat))∧w'.cell? ⟨wb,i * 4+1,none⟩=some (.int .u64 (C 1:Nat))∧w'.cell? ⟨wb,i * 4+2,none⟩=some (.int .u64 (C 2:Nat))∧w'.cell? ⟨wb,i * 4+3,none⟩=some (.int .u64 (C 3:Nat))) (s1:(0:Int)≤(i:Int)) (s2:(i:Int)<(n:Int)) (s3:((i:Int)).toNat=i) (wbb:IntKind.i64.wrap (b:Int)=(b:Int)) (hc1:∀ w',Below w.heap.size w w'→Calls Tryd.prog 10 #[.agg #[.int .u64 (C 0:Nat),.int .u64 (C 1:Nat),.int .u64 (C 2:Nat),.int .u64 (C 3:Nat)],.int .i64 (b:Int)] w' fun e w2=>e=.returned (.bool true)∧Below w'.heap.size w' w2) (hc2:∀ w',Below w.heap.size w w'→Calls Tryd.prog 11 #[.slice (some ⟨ag,0,none⟩) 2 2,.int .i64 (b:Int)] w' fun e w2=>e=.returned (.int .i64 (b:Int))∧Below w'.heap.size w' w2) (heq:∀ w':World,(Op.equalIn 10000 24 (.agg #[.int .u64 (C 0:Nat),.int .u64 (C 1:Nat),.int .u64 (C 2:Nat),.int .u64 (C 3:Nat)]) (.agg #[.int .u64 (C 0:Nat),.int .u64 (C 1:Nat),.int .u64 (C 2:Nat),.int .u64 (C 3:Nat)])).run Tryd.prog w'=.ok true w') (Q:Exit→Act→World→Prop)
  (hQ:∀ (y0 y1 y2 y3 y4 y5 y6 y7 y8 y9 y10 y11 y12 y13 y14 y15 y16 y17 y18 y19 y20 y21 y22 y23 y24 y25 y26 y27 y28 y29 y30 y31:Value) (w':World),Below w.heap.size w w'→Q .normal { tmps:=#[v0,v1,v2,v3,v4,v5,v6,v7,v8,.slice (some ⟨ag,0,none⟩) 2 2,.pointer (some ⟨lx,0,none⟩),.slice (some ⟨wb,0,none⟩) n wc,.int .i64 (i:Int),.int .u8 (b:Int),.bool true,v15,v16,v17,v18,v19,v20,v21,v22,v23,v24,v25,v26,v27,v28,v29,v30,v31,v32,v33,v34,v35,v36,v37,v38,v39,v40,v41,v42,v43,v44,v45,v46,v47,v48,v49,v50,v51,v52,v53,v54,v55,v56,v57,v58,v59,v60,v61,v62,v63,y0,y1,y2,y3,y4,y5,y6,y7,y8,y9,y10,y11,y12,y13,y14,y15,y16,y17,y18,y19,y20,y21,y22,y23,y24,y25,y26,y27,y28,y29,y30,y31,.bool false,v97,v98,v99,v100,v101,v102,v103,v104,v105,v106,v107,v108,v109,v110,v111,v112,v113,v114,v115,v116,v117,v118,v119,v120,v121,v122,v123,v124,v125,v126,v127,v128,v129,v130,v131,v132,v133,v134,v135,v136,v137,v138,v139,v140,v141,v142,v143,v144],defers:=D } w') :
  (Code.region 16 opsregLm16 true).wp Tryd.prog Q { tmps:=#[v0,v1,v2,v3,v4,v5,v6,v7,v8,.slice (some ⟨ag,0,none⟩) 2 2,.pointer (some ⟨lx,0,none⟩),.slice (some ⟨wb,0,none⟩) n wc,.int .i64 (i:Int),.int .u8 (b:Int),.bool true,v15,v16,v17,v18,v19,v20,v21,v22,v23,v24,v25,v26,v27,v28,v29,v30,v31,v32,v33,v34,v35,v36,v37,v38,v39,v40,v41,v42,v43,v44,v45,v46,v47,v48,v49,v50,v51,v52,v53,v54,v55,v56,v57,v58,v59,v60,v61,v62,v63,wy0,wy1,wy2,wy3,wy4,wy5,wy6,wy7,wy8,wy9,wy10,wy11,wy12,wy13,wy14,wy15,wy16,wy17,wy18,wy19,wy20,wy21,wy22,wy23,wy24,wy25,wy26,wy27,wy28,wy29,wy30,wy31,wy32,v97,v98,v99,v100,v101,v102,v103,v104,v105,v106,v107,v108,v109,v110,v111,v112,v113,v114,v115,v116,v117,v118,v119,v120,v121,v122,v123,v124,v125,v126,v127,v128,v129,v130,v131,v132,v133,v134,v135,v136,v137,v138,v139,v140,v141,v142,v143,v144],defers:=D } w:=by
 refine wp_region_inv (by kernel_rfl) (WregLm16 C lx ag sg wb n wc i b D v0 v1 v2 v3 v4 v5 v6 v7 v8 v15 v16 v17 v18 v19 v20 v21 v22 v23 v24 v25 v26 v27 v28 v29 v30 v31 v32 v33 v34 v35 v36 v37 v38 v39 v40 v41 v42 v43 v44 v45 v46 v47 v48 v49 v50 v51 v52 v53 v54 v55 v56 v57 v58 v59 v60 v61 v62 v63 v97 v98 v99 v100 v101 v102 v103 v104 v105 v106 v107 v108 v109 v110 v111 v112 v113 v114 v115 v116 v117 v118 v119 v120 v121 v122 v123 v124 v125 v126 v127 v128 v129 v130 v131 v132 v133 v134 v135 v136 v137 v138 v139 v140 v141 v142 v143 v144 w) ?hacy ?h0 ?hstep ?hdone
 case hacy=>kernel_rfl
 case h0=>exact ⟨wy0,wy1,wy2,wy3,wy4,wy5,wy6,wy7,wy8,wy9,wy10,wy11,wy12,wy13,wy14,wy15,wy16,wy17,wy18,wy19,wy20,wy21,wy22,wy23,wy24,wy25,wy26,wy27,wy28,wy29,wy30,wy31,wy32,rfl,below_drewN (Below.refl _ _) 1,(fun p=>by cases p),(fun p=>by cases p),(fun p=>by cases p),(fun p=>by cases p),(fun p=>by cases p),(fun p=>by cases p),(fun p=>by cases p),(fun p=>by cases p),(fun p=>by cases p),(fun p=>by cases p),(fun p=>by cases p),(fun p=>by cases p),(fun p=>by cases p),(fun p=>by cases p),(fun p=>by cases p),(fun p=>by cases p),(fun p=>by cases p),(fun p=>by cases p),(fun p=>by cases p),(fun p=>by cases p),(fun p=>by cases p),(fun p=>by cases p),(fun p=>by cases p),(fun p=>by cases p),(fun p=>by cases p),(fun p=>by cases p),(fun p=>by cases p),(fun p=>by cases p),(fun p=>by cases p),(fun p=>by cases p),(fun p=>by cases p),(fun p=>by cases p),(fun p=>by cases p)⟩
 case hdone =>
  intro l a w1 hI hall
  obtain ⟨y0,y1,y2,y3,y4,y5,y6,y7,y8,y9,y10,y11,y12,y13,y14,y15,y16,y17,y18,y19,y20,y21,y22,y23,y24,y25,y26,y27,y28,y29,y30,y31,y32,rfl,hb,h0,h1,h2,h3,h4,h5,h6,h7,h8,h9,h10,h11,h12,h13,h14,h15,h16,h17,h18,h19,h20,h21,h22,h23,h24,h25,h26,h27,h28,h29,h30,h31,h32⟩:=hI
  obtain rfl:=h32 (hall 32 (by decide))
  exact hQ _ _ _ _ _ _ _ _ _ _ _ _ _ _ _ _ _ _ _ _ _ _ _ _ _ _ _ _ _ _ _ _ _ hb
 case hstep =>
  intro l a w1 i o hI ho hl hall
  obtain ⟨y0,y1,y2,y3,y4,y5,y6,y7,y8,y9,y10,y11,y12,y13,y14,y15,y16,y17,y18,y19,y20,y21,y22,y23,y24,y25,y26,y27,y28,y29,y30,y31,y32,rfl,hb,h0,h1,h2,h3,h4,h5,h6,h7,h8,h9,h10,h11,h12,h13,h14,h15,h16,h17,h18,h19,h20,h21,h22,h23,h24,h25,h26,h27,h28,h29,h30,h31,h32⟩:=hI
  have hi:i<33:=(Array.getElem?_eq_some_iff.1 ho).1
  match i,hi with
  | 0,_ =>
   have ho':=ho
   simp [opsregLm16] at ho
   subst ho
   refine wpOp_one ho' rfl fun K hK=>?_
   go_simp
   exact hK _ _ ⟨_,y1,y2,y3,y4,y5,y6,y7,y8,y9,y10,y11,y12,y13,y14,y15,y16,y17,y18,y19,y20,y21,y22,y23,y24,y25,y26,y27,y28,y29,y30,y31,y32,rfl,hb,fun _=>(by first | rfl | simp),h1,h2,h3,h4,h5,h6,h7,h8,h9,h10,h11,h12,h13,h14,h15,h16,h17,h18,h19,h20,h21,h22,h23,h24,h25,h26,h27,h28,h29,h30,h31,h32⟩
  | 1,_ =>
   have ho':=ho
   simp [opsregLm16] at ho
   subst ho
   obtain rfl:=h0 (hall ⟨0,.data⟩ (by simp) rfl)
   refine wpOp_one ho' rfl fun K hK=>?_
   have hc0:=hsv w1 hb
   go_simp
   exact hK _ _ ⟨_,_,y2,y3,y4,y5,y6,y7,y8,y9,y10,y11,y12,y13,y14,y15,y16,y17,y18,y19,y20,y21,y22,y23,y24,y25,y26,y27,y28,y29,y30,y31,y32,rfl,hb,fun _=>rfl,fun _=>(by first | rfl | simp),h2,h3,h4,h5,h6,h7,h8,h9,h10,h11,h12,h13,h14,h15,h16,h17,h18,h19,h20,h21,h22,h23,h24,h25,h26,h27,h28,h29,h30,h31,h32⟩
  | 2,_ =>
   have ho':=ho
   simp [opsregLm16] at ho
   subst ho
   refine wpOp_one ho' rfl fun K hK=>?_
   go_simp
   exact hK _ _ ⟨y0,y1,_,y3,y4,y5,y6,y7,y8,y9,y10,y11,y12,y13,y14,y15,y16,y17,y18,y19,y20,y21,y22,y23,y24,y25,y26,y27,y28,y29,y30,y31,y32,rfl,hb,h0,h1,fun _=>(by first | rfl | simp),h3,h4,h5,h6,h7,h8,h9,h10,h11,h12,h13,h14,h15,h16,h17,h18,h19,h20,h21,h22,h23,h24,h25,h26,h27,h28,h29,h30,h31,h32⟩
  | 3,_ =>
   have ho':=ho
   simp [opsregLm16] at ho
   subst ho
   obtain rfl:=h1 (hall ⟨1,.data⟩ (by simp) rfl)
   obtain rfl:=h2 (hall ⟨2,.data⟩ (by simp) rfl)
   refine wpOp_one ho' rfl fun K hK=>?_
   go_simp
   exact hK _ _ ⟨y0,_,_,_,y4,y5,y6,y7,y8,y9,y10,y11,y12,y13,y14,y15,y16,y17,y18,y19,y20,y21,y22,y23,y24,y25,y26,y27,y28,y29,y30,y31,y32,rfl,hb,h0,fun _=>rfl,fun _=>rfl,fun _=>(by first | rfl | simp),h4,h5,h6,h7,h8,h9,h10,h11,h12,h13,h14,h15,h16,h17,h18,h19,h20,h21,h22,h23,h24,h25,h26,h27,h28,h29,h30,h31,h32⟩
  | 4,_ =>
   have ho':=ho
   simp [opsregLm16] at ho
   subst ho
   obtain rfl:=h3 (hall ⟨3,.data⟩ (by simp) rfl)
   refine wpOp_one ho' rfl fun K hK=>?_
   obtain ⟨q0,q1,q2,q3⟩:=hx w1 hb
   go_simp
   exact hK _ _ ⟨y0,y1,y2,_,_,y5,y6,y7,y8,y9,y10,y11,y12,y13,y14,y15,y16,y17,y18,y19,y20,y21,y22,y23,y24,y25,y26,y27,y28,y29,y30,y31,y32,rfl,hb,h0,h1,h2,fun _=>rfl,fun _=>(by first | rfl | simp),h5,h6,h7,h8,h9,h10,h11,h12,h13,h14,h15,h16,h17,h18,h19,h20,h21,h22,h23,h24,h25,h26,h27,h28,h29,h30,h31,h32⟩
  | 5,_ =>
   have ho':=ho
   simp [opsregLm16] at ho
   subst ho
   refine wpOp_one ho' rfl fun K hK=>?_
   go_simp
   exact hK _ _ ⟨y0,y1,y2,y3,y4,_,y6,y7,y8,y9,y10,y11,y12,y13,y14,y15,y16,y17,y18,y19,y20,y21,y22,y23,y24,y25,y26,y27,y28,y29,y30,y31,y32,rfl,hb,h0,h1,h2,h3,h4,fun _=>(by first | rfl | simp),h6,h7,h8,h9,h10,h11,h12,h13,h14,h15,h16,h17,h18,h19,h20,h21,h22,h23,h24,h25,h26,h27,h28,h29,h30,h31,h32⟩
  | 6,_ =>
   have ho':=ho
   simp [opsregLm16] at ho
   subst ho
   refine wpOp_one ho' rfl fun K hK=>?_
   go_simp
   exact hK _ _ ⟨y0,y1,y2,y3,y4,y5,_,y7,y8,y9,y10,y11,y12,y13,y14,y15,y16,y17,y18,y19,y20,y21,y22,y23,y24,y25,y26,y27,y28,y29,y30,y31,y32,rfl,hb,h0,h1,h2,h3,h4,h5,fun _=>(by first | rfl | simp),h7,h8,h9,h10,h11,h12,h13,h14,h15,h16,h17,h18,h19,h20,h21,h22,h23,h24,h25,h26,h27,h28,h29,h30,h31,h32⟩
  | 7,_ =>
   have ho':=ho
   simp [opsregLm16] at ho
   subst ho
   obtain rfl:=h5 (hall ⟨5,.data⟩ (by simp) rfl)
   obtain rfl:=h6 (hall ⟨6,.data⟩ (by simp) rfl)
   refine wpOp_one ho' rfl fun K hK=>?_
   go_simp
   exact hK _ _ ⟨y0,y1,y2,y3,y4,_,_,_,y8,y9,y10,y11,y12,y13,y14,y15,y16,y17,y18,y19,y20,y21,y22,y23,y24,y25,y26,y27,y28,y29,y30,y31,y32,rfl,hb,h0,h1,h2,h3,h4,fun _=>rfl,fun _=>rfl,fun _=>(by first | rfl | simp),h8,h9,h10,h11,h12,h13,h14,h15,h16,h17,h18,h19,h20,h21,h22,h23,h24,h25,h26,h27,h28,h29,h30,h31,h32⟩
  | 8,_ =>
   have ho':=ho
   simp [opsregLm16] at ho
   subst ho
   obtain rfl:=h7 (hall ⟨7,.data⟩ (by simp) rfl)
   refine wpOp_one ho' rfl fun K hK=>?_
   obtain ⟨q0,q1,q2,q3⟩:=hy w1 hb
   go_simp
   exact hK _ _ ⟨y0,y1,y2,y3,y4,y5,y6,_,_,y9,y10,y11,y12,y13,y14,y15,y16,y17,y18,y19,y20,y21,y22,y23,y24,y25,y26,y27,y28,y29,y30,y31,y32,rfl,hb,h0,h1,h2,h3,h4,h5,h6,fun _=>rfl,fun _=>(by first | rfl | simp),h9,h10,h11,h12,h13,h14,h15,h16,h17,h18,h19,h20,h21,h22,h23,h24,h25,h26,h27,h28,h29,h30,h31,h32⟩
  | 9,_ =>
   have ho':=ho
   simp [opsregLm16] at ho
   subst ho
   obtain rfl:=h4 (hall ⟨4,.data⟩ (by simp) rfl)
   obtain rfl:=h8 (hall ⟨8,.data⟩ (by simp) rfl)
   refine wpOp_one ho' rfl fun K hK=>?_
   have hc0:=heq w1
   go_simp
   exact hK _ _ ⟨y0,y1,y2,y3,_,y5,y6,y7,_,_,y10,y11,y12,y13,y14,y15,y16,y17,y18,y19,y20,y21,y22,y23,y24,y25,y26,y27,y28,y29,y30,y31,y32,rfl,hb,h0,h1,h2,h3,fun _=>rfl,h5,h6,h7,fun _=>rfl,fun _=>(by first | rfl | simp),h10,h11,h12,h13,h14,h15,h16,h17,h18,h19,h20,h21,h22,h23,h24,h25,h26,h27,h28,h29,h30,h31,h32⟩
  | 10,_ =>
   have ho':=ho
   simp [opsregLm16] at ho
   subst ho
   obtain rfl:=h9 (hall ⟨9,.data⟩ (by simp) rfl)
   refine wpOp_one ho' rfl fun K hK=>?_
   go_simp
   exact hK _ _ ⟨y0,y1,y2,y3,y4,y5,y6,y7,y8,_,_,y11,y12,y13,y14,y15,y16,y17,y18,y19,y20,y21,y22,y23,y24,y25,y26,y27,y28,y29,y30,y31,y32,rfl,hb,h0,h1,h2,h3,h4,h5,h6,h7,h8,fun _=>rfl,fun _=>(by first | rfl | simp),h11,h12,h13,h14,h15,h16,h17,h18,h19,h20,h21,h22,h23,h24,h25,h26,h27,h28,h29,h30,h31,h32⟩
  | 11,_ =>
   have ho':=ho
   simp [opsregLm16] at ho
   subst ho
   obtain rfl:=h10 (hall ⟨10,.guard⟩ (by simp) rfl)
   refine wpOp_on ho' rfl fun K hK=>?_
   go_simp
   exact hK _ _ ⟨y0,y1,y2,y3,y4,y5,y6,y7,y8,y9,_,_,y12,y13,y14,y15,y16,y17,y18,y19,y20,y21,y22,y23,y24,y25,y26,y27,y28,y29,y30,y31,y32,rfl,hb,h0,h1,h2,h3,h4,h5,h6,h7,h8,h9,fun _=>rfl,fun _=>(by first | rfl | simp),h12,h13,h14,h15,h16,h17,h18,h19,h20,h21,h22,h23,h24,h25,h26,h27,h28,h29,h30,h31,h32⟩
  | 12,_ =>
   have ho':=ho
   simp [opsregLm16] at ho
   subst ho
   obtain rfl:=h10 (hall ⟨10,.guard⟩ (by simp) rfl)
   obtain rfl:=h11 (hall ⟨11,.data⟩ (by simp) rfl)
   refine wpOp_on ho' rfl fun K hK=>?_
   go_simp
   exact hK _ _ ⟨y0,y1,y2,y3,y4,y5,y6,y7,y8,y9,_,_,_,y13,y14,y15,y16,y17,y18,y19,y20,y21,y22,y23,y24,y25,y26,y27,y28,y29,y30,y31,y32,rfl,hb,h0,h1,h2,h3,h4,h5,h6,h7,h8,h9,fun _=>rfl,fun _=>rfl,fun _=>(by first | rfl | simp),h13,h14,h15,h16,h17,h18,h19,h20,h21,h22,h23,h24,h25,h26,h27,h28,h29,h30,h31,h32⟩
  | 13,_ =>
   have ho':=ho
   simp [opsregLm16] at ho
   subst ho
   obtain rfl:=h10 (hall ⟨10,.data⟩ (by simp) rfl)
   obtain rfl:=h12 (hall ⟨12,.data⟩ (by simp) rfl)
   refine wpOp_one ho' rfl fun K hK=>?_
   go_simp
   exact hK _ _ ⟨y0,y1,y2,y3,y4,y5,y6,y7,y8,y9,_,y11,_,_,y14,y15,y16,y17,y18,y19,y20,y21,y22,y23,y24,y25,y26,y27,y28,y29,y30,y31,y32,rfl,hb,h0,h1,h2,h3,h4,h5,h6,h7,h8,h9,fun _=>rfl,h11,fun _=>rfl,fun _=>(by first | rfl | simp),h14,h15,h16,h17,h18,h19,h20,h21,h22,h23,h24,h25,h26,h27,h28,h29,h30,h31,h32⟩
  | 14,_ =>
   have ho':=ho
   simp [opsregLm16] at ho
   subst ho
   obtain rfl:=h13 (hall ⟨13,.data⟩ (by simp) rfl)
   refine wpOp_one ho' rfl fun K hK=>?_
   go_simp
   exact hK _ _ ⟨y0,y1,y2,y3,y4,y5,y6,y7,y8,y9,y10,y11,y12,_,_,y15,y16,y17,y18,y19,y20,y21,y22,y23,y24,y25,y26,y27,y28,y29,y30,y31,y32,rfl,hb,h0,h1,h2,h3,h4,h5,h6,h7,h8,h9,h10,h11,h12,fun _=>rfl,fun _=>(by first | rfl | simp),h15,h16,h17,h18,h19,h20,h21,h22,h23,h24,h25,h26,h27,h28,h29,h30,h31,h32⟩
  | 15,_ =>
   have ho':=ho
   simp [opsregLm16] at ho
   subst ho
   obtain rfl:=h14 (hall ⟨14,.guard⟩ (by simp) rfl)
   refine wpOp_on ho' rfl fun K hK=>?_
   go_simp
   exact hK _ _ ⟨y0,y1,y2,y3,y4,y5,y6,y7,y8,y9,y10,y11,y12,y13,_,_,y16,y17,y18,y19,y20,y21,y22,y23,y24,y25,y26,y27,y28,y29,y30,y31,y32,rfl,hb,h0,h1,h2,h3,h4,h5,h6,h7,h8,h9,h10,h11,h12,h13,fun _=>rfl,fun _=>(by first | rfl | simp),h16,h17,h18,h19,h20,h21,h22,h23,h24,h25,h26,h27,h28,h29,h30,h31,h32⟩
  | 16,_ =>
   have ho':=ho
   simp [opsregLm16] at ho
   subst ho
   obtain rfl:=h14 (hall ⟨14,.guard⟩ (by simp) rfl)
   refine wpOp_on ho' rfl fun K hK=>?_
   go_simp
   exact hK _ _ ⟨y0,y1,y2,y3,y4,y5,y6,y7,y8,y9,y10,y11,y12,y13,_,y15,_,y17,y18,y19,y20,y21,y22,y23,y24,y25,y26,y27,y28,y29,y30,y31,y32,rfl,hb,h0,h1,h2,h3,h4,h5,h6,h7,h8,h9,h10,h11,h12,h13,fun _=>rfl,h15,fun _=>(by first | rfl | simp),h17,h18,h19,h20,h21,h22,h23,h24,h25,h26,h27,h28,h29,h30,h31,h32⟩
  | 17,_ =>
   have ho':=ho
   simp [opsregLm16] at ho
   subst ho
   obtain rfl:=h14 (hall ⟨14,.guard⟩ (by simp) rfl)
   obtain rfl:=h15 (hall ⟨15,.data⟩ (by simp) rfl)
   obtain rfl:=h16 (hall ⟨16,.data⟩ (by simp) rfl)
   refine wpOp_on ho' rfl fun K hK=>?_
   go_simp
   exact hK _ _ ⟨y0,y1,y2,y3,y4,y5,y6,y7,y8,y9,y10,y11,y12,y13,_,_,_,_,y18,y19,y20,y21,y22,y23,y24,y25,y26,y27,y28,y29,y30,y31,y32,rfl,hb,h0,h1,h2,h3,h4,h5,h6,h7,h8,h9,h10,h11,h12,h13,fun _=>rfl,fun _=>rfl,fun _=>rfl,fun _=>(by first | rfl | simp),h18,h19,h20,h21,h22,h23,h24,h25,h26,h27,h28,h29,h30,h31,h32⟩
  | 18,_ =>
   have ho':=ho
   simp [opsregLm16] at ho
   subst ho
   obtain rfl:=h14 (hall ⟨14,.guard⟩ (by simp) rfl)
   obtain rfl:=h17 (hall ⟨17,.data⟩ (by simp) rfl)
   refine wpOp_on ho' rfl fun K hK=>?_
   obtain ⟨q0,q1,q2,q3⟩:=hy w1 hb
   go_simp
   exact hK _ _ ⟨y0,y1,y2,y3,y4,y5,y6,y7,y8,y9,y10,y11,y12,y13,_,y15,y16,_,_,y19,y20,y21,y22,y23,y24,y25,y26,y27,y28,y29,y30,y31,y32,rfl,hb,h0,h1,h2,h3,h4,h5,h6,h7,h8,h9,h10,h11,h12,h13,fun _=>rfl,h15,h16,fun _=>rfl,fun _=>(by first | rfl | simp),h19,h20,h21,h22,h23,h24,h25,h26,h27,h28,h29,h30,h31,h32⟩
  | 19,_ =>
   have ho':=ho
   simp [opsregLm16] at ho
   subst ho
   obtain rfl:=h14 (hall ⟨14,.guard⟩ (by simp) rfl)
   refine wpOp_on ho' rfl fun K hK=>?_
   go_simp
   exact hK _ _ ⟨y0,y1,y2,y3,y4,y5,y6,y7,y8,y9,y10,y11,y12,y13,_,y15,y16,y17,y18,_,y20,y21,y22,y23,y24,y25,y26,y27,y28,y29,y30,y31,y32,rfl,hb,h0,h1,h2,h3,h4,h5,h6,h7,h8,h9,h10,h11,h12,h13,fun _=>rfl,h15,h16,h17,h18,fun _=>(by first | rfl | simp),h20,h21,h22,h23,h24,h25,h26,h27,h28,h29,h30,h31,h32⟩
  | 20,_ =>
   have ho':=ho
   simp [opsregLm16] at ho
   subst ho
   obtain rfl:=h14 (hall ⟨14,.guard⟩ (by simp) rfl)
   obtain rfl:=h19 (hall ⟨19,.data⟩ (by simp) rfl)
   refine wpOp_on ho' rfl fun K hK=>?_
   go_simp
   exact hK _ _ ⟨y0,y1,y2,y3,y4,y5,y6,y7,y8,y9,y10,y11,y12,y13,_,y15,y16,y17,y18,_,_,y21,y22,y23,y24,y25,y26,y27,y28,y29,y30,y31,y32,rfl,hb,h0,h1,h2,h3,h4,h5,h6,h7,h8,h9,h10,h11,h12,h13,fun _=>rfl,h15,h16,h17,h18,fun _=>rfl,fun _=>(by first | rfl | simp),h21,h22,h23,h24,h25,h26,h27,h28,h29,h30,h31,h32⟩
  | 21,_ =>
   have ho':=ho
   simp [opsregLm16] at ho
   subst ho
   obtain rfl:=h14 (hall ⟨14,.chain⟩ (by simp) rfl)
   obtain rfl:=h18 (hall ⟨18,.data⟩ (by simp) rfl)
   obtain rfl:=h20 (hall ⟨20,.data⟩ (by simp) rfl)
   refine wpOp_on ho' rfl fun K hK=>?_
   go_simp
   go_at_call 10
   refine (hc1 _ hb).mono ?_
   rintro e w2 ⟨rfl,hb2⟩
   exact hK _ _ ⟨y0,y1,y2,y3,y4,y5,y6,y7,y8,y9,y10,y11,y12,y13,_,y15,y16,y17,_,y19,_,_,y22,y23,y24,y25,y26,y27,y28,y29,y30,y31,y32,rfl,(hb.trans (hb2.mono hb.size)),h0,h1,h2,h3,h4,h5,h6,h7,h8,h9,h10,h11,h12,h13,fun _=>rfl,h15,h16,h17,fun _=>rfl,h19,fun _=>rfl,fun _=>(by first | rfl | simp),h22,h23,h24,h25,h26,h27,h28,h29,h30,h31,h32⟩
  | 22,_ =>
   have ho':=ho
   simp [opsregLm16] at ho
   subst ho
   obtain rfl:=h14 (hall ⟨14,.guard⟩ (by simp) rfl)
   obtain rfl:=h21 (hall ⟨21,.data⟩ (by simp) rfl)
   refine wpOp_on ho' rfl fun K hK=>?_
   go_simp
   exact hK _ _ ⟨y0,y1,y2,y3,y4,y5,y6,y7,y8,y9,y10,y11,y12,y13,_,y15,y16,y17,y18,y19,y20,_,_,y23,y24,y25,y26,y27,y28,y29,y30,y31,y32,rfl,hb,h0,h1,h2,h3,h4,h5,h6,h7,h8,h9,h10,h11,h12,h13,fun _=>rfl,h15,h16,h17,h18,h19,h20,fun _=>rfl,fun _=>(by first | rfl | simp),h23,h24,h25,h26,h27,h28,h29,h30,h31,h32⟩
  | 23,_ =>
   have ho':=ho
   simp [opsregLm16] at ho
   subst ho
   obtain rfl:=h14 (hall ⟨14,.data⟩ (by simp) rfl)
   obtain rfl:=h22 (hall ⟨22,.data⟩ (by simp) rfl)
   refine wpOp_one ho' rfl fun K hK=>?_
   go_simp
   exact hK _ _ ⟨y0,y1,y2,y3,y4,y5,y6,y7,y8,y9,y10,y11,y12,y13,_,y15,y16,y17,y18,y19,y20,y21,_,_,y24,y25,y26,y27,y28,y29,y30,y31,y32,rfl,hb,h0,h1,h2,h3,h4,h5,h6,h7,h8,h9,h10,h11,h12,h13,fun _=>rfl,h15,h16,h17,h18,h19,h20,h21,fun _=>rfl,fun _=>(by first | rfl | simp),h24,h25,h26,h27,h28,h29,h30,h31,h32⟩
  | 24,_ =>
   have ho':=ho
   simp [opsregLm16] at ho
   subst ho
   obtain rfl:=h23 (hall ⟨23,.data⟩ (by simp) rfl)
   refine wpOp_one ho' rfl fun K hK=>?_
   go_simp
   exact hK _ _ ⟨y0,y1,y2,y3,y4,y5,y6,y7,y8,y9,y10,y11,y12,y13,y14,y15,y16,y17,y18,y19,y20,y21,y22,_,_,y25,y26,y27,y28,y29,y30,y31,y32,rfl,hb,h0,h1,h2,h3,h4,h5,h6,h7,h8,h9,h10,h11,h12,h13,h14,h15,h16,h17,h18,h19,h20,h21,h22,fun _=>rfl,fun _=>(by first | rfl | simp),h25,h26,h27,h28,h29,h30,h31,h32⟩
  | 25,_ =>
   have ho':=ho
   simp [opsregLm16] at ho
   subst ho
   obtain rfl:=h24 (hall ⟨24,.guard⟩ (by simp) rfl)
   refine wpOp_on ho' rfl fun K hK=>?_
   go_simp
   exact hK _ _ ⟨y0,y1,y2,y3,y4,y5,y6,y7,y8,y9,y10,y11,y12,y13,y14,y15,y16,y17,y18,y19,y20,y21,y22,y23,_,_,y26,y27,y28,y29,y30,y31,y32,rfl,hb,h0,h1,h2,h3,h4,h5,h6,h7,h8,h9,h10,h11,h12,h13,h14,h15,h16,h17,h18,h19,h20,h21,h22,h23,fun _=>rfl,fun _=>(by first | rfl | simp),h26,h27,h28,h29,h30,h31,h32⟩
  | 26,_ =>
   have ho':=ho
   simp [opsregLm16] at ho
   subst ho
   obtain rfl:=h24 (hall ⟨24,.guard⟩ (by simp) rfl)
   refine wpOp_on ho' rfl fun K hK=>?_
   go_simp
   exact hK _ _ ⟨y0,y1,y2,y3,y4,y5,y6,y7,y8,y9,y10,y11,y12,y13,y14,y15,y16,y17,y18,y19,y20,y21,y22,y23,_,y25,_,y27,y28,y29,y30,y31,y32,rfl,hb,h0,h1,h2,h3,h4,h5,h6,h7,h8,h9,h10,h11,h12,h13,h14,h15,h16,h17,h18,h19,h20,h21,h22,h23,fun _=>rfl,h25,fun _=>(by first | rfl | simp),h27,h28,h29,h30,h31,h32⟩
  | 27,_ =>
   have ho':=ho
   simp [opsregLm16] at ho
   subst ho
   obtain rfl:=h24 (hall ⟨24,.guard⟩ (by simp) rfl)
   obtain rfl:=h26 (hall ⟨26,.data⟩ (by simp) rfl)
   refine wpOp_on ho' rfl fun K hK=>?_
   go_simp
   exact hK _ _ ⟨y0,y1,y2,y3,y4,y5,y6,y7,y8,y9,y10,y11,y12,y13,y14,y15,y16,y17,y18,y19,y20,y21,y22,y23,_,y25,_,_,y28,y29,y30,y31,y32,rfl,hb,h0,h1,h2,h3,h4,h5,h6,h7,h8,h9,h10,h11,h12,h13,h14,h15,h16,h17,h18,h19,h20,h21,h22,h23,fun _=>rfl,h25,fun _=>rfl,fun _=>(by first | rfl | simp),h28,h29,h30,h31,h32⟩
  | 28,_ =>
   have ho':=ho
   simp [opsregLm16] at ho
   subst ho
   obtain rfl:=h24 (hall ⟨24,.chain⟩ (by simp) rfl)
   obtain rfl:=h25 (hall ⟨25,.data⟩ (by simp) rfl)
   obtain rfl:=h27 (hall ⟨27,.data⟩ (by simp) rfl)
   refine wpOp_on ho' rfl fun K hK=>?_
   go_simp
   go_at_call 11
   refine (hc2 _ hb).mono ?_
   rintro e w2 ⟨rfl,hb2⟩
   exact hK _ _ ⟨y0,y1,y2,y3,y4,y5,y6,y7,y8,y9,y10,y11,y12,y13,y14,y15,y16,y17,y18,y19,y20,y21,y22,y23,_,_,y26,_,_,y29,y30,y31,y32,rfl,(hb.trans (hb2.mono hb.size)),h0,h1,h2,h3,h4,h5,h6,h7,h8,h9,h10,h11,h12,h13,h14,h15,h16,h17,h18,h19,h20,h21,h22,h23,fun _=>rfl,fun _=>rfl,h26,fun _=>rfl,fun _=>(by first | rfl | simp),h29,h30,h31,h32⟩
  | 29,_ =>
   have ho':=ho
   simp [opsregLm16] at ho
   subst ho
   obtain rfl:=h24 (hall ⟨24,.guard⟩ (by simp) rfl)
   refine wpOp_on ho' rfl fun K hK=>?_
   go_simp
   exact hK _ _ ⟨y0,y1,y2,y3,y4,y5,y6,y7,y8,y9,y10,y11,y12,y13,y14,y15,y16,y17,y18,y19,y20,y21,y22,y23,_,y25,y26,y27,y28,_,y30,y31,y32,rfl,hb,h0,h1,h2,h3,h4,h5,h6,h7,h8,h9,h10,h11,h12,h13,h14,h15,h16,h17,h18,h19,h20,h21,h22,h23,fun _=>rfl,h25,h26,h27,h28,fun _=>(by first | rfl | simp),h30,h31,h32⟩
  | 30,_ =>
   have ho':=ho
   simp [opsregLm16] at ho
   subst ho
   obtain rfl:=h24 (hall ⟨24,.guard⟩ (by simp) rfl)
   obtain rfl:=h29 (hall ⟨29,.data⟩ (by simp) rfl)
   refine wpOp_on ho' rfl fun K hK=>?_
   go_simp
   exact hK _ _ ⟨y0,y1,y2,y3,y4,y5,y6,y7,y8,y9,y10,y11,y12,y13,y14,y15,y16,y17,y18,y19,y20,y21,y22,y23,_,y25,y26,y27,y28,_,_,y31,y32,rfl,hb,h0,h1,h2,h3,h4,h5,h6,h7,h8,h9,h10,h11,h12,h13,h14,h15,h16,h17,h18,h19,h20,h21,h22,h23,fun _=>rfl,h25,h26,h27,h28,fun _=>rfl,fun _=>(by first | rfl | simp),h31,h32⟩
  | 31,_ =>
   have ho':=ho
   simp [opsregLm16] at ho
   subst ho
   obtain rfl:=h24 (hall ⟨24,.guard⟩ (by simp) rfl)
   obtain rfl:=h28 (hall ⟨28,.data⟩ (by simp) rfl)
   obtain rfl:=h30 (hall ⟨30,.data⟩ (by simp) rfl)
   refine wpOp_on ho' rfl fun K hK=>?_
   go_simp
   exact hK _ _ ⟨y0,y1,y2,y3,y4,y5,y6,y7,y8,y9,y10,y11,y12,y13,y14,y15,y16,y17,y18,y19,y20,y21,y22,y23,_,y25,y26,y27,_,y29,_,_,y32,rfl,hb,h0,h1,h2,h3,h4,h5,h6,h7,h8,h9,h10,h11,h12,h13,h14,h15,h16,h17,h18,h19,h20,h21,h22,h23,fun _=>rfl,h25,h26,h27,fun _=>rfl,h29,fun _=>rfl,fun _=>(by first | rfl | simp),h32⟩
  | 32,_ =>
   have ho':=ho
   simp [opsregLm16] at ho
   subst ho
   obtain rfl:=h24 (hall ⟨24,.data⟩ (by simp) rfl)
   obtain rfl:=h31 (hall ⟨31,.data⟩ (by simp) rfl)
   refine wpOp_one ho' rfl fun K hK=>?_
   go_simp
   exact hK _ _ ⟨y0,y1,y2,y3,y4,y5,y6,y7,y8,y9,y10,y11,y12,y13,y14,y15,y16,y17,y18,y19,y20,y21,y22,y23,_,y25,y26,y27,y28,y29,y30,_,_,rfl,hb,h0,h1,h2,h3,h4,h5,h6,h7,h8,h9,h10,h11,h12,h13,h14,h15,h16,h17,h18,h19,h20,h21,h22,h23,fun _=>rfl,h25,h26,h27,h28,h29,h30,fun _=>rfl,fun _=>(by first | rfl | simp)⟩
  | k+33,hi=>omega
end Go.Proofs.YtbohmcfplgdlpaaDoor.Lc
