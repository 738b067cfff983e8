/- Of every tree, config and truth the statement ConfigMoves returns true, and they read afterwards as before; the card: what its row lists is tied to the program's text.
   No condition. -/
import Derived.Test.YtahibconfijjgaaGreatDoorPG
import Derived.WalkKit
import Derived.KernelRfl
import Derived.Test.YtahibconfijjgaaGreatDoorPZ
import Derived.Test.YtahibconfijjgaaGreatDoorPJ
import Derived.Test.YtahibconfijjgaaGreatDoorPM
import Derived.Test.YtahibconfijjgaaGreatDoorKM
import Derived.Test.YtahibconfijjgaaGreatDoorMRef
import Derived.Test.YtahibconfijjgaaGreatDoorCards
import Derived.Test.YtahibconfijjgaaGreatDoorTie
import Derived.ProofKit
import Derived.LaidMore
import Derived.OpenShut
import Derived.ChangeOld
import Derived.Below
import Derived.SevenTiedAt

/- A region whose order is open, of which some edges bind real Go's compiler alone: by one condition, as in Order.
   Conditions: those that the theorem states. -/
namespace Go.Proofs.YtahibconfijjgaaGreatDoor
open Go.RowKit
section
variable {P:Program} {ops:Array Oper} {Q:Exit→Act→World→Prop}
theorem ready_allB {s:Array Bool} (hs:s.size=ops.size) (hacy:∀ (i:Nat) (o:Oper),ops[i]? = some o→∀ e∈o.after,Region.binds .any e=true→e.on<i) (h:Region.ready .any ops s=[]):∀ i,i<ops.size→lst14 s i=true:=by
 intro i
 induction i using Nat.strongRecOn with
 | ind i ih =>
  intro hi
  cases e:lst14 s i with
  | true=>rfl
  | false =>
   exfalso
   have hm:i∈Region.ready .any ops s:=by
    refine mem_ready.2 ⟨?_,ops[i],by simp [hi],fun e he hbd=>?_⟩
    ·unfold lst14 at e
     rw [Array.getD_eq_getD_getElem?] at e ⊢
     rw [Array.getElem?_eq_getElem (by omega)] at e ⊢
     simpa using e
    ·have hlt:=hacy i ops[i] (by simp [hi]) e he hbd
     exact ih _ hlt (by omega)
   rw [h] at hm
   cases hm
theorem wpAny_invB (I:(Nat→Bool)→Act→World→Prop) (hacy:∀ (i:Nat) (o:Oper),ops[i]? = some o→∀ e∈o.after,Region.binds .any e=true→e.on<i)
  (hstep:∀ l a w i o,I l a w→ops[i]? = some o→l i=false→(∀ e∈o.after,Region.binds .any e=true→l e.on=true)→wpOp P ops Q i (I (upd l i)) a w)
  (hdone:∀ l a w,I l a w→(∀ i,i<ops.size→l i=true)→Q .normal a w) :
  ∀ (fuel:Nat) (s:Array Bool) (a:Act) (w:World),s.size=ops.size→left s≤fuel→I (lst14 s) a w→wpAny P .any ops Q fuel s a w:=by
 intro fuel
 induction fuel with
 | zero =>
  intro s a w hs hl hI
  have hnil:Region.ready .any ops s=[]:=by
   apply List.eq_nil_iff_forall_not_mem.2
   intro i hi
   obtain ⟨h1,_⟩:=mem_ready.1 hi
   have:=left_set s.toList i (getD_false h1)
   unfold left at hl
   omega
  exact ⟨hnil,hdone _ _ _ hI (ready_allB hs hacy hnil)⟩
 | succ fuel ih =>
  intro s a w hs hl hI
  refine ⟨fun hnil=>hdone _ _ _ hI (ready_allB hs hacy hnil),fun i hi=>?_⟩
  obtain ⟨h1,o,ho,hall⟩:=mem_ready.1 hi
  have hlt:i<s.size:=by
   have:=getD_false h1
   have:=(List.getElem?_eq_some_iff.1 this).1
   simpa using this
  have hf:lst14 s i=false:=by
   unfold lst14
   rw [Array.getD_eq_getD_getElem?] at h1 ⊢
   rw [Array.getElem?_eq_getElem hlt] at h1 ⊢
   simpa using h1
  refine wpOp_mono (fun a' w' hI'=>?_) (hstep _ a w i o hI ho hf hall)
  refine ih _ a' w' (by simpa using hs) ?_ (by rw [upd_listed _ _ hlt];exact hI')
  have:=left_set s.toList i (getD_false h1)
  unfold left at hl ⊢
  simp only [Array.toList_setIfInBounds]
  omega
def acyB (ops:Array Oper):Bool:=(List.range ops.size).all fun i=>((ops[i]?).map fun o=>o.after.all fun e=>!Region.binds .any e || decide (e.on<i)).getD true
theorem acyB_spec (h:acyB ops=true):∀ (i:Nat) (o:Oper),ops[i]? = some o→∀ e∈o.after,Region.binds .any e=true→e.on<i:=by
 intro i o ho e he hb
 have hi:i<ops.size:=(Array.getElem?_eq_some_iff.1 ho).1
 have h1:=List.all_eq_true.1 h i (by simpa using hi)
 rw [ho] at h1
 simp only [Option.map_some,Option.getD_some] at h1
 have h2:=(Array.all_eq_true'.1 h1) e he
 rw [hb] at h2
 simpa using h2
theorem wp_region_invB {id:Nat} {a:Act} {w:World} (hm:P.follows .mixedOrders=true) (I:(Nat→Bool)→Act→World→Prop)
  (hacy:acyB ops=true)
  (h0:I (fun _=>false) a w.drew)
  (hstep:∀ l a w i o,I l a w→ops[i]? = some o→l i=false→(∀ e∈o.after,Region.binds .any e=true→l e.on=true)→wpOp P ops Q i (I (upd l i)) a w)
  (hdone:∀ l a w,I l a w→(∀ i,i<ops.size→l i=true)→Q .normal a w):(Code.region id ops true).wp P Q a w :=
 wp_region_any hm (wpAny_invB I (acyB_spec hacy) hstep hdone _ _ _ _ (by simp) (left_replicate _) (by
  have:lst14 (Array.replicate ops.size false)=fun _=>false:=by
   funext j
   unfold lst14
   rw [Array.getD_eq_getD_getElem?,Array.getElem?_replicate]
   split <;> rfl
  rw [this];exact h0))
end
end Go.Proofs.YtahibconfijjgaaGreatDoor

/- Two drawn regions of the walk of ConfigMoves: what a move of a config comes to, by the program and by the document, is boxed.
   Conditions: what they load lies in memory; the contract of what they call. -/
namespace Go.Proofs.YtahibconfijjgaaGreatDoor
open Go.RowKit Go.Shelf
abbrev opsregMy13:Array Oper:=#[{ dst:=some 63,op:=Op.load 41 (Operand.tmp 7),type:=41,pos := "law.go:73",after:=#[],guard:=none },
 { dst:=some 64,op:=Op.load 30 (Operand.tmp 4),type:=30,pos := "law.go:73",after:=#[],guard:=none },
 { dst:=some 65,op:=Op.fieldAddr 41 (Operand.tmp 7) 2,type:=0,pos := "law.go:73",after:=#[],guard:=none },
 { dst:=some 66,op:=Op.load 38 (Operand.tmp 65),type:=38,pos := "law.go:73",after:=#[{ on:=2,ground:=Ground.data }],guard:=none },
 { dst:=some 67,op:=Op.fieldAddr 30 (Operand.tmp 4) 0,type:=0,pos := "law.go:73",after:=#[],guard:=none },
 { dst:=some 68,op:=Op.load 3 (Operand.tmp 67),type:=3,pos := "law.go:73",after:=#[{ on:=4,ground:=Ground.data }],guard:=none },
 { dst:=some 69,op:=Op.indexAddr 38 (Operand.tmp 66) (Operand.tmp 68),type:=0,pos := "law.go:73",after:=#[{ on:=3,ground:=Ground.data },{ on:=5,ground:=Ground.data }],guard:=none },
 { dst:=some 70,op:=Op.load 52 (Operand.tmp 69),type:=52,pos := "law.go:73",after:=#[{ on:=6,ground:=Ground.data }],guard:=none },
 { dst:=some 71,op:=Op.move (Operand.tmp 11),type:=3,pos := "law.go:73",after:=#[],guard:=none },
 { dst:=some 72,op:=Op.indexAddr 52 (Operand.tmp 70) (Operand.tmp 71),type:=0,pos := "law.go:73",after:=#[{ on:=7,ground:=Ground.data },{ on:=8,ground:=Ground.data }],guard:=none },
 { dst:=some 73,op:=Op.load 49 (Operand.tmp 72),type:=49,pos := "law.go:73",after:=#[{ on:=9,ground:=Ground.data }],guard:=none },
 { dst:=some 74,op:=Op.call { callee:=Callee.value (Operand.func 14),args:=#[Operand.tmp 63,Operand.tmp 64,Operand.tmp 73],argTypes:=#[41,30,49] },type:=46,pos := "law.go:73",after:=#[{ on:=0,ground:=Ground.data },{ on:=1,ground:=Ground.data },{ on:=10,ground:=Ground.data }],guard:=none },
 { dst:=some 62,op:=Op.move (Operand.tmp 74),type:=46,pos := "law.go:73",after:=#[{ on:=11,ground:=Ground.data }],guard:=none },
 { dst:=some 75,op:=Op.extract (Operand.tmp 62) 0,type:=30,pos := "law.go:73",after:=#[{ on:=12,ground:=Ground.data }],guard:=none },
 { dst:=some 76,op:=Op.extract (Operand.tmp 62) 1,type:=4,pos := "law.go:73",after:=#[{ on:=12,ground:=Ground.data },{ on:=16,ground:=Ground.gcOnly Departure.lateStores }],guard:=none },
 { dst:=some 12,op:=Op.alloc 30,type:=0,pos := "law.go:73",after:=#[],guard:=none },
 { dst:=none,op:=Op.store 30 (Operand.tmp 12) (Operand.tmp 75),type:=0,pos := "law.go:73",after:=#[{ on:=15,ground:=Ground.data },{ on:=13,ground:=Ground.data },{ on:=11,ground:=Ground.chain },{ on:=0,ground:=Ground.phase },{ on:=1,ground:=Ground.phase },{ on:=2,ground:=Ground.phase },{ on:=3,ground:=Ground.phase },{ on:=4,ground:=Ground.phase },{ on:=5,ground:=Ground.phase },{ on:=6,ground:=Ground.phase },{ on:=7,ground:=Ground.phase },{ on:=8,ground:=Ground.phase },{ on:=9,ground:=Ground.phase },{ on:=10,ground:=Ground.phase },{ on:=11,ground:=Ground.phase },{ on:=12,ground:=Ground.phase },{ on:=13,ground:=Ground.phase },{ on:=14,ground:=Ground.textOnly Departure.lateStores },{ on:=15,ground:=Ground.phase }],guard:=none },
 { dst:=some 13,op:=Op.assign (Operand.tmp 76),type:=4,pos := "law.go:73",after:=#[{ on:=14,ground:=Ground.data },{ on:=16,ground:=Ground.chain },{ on:=0,ground:=Ground.phase },{ on:=1,ground:=Ground.phase },{ on:=2,ground:=Ground.phase },{ on:=3,ground:=Ground.phase },{ on:=4,ground:=Ground.phase },{ on:=5,ground:=Ground.phase },{ on:=6,ground:=Ground.phase },{ on:=7,ground:=Ground.phase },{ on:=8,ground:=Ground.phase },{ on:=9,ground:=Ground.phase },{ on:=10,ground:=Ground.phase },{ on:=11,ground:=Ground.phase },{ on:=12,ground:=Ground.phase },{ on:=13,ground:=Ground.phase },{ on:=14,ground:=Ground.phase },{ on:=15,ground:=Ground.phase },{ on:=16,ground:=Ground.phase }],guard:=none }]
def IregMy13 (ca cc:Array Value) (ab cb mb g sN q i ln c:Nat) (xt xk P0:Int) (X0:Nat→Int) (xa bs:Bool) (D:List Deferred) (v0 v1 v2 v3 v5 v6 v8 v9 v10 v14 v15 v16 v17 v18 v19 v20 v21 v22 v23 v24 v25 v26 v27 v28 v29 v30 v31 v32 v33 v34 v35 v36 v37 v38 v39 v40 v41 v42 v43 v44 v45 v46 v47 v48 v49 v50 v51 v52 v53 v54 v55 v56 v57 v58 v59 v60 v61 v77 v78 v79 v80 v81 v82 v83 v84 v85 v86 v87 v88 v89 v90 v91 v92 v93 v94 v95 v96 v97 v98 v99 v100 v101 v102 v103 v104 v105 v106 v107 v108 v109 v110 v111 v112 v113 v114 v115 v116 v117 v118 v119 v120 v121 v122:Value) (w0:World) (l:Nat→Bool) (a:Act) (w:World):Prop :=
 ∃ (y0 y1 y2 y3 y4 y5 y6 y7 y8 y9 y10 y11 y12 y13 y14 y15 y17:Value) (xb:Nat),a = { tmps:=#[v0,v1,v2,v3,.pointer (some ⟨cb,0,none⟩),v5,v6,.pointer (some ⟨ab,0,none⟩),v8,v9,v10,.int .i64 (i:Int),y15,y17,v14,v15,v16,v17,v18,v19,v20,v21,v22,v23,v24,v25,v26,v27,v28,v29,v30,v31,v32,v33,v34,v35,v36,v37,v38,v39,v40,v41,v42,v43,v44,v45,v46,v47,v48,v49,v50,v51,v52,v53,v54,v55,v56,v57,v58,v59,v60,v61,y12,y0,y1,y2,y3,y4,y5,y6,y7,y8,y9,y10,y11,y13,y14,v77,v78,v79,v80,v81,v82,v83,v84,v85,v86,v87,v88,v89,v90,v91,v92,v93,v94,v95,v96,v97,v98,v99,v100,v101,v102,v103,v104,v105,v106,v107,v108,v109,v110,v111,v112,v113,v114,v115,v116,v117,v118,v119,v120,v121,v122],defers:=D }∧Below w0.heap.size w0 w∧(l 15=true→w0.heap.size≤xb∧(l 16=false→w.heap[xb]? = some (.cells #[.int .i64 0,.int .i64 0,.int .i64 0,.int .i64 0,.int .i64 0] 30 (0,0)))∧(l 16=true→w.heap[xb]? = some (.cells #[.int .i64 P0,.int .i64 (X0 0),.int .i64 (X0 1),.int .i64 (X0 2),.int .i64 (X0 3)] 30 (0,0))))∧(l 16=true→l 15=true) ∧
  (l 0=true→y0=.agg ca)∧(l 1=true→y1=.agg cc)∧(l 2=true→y2=.pointer (some ⟨ab,12,none⟩))∧(l 3=true→y3=.slice (some ⟨mb,0,none⟩) sN sN)∧(l 4=true→y4=.pointer (some ⟨cb,0,none⟩))∧(l 5=true→y5=.int .i64 (q:Int))∧(l 6=true→y6=.pointer (some ⟨mb,q,none⟩))∧(l 7=true→y7=.slice (some ⟨g,0,none⟩) ln c)∧(l 8=true→y8=.int .i64 (i:Int))∧(l 9=true→y9=.pointer (some ⟨g,i * 3,none⟩))∧(l 10=true→y10=.agg #[.int .i64 xt,.int .i64 xk,.bool xa])∧(l 11=true→y11=.tuple #[.agg #[.int .i64 P0,.int .i64 (X0 0),.int .i64 (X0 1),.int .i64 (X0 2),.int .i64 (X0 3)],.bool bs])∧(l 12=true→y12=.tuple #[.agg #[.int .i64 P0,.int .i64 (X0 0),.int .i64 (X0 1),.int .i64 (X0 2),.int .i64 (X0 3)],.bool bs])∧(l 13=true→y13=.agg #[.int .i64 P0,.int .i64 (X0 0),.int .i64 (X0 1),.int .i64 (X0 2),.int .i64 (X0 3)])∧(l 14=true→y14=.bool bs)∧(l 15=true→y15=.pointer (some ⟨xb,0,none⟩))∧(l 17=true→y17=.bool bs)
set_option maxHeartbeats 8000000 in
set_option maxRecDepth 100000 in
theorem regMy13 (ca cc:Array Value) (ab cb mb g sN q i ln c:Nat) (xt xk P0:Int) (X0:Nat→Int) (xa bs:Bool) (D:List Deferred) (v0 v1 v2 v3 v5 v6 v8 v9 v10 v14 v15 v16 v17 v18 v19 v20 v21 v22 v23 v24 v25 v26 v27 v28 v29 v30 v31 v32 v33 v34 v35 v36 v37 v38 v39 v40 v41 v42 v43 v44 v45 v46 v47 v48 v49 v50 v51 v52 v53 v54 v55 v56 v57 v58 v59 v60 v61 v77 v78 v79 v80 v81 v82 v83 v84 v85 v86 v87 v88 v89 v90 v91 v92 v93 v94 v95 v96 v97 v98 v99 v100 v101 v102 v103 v104 v105 v106 v107 v108 v109 v110 v111 v112 v113 v114 v115 v116 v117 v118 v119 v120 v121 v122 wy0 wy1 wy2 wy3 wy4 wy5 wy6 wy7 wy8 wy9 wy10 wy11 wy12 wy13 wy14 wy15 wy17:Value) (w:World) (hA:∀ w',Below w.heap.size w w'→w'.heap[ab]? = some (.cells ca 41 (0,0))) (hC:∀ w',Below w.heap.size w w'→w'.heap[cb]? = some (.cells cc 30 (0,0))) (sA:(Tryz.prog.info? 41).map (·.size)=some ca.size) (sC:(Tryz.prog.info? 30).map (·.size)=some cc.size) (hlv:(∀ w',Below w.heap.size w w'→w'.cell? ⟨ab,12,none⟩=some (.slice (some ⟨mb,0,none⟩) sN sN))) (hq:(∀ w',Below w.heap.size w w'→w'.cell? ⟨cb,0,none⟩=some (.int .i64 (q:Int)))) (hr:(∀ w',Below w.heap.size w w'→w'.cell? ⟨mb,q,none⟩=some (.slice (some ⟨g,0,none⟩) ln c))) (hx0:(∀ w',Below w.heap.size w w'→w'.cell? ⟨g,i * 3,none⟩=some (.int .i64 xt))) (hx1:(∀ w',Below w.heap.size w w'→w'.cell? ⟨g,i * 3+1,none⟩=some (.int .i64 xk))) (hx2:(∀ w',Below w.heap.size w w'→w'.cell? ⟨g,i * 3+2,none⟩=some (.bool xa))) (hc1:∀ w',Below w.heap.size w w'→Calls Tryz.prog 14 #[.agg ca,.agg cc,.agg #[.int .i64 xt,.int .i64 xk,.bool xa]] w' fun e w2=>e=.returned (.tuple #[.agg #[.int .i64 P0,.int .i64 (X0 0),.int .i64 (X0 1),.int .i64 (X0 2),.int .i64 (X0 3)],.bool bs])∧Below w'.heap.size w' w2) (e1:(q:Int)<(sN:Int)) (e2:(0:Int)≤(q:Int)) (t1:((q:Int)).toNat=q) (e3:(i:Int)<(ln:Int)) (e4:(0:Int)≤(i:Int)) (t2:((i:Int)).toNat=i) (Q:Exit→Act→World→Prop)
  (hQ:∀ (xb:Nat) (w':World),Below w.heap.size w w'→w.heap.size≤xb→w'.heap[xb]? = some (.cells #[.int .i64 P0,.int .i64 (X0 0),.int .i64 (X0 1),.int .i64 (X0 2),.int .i64 (X0 3)] 30 (0,0))→Q .normal { tmps:=#[v0,v1,v2,v3,.pointer (some ⟨cb,0,none⟩),v5,v6,.pointer (some ⟨ab,0,none⟩),v8,v9,v10,.int .i64 (i:Int),.pointer (some ⟨xb,0,none⟩),.bool bs,v14,v15,v16,v17,v18,v19,v20,v21,v22,v23,v24,v25,v26,v27,v28,v29,v30,v31,v32,v33,v34,v35,v36,v37,v38,v39,v40,v41,v42,v43,v44,v45,v46,v47,v48,v49,v50,v51,v52,v53,v54,v55,v56,v57,v58,v59,v60,v61,.tuple #[.agg #[.int .i64 P0,.int .i64 (X0 0),.int .i64 (X0 1),.int .i64 (X0 2),.int .i64 (X0 3)],.bool bs],.agg ca,.agg cc,.pointer (some ⟨ab,12,none⟩),.slice (some ⟨mb,0,none⟩) sN sN,.pointer (some ⟨cb,0,none⟩),.int .i64 (q:Int),.pointer (some ⟨mb,q,none⟩),.slice (some ⟨g,0,none⟩) ln c,.int .i64 (i:Int),.pointer (some ⟨g,i * 3,none⟩),.agg #[.int .i64 xt,.int .i64 xk,.bool xa],.tuple #[.agg #[.int .i64 P0,.int .i64 (X0 0),.int .i64 (X0 1),.int .i64 (X0 2),.int .i64 (X0 3)],.bool bs],.agg #[.int .i64 P0,.int .i64 (X0 0),.int .i64 (X0 1),.int .i64 (X0 2),.int .i64 (X0 3)],.bool bs,v77,v78,v79,v80,v81,v82,v83,v84,v85,v86,v87,v88,v89,v90,v91,v92,v93,v94,v95,v96,v97,v98,v99,v100,v101,v102,v103,v104,v105,v106,v107,v108,v109,v110,v111,v112,v113,v114,v115,v116,v117,v118,v119,v120,v121,v122],defers:=D } w') :
  (Code.region 13 opsregMy13 true).wp Tryz.prog Q { tmps:=#[v0,v1,v2,v3,.pointer (some ⟨cb,0,none⟩),v5,v6,.pointer (some ⟨ab,0,none⟩),v8,v9,v10,.int .i64 (i:Int),wy15,wy17,v14,v15,v16,v17,v18,v19,v20,v21,v22,v23,v24,v25,v26,v27,v28,v29,v30,v31,v32,v33,v34,v35,v36,v37,v38,v39,v40,v41,v42,v43,v44,v45,v46,v47,v48,v49,v50,v51,v52,v53,v54,v55,v56,v57,v58,v59,v60,v61,wy12,wy0,wy1,wy2,wy3,wy4,wy5,wy6,wy7,wy8,wy9,wy10,wy11,wy13,wy14,v77,v78,v79,v80,v81,v82,v83,v84,v85,v86,v87,v88,v89,v90,v91,v92,v93,v94,v95,v96,v97,v98,v99,v100,v101,v102,v103,v104,v105,v106,v107,v108,v109,v110,v111,v112,v113,v114,v115,v116,v117,v118,v119,v120,v121,v122],defers:=D } w:=by
 refine wp_region_invB (by kernel_rfl) (IregMy13 ca cc ab cb mb g sN q i ln c xt xk P0 X0 xa bs D v0 v1 v2 v3 v5 v6 v8 v9 v10 v14 v15 v16 v17 v18 v19 v20 v21 v22 v23 v24 v25 v26 v27 v28 v29 v30 v31 v32 v33 v34 v35 v36 v37 v38 v39 v40 v41 v42 v43 v44 v45 v46 v47 v48 v49 v50 v51 v52 v53 v54 v55 v56 v57 v58 v59 v60 v61 v77 v78 v79 v80 v81 v82 v83 v84 v85 v86 v87 v88 v89 v90 v91 v92 v93 v94 v95 v96 v97 v98 v99 v100 v101 v102 v103 v104 v105 v106 v107 v108 v109 v110 v111 v112 v113 v114 v115 v116 v117 v118 v119 v120 v121 v122 w) ?hacy ?h0 ?hstep ?hdone
 case hacy=>kernel_rfl
 case h0=>exact ⟨wy0,wy1,wy2,wy3,wy4,wy5,wy6,wy7,wy8,wy9,wy10,wy11,wy12,wy13,wy14,wy15,wy17,0,rfl,below_drewN (Below.refl _ _) 1,(fun p=>by cases p),(fun p=>by cases p),(fun p=>by cases p),(fun p=>by cases p),(fun p=>by cases p),(fun p=>by cases p),(fun p=>by cases p),(fun p=>by cases p),(fun p=>by cases p),(fun p=>by cases p),(fun p=>by cases p),(fun p=>by cases p),(fun p=>by cases p),(fun p=>by cases p),(fun p=>by cases p),(fun p=>by cases p),(fun p=>by cases p),(fun p=>by cases p),(fun p=>by cases p)⟩
 case hdone =>
  intro l a w1 hI hall
  obtain ⟨y0,y1,y2,y3,y4,y5,y6,y7,y8,y9,y10,y11,y12,y13,y14,y15,y17,xb,rfl,hb,hAl,hSt,h0,h1,h2,h3,h4,h5,h6,h7,h8,h9,h10,h11,h12,h13,h14,h15,h17⟩:=hI
  obtain rfl:=h0 (hall 0 (by decide))
  obtain rfl:=h1 (hall 1 (by decide))
  obtain rfl:=h2 (hall 2 (by decide))
  obtain rfl:=h3 (hall 3 (by decide))
  obtain rfl:=h4 (hall 4 (by decide))
  obtain rfl:=h5 (hall 5 (by decide))
  obtain rfl:=h6 (hall 6 (by decide))
  obtain rfl:=h7 (hall 7 (by decide))
  obtain rfl:=h8 (hall 8 (by decide))
  obtain rfl:=h9 (hall 9 (by decide))
  obtain rfl:=h10 (hall 10 (by decide))
  obtain rfl:=h11 (hall 11 (by decide))
  obtain rfl:=h12 (hall 12 (by decide))
  obtain rfl:=h13 (hall 13 (by decide))
  obtain rfl:=h14 (hall 14 (by decide))
  obtain rfl:=h15 (hall 15 (by decide))
  obtain rfl:=h17 (hall 17 (by decide))
  exact hQ xb w1 hb (hAl (hall 15 (by decide))).1 ((hAl (hall 15 (by decide))).2.2 (hall 16 (by decide)))
 case hstep =>
  intro l a w1 j o hI ho hl hall
  obtain ⟨y0,y1,y2,y3,y4,y5,y6,y7,y8,y9,y10,y11,y12,y13,y14,y15,y17,xb,rfl,hb,hAl,hSt,h0,h1,h2,h3,h4,h5,h6,h7,h8,h9,h10,h11,h12,h13,h14,h15,h17⟩:=hI
  have hj:j<18:=(Array.getElem?_eq_some_iff.1 ho).1
  match j,hj with
  | 0,_ =>
   have ho':=ho
   simp [opsregMy13] at ho
   subst ho
   refine wpOp_one ho' rfl fun K hK=>?_
   refine wp_load_row 41 (.tmp 7) rfl ab rfl 41 ca (0,0) _ (hA w1 hb) Tryz.underlying41 rfl sA ?_
   refine hK _ _ ?_
   iterate 18 apply Exists.intro
   refine ⟨rfl,hb,hAl,hSt,?_⟩
   repeat' apply And.intro
   all_goals first | assumption | exact fun _=>rfl | exact fun _=>(by first | rfl | simp)
  | 1,_ =>
   have ho':=ho
   simp [opsregMy13] at ho
   subst ho
   refine wpOp_one ho' rfl fun K hK=>?_
   refine wp_load_row 30 (.tmp 4) rfl cb rfl 30 cc (0,0) _ (hC w1 hb) Tryz.underlying30 rfl sC ?_
   refine hK _ _ ?_
   iterate 18 apply Exists.intro
   refine ⟨rfl,hb,hAl,hSt,?_⟩
   repeat' apply And.intro
   all_goals first | assumption | exact fun _=>rfl | exact fun _=>(by first | rfl | simp)
  | 2,_ =>
   have ho':=ho
   simp [opsregMy13] at ho
   subst ho
   refine wpOp_one ho' rfl fun K hK=>?_
   go_simp
   refine hK _ _ ?_
   iterate 18 apply Exists.intro
   refine ⟨rfl,hb,hAl,hSt,?_⟩
   repeat' apply And.intro
   all_goals first | assumption | exact fun _=>rfl | exact fun _=>(by first | rfl | simp)
  | 3,_ =>
   have ho':=ho
   simp [opsregMy13] at ho
   subst ho
   have q2:=hall ⟨2,.data⟩ (by simp) rfl
   obtain rfl:=h2 q2
   refine wpOp_one ho' rfl fun K hK=>?_
   have c0:=hlv w1 hb
   go_simp
   refine hK _ _ ?_
   iterate 18 apply Exists.intro
   refine ⟨rfl,hb,hAl,hSt,?_⟩
   repeat' apply And.intro
   all_goals first | assumption | exact fun _=>rfl | exact fun _=>(by first | rfl | simp)
  | 4,_ =>
   have ho':=ho
   simp [opsregMy13] at ho
   subst ho
   refine wpOp_one ho' rfl fun K hK=>?_
   go_simp
   refine hK _ _ ?_
   iterate 18 apply Exists.intro
   refine ⟨rfl,hb,hAl,hSt,?_⟩
   repeat' apply And.intro
   all_goals first | assumption | exact fun _=>rfl | exact fun _=>(by first | rfl | simp)
  | 5,_ =>
   have ho':=ho
   simp [opsregMy13] at ho
   subst ho
   have q4:=hall ⟨4,.data⟩ (by simp) rfl
   obtain rfl:=h4 q4
   refine wpOp_one ho' rfl fun K hK=>?_
   have c0:=hq w1 hb
   go_simp
   refine hK _ _ ?_
   iterate 18 apply Exists.intro
   refine ⟨rfl,hb,hAl,hSt,?_⟩
   repeat' apply And.intro
   all_goals first | assumption | exact fun _=>rfl | exact fun _=>(by first | rfl | simp)
  | 6,_ =>
   have ho':=ho
   simp [opsregMy13] at ho
   subst ho
   have q3:=hall ⟨3,.data⟩ (by simp) rfl
   obtain rfl:=h3 q3
   have q5:=hall ⟨5,.data⟩ (by simp) rfl
   obtain rfl:=h5 q5
   refine wpOp_one ho' rfl fun K hK=>?_
   go_simp
   refine hK _ _ ?_
   iterate 18 apply Exists.intro
   refine ⟨rfl,hb,hAl,hSt,?_⟩
   repeat' apply And.intro
   all_goals first | assumption | exact fun _=>rfl | exact fun _=>(by first | rfl | simp)
  | 7,_ =>
   have ho':=ho
   simp [opsregMy13] at ho
   subst ho
   have q6:=hall ⟨6,.data⟩ (by simp) rfl
   obtain rfl:=h6 q6
   refine wpOp_one ho' rfl fun K hK=>?_
   have c0:=hr w1 hb
   go_simp
   refine hK _ _ ?_
   iterate 18 apply Exists.intro
   refine ⟨rfl,hb,hAl,hSt,?_⟩
   repeat' apply And.intro
   all_goals first | assumption | exact fun _=>rfl | exact fun _=>(by first | rfl | simp)
  | 8,_ =>
   have ho':=ho
   simp [opsregMy13] at ho
   subst ho
   refine wpOp_one ho' rfl fun K hK=>?_
   go_simp
   refine hK _ _ ?_
   iterate 18 apply Exists.intro
   refine ⟨rfl,hb,hAl,hSt,?_⟩
   repeat' apply And.intro
   all_goals first | assumption | exact fun _=>rfl | exact fun _=>(by first | rfl | simp)
  | 9,_ =>
   have ho':=ho
   simp [opsregMy13] at ho
   subst ho
   have q7:=hall ⟨7,.data⟩ (by simp) rfl
   obtain rfl:=h7 q7
   have q8:=hall ⟨8,.data⟩ (by simp) rfl
   obtain rfl:=h8 q8
   refine wpOp_one ho' rfl fun K hK=>?_
   go_simp
   refine hK _ _ ?_
   iterate 18 apply Exists.intro
   refine ⟨rfl,hb,hAl,hSt,?_⟩
   repeat' apply And.intro
   all_goals first | assumption | exact fun _=>rfl | exact fun _=>(by first | rfl | simp)
  | 10,_ =>
   have ho':=ho
   simp [opsregMy13] at ho
   subst ho
   have q9:=hall ⟨9,.data⟩ (by simp) rfl
   obtain rfl:=h9 q9
   refine wpOp_one ho' rfl fun K hK=>?_
   have c0:=hx0 w1 hb
   have c1:=hx1 w1 hb
   have c2:=hx2 w1 hb
   go_simp
   refine hK _ _ ?_
   iterate 18 apply Exists.intro
   refine ⟨rfl,hb,hAl,hSt,?_⟩
   repeat' apply And.intro
   all_goals first | assumption | exact fun _=>rfl | exact fun _=>(by first | rfl | simp)
  | 11,_ =>
   have ho':=ho
   simp [opsregMy13] at ho
   subst ho
   have q0:=hall ⟨0,.data⟩ (by simp) rfl
   obtain rfl:=h0 q0
   have q1:=hall ⟨1,.data⟩ (by simp) rfl
   obtain rfl:=h1 q1
   have q10:=hall ⟨10,.data⟩ (by simp) rfl
   obtain rfl:=h10 q10
   refine wpOp_one ho' rfl fun K hK=>?_
   go_simp
   go_at_call 14
   refine (hc1 _ hb).mono ?_
   rintro e w2 ⟨rfl,hb2⟩
   have hk:∀ {k:Nat} {o:Obj},w1.heap[k]? = some o→w2.heap[k]? = some o:=fun {k _} e=>(hb2.block k (Array.getElem?_eq_some_iff.1 e).1).trans e
   refine hK _ _ ?_
   iterate 18 apply Exists.intro
   refine ⟨rfl,hb.trans (hb2.mono hb.size),fun p=>⟨(hAl p).1,fun q=>hk ((hAl p).2.1 q),fun q=>hk ((hAl p).2.2 q)⟩,hSt,?_⟩
   repeat' apply And.intro
   all_goals first | assumption | exact fun _=>rfl | exact fun _=>(by first | rfl | simp)
  | 12,_ =>
   have ho':=ho
   simp [opsregMy13] at ho
   subst ho
   have q11:=hall ⟨11,.data⟩ (by simp) rfl
   obtain rfl:=h11 q11
   refine wpOp_one ho' rfl fun K hK=>?_
   go_simp
   refine hK _ _ ?_
   iterate 18 apply Exists.intro
   refine ⟨rfl,hb,hAl,hSt,?_⟩
   repeat' apply And.intro
   all_goals first | assumption | exact fun _=>rfl | exact fun _=>(by first | rfl | simp)
  | 13,_ =>
   have ho':=ho
   simp [opsregMy13] at ho
   subst ho
   have q12:=hall ⟨12,.data⟩ (by simp) rfl
   obtain rfl:=h12 q12
   refine wpOp_one ho' rfl fun K hK=>?_
   go_simp
   refine hK _ _ ?_
   iterate 18 apply Exists.intro
   refine ⟨rfl,hb,hAl,hSt,?_⟩
   repeat' apply And.intro
   all_goals first | assumption | exact fun _=>rfl | exact fun _=>(by first | rfl | simp)
  | 14,_ =>
   have ho':=ho
   simp [opsregMy13] at ho
   subst ho
   have q12:=hall ⟨12,.data⟩ (by simp) rfl
   obtain rfl:=h12 q12
   refine wpOp_one ho' rfl fun K hK=>?_
   go_simp
   refine hK _ _ ?_
   iterate 18 apply Exists.intro
   refine ⟨rfl,hb,hAl,hSt,?_⟩
   repeat' apply And.intro
   all_goals first | assumption | exact fun _=>rfl | exact fun _=>(by first | rfl | simp)
  | 15,_ =>
   have ho':=ho
   simp [opsregMy13] at ho
   subst ho
   refine wpOp_one ho' rfl fun K hK=>?_
   go_simp
   have hb2:Below w1.heap.size w1 (w1.alloc (.cells #[.int .i64 0,.int .i64 0,.int .i64 0,.int .i64 0,.int .i64 0] 30)):=(Below.refl _ w1).alloc (Nat.le_refl _) _
   refine hK _ _ ?_
   iterate 18 apply Exists.intro
   refine ⟨rfl,hb.trans (hb2.mono hb.size),fun _=>⟨hb.size,fun _=>heap_alloc_new w1 _,fun p=>absurd (hSt p) (by rw [hl];decide)⟩,fun p=>absurd (hSt p) (by rw [hl];decide),?_⟩
   repeat' apply And.intro
   all_goals first | assumption | exact fun _=>rfl | exact fun _=>(by first | rfl | simp)
  | 16,_ =>
   have ho':=ho
   simp [opsregMy13] at ho
   subst ho
   have q13:=hall ⟨13,.data⟩ (by simp) rfl
   obtain rfl:=h13 q13
   have q15:=hall ⟨15,.data⟩ (by simp) rfl
   obtain rfl:=h15 q15
   refine wpOp_one ho' rfl fun K hK=>?_
   have hz:=(hAl q15).2.1 hl
   have rz:=row_cells hz
   have zl:=(Array.getElem?_eq_some_iff.1 hz).1
   have z0:=rz.1 0;have f0:=rz.2 0
   have z1:=rz.1 1;have f1:=rz.2 1
   have z2:=rz.1 2;have f2:=rz.2 2
   have z3:=rz.1 3;have f3:=rz.2 3
   have z4:=rz.1 4;have f4:=rz.2 4
   clear rz
   go_simp
   have hs:=set5_heap (w:=w1) (b:=xb) (q:=0) (y:=fun _=>0) hz P0 X0
   have hc:=set5_chg w1 xb (.int .i64 P0) (.int .i64 (X0 0)) (.int .i64 (X0 1)) (.int .i64 (X0 2)) (.int .i64 (X0 3))
   generalize (((((w1.setCell ⟨xb,0,none⟩ (.int .i64 P0)).setCell ⟨xb,1,none⟩ (.int .i64 (X0 0))).setCell ⟨xb,2,none⟩ (.int .i64 (X0 1))).setCell ⟨xb,3,none⟩ (.int .i64 (X0 2))).setCell ⟨xb,4,none⟩ (.int .i64 (X0 3)))=w2 at *
   have hx:=(hAl q15).1
   have hb3:Below w.heap.size w w2:=hb.trans (hc.below (B:=w.heap.size) hb.size fun k hk e=>by omega)
   refine hK _ _ ?_
   iterate 18 apply Exists.intro
   refine ⟨rfl,hb3,fun p=>⟨hx,fun q=>(by cases q),fun _=>hs⟩,fun _=>q15,?_⟩
   repeat' apply And.intro
   all_goals first | assumption | exact fun _=>rfl | exact fun _=>(by first | rfl | simp)
  | 17,_ =>
   have ho':=ho
   simp [opsregMy13] at ho
   subst ho
   have q14:=hall ⟨14,.data⟩ (by simp) rfl
   obtain rfl:=h14 q14
   refine wpOp_one ho' rfl fun K hK=>?_
   go_simp
   refine hK _ _ ?_
   iterate 18 apply Exists.intro
   refine ⟨rfl,hb,hAl,hSt,?_⟩
   repeat' apply And.intro
   all_goals first | assumption | exact fun _=>rfl | exact fun _=>(by first | rfl | simp)
  | k+18,hj=>omega
abbrev opsregMy14:Array Oper:=#[{ dst:=some 78,op:=Op.load 41 (Operand.tmp 7),type:=41,pos := "law.go:74",after:=#[],guard:=none },
 { dst:=some 79,op:=Op.load 30 (Operand.tmp 4),type:=30,pos := "law.go:74",after:=#[],guard:=none },
 { dst:=some 80,op:=Op.fieldAddr 41 (Operand.tmp 7) 2,type:=0,pos := "law.go:74",after:=#[],guard:=none },
 { dst:=some 81,op:=Op.load 38 (Operand.tmp 80),type:=38,pos := "law.go:74",after:=#[{ on:=2,ground:=Ground.data }],guard:=none },
 { dst:=some 82,op:=Op.fieldAddr 30 (Operand.tmp 4) 0,type:=0,pos := "law.go:74",after:=#[],guard:=none },
 { dst:=some 83,op:=Op.load 3 (Operand.tmp 82),type:=3,pos := "law.go:74",after:=#[{ on:=4,ground:=Ground.data }],guard:=none },
 { dst:=some 84,op:=Op.indexAddr 38 (Operand.tmp 81) (Operand.tmp 83),type:=0,pos := "law.go:74",after:=#[{ on:=3,ground:=Ground.data },{ on:=5,ground:=Ground.data }],guard:=none },
 { dst:=some 85,op:=Op.load 52 (Operand.tmp 84),type:=52,pos := "law.go:74",after:=#[{ on:=6,ground:=Ground.data }],guard:=none },
 { dst:=some 86,op:=Op.move (Operand.tmp 11),type:=3,pos := "law.go:74",after:=#[],guard:=none },
 { dst:=some 87,op:=Op.indexAddr 52 (Operand.tmp 85) (Operand.tmp 86),type:=0,pos := "law.go:74",after:=#[{ on:=7,ground:=Ground.data },{ on:=8,ground:=Ground.data }],guard:=none },
 { dst:=some 88,op:=Op.load 49 (Operand.tmp 87),type:=49,pos := "law.go:74",after:=#[{ on:=9,ground:=Ground.data }],guard:=none },
 { dst:=some 89,op:=Op.call { callee:=Callee.value (Operand.func 16),args:=#[Operand.tmp 78,Operand.tmp 79,Operand.tmp 88],argTypes:=#[41,30,49] },type:=46,pos := "law.go:74",after:=#[{ on:=0,ground:=Ground.data },{ on:=1,ground:=Ground.data },{ on:=10,ground:=Ground.data }],guard:=none },
 { dst:=some 77,op:=Op.move (Operand.tmp 89),type:=46,pos := "law.go:74",after:=#[{ on:=11,ground:=Ground.data }],guard:=none },
 { dst:=some 90,op:=Op.extract (Operand.tmp 77) 0,type:=30,pos := "law.go:74",after:=#[{ on:=12,ground:=Ground.data }],guard:=none },
 { dst:=some 91,op:=Op.extract (Operand.tmp 77) 1,type:=4,pos := "law.go:74",after:=#[{ on:=12,ground:=Ground.data },{ on:=16,ground:=Ground.gcOnly Departure.lateStores }],guard:=none },
 { dst:=some 14,op:=Op.alloc 30,type:=0,pos := "law.go:74",after:=#[],guard:=none },
 { dst:=none,op:=Op.store 30 (Operand.tmp 14) (Operand.tmp 90),type:=0,pos := "law.go:74",after:=#[{ on:=15,ground:=Ground.data },{ on:=13,ground:=Ground.data },{ on:=11,ground:=Ground.chain },{ on:=0,ground:=Ground.phase },{ on:=1,ground:=Ground.phase },{ on:=2,ground:=Ground.phase },{ on:=3,ground:=Ground.phase },{ on:=4,ground:=Ground.phase },{ on:=5,ground:=Ground.phase },{ on:=6,ground:=Ground.phase },{ on:=7,ground:=Ground.phase },{ on:=8,ground:=Ground.phase },{ on:=9,ground:=Ground.phase },{ on:=10,ground:=Ground.phase },{ on:=11,ground:=Ground.phase },{ on:=12,ground:=Ground.phase },{ on:=13,ground:=Ground.phase },{ on:=14,ground:=Ground.textOnly Departure.lateStores },{ on:=15,ground:=Ground.phase }],guard:=none },
 { dst:=some 15,op:=Op.assign (Operand.tmp 91),type:=4,pos := "law.go:74",after:=#[{ on:=14,ground:=Ground.data },{ on:=16,ground:=Ground.chain },{ on:=0,ground:=Ground.phase },{ on:=1,ground:=Ground.phase },{ on:=2,ground:=Ground.phase },{ on:=3,ground:=Ground.phase },{ on:=4,ground:=Ground.phase },{ on:=5,ground:=Ground.phase },{ on:=6,ground:=Ground.phase },{ on:=7,ground:=Ground.phase },{ on:=8,ground:=Ground.phase },{ on:=9,ground:=Ground.phase },{ on:=10,ground:=Ground.phase },{ on:=11,ground:=Ground.phase },{ on:=12,ground:=Ground.phase },{ on:=13,ground:=Ground.phase },{ on:=14,ground:=Ground.phase },{ on:=15,ground:=Ground.phase },{ on:=16,ground:=Ground.phase }],guard:=none }]
def IregMy14 (ca cc:Array Value) (ab cb mb g sN q i ln c:Nat) (xt xk P0:Int) (X0:Nat→Int) (xa bs:Bool) (D:List Deferred) (v0 v1 v2 v3 v5 v6 v8 v9 v10 v12 v13 v16 v17 v18 v19 v20 v21 v22 v23 v24 v25 v26 v27 v28 v29 v30 v31 v32 v33 v34 v35 v36 v37 v38 v39 v40 v41 v42 v43 v44 v45 v46 v47 v48 v49 v50 v51 v52 v53 v54 v55 v56 v57 v58 v59 v60 v61 v62 v63 v64 v65 v66 v67 v68 v69 v70 v71 v72 v73 v74 v75 v76 v92 v93 v94 v95 v96 v97 v98 v99 v100 v101 v102 v103 v104 v105 v106 v107 v108 v109 v110 v111 v112 v113 v114 v115 v116 v117 v118 v119 v120 v121 v122:Value) (w0:World) (l:Nat→Bool) (a:Act) (w:World):Prop :=
 ∃ (y0 y1 y2 y3 y4 y5 y6 y7 y8 y9 y10 y11 y12 y13 y14 y15 y17:Value) (xb:Nat),a = { tmps:=#[v0,v1,v2,v3,.pointer (some ⟨cb,0,none⟩),v5,v6,.pointer (some ⟨ab,0,none⟩),v8,v9,v10,.int .i64 (i:Int),v12,v13,y15,y17,v16,v17,v18,v19,v20,v21,v22,v23,v24,v25,v26,v27,v28,v29,v30,v31,v32,v33,v34,v35,v36,v37,v38,v39,v40,v41,v42,v43,v44,v45,v46,v47,v48,v49,v50,v51,v52,v53,v54,v55,v56,v57,v58,v59,v60,v61,v62,v63,v64,v65,v66,v67,v68,v69,v70,v71,v72,v73,v74,v75,v76,y12,y0,y1,y2,y3,y4,y5,y6,y7,y8,y9,y10,y11,y13,y14,v92,v93,v94,v95,v96,v97,v98,v99,v100,v101,v102,v103,v104,v105,v106,v107,v108,v109,v110,v111,v112,v113,v114,v115,v116,v117,v118,v119,v120,v121,v122],defers:=D }∧Below w0.heap.size w0 w∧(l 15=true→w0.heap.size≤xb∧(l 16=false→w.heap[xb]? = some (.cells #[.int .i64 0,.int .i64 0,.int .i64 0,.int .i64 0,.int .i64 0] 30 (0,0)))∧(l 16=true→w.heap[xb]? = some (.cells #[.int .i64 P0,.int .i64 (X0 0),.int .i64 (X0 1),.int .i64 (X0 2),.int .i64 (X0 3)] 30 (0,0))))∧(l 16=true→l 15=true) ∧
  (l 0=true→y0=.agg ca)∧(l 1=true→y1=.agg cc)∧(l 2=true→y2=.pointer (some ⟨ab,12,none⟩))∧(l 3=true→y3=.slice (some ⟨mb,0,none⟩) sN sN)∧(l 4=true→y4=.pointer (some ⟨cb,0,none⟩))∧(l 5=true→y5=.int .i64 (q:Int))∧(l 6=true→y6=.pointer (some ⟨mb,q,none⟩))∧(l 7=true→y7=.slice (some ⟨g,0,none⟩) ln c)∧(l 8=true→y8=.int .i64 (i:Int))∧(l 9=true→y9=.pointer (some ⟨g,i * 3,none⟩))∧(l 10=true→y10=.agg #[.int .i64 xt,.int .i64 xk,.bool xa])∧(l 11=true→y11=.tuple #[.agg #[.int .i64 P0,.int .i64 (X0 0),.int .i64 (X0 1),.int .i64 (X0 2),.int .i64 (X0 3)],.bool bs])∧(l 12=true→y12=.tuple #[.agg #[.int .i64 P0,.int .i64 (X0 0),.int .i64 (X0 1),.int .i64 (X0 2),.int .i64 (X0 3)],.bool bs])∧(l 13=true→y13=.agg #[.int .i64 P0,.int .i64 (X0 0),.int .i64 (X0 1),.int .i64 (X0 2),.int .i64 (X0 3)])∧(l 14=true→y14=.bool bs)∧(l 15=true→y15=.pointer (some ⟨xb,0,none⟩))∧(l 17=true→y17=.bool bs)
set_option maxHeartbeats 8000000 in
set_option maxRecDepth 100000 in
theorem regMy14 (ca cc:Array Value) (ab cb mb g sN q i ln c:Nat) (xt xk P0:Int) (X0:Nat→Int) (xa bs:Bool) (D:List Deferred) (v0 v1 v2 v3 v5 v6 v8 v9 v10 v12 v13 v16 v17 v18 v19 v20 v21 v22 v23 v24 v25 v26 v27 v28 v29 v30 v31 v32 v33 v34 v35 v36 v37 v38 v39 v40 v41 v42 v43 v44 v45 v46 v47 v48 v49 v50 v51 v52 v53 v54 v55 v56 v57 v58 v59 v60 v61 v62 v63 v64 v65 v66 v67 v68 v69 v70 v71 v72 v73 v74 v75 v76 v92 v93 v94 v95 v96 v97 v98 v99 v100 v101 v102 v103 v104 v105 v106 v107 v108 v109 v110 v111 v112 v113 v114 v115 v116 v117 v118 v119 v120 v121 v122 wy0 wy1 wy2 wy3 wy4 wy5 wy6 wy7 wy8 wy9 wy10 wy11 wy12 wy13 wy14 wy15 wy17:Value) (w:World) (hA:∀ w',Below w.heap.size w w'→w'.heap[ab]? = some (.cells ca 41 (0,0))) (hC:∀ w',Below w.heap.size w w'→w'.heap[cb]? = some (.cells cc 30 (0,0))) (sA:(Tryz.prog.info? 41).map (·.size)=some ca.size) (sC:(Tryz.prog.info? 30).map (·.size)=some cc.size) (hlv:(∀ w',Below w.heap.size w w'→w'.cell? ⟨ab,12,none⟩=some (.slice (some ⟨mb,0,none⟩) sN sN))) (hq:(∀ w',Below w.heap.size w w'→w'.cell? ⟨cb,0,none⟩=some (.int .i64 (q:Int)))) (hr:(∀ w',Below w.heap.size w w'→w'.cell? ⟨mb,q,none⟩=some (.slice (some ⟨g,0,none⟩) ln c))) (hx0:(∀ w',Below w.heap.size w w'→w'.cell? ⟨g,i * 3,none⟩=some (.int .i64 xt))) (hx1:(∀ w',Below w.heap.size w w'→w'.cell? ⟨g,i * 3+1,none⟩=some (.int .i64 xk))) (hx2:(∀ w',Below w.heap.size w w'→w'.cell? ⟨g,i * 3+2,none⟩=some (.bool xa))) (hc1:∀ w',Below w.heap.size w w'→Calls Tryz.prog 16 #[.agg ca,.agg cc,.agg #[.int .i64 xt,.int .i64 xk,.bool xa]] w' fun e w2=>e=.returned (.tuple #[.agg #[.int .i64 P0,.int .i64 (X0 0),.int .i64 (X0 1),.int .i64 (X0 2),.int .i64 (X0 3)],.bool bs])∧Below w'.heap.size w' w2) (e1:(q:Int)<(sN:Int)) (e2:(0:Int)≤(q:Int)) (t1:((q:Int)).toNat=q) (e3:(i:Int)<(ln:Int)) (e4:(0:Int)≤(i:Int)) (t2:((i:Int)).toNat=i) (Q:Exit→Act→World→Prop)
  (hQ:∀ (xb:Nat) (w':World),Below w.heap.size w w'→w.heap.size≤xb→w'.heap[xb]? = some (.cells #[.int .i64 P0,.int .i64 (X0 0),.int .i64 (X0 1),.int .i64 (X0 2),.int .i64 (X0 3)] 30 (0,0))→Q .normal { tmps:=#[v0,v1,v2,v3,.pointer (some ⟨cb,0,none⟩),v5,v6,.pointer (some ⟨ab,0,none⟩),v8,v9,v10,.int .i64 (i:Int),v12,v13,.pointer (some ⟨xb,0,none⟩),.bool bs,v16,v17,v18,v19,v20,v21,v22,v23,v24,v25,v26,v27,v28,v29,v30,v31,v32,v33,v34,v35,v36,v37,v38,v39,v40,v41,v42,v43,v44,v45,v46,v47,v48,v49,v50,v51,v52,v53,v54,v55,v56,v57,v58,v59,v60,v61,v62,v63,v64,v65,v66,v67,v68,v69,v70,v71,v72,v73,v74,v75,v76,.tuple #[.agg #[.int .i64 P0,.int .i64 (X0 0),.int .i64 (X0 1),.int .i64 (X0 2),.int .i64 (X0 3)],.bool bs],.agg ca,.agg cc,.pointer (some ⟨ab,12,none⟩),.slice (some ⟨mb,0,none⟩) sN sN,.pointer (some ⟨cb,0,none⟩),.int .i64 (q:Int),.pointer (some ⟨mb,q,none⟩),.slice (some ⟨g,0,none⟩) ln c,.int .i64 (i:Int),.pointer (some ⟨g,i * 3,none⟩),.agg #[.int .i64 xt,.int .i64 xk,.bool xa],.tuple #[.agg #[.int .i64 P0,.int .i64 (X0 0),.int .i64 (X0 1),.int .i64 (X0 2),.int .i64 (X0 3)],.bool bs],.agg #[.int .i64 P0,.int .i64 (X0 0),.int .i64 (X0 1),.int .i64 (X0 2),.int .i64 (X0 3)],.bool bs,v92,v93,v94,v95,v96,v97,v98,v99,v100,v101,v102,v103,v104,v105,v106,v107,v108,v109,v110,v111,v112,v113,v114,v115,v116,v117,v118,v119,v120,v121,v122],defers:=D } w') :
  (Code.region 14 opsregMy14 true).wp Tryz.prog Q { tmps:=#[v0,v1,v2,v3,.pointer (some ⟨cb,0,none⟩),v5,v6,.pointer (some ⟨ab,0,none⟩),v8,v9,v10,.int .i64 (i:Int),v12,v13,wy15,wy17,v16,v17,v18,v19,v20,v21,v22,v23,v24,v25,v26,v27,v28,v29,v30,v31,v32,v33,v34,v35,v36,v37,v38,v39,v40,v41,v42,v43,v44,v45,v46,v47,v48,v49,v50,v51,v52,v53,v54,v55,v56,v57,v58,v59,v60,v61,v62,v63,v64,v65,v66,v67,v68,v69,v70,v71,v72,v73,v74,v75,v76,wy12,wy0,wy1,wy2,wy3,wy4,wy5,wy6,wy7,wy8,wy9,wy10,wy11,wy13,wy14,v92,v93,v94,v95,v96,v97,v98,v99,v100,v101,v102,v103,v104,v105,v106,v107,v108,v109,v110,v111,v112,v113,v114,v115,v116,v117,v118,v119,v120,v121,v122],defers:=D } w:=by
 refine wp_region_invB (by kernel_rfl) (IregMy14 ca cc ab cb mb g sN q i ln c xt xk P0 X0 xa bs D v0 v1 v2 v3 v5 v6 v8 v9 v10 v12 v13 v16 v17 v18 v19 v20 v21 v22 v23 v24 v25 v26 v27 v28 v29 v30 v31 v32 v33 v34 v35 v36 v37 v38 v39 v40 v41 v42 v43 v44 v45 v46 v47 v48 v49 v50 v51 v52 v53 v54 v55 v56 v57 v58 v59 v60 v61 v62 v63 v64 v65 v66 v67 v68 v69 v70 v71 v72 v73 v74 v75 v76 v92 v93 v94 v95 v96 v97 v98 v99 v100 v101 v102 v103 v104 v105 v106 v107 v108 v109 v110 v111 v112 v113 v114 v115 v116 v117 v118 v119 v120 v121 v122 w) ?hacy ?h0 ?hstep ?hdone
 case hacy=>kernel_rfl
 case h0=>exact ⟨wy0,wy1,wy2,wy3,wy4,wy5,wy6,wy7,wy8,wy9,wy10,wy11,wy12,wy13,wy14,wy15,wy17,0,rfl,below_drewN (Below.refl _ _) 1,(fun p=>by cases p),(fun p=>by cases p),(fun p=>by cases p),(fun p=>by cases p),(fun p=>by cases p),(fun p=>by cases p),(fun p=>by cases p),(fun p=>by cases p),(fun p=>by cases p),(fun p=>by cases p),(fun p=>by cases p),(fun p=>by cases p),(fun p=>by cases p),(fun p=>by cases p),(fun p=>by cases p),(fun p=>by cases p),(fun p=>by cases p),(fun p=>by cases p),(fun p=>by cases p)⟩
 case hdone =>
  intro l a w1 hI hall
  obtain ⟨y0,y1,y2,y3,y4,y5,y6,y7,y8,y9,y10,y11,y12,y13,y14,y15,y17,xb,rfl,hb,hAl,hSt,h0,h1,h2,h3,h4,h5,h6,h7,h8,h9,h10,h11,h12,h13,h14,h15,h17⟩:=hI
  obtain rfl:=h0 (hall 0 (by decide))
  obtain rfl:=h1 (hall 1 (by decide))
  obtain rfl:=h2 (hall 2 (by decide))
  obtain rfl:=h3 (hall 3 (by decide))
  obtain rfl:=h4 (hall 4 (by decide))
  obtain rfl:=h5 (hall 5 (by decide))
  obtain rfl:=h6 (hall 6 (by decide))
  obtain rfl:=h7 (hall 7 (by decide))
  obtain rfl:=h8 (hall 8 (by decide))
  obtain rfl:=h9 (hall 9 (by decide))
  obtain rfl:=h10 (hall 10 (by decide))
  obtain rfl:=h11 (hall 11 (by decide))
  obtain rfl:=h12 (hall 12 (by decide))
  obtain rfl:=h13 (hall 13 (by decide))
  obtain rfl:=h14 (hall 14 (by decide))
  obtain rfl:=h15 (hall 15 (by decide))
  obtain rfl:=h17 (hall 17 (by decide))
  exact hQ xb w1 hb (hAl (hall 15 (by decide))).1 ((hAl (hall 15 (by decide))).2.2 (hall 16 (by decide)))
 case hstep =>
  intro l a w1 j o hI ho hl hall
  obtain ⟨y0,y1,y2,y3,y4,y5,y6,y7,y8,y9,y10,y11,y12,y13,y14,y15,y17,xb,rfl,hb,hAl,hSt,h0,h1,h2,h3,h4,h5,h6,h7,h8,h9,h10,h11,h12,h13,h14,h15,h17⟩:=hI
  have hj:j<18:=(Array.getElem?_eq_some_iff.1 ho).1
  match j,hj with
  | 0,_ =>
   have ho':=ho
   simp [opsregMy14] at ho
   subst ho
   refine wpOp_one ho' rfl fun K hK=>?_
   refine wp_load_row 41 (.tmp 7) rfl ab rfl 41 ca (0,0) _ (hA w1 hb) Tryz.underlying41 rfl sA ?_
   refine hK _ _ ?_
   iterate 18 apply Exists.intro
   refine ⟨rfl,hb,hAl,hSt,?_⟩
   repeat' apply And.intro
   all_goals first | assumption | exact fun _=>rfl | exact fun _=>(by first | rfl | simp)
  | 1,_ =>
   have ho':=ho
   simp [opsregMy14] at ho
   subst ho
   refine wpOp_one ho' rfl fun K hK=>?_
   refine wp_load_row 30 (.tmp 4) rfl cb rfl 30 cc (0,0) _ (hC w1 hb) Tryz.underlying30 rfl sC ?_
   refine hK _ _ ?_
   iterate 18 apply Exists.intro
   refine ⟨rfl,hb,hAl,hSt,?_⟩
   repeat' apply And.intro
   all_goals first | assumption | exact fun _=>rfl | exact fun _=>(by first | rfl | simp)
  | 2,_ =>
   have ho':=ho
   simp [opsregMy14] at ho
   subst ho
   refine wpOp_one ho' rfl fun K hK=>?_
   go_simp
   refine hK _ _ ?_
   iterate 18 apply Exists.intro
   refine ⟨rfl,hb,hAl,hSt,?_⟩
   repeat' apply And.intro
   all_goals first | assumption | exact fun _=>rfl | exact fun _=>(by first | rfl | simp)
  | 3,_ =>
   have ho':=ho
   simp [opsregMy14] at ho
   subst ho
   have q2:=hall ⟨2,.data⟩ (by simp) rfl
   obtain rfl:=h2 q2
   refine wpOp_one ho' rfl fun K hK=>?_
   have c0:=hlv w1 hb
   go_simp
   refine hK _ _ ?_
   iterate 18 apply Exists.intro
   refine ⟨rfl,hb,hAl,hSt,?_⟩
   repeat' apply And.intro
   all_goals first | assumption | exact fun _=>rfl | exact fun _=>(by first | rfl | simp)
  | 4,_ =>
   have ho':=ho
   simp [opsregMy14] at ho
   subst ho
   refine wpOp_one ho' rfl fun K hK=>?_
   go_simp
   refine hK _ _ ?_
   iterate 18 apply Exists.intro
   refine ⟨rfl,hb,hAl,hSt,?_⟩
   repeat' apply And.intro
   all_goals first | assumption | exact fun _=>rfl | exact fun _=>(by first | rfl | simp)
  | 5,_ =>
   have ho':=ho
   simp [opsregMy14] at ho
   subst ho
   have q4:=hall ⟨4,.data⟩ (by simp) rfl
   obtain rfl:=h4 q4
   refine wpOp_one ho' rfl fun K hK=>?_
   have c0:=hq w1 hb
   go_simp
   refine hK _ _ ?_
   iterate 18 apply Exists.intro
   refine ⟨rfl,hb,hAl,hSt,?_⟩
   repeat' apply And.intro
   all_goals first | assumption | exact fun _=>rfl | exact fun _=>(by first | rfl | simp)
  | 6,_ =>
   have ho':=ho
   simp [opsregMy14] at ho
   subst ho
   have q3:=hall ⟨3,.data⟩ (by simp) rfl
   obtain rfl:=h3 q3
   have q5:=hall ⟨5,.data⟩ (by simp) rfl
   obtain rfl:=h5 q5
   refine wpOp_one ho' rfl fun K hK=>?_
   go_simp
   refine hK _ _ ?_
   iterate 18 apply Exists.intro
   refine ⟨rfl,hb,hAl,hSt,?_⟩
   repeat' apply And.intro
   all_goals first | assumption | exact fun _=>rfl | exact fun _=>(by first | rfl | simp)
  | 7,_ =>
   have ho':=ho
   simp [opsregMy14] at ho
   subst ho
   have q6:=hall ⟨6,.data⟩ (by simp) rfl
   obtain rfl:=h6 q6
   refine wpOp_one ho' rfl fun K hK=>?_
   have c0:=hr w1 hb
   go_simp
   refine hK _ _ ?_
   iterate 18 apply Exists.intro
   refine ⟨rfl,hb,hAl,hSt,?_⟩
   repeat' apply And.intro
   all_goals first | assumption | exact fun _=>rfl | exact fun _=>(by first | rfl | simp)
  | 8,_ =>
   have ho':=ho
   simp [opsregMy14] at ho
   subst ho
   refine wpOp_one ho' rfl fun K hK=>?_
   go_simp
   refine hK _ _ ?_
   iterate 18 apply Exists.intro
   refine ⟨rfl,hb,hAl,hSt,?_⟩
   repeat' apply And.intro
   all_goals first | assumption | exact fun _=>rfl | exact fun _=>(by first | rfl | simp)
  | 9,_ =>
   have ho':=ho
   simp [opsregMy14] at ho
   subst ho
   have q7:=hall ⟨7,.data⟩ (by simp) rfl
   obtain rfl:=h7 q7
   have q8:=hall ⟨8,.data⟩ (by simp) rfl
   obtain rfl:=h8 q8
   refine wpOp_one ho' rfl fun K hK=>?_
   go_simp
   refine hK _ _ ?_
   iterate 18 apply Exists.intro
   refine ⟨rfl,hb,hAl,hSt,?_⟩
   repeat' apply And.intro
   all_goals first | assumption | exact fun _=>rfl | exact fun _=>(by first | rfl | simp)
  | 10,_ =>
   have ho':=ho
   simp [opsregMy14] at ho
   subst ho
   have q9:=hall ⟨9,.data⟩ (by simp) rfl
   obtain rfl:=h9 q9
   refine wpOp_one ho' rfl fun K hK=>?_
   have c0:=hx0 w1 hb
   have c1:=hx1 w1 hb
   have c2:=hx2 w1 hb
   go_simp
   refine hK _ _ ?_
   iterate 18 apply Exists.intro
   refine ⟨rfl,hb,hAl,hSt,?_⟩
   repeat' apply And.intro
   all_goals first | assumption | exact fun _=>rfl | exact fun _=>(by first | rfl | simp)
  | 11,_ =>
   have ho':=ho
   simp [opsregMy14] at ho
   subst ho
   have q0:=hall ⟨0,.data⟩ (by simp) rfl
   obtain rfl:=h0 q0
   have q1:=hall ⟨1,.data⟩ (by simp) rfl
   obtain rfl:=h1 q1
   have q10:=hall ⟨10,.data⟩ (by simp) rfl
   obtain rfl:=h10 q10
   refine wpOp_one ho' rfl fun K hK=>?_
   go_simp
   go_at_call 16
   refine (hc1 _ hb).mono ?_
   rintro e w2 ⟨rfl,hb2⟩
   have hk:∀ {k:Nat} {o:Obj},w1.heap[k]? = some o→w2.heap[k]? = some o:=fun {k _} e=>(hb2.block k (Array.getElem?_eq_some_iff.1 e).1).trans e
   refine hK _ _ ?_
   iterate 18 apply Exists.intro
   refine ⟨rfl,hb.trans (hb2.mono hb.size),fun p=>⟨(hAl p).1,fun q=>hk ((hAl p).2.1 q),fun q=>hk ((hAl p).2.2 q)⟩,hSt,?_⟩
   repeat' apply And.intro
   all_goals first | assumption | exact fun _=>rfl | exact fun _=>(by first | rfl | simp)
  | 12,_ =>
   have ho':=ho
   simp [opsregMy14] at ho
   subst ho
   have q11:=hall ⟨11,.data⟩ (by simp) rfl
   obtain rfl:=h11 q11
   refine wpOp_one ho' rfl fun K hK=>?_
   go_simp
   refine hK _ _ ?_
   iterate 18 apply Exists.intro
   refine ⟨rfl,hb,hAl,hSt,?_⟩
   repeat' apply And.intro
   all_goals first | assumption | exact fun _=>rfl | exact fun _=>(by first | rfl | simp)
  | 13,_ =>
   have ho':=ho
   simp [opsregMy14] at ho
   subst ho
   have q12:=hall ⟨12,.data⟩ (by simp) rfl
   obtain rfl:=h12 q12
   refine wpOp_one ho' rfl fun K hK=>?_
   go_simp
   refine hK _ _ ?_
   iterate 18 apply Exists.intro
   refine ⟨rfl,hb,hAl,hSt,?_⟩
   repeat' apply And.intro
   all_goals first | assumption | exact fun _=>rfl | exact fun _=>(by first | rfl | simp)
  | 14,_ =>
   have ho':=ho
   simp [opsregMy14] at ho
   subst ho
   have q12:=hall ⟨12,.data⟩ (by simp) rfl
   obtain rfl:=h12 q12
   refine wpOp_one ho' rfl fun K hK=>?_
   go_simp
   refine hK _ _ ?_
   iterate 18 apply Exists.intro
   refine ⟨rfl,hb,hAl,hSt,?_⟩
   repeat' apply And.intro
   all_goals first | assumption | exact fun _=>rfl | exact fun _=>(by first | rfl | simp)
  | 15,_ =>
   have ho':=ho
   simp [opsregMy14] at ho
   subst ho
   refine wpOp_one ho' rfl fun K hK=>?_
   go_simp
   have hb2:Below w1.heap.size w1 (w1.alloc (.cells #[.int .i64 0,.int .i64 0,.int .i64 0,.int .i64 0,.int .i64 0] 30)):=(Below.refl _ w1).alloc (Nat.le_refl _) _
   refine hK _ _ ?_
   iterate 18 apply Exists.intro
   refine ⟨rfl,hb.trans (hb2.mono hb.size),fun _=>⟨hb.size,fun _=>heap_alloc_new w1 _,fun p=>absurd (hSt p) (by rw [hl];decide)⟩,fun p=>absurd (hSt p) (by rw [hl];decide),?_⟩
   repeat' apply And.intro
   all_goals first | assumption | exact fun _=>rfl | exact fun _=>(by first | rfl | simp)
  | 16,_ =>
   have ho':=ho
   simp [opsregMy14] at ho
   subst ho
   have q13:=hall ⟨13,.data⟩ (by simp) rfl
   obtain rfl:=h13 q13
   have q15:=hall ⟨15,.data⟩ (by simp) rfl
   obtain rfl:=h15 q15
   refine wpOp_one ho' rfl fun K hK=>?_
   have hz:=(hAl q15).2.1 hl
   have rz:=row_cells hz
   have zl:=(Array.getElem?_eq_some_iff.1 hz).1
   have z0:=rz.1 0;have f0:=rz.2 0
   have z1:=rz.1 1;have f1:=rz.2 1
   have z2:=rz.1 2;have f2:=rz.2 2
   have z3:=rz.1 3;have f3:=rz.2 3
   have z4:=rz.1 4;have f4:=rz.2 4
   clear rz
   go_simp
   have hs:=set5_heap (w:=w1) (b:=xb) (q:=0) (y:=fun _=>0) hz P0 X0
   have hc:=set5_chg w1 xb (.int .i64 P0) (.int .i64 (X0 0)) (.int .i64 (X0 1)) (.int .i64 (X0 2)) (.int .i64 (X0 3))
   generalize (((((w1.setCell ⟨xb,0,none⟩ (.int .i64 P0)).setCell ⟨xb,1,none⟩ (.int .i64 (X0 0))).setCell ⟨xb,2,none⟩ (.int .i64 (X0 1))).setCell ⟨xb,3,none⟩ (.int .i64 (X0 2))).setCell ⟨xb,4,none⟩ (.int .i64 (X0 3)))=w2 at *
   have hx:=(hAl q15).1
   have hb3:Below w.heap.size w w2:=hb.trans (hc.below (B:=w.heap.size) hb.size fun k hk e=>by omega)
   refine hK _ _ ?_
   iterate 18 apply Exists.intro
   refine ⟨rfl,hb3,fun p=>⟨hx,fun q=>(by cases q),fun _=>hs⟩,fun _=>q15,?_⟩
   repeat' apply And.intro
   all_goals first | assumption | exact fun _=>rfl | exact fun _=>(by first | rfl | simp)
  | 17,_ =>
   have ho':=ho
   simp [opsregMy14] at ho
   subst ho
   have q14:=hall ⟨14,.data⟩ (by simp) rfl
   obtain rfl:=h14 q14
   refine wpOp_one ho' rfl fun K hK=>?_
   go_simp
   refine hK _ _ ?_
   iterate 18 apply Exists.intro
   refine ⟨rfl,hb,hAl,hSt,?_⟩
   repeat' apply And.intro
   all_goals first | assumption | exact fun _=>rfl | exact fun _=>(by first | rfl | simp)
  | k+18,hj=>omega
end Go.Proofs.YtahibconfijjgaaGreatDoor

/- The walk of the statement ConfigMoves: called with a tree, a config and a truth it returns true and changes nothing that was there.
   Conditions: the tree lies in memory, and the library's table. -/
namespace Go.Proofs.YtahibconfijjgaaGreatDoor
open Go.RowKit Go.Shelf
attribute [local go_sem] nodeAgg
theorem infoI64k:(Tryz.prog.info? 2).map (fun i=>(i.zero,i.size,i.bytes))=some (some (.int .i64 0),1,8):=by kernel_rfl
theorem cellsI64k:Tryz.prog.cellsOf 2=1:=by kernel_rfl
theorem run_eqk4 (w:World) (a0 a1 a2 a3 b0 b1 b2 b3:Int) :
  (Op.equalIn 9999 28 (.agg #[.int .i64 a0,.int .i64 a1,.int .i64 a2,.int .i64 a3]) (.agg #[.int .i64 b0,.int .i64 b1,.int .i64 b2,.int .i64 b3])).run Tryz.prog w=.ok (a0 == b0 && (a1 == b1 && (a2 == b2 && a3 == b3))) w:=by
 obtain ⟨i0,hi,_,_,_⟩:=info_parts infoI64k
 have q:∀ (w':World) (a b:Int),(Op.equalIn 9998 2 (.int .i64 a) (.int .i64 b)).run Tryz.prog w'=.ok (a == b) w':=fun w' a b=>run_equalIn_int w' 9997 2 .i64 .i64 a b Tryz.underlying2
 rw [run_equalIn_array w 9998 _ _ Tryz.underlying28 hi,cellsI64k,show List.range 4=[0,1,2,3] from rfl]
 simp only [Op.eqItems,Sem.run_bind]
 simp only [part,isAgg,run_underlying Tryz.underlying2,Sem.run_bind,Result.andThen_ok]
 simp
 simp only [q,Result.andThen_ok]
 cases (a0 == b0) <;> cases (a1 == b1) <;> cases (a2 == b2) <;> cases (a3 == b3) <;> rfl
theorem AuL.cfg {w w':World} {B cb:Nat} {m:PM} {a:Au} {fl:List Nat} {la:Nat} (h:AuL w B m a fl la) (hc:Chg (fun k=>k=cb) w w') (hcb:TyB w cb 30):AuL w' B m a fl la :=
 ⟨h.lists.keep hc fun x ty q _ hty=>by subst q;rw [hty.eq hcb];decide,h.wf,h.first.keep hc fun x q _ hty=>by subst q;have:=hty.eq hcb;revert this;decide,h.fin,own_chg h.last hc fun b hb q=>by
  subst q
  have:=(own_ty h.last hb).eq hcb
  revert this
  decide,h.sets,h.ars,h.one,h.most⟩
theorem rowsM_cfg {w w':World} {B n cb:Nat} {lv:Value} {vs:List Value} {L:Nat→List Mv} (h:RowsM w B n lv vs L) (hc:Chg (fun k=>k=cb) w w') (hcb:TyB w cb 30):RowsM w' B n lv vs L :=
 h.keep hc fun x ty q _ hty=>by subst q;rw [hty.eq hcb];exact ⟨by decide,by decide⟩
set_option maxHeartbeats 4000000 in
set_option maxRecDepth 100000 in
theorem step_not {B:Nat} {m:PM} {a:Au} {fl:List Nat} {la:Nat} (w:World) (hL:AuL w B m a fl la) (p:Int) (x:Nat→Int) (hr:rightB m p x=false) (b:Int) :
  Calls Tryz.prog 15 #[.agg #[.int .i64 a.k,.int .u64 (a.s0:Nat),.int .u64 (a.s1:Nat),.int .u64 (a.s2:Nat),.int .u64 (a.s3:Nat),.slice a.ta a.tn a.tc,.int .i64 a.lo,.int .i64 a.hi,.slice a.sA a.n a.sC,.slice a.cA a.cN a.cC,.slice (some ⟨a.ga,0,none⟩) a.n a.aC,.slice a.fA a.fN a.fC,.slice (some ⟨a.mb,0,none⟩) a.n a.n,.slice (some ⟨a.lb,0,none⟩) a.n a.n,.bool a.em],.agg #[.int .i64 p,.int .i64 (x 0),.int .i64 (x 1),.int .i64 (x 2),.int .i64 (x 3)],.int .u8 b] w fun e w'=>e=.returned (.slice none 0 0)∧Below w.heap.size w w':=by
 obtain ⟨w2,hw2,hb2,ha2,hc2⟩:=au_cf_box w a p x
 have HB:=Lib.hid hb2
 have HR:=Lib.hid (fun (W:World) (h:Below w2.heap.size w2 W)=>by
  have:=right_any W (hL.below (bhop hb2 h)) p x
  rw [hr] at this
  exact this)
 obtain ⟨z0,z1,z2,z3,z4,z5,z6,z7,z8,z9,z10,z11,z12,z13,z14⟩:=ha2.all
 obtain ⟨d0,d1,d2,d3,d4⟩:=hc2.five
 clear hb2 ha2 hc2 hL hr
 go_enter Tryz.func15,Tryz.ntmps15
 go_upto_region 1 with fail
 clear hw2
 go_wp2_with fail
 go_at_call 17
 refine (HR.out _ (Below.refl _ _)).mono ?_
 rintro e w3 ⟨rfl,hb3⟩
 have HB3:=Lib.hid hb3
 clear hb3 z0 z1 z2 z3 z4 z5 z6 z7 z8 z9 z10 z11 z12 z13 z14 d0 d1 d2 d3 d4
 go_wp2_with fail
 go_ret
 exact ⟨rfl,bhop HB.out HB3.out⟩
set_option maxHeartbeats 8000000 in
set_option maxRecDepth 100000 in
theorem moves7_walk (t:V) (p:Int) (x:Nat→Int) (sb:Bool) (w:World) (R:Nat→Prop) (ht:Laid w R t) (hT:TabE w) (hTl:tabE<w.heap.size) :
  Calls Tryz.prog 3 #[nodeAgg t,.agg #[.int .i64 p,.int .i64 (x 0),.int .i64 (x 1),.int .i64 (x 2),.int .i64 (x 3)],.bool sb] w fun e w'=>e=.returned (.bool true)∧Below w.heap.size w w':=by
 obtain ⟨sa,sc,hv0,_⟩:=laid_row' ht
 obtain ⟨sn,hsn⟩ : ∃ sn,sn=t.ps.length:=⟨_,rfl⟩
 rw [← hsn] at hv0
 obtain ⟨w0,hw0,hb0,hlt0,hbx⟩:=box_new w t (.slice sa sn sc)
 obtain ⟨w1,hw1,hb1,hc1⟩:=cf_box w0 p x
 have hs0:w0.heap.size=w.heap.size+1:=by rw [← hw0];simp
 rw [hs0] at hc1
 have hw01:(w.alloc (.cells #[.int .i64 t.kind,.int .u64 (t.set 0:Nat),.int .u64 (t.set 1:Nat),.int .u64 (t.set 2:Nat),.int .u64 (t.set 3:Nat),.slice sa sn sc,.int .i64 t.lo,.int .i64 t.hi] 27)).alloc (.cells #[.int .i64 p,.int .i64 (x 0),.int .i64 (x 1),.int .i64 (x 2),.int .i64 (x 3)] 30)=w1:=by rw [hw0];exact hw1
 have HB:=Lib.hid (bhop hb0 hb1)
 have HTT:=Lib.hid (fun (W:World) (h:Below w1.heap.size w1 W)=>show TabE W∧tabE<W.heap.size from ⟨tab_below hT hTl (bhop HB.out h),Nat.lt_of_lt_of_le hTl (bhop HB.out h).size⟩)
 have HBX:=Lib.hid (fun (W:World) (h:Below w1.heap.size w1 W)=>hbx W (bhop hb1 h))
 have HCX:=Lib.hid (fun (W:World) (h:Below w1.heap.size w1 W)=>hc1.below h)
 have HAU:=Lib.hid (fun (W:World) (h:Below w1.heap.size w1 W)=>by
  have:=auto_any t W R (laid_low ht (bhop HB.out h)) (HTT.out W h).1 (HTT.out W h).2
  rw [nodeAgg_v hv0] at this
  exact this)
 rw [nodeAgg_v hv0]
 clear hbx ht hv0 hsn hlt0 hb0 hb1 hc1 hs0 hw0 hw1 hT hTl
 go_enter Tryz.func3,Tryz.ntmps3
 go_upto_region 1 with fail
 clear hw01
 go_wp2_with fail
 go_at_call 10
 refine (awake7_any _ (HTT.out _ (Below.refl _ _)).1 (HTT.out _ (Below.refl _ _)).2).mono ?_
 rintro e w2 ⟨rfl,hb2⟩
 have HB2:=Lib.hid hb2
 clear hb2
 obtain ⟨q0,q1,q2,q3,q4,q5,q6,q7⟩:=HBX.out w2 HB2.out
 have HF:=Lib.hid (HAU.out w2 HB2.out)
 go_wp2_with fail
 go_at_call 11
 refine Calls.mono HF.out ?_
 rintro e w3 ⟨hh,hb3⟩
 have HB3:=Lib.hid (bhop HB2.out hb3)
 clear q0 q1 q2 q3 q4 q5 q6 q7
 rcases hh with ⟨rfl,_⟩ | ⟨B,a,m,L,hG,rfl⟩
 ·clear hb3
  go_wp2_with fail
  go_ret
  exact ⟨rfl,(bhop HB.out HB3.out).alloc (bhop HB.out HB3.out).size _⟩
 ·obtain ⟨w4,hw4,hb4,ha4⟩:=au_box w3 a
  have hau:=hG.au
  obtain ⟨vs,hrw⟩:=hG.rows
  have HGM:=Lib.hid (And.intro hG.map hG.moves)
  generalize bitsL (mvT (simT (erase t)) 0 0).1.fi=fl at hau
  generalize (mvT (simT (erase t)) 0 0).1.la=la at hau
  have HB4:=Lib.hid (bhop HB3.out hb4)
  have HA4:=Lib.hid (And.intro ha4 (And.intro (hau.below hb4) (hrw.below hb4)))
  obtain ⟨z0,z1,z2,z3,z4,z5,z6,z7,z8,z9,z10,z11,z12,z13,z14⟩:=ha4.all
  obtain ⟨d0,d1,d2,d3,d4⟩:=(HCX.out w4 HB4.out).five
  have HN:=Lib.hid (near_any w4 (hau.below hb4) p x sb)
  obtain ⟨ab,hab⟩ : ∃ ab,ab=w3.heap.size:=⟨_,rfl⟩
  have habl:w.heap.size+1<ab:=by rw [hab];exact (HCX.out w3 HB3.out).lt
  have HAB:=Lib.hid habl
  clear hG hau hb3 hb4 ha4 habl hrw
  rw [← hab] at HA4 z0 z1 z2 z3 z4 z5 z6 z7 z8 z9 z10 z11 z12 z13 z14
  go_upto_region 4 with fail
  clear hw4
  rw [← hab]
  clear hab
  go_wp2_with fail
  go_at_call 12
  refine HN.out.mono ?_
  rintro e w5 ⟨⟨p',x',rfl⟩,hb5⟩
  have HB5:=Lib.hid (bhop HB4.out hb5)
  have HA5:=Lib.hid (And.intro (HA4.out.1.below hb5) (And.intro (HA4.out.2.1.below hb5) (HA4.out.2.2.below hb5)))
  clear hb5 z0 z1 z2 z3 z4 z5 z6 z7 z8 z9 z10 z11 z12 z13 z14 d0 d1 d2 d3 d4
  have hcx:=HCX.out w5 HB5.out
  have HC5:=Lib.hid hcx
  obtain ⟨d0,d1,d2,d3,d4⟩:=hcx.five
  have zf:=hcx.cell.2.2
  have zl:=hcx.lt
  have zg0:=zf 0;have zg1:=zf 1;have zg2:=zf 2;have zg3:=zf 3;have zg4:=zf 4
  clear hcx zf
  go_upto_region 7 with fail
  have hf:=set5_heap HC5.out p' x'
  have hch:=set5_chg w5 (w.heap.size+1) (.int .i64 p') (.int .i64 (x' 0)) (.int .i64 (x' 1)) (.int .i64 (x' 2)) (.int .i64 (x' 3))
  generalize (((((w5.setCell ⟨w.heap.size+1,0,none⟩ (.int .i64 p')).setCell ⟨w.heap.size+1,1,none⟩ (.int .i64 (x' 0))).setCell ⟨w.heap.size+1,2,none⟩ (.int .i64 (x' 1))).setCell ⟨w.heap.size+1,3,none⟩ (.int .i64 (x' 2))).setCell ⟨w.heap.size+1,4,none⟩ (.int .i64 (x' 3)))=w6 at *
  have HB6:=Lib.hid (show Below w.heap.size w w6 from (bhop HB.out HB5.out).trans (hch.below (bhop HB.out HB5.out).size fun k hk e=>by omega))
  have hA6:AuB w6 ab a:=⟨(hch.block ab HA5.out.1.lt (by have:=HAB.out;show ¬ ab=_;omega)).trans HA5.out.1.blk⟩
  have hL6:=HA5.out.2.1.cfg hch ⟨_,_,HC5.out⟩
  have hR6:=rowsM_cfg HA5.out.2.2 hch ⟨_,_,HC5.out⟩
  have HG:=Lib.hid (fun (W:World) (h:Below w6.heap.size w6 W)=>show AuB W ab a∧AuL W B m a fl la∧CfB W (w.heap.size+1) p' x'∧RowsM W B a.n (.slice (some ⟨a.mb,0,none⟩) a.n a.n) vs L from ⟨hA6.below h,hL6.below h,hf.below h,hR6.below h⟩)
  clear hf hch hA6 hL6 hR6 d0 d1 d2 d3 d4 zg0 zg1 zg2 zg3 zg4 zl
  obtain ⟨z0,z1,z2,z3,z4,z5,z6,z7,z8,z9,z10,z11,z12,z13,z14⟩:=(HG.out w6 (Below.refl _ _)).1.all
  obtain ⟨d0,d1,d2,d3,d4⟩:=(HG.out w6 (Below.refl _ _)).2.2.1.five
  have HRR:=Lib.hid (refRight_any w6 (HG.out w6 (Below.refl _ _)).2.1 p' x')
  cases hr:rightB m p' x' with
  | false =>
   rw [hr] at HRR
   have HRF:=Lib.hid hr
   clear hr
   go_wp2_with fail
   go_at_call 13
   refine HRR.out.mono ?_
   rintro e w7 ⟨rfl,hb7⟩
   have HB7:=Lib.hid hb7
   clear hb7 z0 z1 z2 z3 z4 z5 z6 z7 z8 z9 z10 z11 z12 z13 z14 d0 d1 d2 d3 d4
   obtain ⟨z0,z1,z2,z3,z4,z5,z6,z7,z8,z9,z10,z11,z12,z13,z14⟩:=(HG.out w7 HB7.out).1.all
   obtain ⟨d0,d1,d2,d3,d4⟩:=(HG.out w7 HB7.out).2.2.1.five
   go_wp2_with fail
   go_at_call 14
   refine Calls.mono (may_not w7 (HG.out w7 HB7.out).2.1 p' x' HRF.out 1 0 false) ?_
   rintro e w8 ⟨rfl,hb8⟩
   have HB8:=Lib.hid (bhop HB7.out hb8)
   clear hb8 z0 z1 z2 z3 z4 z5 z6 z7 z8 z9 z10 z11 z12 z13 z14 d0 d1 d2 d3 d4
   go_upto_region 9 with fail
   generalize hw9:w8.alloc _=w9
   have hb9:Below w8.heap.size w8 w9:=hw9▸(Below.refl _ w8).alloc (Nat.le_refl _) _
   have HB9:=Lib.hid (bhop HB8.out hb9)
   clear hw9 hb9
   obtain ⟨z0,z1,z2,z3,z4,z5,z6,z7,z8,z9,z10,z11,z12,z13,z14⟩:=(HG.out w9 HB9.out).1.all
   obtain ⟨d0,d1,d2,d3,d4⟩:=(HG.out w9 HB9.out).2.2.1.five
   go_wp2_with fail
   go_at_call 15
   refine (step_not w9 (HG.out w9 HB9.out).2.1 p' x' HRF.out 97).mono ?_
   rintro e w10 ⟨rfl,hb10⟩
   have HB10:=Lib.hid (bhop HB9.out hb10)
   clear hb10 z0 z1 z2 z3 z4 z5 z6 z7 z8 z9 z10 z11 z12 z13 z14 d0 d1 d2 d3 d4
   go_wp2_with fail
   go_ret
   exact ⟨rfl,bhop HB6.out HB10.out⟩
  | true =>
   rw [hr] at HRR
   obtain ⟨q,rfl,hq1,hq2⟩:=right_pos hr
   have hL6:=(HG.out w6 (Below.refl _ _)).2.1
   rw [hL6.ars] at hq2
   obtain ⟨lf,hl,hlm,_⟩:=hL6.at hq2
   have HRT:=Lib.hid (And.intro hr (And.intro hl (And.intro hlm (And.intro hq1 (And.intro hq2 hL6.wf)))))
   have v1:(0:Int)≤(q:Int):=by omega
   have v2:(q:Int)<(a.n:Int):=by omega
   have v3:((q:Int)).toNat=q:=by omega
   have hmax:=mv_max (HG.out w6 (Below.refl _ _)).2.2.2 hq2
   clear hr hl hlm hL6 hq1 hq2
   go_wp2_with fail
   go_at_call 13
   refine HRR.out.mono ?_
   rintro e w7 ⟨rfl,hb7⟩
   have HB7:=Lib.hid hb7
   clear hb7 z0 z1 z2 z3 z4 z5 z6 z7 z8 z9 z10 z11 z12 z13 z14 d0 d1 d2 d3 d4
   go_wp2_with fail
   go_loopw [11] (fun z wr=>∃ n,LpO w6 (L q).length n z wr) (fun z wr=>leastOf (fun n=>LpO w6 (L q).length n z wr))
   case atStart=>exact ⟨_,0,rfl,rfl,by omega,HB7.out⟩
   case round =>
    have hls:=(leastOf_spec hrel).1
    obtain ⟨i,rfl,hN,hi1,hb⟩:=hls
    have HN2:=Lib.hid hN
    have HBi:=Lib.hid hb
    clear hN hrel
    obtain ⟨A,c,m1,m2,m3⟩:=mv_read (HG.out wr hb).2.2.2 HRT.out.2.2.2.2.1
    obtain ⟨ln,hln⟩ : ∃ ln,ln=(L q).length:=⟨_,rfl⟩
    have HLN:=Lib.hid hln
    rw [← hln] at m1 hi1 hmax
    obtain ⟨_,_,_,_,_,_,_,_,_,_,_,_,z12,_⟩:=(HG.out wr hb).1.all
    obtain ⟨d0,_⟩:=(HG.out wr hb).2.2.1.five
    clear hln hb
    have s1:(0:Int)≤(i:Int):=by omega
    by_cases g5:i<ln
    ·have s2:(i:Int)<(ln:Int):=by omega
     have s3:((i:Int)).toNat=i:=by omega
     obtain ⟨mv,hmv⟩ : ∃ mv,(L q)[i]? = some mv:=⟨_,List.getElem?_eq_getElem (by have:=HLN.out;omega)⟩
     obtain ⟨g,rfl,hg,x0,x1,x2⟩:=m3 i mv hmv
     have hmem:=List.mem_of_getElem? hmv
     have hsj:=((HGM.out.2 q HRT.out.2.2.2.2.1).2 mv).1 hmem
     obtain ⟨_,_,_,_,_,cc,la',lt,k1,k2,k3,k4,k5⟩:=mv_kept HGM.out.1 hsj
     obtain rfl:lf=la':=Option.some.inj (HRT.out.2.1.symm.trans k2)
     obtain ⟨tt,kp,ag⟩:=mv
     have hkl:kp+(if ag then 1 else 0)≤lf.length:=by have:=k3.length_le;rw [k1] at this;exact this
     obtain ⟨r,hmr⟩ : ∃ r,madeX m lf lt x' kp ag=r:=⟨_,rfl⟩
     obtain ⟨P0,hP0⟩ : ∃ P0,P0=mdP tt r:=⟨_,rfl⟩
     obtain ⟨X0,hX0⟩ : ∃ X0,X0=mdX r:=⟨_,rfl⟩
     obtain ⟨bs,hbs⟩ : ∃ bs,bs=r.isSome:=⟨_,rfl⟩
     have HMY:=Lib.hid (fun (W:World) (h:Below w6.heap.size w6 W)=>by
      have:=may_yes W (HG.out W h).2.1 (HG.out W h).2.2.2 HRT.out.2.1 x' HRT.out.1 tt kp ag hmem k4 hkl r hmr
      rw [← hP0,← hX0,← hbs] at this
      exact this)
     have HRM:=Lib.hid (fun (W:World) (h:Below w6.heap.size w6 W)=>by
      have:=refMay_any W (HG.out W h).2.1 HRT.out.2.1 k4 hkl x' (by rw [← right_at HRT.out.2.2.2.1 HRT.out.2.1];exact HRT.out.1) r hmr
      rw [← hP0,← hX0,← hbs] at this
      exact this)
     have HRG:=Lib.hid (show bs=true→rightB m P0 X0=true from fun h=>by
      rw [hbs] at h
      obtain ⟨y,hy⟩:=Option.isSome_iff_exists.1 h
      rw [hP0,hX0,hy]
      have h1:cntsB m lf x'=true:=by rw [← right_at HRT.out.2.2.2.1 HRT.out.2.1];exact HRT.out.1
      have h2:=made_right HRT.out.2.2.2.2.2 (List.mem_of_getElem? k2) (List.mem_of_getElem? k4) ⟨k3,k5⟩ k1 h1 (hmr.trans hy)
      exact (right_at (sj_in HGM.out.1 hsj).2.2.1 k4).trans h2)
     have HCL:=Lib.hid (fun (W:World) (h:Below wr.heap.size wr W)=>show W.cell? ⟨a.mb,q,none⟩=some (.slice (some ⟨g,0,none⟩) ln c)∧W.cell? ⟨g,i * 3,none⟩=some (.int .i64 (tt:Nat))∧W.cell? ⟨g,i * 3+1,none⟩=some (.int .i64 (kp:Nat))∧W.cell? ⟨g,i * 3+2,none⟩=some (.bool ag) from
      ⟨(h.cell (p:=⟨a.mb,q,none⟩) m2).trans m1,(h.cell (p:=⟨g,i * 3,none⟩) hg).trans x0,(h.cell (p:=⟨g,i * 3+1,none⟩) hg).trans x1,(h.cell (p:=⟨g,i * 3+2,none⟩) hg).trans x2⟩)
     have HQ2:=Lib.hid (fun (W:World) (h:Below w6.heap.size w6 W)=>show LpO w6 (L q).length ((L q).length - (i+1)) (.int .i64 ((i:Int)+1)) W from ⟨i+1,by push_cast;rfl,rfl,by have:=HLN.out;omega,h⟩)
     have HLT:=Lib.hid (show (L q).length - (i+1)<(L q).length - i by have:=HLN.out;omega)
     have x0:wr.cell? ⟨g,i * 3,none⟩=some (.int .i64 (tt:Nat)):=x0
     have x1:wr.cell? ⟨g,i * 3+1,none⟩=some (.int .i64 (kp:Nat)):=x1
     have x2:wr.cell? ⟨g,i * 3+2,none⟩=some (.bool ag):=x2
     clear m3 hmv hmem hsj k1 k2 k3 k4 k5 hkl hmr hP0 hX0 hbs hg m2 hi1
     go_wp2_with fail
     refine regMy13 (ca:=#[.int .i64 a.k,.int .u64 (a.s0:Nat),.int .u64 (a.s1:Nat),.int .u64 (a.s2:Nat),.int .u64 (a.s3:Nat),.slice a.ta a.tn a.tc,.int .i64 a.lo,.int .i64 a.hi,.slice a.sA a.n a.sC,.slice a.cA a.cN a.cC,.slice (some ⟨a.ga,0,none⟩) a.n a.aC,.slice a.fA a.fN a.fC,.slice (some ⟨a.mb,0,none⟩) a.n a.n,.slice (some ⟨a.lb,0,none⟩) a.n a.n,.bool a.em]) (cc:=#[.int .i64 (q:Int),.int .i64 (x' 0),.int .i64 (x' 1),.int .i64 (x' 2),.int .i64 (x' 3)]) (ab:=ab) (cb:=w.heap.size+1) (mb:=a.mb) (g:=g) (sN:=a.n) (q:=q) (i:=i) (ln:=ln) (c:=c) (xt:=(tt:Nat)) (xk:=(kp:Nat)) (P0:=P0) (X0:=X0) (xa:=ag) (bs:=bs) (hA:=fun W h=>(HG.out W (bhop HBi.out h)).1.blk) (hC:=fun W h=>(HG.out W (bhop HBi.out h)).2.2.1) (sA:=by kernel_rfl) (sC:=by kernel_rfl) (hlv:=fun W h=>(HG.out W (bhop HBi.out h)).1.cells.2.2.2.2.1) (hq:=fun W h=>(HG.out W (bhop HBi.out h)).2.2.1.five.1) (hr:=fun W h=>(HCL.out W (h)).1) (hx0:=fun W h=>(HCL.out W (h)).2.1) (hx1:=fun W h=>(HCL.out W (h)).2.2.1) (hx2:=fun W h=>(HCL.out W (h)).2.2.2) (hc1:=fun W h=>HMY.out W (bhop HBi.out h)) (e1:=v2) (e2:=v1) (t1:=v3) (e3:=s2) (e4:=s1) (t2:=s3) (D:=_) (v0:=_) (v1:=_) (v2:=_) (v3:=_) (v5:=_) (v6:=_) (v8:=_) (v9:=_) (v10:=_) (v14:=_) (v15:=_) (v16:=_) (v17:=_) (v18:=_) (v19:=_) (v20:=_) (v21:=_) (v22:=_) (v23:=_) (v24:=_) (v25:=_) (v26:=_) (v27:=_) (v28:=_) (v29:=_) (v30:=_) (v31:=_) (v32:=_) (v33:=_) (v34:=_) (v35:=_) (v36:=_) (v37:=_) (v38:=_) (v39:=_) (v40:=_) (v41:=_) (v42:=_) (v43:=_) (v44:=_) (v45:=_) (v46:=_) (v47:=_) (v48:=_) (v49:=_) (v50:=_) (v51:=_) (v52:=_) (v53:=_) (v54:=_) (v55:=_) (v56:=_) (v57:=_) (v58:=_) (v59:=_) (v60:=_) (v61:=_) (v77:=_) (v78:=_) (v79:=_) (v80:=_) (v81:=_) (v82:=_) (v83:=_) (v84:=_) (v85:=_) (v86:=_) (v87:=_) (v88:=_) (v89:=_) (v90:=_) (v91:=_) (v92:=_) (v93:=_) (v94:=_) (v95:=_) (v96:=_) (v97:=_) (v98:=_) (v99:=_) (v100:=_) (v101:=_) (v102:=_) (v103:=_) (v104:=_) (v105:=_) (v106:=_) (v107:=_) (v108:=_) (v109:=_) (v110:=_) (v111:=_) (v112:=_) (v113:=_) (v114:=_) (v115:=_) (v116:=_) (v117:=_) (v118:=_) (v119:=_) (v120:=_) (v121:=_) (v122:=_) (wy0:=_) (wy1:=_) (wy2:=_) (wy3:=_) (wy4:=_) (wy5:=_) (wy6:=_) (wy7:=_) (wy8:=_) (wy9:=_) (wy10:=_) (wy11:=_) (wy12:=_) (wy13:=_) (wy14:=_) (wy15:=_) (wy17:=_) (w:=_) (Q:=_) (hQ:=?_)
     intro xb w8 hb8 hxl hx8
     try dsimp only
     have HB8:=Lib.hid (And.intro hb8 (show CfB w8 xb P0 X0 from hx8))
     have HBx:=Lib.hid (bhop HBi.out hb8)
     clear hb8 hx8 hxl z12 d0 m1 x0 x1 x2
     go_upto_region 14 with fail
     refine regMy14 (ca:=#[.int .i64 a.k,.int .u64 (a.s0:Nat),.int .u64 (a.s1:Nat),.int .u64 (a.s2:Nat),.int .u64 (a.s3:Nat),.slice a.ta a.tn a.tc,.int .i64 a.lo,.int .i64 a.hi,.slice a.sA a.n a.sC,.slice a.cA a.cN a.cC,.slice (some ⟨a.ga,0,none⟩) a.n a.aC,.slice a.fA a.fN a.fC,.slice (some ⟨a.mb,0,none⟩) a.n a.n,.slice (some ⟨a.lb,0,none⟩) a.n a.n,.bool a.em]) (cc:=#[.int .i64 (q:Int),.int .i64 (x' 0),.int .i64 (x' 1),.int .i64 (x' 2),.int .i64 (x' 3)]) (ab:=ab) (cb:=w.heap.size+1) (mb:=a.mb) (g:=g) (sN:=a.n) (q:=q) (i:=i) (ln:=ln) (c:=c) (xt:=(tt:Nat)) (xk:=(kp:Nat)) (P0:=P0) (X0:=X0) (xa:=ag) (bs:=bs) (hA:=fun W h=>(HG.out W (bhop HBx.out h)).1.blk) (hC:=fun W h=>(HG.out W (bhop HBx.out h)).2.2.1) (sA:=by kernel_rfl) (sC:=by kernel_rfl) (hlv:=fun W h=>(HG.out W (bhop HBx.out h)).1.cells.2.2.2.2.1) (hq:=fun W h=>(HG.out W (bhop HBx.out h)).2.2.1.five.1) (hr:=fun W h=>(HCL.out W (bhop HB8.out.1 h)).1) (hx0:=fun W h=>(HCL.out W (bhop HB8.out.1 h)).2.1) (hx1:=fun W h=>(HCL.out W (bhop HB8.out.1 h)).2.2.1) (hx2:=fun W h=>(HCL.out W (bhop HB8.out.1 h)).2.2.2) (hc1:=fun W h=>HRM.out W (bhop HBx.out h)) (e1:=v2) (e2:=v1) (t1:=v3) (e3:=s2) (e4:=s1) (t2:=s3) (D:=_) (v0:=_) (v1:=_) (v2:=_) (v3:=_) (v5:=_) (v6:=_) (v8:=_) (v9:=_) (v10:=_) (v12:=_) (v13:=_) (v16:=_) (v17:=_) (v18:=_) (v19:=_) (v20:=_) (v21:=_) (v22:=_) (v23:=_) (v24:=_) (v25:=_) (v26:=_) (v27:=_) (v28:=_) (v29:=_) (v30:=_) (v31:=_) (v32:=_) (v33:=_) (v34:=_) (v35:=_) (v36:=_) (v37:=_) (v38:=_) (v39:=_) (v40:=_) (v41:=_) (v42:=_) (v43:=_) (v44:=_) (v45:=_) (v46:=_) (v47:=_) (v48:=_) (v49:=_) (v50:=_) (v51:=_) (v52:=_) (v53:=_) (v54:=_) (v55:=_) (v56:=_) (v57:=_) (v58:=_) (v59:=_) (v60:=_) (v61:=_) (v62:=_) (v63:=_) (v64:=_) (v65:=_) (v66:=_) (v67:=_) (v68:=_) (v69:=_) (v70:=_) (v71:=_) (v72:=_) (v73:=_) (v74:=_) (v75:=_) (v76:=_) (v92:=_) (v93:=_) (v94:=_) (v95:=_) (v96:=_) (v97:=_) (v98:=_) (v99:=_) (v100:=_) (v101:=_) (v102:=_) (v103:=_) (v104:=_) (v105:=_) (v106:=_) (v107:=_) (v108:=_) (v109:=_) (v110:=_) (v111:=_) (v112:=_) (v113:=_) (v114:=_) (v115:=_) (v116:=_) (v117:=_) (v118:=_) (v119:=_) (v120:=_) (v121:=_) (v122:=_) (wy0:=_) (wy1:=_) (wy2:=_) (wy3:=_) (wy4:=_) (wy5:=_) (wy6:=_) (wy7:=_) (wy8:=_) (wy9:=_) (wy10:=_) (wy11:=_) (wy12:=_) (wy13:=_) (wy14:=_) (wy15:=_) (wy17:=_) (w:=_) (Q:=_) (hQ:=?_)
     intro yb w9 hb9 hyl hy9
     try dsimp only
     have HB9:=Lib.hid (And.intro hb9 (And.intro (HB8.out.2.below hb9) (show CfB w9 yb P0 X0 from hy9)))
     have HBy:=Lib.hid (bhop HBx.out hb9)
     clear hb9 hy9 hyl
     obtain ⟨_,f1,f2⟩:=HB9.out
     obtain ⟨k0,k1,k2,k3,k4⟩:=f1.five
     obtain ⟨u0,u1,u2,u3,u4⟩:=f2.five
     have heq:∀ W,(Op.equalIn 9999 28 (.agg #[.int .i64 (X0 0),.int .i64 (X0 1),.int .i64 (X0 2),.int .i64 (X0 3)]) (.agg #[.int .i64 (X0 0),.int .i64 (X0 1),.int .i64 (X0 2),.int .i64 (X0 3)])).run Tryz.prog W=.ok true W:=fun W=>by rw [run_eqk4];simp
     clear f1 f2
     obtain ⟨z0,z1,z2,z3,z4,z5,z6,z7,z8,z9,z10,z11,z12,z13,z14⟩:=(HG.out w9 HBy.out).1.all
     cases bs with
     | true =>
      have HRX:=Lib.hid (right_any w9 (HG.out w9 HBy.out).2.1 P0 X0)
      rw [HRG.out rfl] at HRX
      go_wp2_with fail
      go_at_call 17
      refine HRX.out.mono ?_
      rintro e wa ⟨rfl,hba⟩
      have HBa:=Lib.hid (bhop HBy.out hba)
      clear hba z0 z1 z2 z3 z4 z5 z6 z7 z8 z9 z10 z11 z12 z13 z14 k0 k1 k2 k3 k4 u0 u1 u2 u3 u4
      go_wp2_with fail
      go_roundw
      case rel=>exact ⟨_,HQ2.out _ HBa.out⟩
      case measure =>
       rw [HN2.out]
       exact Nat.lt_of_le_of_lt ((leastOf_spec ⟨_,HQ2.out _ HBa.out⟩).2 _ (HQ2.out _ HBa.out)) HLT.out
     | false =>
      go_wp2_with fail
      go_roundw
      case rel=>exact ⟨_,HQ2.out _ HBy.out⟩
      case measure =>
       rw [HN2.out]
       exact Nat.lt_of_le_of_lt ((leastOf_spec ⟨_,HQ2.out _ HBy.out⟩).2 _ (HQ2.out _ HBy.out)) HLT.out
    ·have s2:¬ (i:Int)<(ln:Int):=by omega
     clear m3 hi1 m2
     go_wp2_with fail
     clear z12 d0 m1
     obtain ⟨z0,z1,z2,z3,z4,z5,z6,z7,z8,z9,z10,z11,z12,z13,z14⟩:=(HG.out wr HBi.out).1.all
     obtain ⟨d0,d1,d2,d3,d4⟩:=(HG.out wr HBi.out).2.2.1.five
     have HNO:=Lib.hid (may_no wr (HG.out wr HBi.out).2.1 (HG.out wr HBi.out).2.2.2 HRT.out.2.1 x' HRT.out.1 0 0 false (fun h=>by
      have h1:=((HGM.out.2 q HRT.out.2.2.2.2.1).2 ⟨0,0,false⟩).1 h
      have h2:1≤0:=(sj_in HGM.out.1 h1).2.2.1
      omega))
     go_wp2_with fail
     go_at_call 14
     refine Calls.mono HNO.out ?_
     rintro e w8 ⟨rfl,hb8⟩
     have HB8:=Lib.hid (bhop HBi.out hb8)
     clear hb8 z0 z1 z2 z3 z4 z5 z6 z7 z8 z9 z10 z11 z12 z13 z14 d0 d1 d2 d3 d4
     have heq:=fun W=>run_eqk4 W 0 0 0 0 0 0 0 0
     go_upto_region 18 with fail
     obtain ⟨w9,hw9,hb9,hc9⟩:=cf_box w8 0 (fun _=>0)
     rw [hw9]
     have HB9:=Lib.hid (bhop HB8.out hb9)
     obtain ⟨d0,d1,d2,d3,d4⟩:=hc9.five
     clear hw9 hb9 hc9
     go_wp2_with fail
     go_ret
     exact ⟨rfl,bhop HB6.out HB9.out⟩
end Go.Proofs.YtahibconfijjgaaGreatDoor

/- Of every tree, config and truth the statement ConfigMoves returns true, and they read afterwards as before; the card: what its row lists is tied to the program's text.
   No condition. -/
namespace Go.Proofs.YtahibconfijjgaaGreatDoor
open Go.ChangeShapes Go.WideShapes Go.ChangeAt Go.RowKit
theorem configMovesOwn:ownKnob Tryz.prog.godebug=none:=by kernel_rfl
theorem configMovesLaidOut:laidOutB Tryz.prog=true:=by kernel_rfl
theorem configMovesAgg (t:V):nodeAgg t=.agg (ndc t).toArray:=rfl
def fnX (x0 x1 x2 x3:Int):Nat→Int
 | 0=>x0
 | 1=>x1
 | 2=>x2
 | _=>x3
theorem configMovesDoor (os:Os) (args:Array Value):laidMetH Tryz.prog Rows.configMovesRow.laid ((World.doorLaid Tryz.prog 400 os).forCall (fun _ _=>0) ⟨#[],args,[]⟩).memory :=
 laidMetH_of_parts3 (fuel:=8) (laidMet_of_run' 8 (by kernel_rfl) (by kernel_rfl)) (by kernel_rfl) (by kernel_rfl)
set_option maxRecDepth 100000 in
theorem configMoves_lifted (os:Os) (started:os.Started) (H:Type) (enc:TypeId×Value→H) :
  ReturnsInHanded {} Tryz.checked os 3 .any (fun w args=>(Rows.configMovesSpec.pre enc Tryz.prog Tryz.f3 Rows.configMovesRow.domain false w args∧laidMetH Tryz.prog Rows.configMovesRow.laid w)∧sizedMet enc Tryz.prog Tryz.f3 (OpenSpec.ofChange Rows.configMovesSpec) false w args)
   (Rows.configMovesSpec.post enc Tryz.prog Tryz.f3 false true false false):=by
 refine returnsInHanded_of_change_and (C:=Tryz.checked) (X:=fun w _=>laidMetH Tryz.prog Rows.configMovesRow.laid w) (fun _ _ _ hh h=>h.of_heap hh) configMovesOwn started (by kernel_rfl) Tryz.func3
  (ChangeSpec.witness_shaped (enc:=enc) (C:=Tryz.checked) (os:=os) (X:=fun w _=>laidMetH Tryz.prog Rows.configMovesRow.laid w) false (World.doorLaid Tryz.prog 400 os) #[.agg #[.int .i64 0,.int .u64 0,.int .u64 0,.int .u64 0,.int .u64 0,.slice none 0 0,.int .i64 0,.int .i64 0],.agg #[.int .i64 0,.int .i64 0,.int .i64 0,.int .i64 0,.int .i64 0],.bool false] 8 rfl (World.shaped_of_RefB (by kernel_rfl) (by kernel_rfl)) (by kernel_rfl) (by kernel_rfl) (by kernel_rfl) (configMovesDoor os _)) ?_
 intro W base args ds gs before hval0 hW _ _ hLaid _
 have hval:∀ (j:Nat) t v,Tryz.f3.params[j]? = some t→args[j]? = some v→Value.okWide Tryz.prog W .any base t v:=hval0
 have hW':=hW
 obtain ⟨hT,hTl⟩:=tab_laid hLaid
 obtain ⟨p,q,hA0,hV,rfl,hfz,hnd⟩:=hW
 have hA:DataW.TrodAll enc Tryz.prog W 0 (fun _=>true) true Tryz.f3.params.toList args.toList ds p:=hA0
 rw [Tryz.params3] at hA hval
 obtain ⟨v0,vs0,d0,ds0,p0,q0,hargs,rfl,rfl,h0,r0⟩:=trodAll_cons hA
 obtain ⟨v1,vs1,d1,ds1,p1,q1,rfl,rfl,rfl,h1,r1⟩:=trodAll_cons r0
 obtain ⟨v2,vs2,d2,ds2,p2,q2,rfl,rfl,rfl,h2,r2⟩:=trodAll_cons r1
 obtain ⟨rfl,rfl,rfl⟩:=trodAll_nil r2
 obtain rfl:args=#[v0,v1,v2]:=by cases args;simp_all
 obtain ⟨rfl,rfl⟩:=trodVars_none hV
 have k0:=h0
 have k1:=h1
 have k2:=h2
 have lt0:∀ x∈p0,x.block<W.heap.size:=by obtain ⟨m,hm⟩:=k0;exact DataW.trod_lt m _ _ _ hm
 have lt1:∀ x∈p1,x.block<W.heap.size:=by obtain ⟨m,hm⟩:=k1;exact DataW.trod_lt m _ _ _ hm
 have lt2:∀ x∈p2,x.block<W.heap.size:=by obtain ⟨m,hm⟩:=k2;exact DataW.trod_lt m _ _ _ hm
 obtain ⟨c0,c1,c2,c3,c4,rfl⟩:=open_cfg (hval 1 30 v1 rfl rfl) h1
 obtain ⟨sb,rfl,_⟩:=open_bool Tryz.underlying4 (hval 2 4 v2 rfl rfl) h2
 obtain ⟨t0,rfl,l0,_⟩:=open_tree (hval 0 27 v0 rfl rfl) h0
 clear hA0 hval0
 rw [← configMovesAgg] at *
 refine (moves7_walk t0 c0 (fnX c1 c2 c3 c4) sb W _ l0 hT hTl).mono fun e W' ⟨he,bel⟩=>?_
 subst he
 exact ⟨_,rfl,_,_,_,[],_,[],hW',trodAll_mk1 (shut_bool Tryz.underlying4 _),(trodAll_cons_mk (Below.trod configMovesLaidOut (by kernel_rfl) (of_decide_eq_true (by kernel_rfl)) k0 bel lt0) (trodAll_cons_mk (Below.trod configMovesLaidOut (by kernel_rfl) (of_decide_eq_true (by kernel_rfl)) k1 bel lt1) (trodAll_cons_mk (Below.trod configMovesLaidOut (by kernel_rfl) (of_decide_eq_true (by kernel_rfl)) k2 bel lt2) trodAll_mk0))),rfl,bel.frame _,fun h=>by cases h⟩
theorem configMoves_holds:Rows.ConfigMovesSaid :=
 OpenClaim.holds_of_wide 3 Tryz.f3 rfl rfl rfl rfl rfl rfl rfl ⟨rfl,rfl,rfl,rfl,rfl⟩ rfl rfl rfl rfl rfl (by kernel_rfl) Tryz.func3 (by kernel_rfl)
  (of_decide_eq_true (by kernel_rfl)) (by unfold Func.isWrapper;rw [if_neg (of_decide_eq_false (by kernel_rfl))];exact ⟨rfl,rfl⟩)
  (fun os started H enc _=>configMoves_lifted os started H enc)
theorem configMoves_card_holds:Rows.ConfigMovesCardSaid :=
 Claim7.holds_tied_plain_at .later [] [.data] true _ false
  configMoves_holds (fun _ h=>by cases h) (by kernel_rfl) (fun _ h=>by cases h) configMoves_row_tie rfl ⟨rfl,rfl⟩ (by kernel_rfl) rfl
  (fun f fn hf hfn=>by
   obtain rfl:f=3:=Option.some.inj ((show Tryz.prog.funcNamed "ostinato/ostinatolaw07.ConfigMoves" = some 3 by kernel_rfl).symm.trans hf) |>.symm
   obtain rfl:fn=Tryz.f3:=(Option.some.inj (Tryz.func3.symm.trans hfn)).symm
   exact ⟨by kernel_rfl,fun j t ht=>by
    rw [Tryz.params3] at ht
    have hm:t∈[27,30,4]:=by simpa using Array.mem_of_getElem? ht
    have hall:([27,30,4].all fun u=>!Tryz.prog.wantsStandIn u)=true:=by kernel_rfl
    exact (show Tryz.prog.wantsStandIn t=false by simpa using List.all_eq_true.1 hall t hm)⟩)
  (by kernel_rfl)
#print axioms configMoves_card_holds
end Go.Proofs.YtahibconfijjgaaGreatDoor
