/- Of every input the statement NaiveOn returns true, and it reads afterwards as before; the card: what its row lists is tied to the program's text.
   No condition. -/
import Derived.Test.YtnmjicfpmkoldaaGreatDoorN5
import Derived.Test.YtnmjicfpmkoldaaGreatDoorPG
import Derived.Test.YtnmjicfpmkoldaaGreatDoorRows
import Derived.WalkKit
import Derived.KernelRfl
import Derived.Test.YtnmjicfpmkoldaaGreatDoorNQO
import Derived.Test.YtnmjicfpmkoldaaGreatDoorN1
import Derived.StillTailTactics
import Derived.Test.YtnmjicfpmkoldaaGreatDoorPM
import Derived.Test.YtnmjicfpmkoldaaGreatDoorMRef
import Derived.Test.YtnmjicfpmkoldaaGreatDoorCards
import Derived.Test.YtnmjicfpmkoldaaGreatDoorTie
import Derived.ProofKit
import Derived.LaidMore
import Derived.OpenShut
import Derived.ChangeOld
import Derived.Below
import Derived.SevenTiedAt

/- How a word, an argument of the statement NaiveOn, is opened: a list of bytes in memory, with no more bytes than room.
   Conditions: none but the reading itself. -/

namespace Go.Proofs.YtnmjicfpmkoldaaGreatDoor
open Go.ChangeShapes Go.WideShapes Go.ChangeAt Go.RowKit Go.Deep
theorem trod_bytes8c {H:Type} {enc:TypeId×Value→H} {w:World} {base:Nat} {spare:Nat→Bool} {held:Bool} {fuel:Nat} {cs:List Value} {x:DataW H×List MemPlace} (h:DataW.trod enc Tryz.prog w base spare held fuel 28 cs=some x) :
  ∃ v l,cs=[v]∧WrdR w v l∧l.length≤maxLen∧∀ A c,v=.slice A l.length c→l.length≤c:=by
 rcases open_slice1 Tryz.underlying28 cellsU8n h with ⟨e,_⟩ | ⟨a,len,cap,m,n,V,D,Pl,rfl,_,hlc,hcm,hm,_,hV⟩
 ·exact ⟨_,[],e,⟨none,0,rfl,fun i x hi=>by simp at hi⟩,by simp,fun A c h=>Nat.zero_le _⟩
 ·have hlm:len≤m:=by rw [hm];split <;> omega
  have hex:∀ i,i<len→∃ k:Nat,V i=.int .u8 (k:Int)∧k<256:=fun i hi=>by
   obtain ⟨h1,h2⟩:=hV i (by omega)
   obtain ⟨k,e,_,hb⟩:=DataW.trod_int Tryz.underlying5 h2
   simp at e
   have hk:=bounds_u8 hb
   exact ⟨k.toNat,by rw [e,Int.toNat_of_nonneg hk.1],by omega⟩
  obtain ⟨f,hf⟩:=choose_lt hex
  refine ⟨_,(List.range len).map f,rfl,⟨some a,cap,by simp,fun i x hi=>?_⟩,by simp;omega,fun A c h=>by simp only [Value.slice.injEq] at h;rw [List.length_map,List.length_range];omega⟩
  have hil:=(List.getElem?_eq_some_iff.1 hi).1
  simp at hil
  rw [List.getElem?_map,List.getElem?_range hil] at hi
  obtain rfl:=Option.some.inj hi
  obtain ⟨h1,h2⟩:=hf i hil
  have hc:=(hV i (by omega)).1
  obtain ⟨b,off,spot⟩:=a
  have hspot:spot=none:=by
   have:=World.cell?_spot (hV 0 (by omega)).1
   unfold Addr.add at this
   rw [if_pos rfl] at this
   exact this
  subst hspot
  rw [add_midn,h1] at hc
  exact ⟨h2,b,off,rfl,World.block_lt_of_cell? _ _ hc,hc⟩
set_option maxRecDepth 100000 in
theorem open_bytes8c {H:Type} {enc:TypeId×Value→H} {w:World} {base:Nat} {spare:Nat→Bool} {held:Bool} {v:Value} {d:DataW H} {p:List MemPlace} {r:Reach} {b0:Nat} (hv:Value.okWide Tryz.prog w r b0 28 v) (h:DataW.Trod enc Tryz.prog w base spare held 28 v d p):∃ l,WrdR w v l∧l.length≤maxLen∧∀ A c,v=.slice A l.length c→l.length≤c:=by
 obtain ⟨fuel,hf⟩:=h
 obtain ⟨v',l,e,h1,h2⟩:=trod_bytes8c hf
 obtain ⟨a0,l0,c0,rfl⟩:=okWide_slice Tryz.underlying28 hv
 obtain rfl:Value.slice a0 l0 c0=v':=by simpa [Value.cells] using e
 exact ⟨l,h1,h2⟩
end Go.Proofs.YtnmjicfpmkoldaaGreatDoor

/- Two drawn regions of the walk of NaiveOn.
   Conditions: what they load lies in memory; the contracts of what they call. -/

namespace Go.Proofs.YtnmjicfpmkoldaaGreatDoor
open Go.RowKit
abbrev opsregNo6:Array Oper:=#[{ dst:=some 32,op:=Op.load 39 (Operand.tmp 5),type:=39,pos := "law.go:49",after:=#[],guard:=none },
 { dst:=some 33,op:=Op.move (Operand.tmp 1),type:=28,pos := "law.go:49",after:=#[],guard:=none },
 { dst:=some 34,op:=Op.move (Operand.tmp 1),type:=28,pos := "law.go:49",after:=#[],guard:=none },
 { dst:=some 35,op:=Op.call { callee:=Callee.builtin Builtin.len,args:=#[Operand.tmp 34],argTypes:=#[28] },type:=3,pos := "law.go:49",after:=#[{ on:=2,ground:=Ground.data }],guard:=none },
 { dst:=some 36,op:=Op.binOp BinOp.sub 3 (Operand.tmp 35) (Operand.const (Value.int IntKind.i64 1)) 3,type:=3,pos := "law.go:49",after:=#[{ on:=3,ground:=Ground.data }],guard:=none },
 { dst:=some 37,op:=Op.slice 28 (Operand.tmp 33) none (some (Operand.tmp 36)) none,type:=28,pos := "law.go:49",after:=#[{ on:=1,ground:=Ground.data },{ on:=4,ground:=Ground.data }],guard:=none },
 { dst:=some 38,op:=Op.call { callee:=Callee.value (Operand.func 11),args:=#[Operand.tmp 32,Operand.tmp 37],argTypes:=#[39,28] },type:=42,pos := "law.go:49",after:=#[{ on:=0,ground:=Ground.data },{ on:=5,ground:=Ground.data }],guard:=none },
 { dst:=some 7,op:=Op.assign (Operand.tmp 38),type:=42,pos := "law.go:49",after:=#[{ on:=6,ground:=Ground.data },{ on:=6,ground:=Ground.chain },{ on:=0,ground:=Ground.phase },{ on:=1,ground:=Ground.phase },{ on:=2,ground:=Ground.phase },{ on:=3,ground:=Ground.phase },{ on:=4,ground:=Ground.phase },{ on:=5,ground:=Ground.phase },{ on:=6,ground:=Ground.phase }],guard:=none }]
def WregNo6 (ca:Array Value) (ab u uo un uc um:Nat) (P:World→Value→Prop) (D:List Deferred) (v0 v2 v3 v4 v6 v8 v9 v10 v11 v12 v13 v14 v15 v16 v17 v18 v19 v20 v21 v22 v23 v24 v25 v26 v27 v28 v29 v30 v31 v39 v40 v41 v42 v43 v44 v45 v46 v47 v48 v49 v50 v51 v52 v53 v54 v55 v56 v57 v58 v59 v60 v61 v62 v63 v64 v65 v66 v67 v68 v69 v70 v71 v72 v73 v74 v75 v76 v77 v78 v79 v80 v81:Value) (w0:World) (l:Nat→Bool) (a:Act) (w:World):Prop :=
 ∃ (y0 y1 y2 y3 y4 y5 y6 y7:Value),a = { tmps:=#[v0,.slice (some ⟨u,uo,none⟩) un uc,v2,v3,v4,.pointer (some ⟨ab,0,none⟩),v6,y7,v8,v9,v10,v11,v12,v13,v14,v15,v16,v17,v18,v19,v20,v21,v22,v23,v24,v25,v26,v27,v28,v29,v30,v31,y0,y1,y2,y3,y4,y5,y6,v39,v40,v41,v42,v43,v44,v45,v46,v47,v48,v49,v50,v51,v52,v53,v54,v55,v56,v57,v58,v59,v60,v61,v62,v63,v64,v65,v66,v67,v68,v69,v70,v71,v72,v73,v74,v75,v76,v77,v78,v79,v80,v81],defers:=D }∧Below w0.heap.size w0 w ∧
  (l 0=true→y0=.agg ca)∧(l 1=true→y1=.slice (some ⟨u,uo,none⟩) un uc)∧(l 2=true→y2=.slice (some ⟨u,uo,none⟩) un uc)∧(l 3=true→y3=.int .i64 (un:Int))∧(l 4=true→y4=.int .i64 (um:Int))∧(l 5=true→y5=.slice (some ⟨u,uo,none⟩) um uc)∧(l 6=true→P w y6)∧(l 7=true→P w y7)
set_option maxHeartbeats 8000000 in
set_option maxRecDepth 100000 in
theorem regNo6 (ca:Array Value) (ab u uo un uc um:Nat) (P:World→Value→Prop) (D:List Deferred) (v0 v2 v3 v4 v6 v8 v9 v10 v11 v12 v13 v14 v15 v16 v17 v18 v19 v20 v21 v22 v23 v24 v25 v26 v27 v28 v29 v30 v31 v39 v40 v41 v42 v43 v44 v45 v46 v47 v48 v49 v50 v51 v52 v53 v54 v55 v56 v57 v58 v59 v60 v61 v62 v63 v64 v65 v66 v67 v68 v69 v70 v71 v72 v73 v74 v75 v76 v77 v78 v79 v80 v81 wy0 wy1 wy2 wy3 wy4 wy5 wy6 wy7:Value) (w:World) (hA:∀ w',Below w.heap.size w w'→w'.heap[ab]? = some (.cells ca 39 (0,0))) (shA:(Tryz.prog.info? 39).map (·.size)=some ca.size) (m1:IntKind.i64.wrap ((un:Int) - 1)=(um:Int)) (t1:(0:Int)≤(um:Int)) (t3:((um:Int)).toNat=um) (hcp:(um:Int)≤(uc:Int)) (hP:(∀ w v w',P w v→Below w.heap.size w w'→P w' v)) (hc:(∀ w',Below w.heap.size w w'→Calls Tryz.prog 11 #[.agg ca,.slice (some ⟨u,uo,none⟩) um uc] w' fun e w2=>∃ v,e=.returned v∧P w2 v∧Below w'.heap.size w' w2)) (Q:Exit→Act→World→Prop)
  (hQ:∀ (y0 y1 y2 y3 y4 y5 y6 y7:Value) (w':World),Below w.heap.size w w'→(P w' y7)→Q .normal { tmps:=#[v0,.slice (some ⟨u,uo,none⟩) un uc,v2,v3,v4,.pointer (some ⟨ab,0,none⟩),v6,y7,v8,v9,v10,v11,v12,v13,v14,v15,v16,v17,v18,v19,v20,v21,v22,v23,v24,v25,v26,v27,v28,v29,v30,v31,y0,y1,y2,y3,y4,y5,y6,v39,v40,v41,v42,v43,v44,v45,v46,v47,v48,v49,v50,v51,v52,v53,v54,v55,v56,v57,v58,v59,v60,v61,v62,v63,v64,v65,v66,v67,v68,v69,v70,v71,v72,v73,v74,v75,v76,v77,v78,v79,v80,v81],defers:=D } w') :
  (Code.region 6 opsregNo6 true).wp Tryz.prog Q { tmps:=#[v0,.slice (some ⟨u,uo,none⟩) un uc,v2,v3,v4,.pointer (some ⟨ab,0,none⟩),v6,wy7,v8,v9,v10,v11,v12,v13,v14,v15,v16,v17,v18,v19,v20,v21,v22,v23,v24,v25,v26,v27,v28,v29,v30,v31,wy0,wy1,wy2,wy3,wy4,wy5,wy6,v39,v40,v41,v42,v43,v44,v45,v46,v47,v48,v49,v50,v51,v52,v53,v54,v55,v56,v57,v58,v59,v60,v61,v62,v63,v64,v65,v66,v67,v68,v69,v70,v71,v72,v73,v74,v75,v76,v77,v78,v79,v80,v81],defers:=D } w:=by
 refine wp_region_inv (by kernel_rfl) (WregNo6 ca ab u uo un uc um P D v0 v2 v3 v4 v6 v8 v9 v10 v11 v12 v13 v14 v15 v16 v17 v18 v19 v20 v21 v22 v23 v24 v25 v26 v27 v28 v29 v30 v31 v39 v40 v41 v42 v43 v44 v45 v46 v47 v48 v49 v50 v51 v52 v53 v54 v55 v56 v57 v58 v59 v60 v61 v62 v63 v64 v65 v66 v67 v68 v69 v70 v71 v72 v73 v74 v75 v76 v77 v78 v79 v80 v81 w) ?hacy ?h0 ?hstep ?hdone
 case hacy=>kernel_rfl
 case h0=>exact ⟨wy0,wy1,wy2,wy3,wy4,wy5,wy6,wy7,rfl,below_drewN (Below.refl _ _) 1,(fun p=>by cases p),(fun p=>by cases p),(fun p=>by cases p),(fun p=>by cases p),(fun p=>by cases p),(fun p=>by cases p),(fun p=>by cases p),(fun p=>by cases p)⟩
 case hdone =>
  intro l a w1 hI hall
  obtain ⟨y0,y1,y2,y3,y4,y5,y6,y7,rfl,hb,h0,h1,h2,h3,h4,h5,h6,h7⟩:=hI
  exact hQ _ _ _ _ _ _ _ _ _ hb (h7 (hall 7 (by decide)))
 case hstep =>
  intro l a w1 i o hI ho hl hall
  obtain ⟨y0,y1,y2,y3,y4,y5,y6,y7,rfl,hb,h0,h1,h2,h3,h4,h5,h6,h7⟩:=hI
  have hi:i<8:=(Array.getElem?_eq_some_iff.1 ho).1
  match i,hi with
  | 0,_ =>
   have ho':=ho
   simp [opsregNo6] at ho
   subst ho
   refine wpOp_one ho' rfl fun K hK=>?_
   refine wp_load_row 39 (.tmp 5) rfl ab rfl 39 ca (0,0) _ (hA w1 hb) Tryz.underlying39 rfl shA ?_
   exact hK _ _ ⟨_,y1,y2,y3,y4,y5,y6,y7,rfl,hb,fun _=>(by first | rfl | simp),h1,h2,h3,h4,h5,h6,h7⟩
  | 1,_ =>
   have ho':=ho
   simp [opsregNo6] at ho
   subst ho
   refine wpOp_one ho' rfl fun K hK=>?_
   go_simp
   exact hK _ _ ⟨y0,_,y2,y3,y4,y5,y6,y7,rfl,hb,h0,fun _=>(by first | rfl | simp),h2,h3,h4,h5,h6,h7⟩
  | 2,_ =>
   have ho':=ho
   simp [opsregNo6] at ho
   subst ho
   refine wpOp_one ho' rfl fun K hK=>?_
   go_simp
   exact hK _ _ ⟨y0,y1,_,y3,y4,y5,y6,y7,rfl,hb,h0,h1,fun _=>(by first | rfl | simp),h3,h4,h5,h6,h7⟩
  | 3,_ =>
   have ho':=ho
   simp [opsregNo6] at ho
   subst ho
   obtain rfl:=h2 (hall ⟨2,.data⟩ (by simp) rfl)
   refine wpOp_one ho' rfl fun K hK=>?_
   go_simp
   exact hK _ _ ⟨y0,y1,_,_,y4,y5,y6,y7,rfl,hb,h0,h1,fun _=>rfl,fun _=>(by first | rfl | simp),h4,h5,h6,h7⟩
  | 4,_ =>
   have ho':=ho
   simp [opsregNo6] at ho
   subst ho
   obtain rfl:=h3 (hall ⟨3,.data⟩ (by simp) rfl)
   refine wpOp_one ho' rfl fun K hK=>?_
   go_simp
   exact hK _ _ ⟨y0,y1,y2,_,_,y5,y6,y7,rfl,hb,h0,h1,h2,fun _=>rfl,fun _=>(by first | rfl | simp),h5,h6,h7⟩
  | 5,_ =>
   have ho':=ho
   simp [opsregNo6] at ho
   subst ho
   obtain rfl:=h1 (hall ⟨1,.data⟩ (by simp) rfl)
   obtain rfl:=h4 (hall ⟨4,.data⟩ (by simp) rfl)
   refine wpOp_one ho' rfl fun K hK=>?_
   go_simp
   exact hK _ _ ⟨y0,_,y2,y3,_,_,y6,y7,rfl,hb,h0,fun _=>rfl,h2,h3,fun _=>rfl,fun _=>(by first | rfl | simp),h6,h7⟩
  | 6,_ =>
   have ho':=ho
   simp [opsregNo6] at ho
   subst ho
   obtain rfl:=h0 (hall ⟨0,.data⟩ (by simp) rfl)
   obtain rfl:=h5 (hall ⟨5,.data⟩ (by simp) rfl)
   refine wpOp_one ho' rfl fun K hK=>?_
   go_simp
   go_at_call 11
   refine (hc _ hb).mono ?_
   rintro e w2 ⟨v2,rfl,hp2,hb2⟩
   exact hK _ _ ⟨_,y1,y2,y3,y4,_,_,y7,rfl,(hb.trans (hb2.mono hb.size)),fun _=>rfl,h1,h2,h3,h4,fun _=>rfl,fun _=>hp2,fun q=>hP _ _ _ (h7 q) hb2⟩
  | 7,_ =>
   have ho':=ho
   simp [opsregNo6] at ho
   subst ho
   have p6:=h6 (hall ⟨6,.data⟩ (by simp) rfl)
   refine wpOp_one ho' rfl fun K hK=>?_
   go_simp
   exact hK _ _ ⟨y0,y1,y2,y3,y4,y5,y6,_,rfl,hb,h0,h1,h2,h3,h4,h5,h6,fun _=>p6⟩
  | k+8,hi=>omega
abbrev opsregNo11:Array Oper:=#[{ dst:=some 45,op:=Op.load 39 (Operand.tmp 5),type:=39,pos := "law.go:52",after:=#[],guard:=none },
 { dst:=some 46,op:=Op.move (Operand.tmp 7),type:=42,pos := "law.go:52",after:=#[],guard:=none },
 { dst:=some 47,op:=Op.move (Operand.tmp 9),type:=3,pos := "law.go:52",after:=#[],guard:=none },
 { dst:=some 48,op:=Op.indexAddr 42 (Operand.tmp 46) (Operand.tmp 47),type:=0,pos := "law.go:52",after:=#[{ on:=1,ground:=Ground.data },{ on:=2,ground:=Ground.data }],guard:=none },
 { dst:=some 49,op:=Op.load 55 (Operand.tmp 48),type:=55,pos := "law.go:52",after:=#[{ on:=3,ground:=Ground.data }],guard:=none },
 { dst:=some 50,op:=Op.move (Operand.tmp 1),type:=28,pos := "law.go:52",after:=#[],guard:=none },
 { dst:=some 51,op:=Op.move (Operand.tmp 1),type:=28,pos := "law.go:52",after:=#[],guard:=none },
 { dst:=some 52,op:=Op.call { callee:=Callee.builtin Builtin.len,args:=#[Operand.tmp 51],argTypes:=#[28] },type:=3,pos := "law.go:52",after:=#[{ on:=6,ground:=Ground.data }],guard:=none },
 { dst:=some 53,op:=Op.binOp BinOp.sub 3 (Operand.tmp 52) (Operand.const (Value.int IntKind.i64 1)) 3,type:=3,pos := "law.go:52",after:=#[{ on:=7,ground:=Ground.data }],guard:=none },
 { dst:=some 54,op:=Op.indexAddr 28 (Operand.tmp 50) (Operand.tmp 53),type:=0,pos := "law.go:52",after:=#[{ on:=5,ground:=Ground.data },{ on:=8,ground:=Ground.data }],guard:=none },
 { dst:=some 55,op:=Op.load 5 (Operand.tmp 54),type:=5,pos := "law.go:52",after:=#[{ on:=9,ground:=Ground.data }],guard:=none },
 { dst:=some 56,op:=Op.call { callee:=Callee.value (Operand.func 17),args:=#[Operand.tmp 45,Operand.tmp 49,Operand.tmp 55],argTypes:=#[39,55,5] },type:=42,pos := "law.go:52",after:=#[{ on:=0,ground:=Ground.data },{ on:=4,ground:=Ground.data },{ on:=10,ground:=Ground.data }],guard:=none },
 { dst:=some 10,op:=Op.assign (Operand.tmp 56),type:=42,pos := "law.go:52",after:=#[{ on:=11,ground:=Ground.data },{ on:=11,ground:=Ground.chain },{ on:=0,ground:=Ground.phase },{ on:=1,ground:=Ground.phase },{ on:=2,ground:=Ground.phase },{ on:=3,ground:=Ground.phase },{ on:=4,ground:=Ground.phase },{ on:=5,ground:=Ground.phase },{ on:=6,ground:=Ground.phase },{ on:=7,ground:=Ground.phase },{ on:=8,ground:=Ground.phase },{ on:=9,ground:=Ground.phase },{ on:=10,ground:=Ground.phase },{ on:=11,ground:=Ground.phase }],guard:=none }]
def WregNo11 (ca:Array Value) (ab u uo un uc um b g ln c i:Nat) (x0 x1 x2 x3 x4:Int) (P:World→Value→Prop) (D:List Deferred) (v0 v2 v3 v4 v6 v8 v11 v12 v13 v14 v15 v16 v17 v18 v19 v20 v21 v22 v23 v24 v25 v26 v27 v28 v29 v30 v31 v32 v33 v34 v35 v36 v37 v38 v39 v40 v41 v42 v43 v44 v57 v58 v59 v60 v61 v62 v63 v64 v65 v66 v67 v68 v69 v70 v71 v72 v73 v74 v75 v76 v77 v78 v79 v80 v81:Value) (w0:World) (l:Nat→Bool) (a:Act) (w:World):Prop :=
 ∃ (y0 y1 y2 y3 y4 y5 y6 y7 y8 y9 y10 y11 y12:Value),a = { tmps:=#[v0,.slice (some ⟨u,uo,none⟩) un uc,v2,v3,v4,.pointer (some ⟨ab,0,none⟩),v6,.slice (some ⟨g,0,none⟩) ln c,v8,.int .i64 (i:Int),y12,v11,v12,v13,v14,v15,v16,v17,v18,v19,v20,v21,v22,v23,v24,v25,v26,v27,v28,v29,v30,v31,v32,v33,v34,v35,v36,v37,v38,v39,v40,v41,v42,v43,v44,y0,y1,y2,y3,y4,y5,y6,y7,y8,y9,y10,y11,v57,v58,v59,v60,v61,v62,v63,v64,v65,v66,v67,v68,v69,v70,v71,v72,v73,v74,v75,v76,v77,v78,v79,v80,v81],defers:=D }∧Below w0.heap.size w0 w ∧
  (l 0=true→y0=.agg ca)∧(l 1=true→y1=.slice (some ⟨g,0,none⟩) ln c)∧(l 2=true→y2=.int .i64 (i:Int))∧(l 3=true→y3=.pointer (some ⟨g,i * 5,none⟩))∧(l 4=true→y4=.agg #[.int .i64 x0,.int .i64 x1,.int .i64 x2,.int .i64 x3,.int .i64 x4])∧(l 5=true→y5=.slice (some ⟨u,uo,none⟩) un uc)∧(l 6=true→y6=.slice (some ⟨u,uo,none⟩) un uc)∧(l 7=true→y7=.int .i64 (un:Int))∧(l 8=true→y8=.int .i64 (um:Int))∧(l 9=true→y9=.pointer (some ⟨u,uo+um,none⟩))∧(l 10=true→y10=.int .u8 b)∧(l 11=true→P w y11)∧(l 12=true→P w y12)
set_option maxHeartbeats 8000000 in
set_option maxRecDepth 100000 in
theorem regNo11 (ca:Array Value) (ab u uo un uc um b g ln c i:Nat) (x0 x1 x2 x3 x4:Int) (P:World→Value→Prop) (D:List Deferred) (v0 v2 v3 v4 v6 v8 v11 v12 v13 v14 v15 v16 v17 v18 v19 v20 v21 v22 v23 v24 v25 v26 v27 v28 v29 v30 v31 v32 v33 v34 v35 v36 v37 v38 v39 v40 v41 v42 v43 v44 v57 v58 v59 v60 v61 v62 v63 v64 v65 v66 v67 v68 v69 v70 v71 v72 v73 v74 v75 v76 v77 v78 v79 v80 v81 wy0 wy1 wy2 wy3 wy4 wy5 wy6 wy7 wy8 wy9 wy10 wy11 wy12:Value) (w:World) (hA:∀ w',Below w.heap.size w w'→w'.heap[ab]? = some (.cells ca 39 (0,0))) (shA:(Tryz.prog.info? 39).map (·.size)=some ca.size) (hw:∀ w',Below w.heap.size w w'→w'.cell? ⟨u,uo+um,none⟩=some (.int .u8 (b:Int))) (hx:∀ w',Below w.heap.size w w'→w'.cell? ⟨g,i * 5,none⟩=some (.int .i64 x0)∧w'.cell? ⟨g,i * 5+1,none⟩=some (.int .i64 x1)∧w'.cell? ⟨g,i * 5+2,none⟩=some (.int .i64 x2)∧w'.cell? ⟨g,i * 5+3,none⟩=some (.int .i64 x3)∧w'.cell? ⟨g,i * 5+4,none⟩=some (.int .i64 x4)) (s1:(0:Int)≤(i:Int)) (s2:(i:Int)<(ln:Int)) (s3:((i:Int)).toNat=i) (m1:IntKind.i64.wrap ((un:Int) - 1)=(um:Int)) (t1:(0:Int)≤(um:Int)) (t2:(um:Int)<(un:Int)) (t3:((um:Int)).toNat=um) (hP:(∀ w v w',P w v→Below w.heap.size w w'→P w' v)) (hc:(∀ w',Below w.heap.size w w'→Calls Tryz.prog 17 #[.agg ca,.agg #[.int .i64 x0,.int .i64 x1,.int .i64 x2,.int .i64 x3,.int .i64 x4],.int .u8 b] w' fun e w2=>∃ v,e=.returned v∧P w2 v∧Below w'.heap.size w' w2)) (Q:Exit→Act→World→Prop)
  (hQ:∀ (y0 y1 y2 y3 y4 y5 y6 y7 y8 y9 y10 y11 y12:Value) (w':World),Below w.heap.size w w'→(P w' y12)→Q .normal { tmps:=#[v0,.slice (some ⟨u,uo,none⟩) un uc,v2,v3,v4,.pointer (some ⟨ab,0,none⟩),v6,.slice (some ⟨g,0,none⟩) ln c,v8,.int .i64 (i:Int),y12,v11,v12,v13,v14,v15,v16,v17,v18,v19,v20,v21,v22,v23,v24,v25,v26,v27,v28,v29,v30,v31,v32,v33,v34,v35,v36,v37,v38,v39,v40,v41,v42,v43,v44,y0,y1,y2,y3,y4,y5,y6,y7,y8,y9,y10,y11,v57,v58,v59,v60,v61,v62,v63,v64,v65,v66,v67,v68,v69,v70,v71,v72,v73,v74,v75,v76,v77,v78,v79,v80,v81],defers:=D } w') :
  (Code.region 11 opsregNo11 true).wp Tryz.prog Q { tmps:=#[v0,.slice (some ⟨u,uo,none⟩) un uc,v2,v3,v4,.pointer (some ⟨ab,0,none⟩),v6,.slice (some ⟨g,0,none⟩) ln c,v8,.int .i64 (i:Int),wy12,v11,v12,v13,v14,v15,v16,v17,v18,v19,v20,v21,v22,v23,v24,v25,v26,v27,v28,v29,v30,v31,v32,v33,v34,v35,v36,v37,v38,v39,v40,v41,v42,v43,v44,wy0,wy1,wy2,wy3,wy4,wy5,wy6,wy7,wy8,wy9,wy10,wy11,v57,v58,v59,v60,v61,v62,v63,v64,v65,v66,v67,v68,v69,v70,v71,v72,v73,v74,v75,v76,v77,v78,v79,v80,v81],defers:=D } w:=by
 refine wp_region_inv (by kernel_rfl) (WregNo11 ca ab u uo un uc um b g ln c i x0 x1 x2 x3 x4 P D v0 v2 v3 v4 v6 v8 v11 v12 v13 v14 v15 v16 v17 v18 v19 v20 v21 v22 v23 v24 v25 v26 v27 v28 v29 v30 v31 v32 v33 v34 v35 v36 v37 v38 v39 v40 v41 v42 v43 v44 v57 v58 v59 v60 v61 v62 v63 v64 v65 v66 v67 v68 v69 v70 v71 v72 v73 v74 v75 v76 v77 v78 v79 v80 v81 w) ?hacy ?h0 ?hstep ?hdone
 case hacy=>kernel_rfl
 case h0=>exact ⟨wy0,wy1,wy2,wy3,wy4,wy5,wy6,wy7,wy8,wy9,wy10,wy11,wy12,rfl,below_drewN (Below.refl _ _) 1,(fun p=>by cases p),(fun p=>by cases p),(fun p=>by cases p),(fun p=>by cases p),(fun p=>by cases p),(fun p=>by cases p),(fun p=>by cases p),(fun p=>by cases p),(fun p=>by cases p),(fun p=>by cases p),(fun p=>by cases p),(fun p=>by cases p),(fun p=>by cases p)⟩
 case hdone =>
  intro l a w1 hI hall
  obtain ⟨y0,y1,y2,y3,y4,y5,y6,y7,y8,y9,y10,y11,y12,rfl,hb,h0,h1,h2,h3,h4,h5,h6,h7,h8,h9,h10,h11,h12⟩:=hI
  exact hQ _ _ _ _ _ _ _ _ _ _ _ _ _ _ hb (h12 (hall 12 (by decide)))
 case hstep =>
  intro l a w1 i o hI ho hl hall
  obtain ⟨y0,y1,y2,y3,y4,y5,y6,y7,y8,y9,y10,y11,y12,rfl,hb,h0,h1,h2,h3,h4,h5,h6,h7,h8,h9,h10,h11,h12⟩:=hI
  have hi:i<13:=(Array.getElem?_eq_some_iff.1 ho).1
  match i,hi with
  | 0,_ =>
   have ho':=ho
   simp [opsregNo11] at ho
   subst ho
   refine wpOp_one ho' rfl fun K hK=>?_
   refine wp_load_row 39 (.tmp 5) rfl ab rfl 39 ca (0,0) _ (hA w1 hb) Tryz.underlying39 rfl shA ?_
   exact hK _ _ ⟨_,y1,y2,y3,y4,y5,y6,y7,y8,y9,y10,y11,y12,rfl,hb,fun _=>(by first | rfl | simp),h1,h2,h3,h4,h5,h6,h7,h8,h9,h10,h11,h12⟩
  | 1,_ =>
   have ho':=ho
   simp [opsregNo11] at ho
   subst ho
   refine wpOp_one ho' rfl fun K hK=>?_
   go_simp
   exact hK _ _ ⟨y0,_,y2,y3,y4,y5,y6,y7,y8,y9,y10,y11,y12,rfl,hb,h0,fun _=>(by first | rfl | simp),h2,h3,h4,h5,h6,h7,h8,h9,h10,h11,h12⟩
  | 2,_ =>
   have ho':=ho
   simp [opsregNo11] at ho
   subst ho
   refine wpOp_one ho' rfl fun K hK=>?_
   go_simp
   exact hK _ _ ⟨y0,y1,_,y3,y4,y5,y6,y7,y8,y9,y10,y11,y12,rfl,hb,h0,h1,fun _=>(by first | rfl | simp),h3,h4,h5,h6,h7,h8,h9,h10,h11,h12⟩
  | 3,_ =>
   have ho':=ho
   simp [opsregNo11] at ho
   subst ho
   obtain rfl:=h1 (hall ⟨1,.data⟩ (by simp) rfl)
   obtain rfl:=h2 (hall ⟨2,.data⟩ (by simp) rfl)
   refine wpOp_one ho' rfl fun K hK=>?_
   go_simp
   exact hK _ _ ⟨y0,_,_,_,y4,y5,y6,y7,y8,y9,y10,y11,y12,rfl,hb,h0,fun _=>rfl,fun _=>rfl,fun _=>(by first | rfl | simp),h4,h5,h6,h7,h8,h9,h10,h11,h12⟩
  | 4,_ =>
   have ho':=ho
   simp [opsregNo11] at ho
   subst ho
   obtain rfl:=h3 (hall ⟨3,.data⟩ (by simp) rfl)
   refine wpOp_one ho' rfl fun K hK=>?_
   obtain ⟨q0,q1,q2,q3,q4⟩:=hx w1 hb
   go_simp
   exact hK _ _ ⟨y0,y1,y2,_,_,y5,y6,y7,y8,y9,y10,y11,y12,rfl,hb,h0,h1,h2,fun _=>rfl,fun _=>(by first | rfl | simp),h5,h6,h7,h8,h9,h10,h11,h12⟩
  | 5,_ =>
   have ho':=ho
   simp [opsregNo11] at ho
   subst ho
   refine wpOp_one ho' rfl fun K hK=>?_
   go_simp
   exact hK _ _ ⟨y0,y1,y2,y3,y4,_,y6,y7,y8,y9,y10,y11,y12,rfl,hb,h0,h1,h2,h3,h4,fun _=>(by first | rfl | simp),h6,h7,h8,h9,h10,h11,h12⟩
  | 6,_ =>
   have ho':=ho
   simp [opsregNo11] at ho
   subst ho
   refine wpOp_one ho' rfl fun K hK=>?_
   go_simp
   exact hK _ _ ⟨y0,y1,y2,y3,y4,y5,_,y7,y8,y9,y10,y11,y12,rfl,hb,h0,h1,h2,h3,h4,h5,fun _=>(by first | rfl | simp),h7,h8,h9,h10,h11,h12⟩
  | 7,_ =>
   have ho':=ho
   simp [opsregNo11] at ho
   subst ho
   obtain rfl:=h6 (hall ⟨6,.data⟩ (by simp) rfl)
   refine wpOp_one ho' rfl fun K hK=>?_
   go_simp
   exact hK _ _ ⟨y0,y1,y2,y3,y4,y5,_,_,y8,y9,y10,y11,y12,rfl,hb,h0,h1,h2,h3,h4,h5,fun _=>rfl,fun _=>(by first | rfl | simp),h8,h9,h10,h11,h12⟩
  | 8,_ =>
   have ho':=ho
   simp [opsregNo11] at ho
   subst ho
   obtain rfl:=h7 (hall ⟨7,.data⟩ (by simp) rfl)
   refine wpOp_one ho' rfl fun K hK=>?_
   go_simp
   exact hK _ _ ⟨y0,y1,y2,y3,y4,y5,y6,_,_,y9,y10,y11,y12,rfl,hb,h0,h1,h2,h3,h4,h5,h6,fun _=>rfl,fun _=>(by first | rfl | simp),h9,h10,h11,h12⟩
  | 9,_ =>
   have ho':=ho
   simp [opsregNo11] at ho
   subst ho
   obtain rfl:=h5 (hall ⟨5,.data⟩ (by simp) rfl)
   obtain rfl:=h8 (hall ⟨8,.data⟩ (by simp) rfl)
   refine wpOp_one ho' rfl fun K hK=>?_
   go_simp
   exact hK _ _ ⟨y0,y1,y2,y3,y4,_,y6,y7,_,_,y10,y11,y12,rfl,hb,h0,h1,h2,h3,h4,fun _=>rfl,h6,h7,fun _=>rfl,fun _=>(by first | rfl | simp),h10,h11,h12⟩
  | 10,_ =>
   have ho':=ho
   simp [opsregNo11] at ho
   subst ho
   obtain rfl:=h9 (hall ⟨9,.data⟩ (by simp) rfl)
   refine wpOp_one ho' rfl fun K hK=>?_
   have hc0:=hw w1 hb
   go_simp
   exact hK _ _ ⟨y0,y1,y2,y3,y4,y5,y6,y7,y8,_,_,y11,y12,rfl,hb,h0,h1,h2,h3,h4,h5,h6,h7,h8,fun _=>rfl,fun _=>(by first | rfl | simp),h11,h12⟩
  | 11,_ =>
   have ho':=ho
   simp [opsregNo11] at ho
   subst ho
   obtain rfl:=h0 (hall ⟨0,.data⟩ (by simp) rfl)
   obtain rfl:=h4 (hall ⟨4,.data⟩ (by simp) rfl)
   obtain rfl:=h10 (hall ⟨10,.data⟩ (by simp) rfl)
   refine wpOp_one ho' rfl fun K hK=>?_
   go_simp
   go_at_call 17
   refine (hc _ hb).mono ?_
   rintro e w2 ⟨v2,rfl,hp2,hb2⟩
   exact hK _ _ ⟨_,y1,y2,y3,_,y5,y6,y7,y8,y9,_,_,y12,rfl,(hb.trans (hb2.mono hb.size)),fun _=>rfl,h1,h2,h3,fun _=>rfl,h5,h6,h7,h8,h9,fun _=>rfl,fun _=>hp2,fun q=>hP _ _ _ (h12 q) hb2⟩
  | 12,_ =>
   have ho':=ho
   simp [opsregNo11] at ho
   subst ho
   have p11:=h11 (hall ⟨11,.data⟩ (by simp) rfl)
   refine wpOp_one ho' rfl fun K hK=>?_
   go_simp
   exact hK _ _ ⟨y0,y1,y2,y3,y4,y5,y6,y7,y8,y9,y10,y11,_,rfl,hb,h0,h1,h2,h3,h4,h5,h6,h7,h8,h9,h10,h11,fun _=>p11⟩
  | k+13,hi=>omega
end Go.Proofs.YtnmjicfpmkoldaaGreatDoor

/- The walk of the statement NaiveOn: called with a tree and a word it returns true and changes nothing that was there.
   Conditions: the tree and the word lie in memory, the tree's sets are four words below 2^64, and the library's table lies there. -/
namespace Go.Proofs.YtnmjicfpmkoldaaGreatDoor
open Go.RowKit Go.Maps Go.Shelf
attribute [local go_sem] nodeAgg
def BehQ (H:Nat) (m:PM) (fl:List Nat) (L:Nat→List Mv) (u:List Nat) (W:World) (v:Value):Prop:=∃ l:List Kc,l.Nodup∧(∀ k,k∈l↔Kc63 k∧bhS m fl L u k)∧l.length≤115856201∧W.ownsRow H 55 5 v (sortC l).length ((sortC l).flatMap kcc)
theorem BehQ.keep {H:Nat} {m:PM} {fl:List Nat} {L:Nat→List Mv} {u:List Nat} (W:World) (v:Value) (W':World) (h:BehQ H m fl L u W v) (hb:Below W.heap.size W W'):BehQ H m fl L u W' v:=by
 obtain ⟨l,a,b,c,d⟩:=h
 exact ⟨l,a,b,c,own_chg d (Chg.of_below (R:=fun _=>False) hb) fun _ _=>id⟩
theorem wrd_take {w:World} {A:Option Addr} {c:Nat} {u:List Nat} (h:WrdR w (.slice A u.length c) u) {i:Nat} (hi:i≤u.length):WrdR w (.slice A i c) (u.take i):=by
 obtain ⟨A',c',e,h⟩:=h
 simp only [Value.slice.injEq,true_and] at e
 obtain ⟨rfl,rfl⟩:=e
 refine ⟨A,c,by rw [List.length_take,Nat.min_eq_left hi],fun j x hx=>h j x ?_⟩
 rw [List.getElem?_take] at hx
 split at hx
 ·exact hx
 ·cases hx
set_option maxHeartbeats 8000000 in
set_option maxRecDepth 100000 in
theorem on8_walk (t:V) (v1:Value) (u:List Nat) (w:World) (R:Nat→Prop) (ht:Laid w R t) (hgd:Good t) (hT:TabE w) (hTl:tabE<w.heap.size) (hu:WrdR w v1 u) (hcap:∀ A c,v1=.slice A u.length c→u.length≤c) :
  Calls Tryz.prog 7 #[nodeAgg t,v1] w fun e w'=>e=.returned (.bool true)∧Below w.heap.size w w':=by
 obtain ⟨sa,sc,hv0,_⟩:=laid_row' ht
 obtain ⟨sn,hsn⟩ : ∃ sn,sn=t.ps.length:=⟨_,rfl⟩
 rw [← hsn] at hv0
 have HTT:=Lib.hid (fun (W:World) (h:Below w.heap.size w W)=>show TabE W∧tabE<W.heap.size from ⟨tab_below hT hTl h,Nat.lt_of_lt_of_le hTl h.size⟩)
 have HAU:=Lib.hid (fun (W:World) (h:Below w.heap.size w W)=>by
  have:=auto_any t W R (laid_low ht h) (HTT.out W h).1 (HTT.out W h).2
  rw [nodeAgg_v hv0] at this
  exact this)
 have HW:=Lib.hid (fun (W:World) (h:Below w.heap.size w W)=>hu.below h)
 have HGD:=Lib.hid hgd
 obtain ⟨A1,c1,rfl,hu0⟩:=hu
 have HCAP:=Lib.hid (hcap A1 c1 rfl)
 clear hcap
 obtain ⟨un,hun⟩ : ∃ n,n=u.length:=⟨_,rfl⟩
 have HL:=Lib.hid hun
 have H256:=Lib.hid (show ∀ x∈u,x<256 from fun x hx=>by obtain ⟨i,hi⟩:=List.mem_iff_getElem?.1 hx;exact (hu0 i x hi).1)
 rw [← hun] at HW ⊢
 rw [nodeAgg_v hv0]
 have HAW:=Lib.hid (fun (W:World) (h:Below w.heap.size w W)=>awake8_any W (HTT.out W h).1 (HTT.out W h).2)
 obtain ⟨w0,hw0,hb0,hlt0,hbx⟩:=box_new w t (.slice sa sn sc)
 have HBX:=Lib.hid hbx
 have HB0:=Lib.hid hb0
 clear ht hv0 hsn hT hTl hu0 hun hgd hbx hb0 hlt0
 go_enter Tryz.func7,Tryz.ntmps7
 go_upto_region 1 with fail
 clear hw0
 go_wp2_with fail
 go_at_call 9
 refine (HAW.out _ HB0.out).mono ?_
 rintro e w2 ⟨rfl,hb2⟩
 have HB2:=Lib.hid (bhop HB0.out hb2)
 obtain ⟨q0,q1,q2,q3,q4,q5,q6,q7⟩:=HBX.out w2 hb2
 clear hb2
 by_cases h1:40<un
 ·have h1':(40:Int)<(un:Int):=by omega
  go_wp2_with fail
  go_at_call 9
  refine (HAW.out _ HB2.out).mono ?_
  rintro e w3 ⟨rfl,hb3⟩
  have HB3:=Lib.hid (bhop HB2.out hb3)
  clear hb3
  go_wp2_with fail
  go_ret
  exact ⟨rfl,HB3.out⟩
 have h1':¬ (40:Int)<(un:Int):=by omega
 by_cases h2:un<2
 ·have h2':(un:Int)<(2:Int):=by omega
  go_wp2_with fail
  go_at_call 9
  refine (HAW.out _ HB2.out).mono ?_
  rintro e w3 ⟨rfl,hb3⟩
  have HB3:=Lib.hid (bhop HB2.out hb3)
  clear hb3
  go_wp2_with fail
  go_ret
  exact ⟨rfl,HB3.out⟩
 have h2':¬ (un:Int)<(2:Int):=by omega
 have hno:¬ ((40:Int)<(un:Int)∨(un:Int)<(2:Int)):=by omega
 go_wp2_with fail
 go_at_call 10
 refine Calls.mono (HAU.out w2 HB2.out) ?_
 rintro e w3 ⟨hh,hb3⟩
 have HB3:=Lib.hid (bhop HB2.out hb3)
 rcases hh with ⟨rfl,_⟩ | ⟨B,a,m,L,hG,rfl⟩
 ·clear hb3
  go_wp2_with fail
  go_ret
  exact ⟨rfl,HB3.out.alloc HB3.out.size _⟩
 obtain ⟨w4,hw4,hb4,ha4⟩:=au_box w3 a
 have hau:=hG.au
 obtain ⟨vs,hrw⟩:=hG.rows
 have hmv:=hG.mvl
 have hCl:∀ C∈m.sets,Cl C:=map_cl HGD.out hG.map
 have hfs:(bitsL (mvT (simT (erase t)) 0 0).1.fi).Pairwise (· < ·):=List.Pairwise.filter _ List.pairwise_lt_range
 generalize bitsL (mvT (simT (erase t)) 0 0).1.fi=fl at hau hfs
 generalize (mvT (simT (erase t)) 0 0).1.la=la at hau
 have hfl:fl.length≤41:=by have:=fl_few hfs fun q hq=>(hau.fin q hq).2;have:=hau.most;omega
 have HB4:=Lib.hid (bhop HB3.out hb4)
 have HF:=Lib.hid (fun (W:World) (h:Below w4.heap.size w4 W)=>show AuB W w3.heap.size a∧AuL W B m a fl la∧RowsM W B a.n (.slice (some ⟨a.mb,0,none⟩) a.n a.n) vs L∧True from ⟨ha4.below h,hau.below (bhop hb4 h),hrw.below (bhop hb4 h),trivial⟩)
 have HP:=Lib.hid (AuP.mk hCl hmv hau.wf hfl (fun q hq=>⟨(hau.fin q hq).1,by rw [hau.ars];exact (hau.fin q hq).2⟩) hfs (by rw [hau.ars];exact hau.most))
 have HU4:=Lib.hid (show u.length≤40 by have:=HL.out;omega)
 obtain ⟨z0,z1,z2,z3,z4,z5,z6,z7,z8,z9,z10,z11,z12,z13,z14⟩:=ha4.all
 clear hG hau hrw hmv hCl hfs hfl hb3 hb4 ha4
 go_upto_region 4 with fail
 clear hw4
 obtain ⟨i0,hi,hz0,hz1,hz2⟩:=info_parts infoKc
 obtain ⟨um,hum⟩ : ∃ um,um=un - 1:=⟨_,rfl⟩
 have HUM:=Lib.hid (show 1≤um∧um+1=un by omega)
 have hb40:un≤40:=by omega
 have hum':um+1=un:=by omega
 have m1:IntKind.i64.wrap ((un:Int) - 1)=(um:Int):=by rw [IntKind.wrap_i64];omega
 have t1:(0:Int)≤(um:Int):=by omega
 have t2:(um:Int)<(un:Int):=by omega
 have t3:((um:Int)).toNat=um:=by omega
 obtain ⟨b,hb⟩ : ∃ b,u[um]? = some b:=⟨_,List.getElem?_eq_getElem (by have:=HL.out;omega)⟩
 obtain ⟨ug,uo,hA,_⟩ : ∃ g o,A1=some ⟨g,o,none⟩∧True:=by
  obtain ⟨A',c',e,h⟩:=HW.out w4 HB4.out
  simp only [Value.slice.injEq] at e
  obtain ⟨_,g,o,h2,_⟩:=h um b hb
  exact ⟨g,o,e.1.trans h2,trivial⟩
 have hb256:b<256:=H256.out b (List.mem_of_getElem? hb)
 have HBB:=Lib.hid hb
 have HYB0:=Lib.hid (fun (W:World) (h:Below w4.heap.size w4 W)=>show W.cell? ⟨ug,uo+um,none⟩=some (.int .u8 (b:Int)) from by
  obtain ⟨A',c',e,h0⟩:=HW.out W (bhop HB4.out h)
  simp only [Value.slice.injEq] at e
  obtain ⟨_,g2,o2,h2,_,h3⟩:=h0 um b hb
  have h2:=e.1.symm.trans (hA) |>.symm.trans h2
  simp only [Option.some.injEq,Addr.mk.injEq,and_true] at h2
  rw [h2.1,h2.2]
  exact h3)
 have HWS:=Lib.hid (fun (W:World) (h:Below w4.heap.size w4 W)=>show WrdR W (.slice A1 um c1) (u.take um) from wrd_take (by rw [← HL.out];exact HW.out W (bhop HB4.out h)) (by have:=HL.out;omega))
 have hcp:(um:Int)≤(c1:Int):=by have:=HCAP.out;have:=HL.out;omega
 subst hA
 have HBh:=Lib.hid (fun (W:World) (h:Below w4.heap.size w4 W)=>behind_any W (HF.out W h).2.1 (HF.out W h).2.2.1 HP.out.cls HP.out.few HP.out.mvl _ u (HW.out W (bhop HB4.out h)) HU4.out)
 have HBs:=Lib.hid (fun (W:World) (h:Below w4.heap.size w4 W)=>show Calls Tryz.prog 11 #[.agg #[.int .i64 a.k,.int .u64 (a.s0:Nat),.int .u64 (a.s1:Nat),.int .u64 (a.s2:Nat),.int .u64 (a.s3:Nat),.slice a.ta a.tn a.tc,.int .i64 a.lo,.int .i64 a.hi,.slice a.sA a.n a.sC,.slice a.cA a.cN a.cC,.slice (some ⟨a.ga,0,none⟩) a.n a.aC,.slice a.fA a.fN a.fC,.slice (some ⟨a.mb,0,none⟩) a.n a.n,.slice (some ⟨a.lb,0,none⟩) a.n a.n,.bool a.em],.slice (some ⟨ug,uo,none⟩) um c1] W (fun e w'=>∃ v,e=.returned v∧BehQ w4.heap.size m fl L (u.take um) w' v∧Below W.heap.size W w') from
  (behind_any W (HF.out W h).2.1 (HF.out W h).2.2.1 HP.out.cls HP.out.few HP.out.mvl _ (u.take um) (HWS.out W h) (by rw [List.length_take];have:=HU4.out;omega)).mono fun e w' ⟨A,c,l,e1,l1,l2,l3,l4,e5⟩=>⟨_,e1,⟨l,l1,l2,l3,own_low l4 h.size⟩,e5⟩)
 clear z0 z1 z2 z3 z4 z5 z6 z7 z8 z9 z10 z11 z12 z13 z14 hum hb40 hum'
 go_upto_region 6 with fail
 refine regNo6 #[.int .i64 a.k,.int .u64 (a.s0:Nat),.int .u64 (a.s1:Nat),.int .u64 (a.s2:Nat),.int .u64 (a.s3:Nat),.slice a.ta a.tn a.tc,.int .i64 a.lo,.int .i64 a.hi,.slice a.sA a.n a.sC,.slice a.cA a.cN a.cC,.slice (some ⟨a.ga,0,none⟩) a.n a.aC,.slice a.fA a.fN a.fC,.slice (some ⟨a.mb,0,none⟩) a.n a.n,.slice (some ⟨a.lb,0,none⟩) a.n a.n,.bool a.em] w3.heap.size ug uo un c1 um (BehQ w4.heap.size m fl L (u.take um)) _ _ _ _ _ _ _ _ _ _ _ _ _ _ _ _ _ _ _ _ _ _ _ _ _ _ _ _ _ _ _ _ _ _ _ _ _ _ _ _ _ _ _ _ _ _ _ _ _ _ _ _ _ _ _ _ _ _ _ _ _ _ _ _ _ _ _ _ _ _ _ _ _ _ _ _ _ _ _ _ _ w4 (fun W h=>(HF.out W h).1.blk) (by kernel_rfl) m1 t1 t3 hcp (fun W v W' h hbW=>BehQ.keep W v W' h hbW) (fun W h=>HBs.out W h) _ ?_
 intros
 rename_i yv w6 hb6 hp6
 obtain ⟨l0,l1,l2,l3,l4⟩:=hp6
 obtain ⟨lA,lc,hyv⟩:=own_form l4
 subst hyv
 obtain ⟨l,hl⟩ : ∃ l,l=sortC l0:=⟨_,rfl⟩
 rw [← hl] at l4 ⊢
 have hmem:∀ k,k∈l↔bhS m fl L (u.take um) k:=fun k=>by
  rw [hl,(sortC_perm l0).mem_iff,l2 k]
  exact ⟨fun h=>h.2,fun h=>⟨ok_63 HP.out.wf HP.out.most (bhS_ok HP.out.wf HP.out.fin HP.out.mvl _ k h),h⟩⟩
 have hlen:l.length≤115856201:=by rw [hl,(sortC_perm l0).length_eq];exact l3
 have HLl:=Lib.hid (show ∀ k∈l,OkC m 39 k from fun k hk=>ok_more (bhS_ok HP.out.wf HP.out.fin HP.out.mvl _ k ((hmem k).1 hk)) (by rw [List.length_take];have:=HU4.out;have:=HUM.out;have:=HL.out;omega))
 have HSH:=Lib.hid (And.intro l1 hmem)
 have HLR:=Lib.hid (fun (W:World) (h:Below w6.heap.size w6 W)=>show CfsR W lA l from (own_cfs l4).below h)
 have H6:=Lib.hid hb6
 have HYB:=Lib.hid (fun (W:World) (h:Below w6.heap.size w6 W)=>HYB0.out W (bhop H6.out h))
 obtain ⟨ln,hln⟩ : ∃ n,n=l.length:=⟨_,rfl⟩
 have HLN:=Lib.hid (And.intro hln (show ln≤115856201 by omega))
 rw [← hln]
 clear l1 l2 l3 l4 hl hmem hlen hln hb6
 go_wp2_with fail
 go_loopw [8,9] (fun nv z wr=>∃ k:Nat,z=.int .i64 k∧k≤ln∧NxQ w6 (stepB m L (fun q=>q∈l.take k) b) nv wr) (fun _ z _=>match z with | .int _ z=>ln - z.toNat | _=>0)
 case atStart=>exact ⟨0,rfl,Nat.zero_le _,NxQ.nil w6 stepB_none⟩
 case round =>
  obtain ⟨k,rfl,hk1,nout,n1,n2,n3,hbr⟩:=hrel
  obtain ⟨nA,nc,rfl⟩:=own_form n3
  obtain ⟨wm,hwm⟩ : ∃ wm,wm=wr:=⟨_,rfl⟩
  subst hwm
  have hNx:NxQ w6 (stepB m L (fun q=>q∈l.take k) b) (.slice nA nout.length nc) wm:=⟨nout,n1,n2,n3,hbr⟩
  have HR:=Lib.hid (And.intro hk1 (And.intro hNx hbr))
  have HX:=Lib.hid (bhop H6.out hbr)
  have s1:(0:Int)≤(k:Int):=by omega
  have s3:((k:Int)).toNat=k:=by omega
  have wk:IntKind.i64.wrap ((k:Int)+1)=(k:Int)+1:=by have:=HLN.out.2;rw [IntKind.wrap_i64];omega
  by_cases g5:k<ln
  ·have s2:(k:Int)<(ln:Int):=by omega
   obtain ⟨p,hp⟩ : ∃ p,l[k]? = some p:=⟨_,List.getElem?_eq_getElem (by have:=HLN.out.1;omega)⟩
   obtain ⟨⟨pn,lf,hpp,hp1,hlf,hcn⟩,_⟩:=HLl.out p (List.mem_of_getElem? hp)
   obtain ⟨gg,hgg,_⟩:=HLR.out wm hbr k p hp
   have HKX:=Lib.hid (fun (W:World) (h:Below wm.heap.size wm W)=>show W.cell? ⟨gg,k * 5,none⟩=some (.int .i64 p.p)∧W.cell? ⟨gg,k * 5+1,none⟩=some (.int .i64 p.a)∧W.cell? ⟨gg,k * 5+2,none⟩=some (.int .i64 p.b)∧W.cell? ⟨gg,k * 5+3,none⟩=some (.int .i64 p.c)∧W.cell? ⟨gg,k * 5+4,none⟩=some (.int .i64 p.d) from by
    obtain ⟨g2,h1,_,h3⟩:=HLR.out W (bhop hbr h) k p hp
    obtain rfl:gg=g2:=by rw [hgg] at h1;simpa using h1
    exact h3)
   have hpl:pn<m.ars.length:=(List.getElem?_eq_some_iff.1 hlf).1
   have hgd:m.ars.getD p.p.toNat []=lf:=by rw [hpp,show ((pn:Int)).toNat=pn by omega,List.getD_eq_getElem?_getD,hlf];rfl
   have hLp:L p.p.toNat=L pn:=by rw [hpp,show ((pn:Int)).toNat=pn by omega]
   have hmv:=HP.out.mvl.good pn lf hlf
   have hfw:=HP.out.mvl.few pn hpl
   have HRS:=Lib.hid (fun (W:World) (h:Below wm.heap.size wm W)=>show Calls Tryz.prog 17 #[.agg #[.int .i64 a.k,.int .u64 (a.s0:Nat),.int .u64 (a.s1:Nat),.int .u64 (a.s2:Nat),.int .u64 (a.s3:Nat),.slice a.ta a.tn a.tc,.int .i64 a.lo,.int .i64 a.hi,.slice a.sA a.n a.sC,.slice a.cA a.cN a.cC,.slice (some ⟨a.ga,0,none⟩) a.n a.aC,.slice a.fA a.fN a.fC,.slice (some ⟨a.mb,0,none⟩) a.n a.n,.slice (some ⟨a.lb,0,none⟩) a.n a.n,.bool a.em],.agg #[.int .i64 p.p,.int .i64 p.a,.int .i64 p.b,.int .i64 p.c,.int .i64 p.d],.int .u8 b] W (fun e w'=>∃ v,e=.returned v∧StQ wm.heap.size m lf p.x b (L pn) w' v∧Below W.heap.size W w') from by
    have hF:=HF.out W (bhop HX.out h)
    have:=refStep_any W hF.2.1 hF.2.2.1 hlf p.x hcn HP.out.cls (fun j hj=>⟨by have:=(hmv j hj).2.1;rw [hF.2.1.ars] at this;exact this,(hmv j hj).2.2.1⟩) (by omega) b hb256
    rw [← hpp] at this
    exact this.mono fun e w' ⟨v,out,e1,e2,e3,e4,e5,e6⟩=>⟨v,e1,⟨out,e2,e3,e4,own_low e5 h.size⟩,e6⟩)
   have HPN:=Lib.hid (And.intro hgd (And.intro hLp (And.intro hp (And.intro g5 hfw))))
   subst hgg
   clear hk1 hNx n1 n2 n3 hgd hLp hmv hfw hpl hpp hlf hcn hp1
   go_upto_region 11 with fail
   refine regNo11 #[.int .i64 a.k,.int .u64 (a.s0:Nat),.int .u64 (a.s1:Nat),.int .u64 (a.s2:Nat),.int .u64 (a.s3:Nat),.slice a.ta a.tn a.tc,.int .i64 a.lo,.int .i64 a.hi,.slice a.sA a.n a.sC,.slice a.cA a.cN a.cC,.slice (some ⟨a.ga,0,none⟩) a.n a.aC,.slice a.fA a.fN a.fC,.slice (some ⟨a.mb,0,none⟩) a.n a.n,.slice (some ⟨a.lb,0,none⟩) a.n a.n,.bool a.em] w3.heap.size ug uo un c1 um b gg ln lc k p.p p.a p.b p.c p.d (StQ wm.heap.size m lf p.x b (L pn)) _ _ _ _ _ _ _ _ _ _ _ _ _ _ _ _ _ _ _ _ _ _ _ _ _ _ _ _ _ _ _ _ _ _ _ _ _ _ _ _ _ _ _ _ _ _ _ _ _ _ _ _ _ _ _ _ _ _ _ _ _ _ _ _ _ _ _ _ _ _ _ _ _ _ _ _ _ _ _ wm (fun W h=>(HF.out W (bhop HX.out h)).1.blk) (by kernel_rfl) (fun W h=>HYB.out W (bhop hbr h)) (fun W h=>HKX.out W h) s1 s2 s3 m1 t1 t2 t3 (fun W v W' h hbW=>StQ.keep W v W' h hbW) (fun W h=>HRS.out W h) _ ?_
   intros
   rename_i yv w20 hb20 hp20
   have HX20:=Lib.hid (bhop HX.out hb20)
   have HR20:=Lib.hid (And.intro (HR.out.2.1.step (S':=fun q=>stepB m L (fun q=>q∈l.take k) b q∨q∈([]:List Kc)) hb20 (fun q=>⟨.inl,fun h=>h.elim id fun h=>by cases h⟩)) hb20.size)
   obtain ⟨st,t1,t2,t3,t4⟩:=hp20
   obtain ⟨sA,sc,hsv⟩:=own_form t4
   obtain ⟨sn,hsn⟩ : ∃ n,n=st.length:=⟨_,rfl⟩
   rw [← hsn] at hsv t4
   subst hsv
   have HST:=Lib.hid (And.intro t1 (And.intro t2 (And.intro t3 (And.intro hsn t4))))
   have HRS0:=Lib.hid hbr.size
   clear t1 t2 t3 t4 hsn hb20 s1 s2 s3 hbr
   go_wp2_with fail
   go_loopw [8,11] (fun nv z wr=>∃ j:Nat,z=.int .i64 j∧j≤sn∧NxQ w6 (fun q=>stepB m L (fun q=>q∈l.take k) b q∨q∈st.take j) nv wr∧wr.ownsRow wm.heap.size 55 5 (.slice sA sn sc) sn (st.flatMap kcc)∧∀ y,nv.ownBlock=some y→(Value.slice sA sn sc).ownBlock≠some y) (fun _ z _=>match z with | .int _ z=>sn - z.toNat | _=>0)
   case atStart =>
    refine ⟨0,rfl,Nat.zero_le _,HR20.out.1,HST.out.2.2.2.2,fun y hy e=>?_⟩
    obtain ⟨_,_,_,ho,_⟩:=HR.out.2.1
    have:=(World.ownsRow.lt ho y hy).2
    have:=(World.ownsRow.lt HST.out.2.2.2.2 y e).1
    omega
   case round =>
    obtain ⟨j,rfl,hj1,⟨out,o1,o2,o3,o4⟩,hso,hdis⟩:=hrel
    obtain ⟨oA,oc,rfl⟩:=own_form o3
    obtain ⟨on,hon⟩ : ∃ n,n=out.length:=⟨_,rfl⟩
    have s1:(0:Int)≤(j:Int):=by omega
    have s3:((j:Int)).toNat=j:=by omega
    have hsn5:sn≤410:=by have:=HST.out.2.2.1;have:=HST.out.2.2.2.1;have:=HPN.out.2.2.2.2;omega
    have wj:IntKind.i64.wrap ((j:Int)+1)=(j:Int)+1:=by rw [IntKind.wrap_i64];omega
    have hstp:∀ q∈st,stepB m L (fun q=>q∈l) b q:=fun q hq=>⟨p,List.mem_of_getElem? HPN.out.2.2.1,by rw [HPN.out.1,HPN.out.2.1];exact (HST.out.2.1 q).1 hq⟩
    have hof:out.length≤115856201:=few_step HP.out.mvl HP.out.most HLl.out o1 fun q hq=>by
     rcases (o2 q).1 hq with h | h
     ·exact stepB_sub h
     ·exact hstp q (List.mem_of_mem_take h)
    by_cases g6:j<sn
    ·have s2:(j:Int)<(sn:Int):=by omega
     obtain ⟨kq,hkq⟩ : ∃ kq,st[j]? = some kq:=⟨_,List.getElem?_eq_getElem (by have:=HST.out.2.2.2.1;omega)⟩
     have hsn':=HST.out.2.2.2.1
     obtain ⟨gs,hgs,gsl,e0,e1,e2,e3,e4⟩:=own_cfs (l:=st) (A:=sA) (c:=sc) (H:=wm.heap.size) (by rw [← hsn'];exact hso) j kq hkq
     subst hgs
     have HHC:=Lib.hid (hasC_any wr oA oc out (own_cfs o3) (by omega) kq)
     have HO:=Lib.hid (And.intro o1 (And.intro o2 (And.intro o3 (And.intro o4 (And.intro hso (And.intro hdis (And.intro hof (And.intro hon (And.intro g6 (And.intro hkq hsn'))))))))))
     clear o1 o2 o3 o4 hso hdis hof hon hj1 hkq hstp hsn5 hsn'
     go_wp2_with fail
     go_at_call 18
     refine HHC.out.mono ?_
     rintro e w22 ⟨rfl,hb22⟩
     have f0:=(hb22.cell (p:=⟨gs,j * 5,none⟩) gsl).trans e0
     have f1:=(hb22.cell (p:=⟨gs,j * 5+1,none⟩) gsl).trans e1
     have f2:=(hb22.cell (p:=⟨gs,j * 5+2,none⟩) gsl).trans e2
     have f3:=(hb22.cell (p:=⟨gs,j * 5+3,none⟩) gsl).trans e3
     have f4:=(hb22.cell (p:=⟨gs,j * 5+4,none⟩) gsl).trans e4
     have HB22:=Lib.hid hb22
     clear hb22 e0 e1 e2 e3 e4
     cases hk2:hasK out kq with
     | true =>
      have HSK:=Lib.hid (hasK_iff.1 hk2)
      clear hk2 f0 f1 f2 f3 f4
      go_wp2_with fail
      go_roundw
      case rel =>
       refine ⟨j+1,by push_cast;rfl,HO.out.2.2.2.2.2.2.2.2.1,⟨out,HO.out.1,fun q=>?_,own_chg HO.out.2.2.1 (Chg.of_below (R:=fun _=>False) HB22.out) fun _ _=>id,bhop HO.out.2.2.2.1 HB22.out⟩,own_chg HO.out.2.2.2.2.1 (Chg.of_below (R:=fun _=>False) HB22.out) fun _ _=>id,HO.out.2.2.2.2.2.1⟩
       show q∈_↔(stepB m L (fun q=>q∈l.take k) b q∨q∈st.take (j+1))
       rw [take_mem HO.out.2.2.2.2.2.2.2.2.2.1,← or_assoc,← show q∈out↔(stepB m L (fun q=>q∈l.take k) b q∨q∈st.take j) from HO.out.2.1 q]
       exact ⟨.inl,fun h=>h.elim id fun h=>h▸HSK.out⟩
      case measure=>have:=HO.out.2.2.2.2.2.2.2.2.1;simp;omega
     | false =>
      have hkn:kq ∉ out:=fun h=>by rw [hasK_iff.2 h] at hk2;cases hk2
      have HKN:=Lib.hid hkn
      have own9:w22.ownsRow w6.heap.size 55 5 (.slice oA on oc) on (out.flatMap kcc):=by rw [HO.out.2.2.2.2.2.2.2.1];exact own_chg HO.out.2.2.1 (Chg.of_below (R:=fun _=>False) HB22.out) fun _ _=>id
      have HO9:=Lib.hid own9
      have HBN:=Lib.hid (show on≤115856201 by have:=HO.out.2.2.2.2.2.2.1;have:=HO.out.2.2.2.2.2.2.2.1;omega)
      have hS9:=(bhop HO.out.2.2.2.1 HB22.out).size
      clear hk2 hkn
      rw [← HO.out.2.2.2.2.2.2.2.1]
      go_upto_region 16 with fail
      go_wp2_with ((at_builtin;refine wpList_append_lies _ (by rfl) _ _ 42 (by rfl) w6.heap.size 55 i0 _ 5 40 Tryz.underlying42 hi hz0 hz1 hz2 rfl (by decide) (.slice oA on oc) on (out.flatMap kcc) (by rfl) (World.ownsRow.alloc own9 _) ⟨w22.heap.size,0,none⟩ 1 1 [.int .i64 kq.p,.int .i64 kq.a,.int .i64 kq.b,.int .i64 kq.c,.int .i64 kq.d] (by rfl) rfl (World.news_of_block (heap_alloc_new w22 _)) (by simp [Value.oneCell']) (by decide) ?c3 ?c4 ?c5 _ rfl ?_))
      case c3=>have:=HBN.out;unfold maxLen;omega
      case c4=>have:=HBN.out;omega
      case c5=>simp;omega
      intro gB cpB wB hown2 hgrow hat _
      have HA:=Lib.hid (own_pushK (q:=kq) (acc:=out) (v:=.slice oA on oc) (by rw [← HO.out.2.2.2.2.2.2.2.1];exact HO9.out) (bhop HO.out.2.2.2.1 HB22.out) hS9 (by rw [← HO.out.2.2.2.2.2.2.2.1];exact hown2) hgrow)
      have hcB:Chg (fun x=>(Value.slice oA on oc).ownBlock=some x) w22 wB:=((Chg.refl _ w22).alloc _).grown hgrow fun k hk _=>hk
      have hs9:=own_chg HO.out.2.2.2.2.1 (Chg.of_below (R:=fun _=>False) HB22.out) fun _ _=>id
      have hd9:∀ y,(Value.slice oA on oc).ownBlock=some y→(Value.slice (some ⟨gs,0,none⟩) sn sc).ownBlock≠some y:=by rw [HO.out.2.2.2.2.2.2.2.1];exact HO.out.2.2.2.2.2.1
      have hsB:=own_chg hs9 hcB (fun y hy e=>hd9 y e hy)
      have hlt9:=World.ownsRow.lt hs9
      have HSB:=Lib.hid (And.intro hsB (show ∀ y,(Value.slice (some ⟨gB,0,none⟩) (on+1) cpB).ownBlock=some y→(Value.slice (some ⟨gs,0,none⟩) sn sc).ownBlock≠some y from fun y hy e=>by
       rcases hat with h | h
       ·exact hd9 y (h.trans hy) e
       ·have h1:=(hlt9 y e).2
        have h2:gB=y:=by simpa [Value.ownBlock] using hy
        have h3:w22.heap.size≤gB:=by first | omega | (rw [h];simp)
        omega))
      clear hown2 hgrow hat hcB hs9 hd9 hsB hlt9 own9 hS9 f0 f1 f2 f3 f4
      go_wp2_with fail
      go_roundw
      case rel =>
       refine ⟨j+1,by push_cast;rfl,HO.out.2.2.2.2.2.2.2.2.1,⟨out ++ [kq],List.nodup_append.2 ⟨HO.out.1,by simp,fun u hu v hv e=>by
        rw [List.mem_singleton.1 hv] at e
        exact HKN.out (e▸hu)⟩,fun q=>?_,by rw [HO.out.2.2.2.2.2.2.2.1];exact HA.out.1,HA.out.2⟩,HSB.out.1,HSB.out.2⟩
       show q∈_↔(stepB m L (fun q=>q∈l.take k) b q∨q∈st.take (j+1))
       rw [take_mem HO.out.2.2.2.2.2.2.2.2.2.1,← or_assoc,← show q∈out↔(stepB m L (fun q=>q∈l.take k) b q∨q∈st.take j) from HO.out.2.1 q,List.mem_append,List.mem_singleton]
      case measure=>have:=HO.out.2.2.2.2.2.2.2.2.1;simp;omega
    ·have s2:¬ (j:Int)<(sn:Int):=by omega
     have hjs:st.take j=st:=List.take_of_length_le (by have:=HST.out.2.2.2.1;omega)
     have HN:=Lib.hid (show NxQ w6 (stepB m L (fun q=>q∈l.take (k+1)) b) (.slice oA out.length oc) wr from ⟨out,o1,fun q=>by
      rw [show q∈out↔(stepB m L (fun q=>q∈l.take k) b q∨q∈st.take j) from o2 q,hjs,stepB_take HPN.out.2.2.1,HPN.out.1,HPN.out.2.1,HST.out.2.1 q],o3,o4⟩)
     clear o1 o2 o3 o4 hso hdis hof hj1 hjs hstp
     go_wp2_with fail
     go_roundw
     case rel=>exact ⟨k+1,by push_cast;rfl,HPN.out.2.2.2.1,HN.out⟩
     case measure=>have:=HPN.out.2.2.2.1;simp;omega
  ·have s2:¬ (k:Int)<(ln:Int):=by omega
   have hkl:l.take k=l:=List.take_of_length_le (by have:=HLN.out.1;omega)
   rw [hkl] at n2
   clear hk1 hNx hkl
   have hof:nout.length≤115856201:=few_step HP.out.mvl HP.out.most HLl.out n1 fun q hq=>(n2 q).1 hq
   have hbe:∀ q,q∈nout↔bhS m fl L u q:=fun q=>by
    have hne:u.take um≠[]:=fun e=>by
     have:=congrArg List.length e
     rw [List.length_take,List.length_nil] at this
     have:=HL.out
     have:=HUM.out
     omega
    have hu:u=u.take um ++ [b]:=by
     have e1:u.take (um+1)=u:=List.take_of_length_le (by have:=HL.out;have:=HUM.out;omega)
     rw [List.take_add_one,HBB.out] at e1
     exact e1.symm
    rw [n2 q]
    conv=>rhs;rw [hu]
    rw [bhS_snoc hne]
    exact exists_congr fun k=>and_congr_left fun _=>⟨fun h=>((HSH.out.2 k).1 h),fun h=>(HSH.out.2 k).2 h⟩
   have HN:=Lib.hid (And.intro n1 (And.intro hbe (And.intro hof (And.intro (own_cfs n3) (bhop H6.out hbr)))))
   obtain ⟨nn,hnn⟩ : ∃ n,n=nout.length:=⟨_,rfl⟩
   have HNN:=Lib.hid hnn
   rw [← hnn]
   clear n1 n2 n3 hof hbe hbr hnn
   obtain ⟨z0,z1,z2,z3,z4,z5,z6,z7,z8,z9,z10,z11,z12,z13,z14⟩:=(HF.out wm HN.out.2.2.2.2).1.all
   go_wp2_with fail
   go_at_call 11
   refine (HBh.out wm HN.out.2.2.2.2).mono ?_
   rintro e w8 ⟨A8,c8,l8,rfl,l1,l2,l3,l4,hb8⟩
   have hxy:∀ k,k∈l8↔k∈nout:=fun k=>by
    rw [l2 k,HN.out.2.1 k]
    exact ⟨fun h=>h.2,fun h=>⟨ok_63 HP.out.wf HP.out.most (bhS_ok HP.out.wf HP.out.fin HP.out.mvl _ k h),h⟩⟩
   have hlx:(sortC l8).length=nout.length:=by rw [(sortC_perm l8).length_eq];exact same_len l1 HN.out.1 hxy
   have HSo:=Lib.hid (sortedR_true w8 A8 nA c8 nc (sortC l8) nout (own_cfs l4) (HN.out.2.2.2.1.below hb8) hlx (by have:=HN.out.2.2.1;omega) (fun x hx=>(hxy x).1 ((sortC_perm l8).mem_iff.1 hx)) (sortC_lt l1))
   rw [hlx,← HNN.out] at HSo
   rw [hlx,← HNN.out]
   have HB8:=Lib.hid (bhop HN.out.2.2.2.2 hb8)
   clear hxy hlx l1 l2 l3 l4 hb8 z0 z1 z2 z3 z4 z5 z6 z7 z8 z9 z10 z11 z12 z13 z14
   go_wp2_with fail
   go_at_call 14
   refine HSo.out.mono ?_
   rintro e w9 ⟨rfl,hb9⟩
   have HB9:=Lib.hid (bhop HB8.out hb9)
   clear hb9
   go_wp2_with fail
   go_ret
   exact ⟨rfl,bhop HB4.out HB9.out⟩
end Go.Proofs.YtnmjicfpmkoldaaGreatDoor

/- Of every input the statement NaiveOn returns true, and it reads afterwards as before; the card: what its row lists is tied to the program's text.
   No condition. -/
namespace Go.Proofs.YtnmjicfpmkoldaaGreatDoor
open Go.ChangeShapes Go.WideShapes Go.ChangeAt Go.RowKit
theorem naiveOnOwn:ownKnob Tryz.prog.godebug=none:=by kernel_rfl
theorem naiveOnLaidOut:laidOutB Tryz.prog=true:=by kernel_rfl
theorem naiveOnAgg (t:V):nodeAgg t=.agg (ndc t).toArray:=rfl
theorem naiveOnDoor (os:Os) (args:Array Value):laidMetH Tryz.prog Rows.naiveOnRow.laid ((World.doorLaid Tryz.prog 400 os).forCall (fun _ _=>0) ⟨#[],args,[]⟩).memory :=
 laidMetH_of_parts3 (fuel:=8) (laidMet_of_run' 8 (by kernel_rfl) (by kernel_rfl)) (by kernel_rfl) (by kernel_rfl)
set_option maxRecDepth 100000 in
theorem naiveOn_lifted (os:Os) (started:os.Started) (H:Type) (enc:TypeId×Value→H) :
  ReturnsInHanded {} Tryz.checked os 7 .any (fun w args=>(Rows.naiveOnSpec.pre enc Tryz.prog Tryz.f7 Rows.naiveOnRow.domain false w args∧laidMetH Tryz.prog Rows.naiveOnRow.laid w)∧sizedMet enc Tryz.prog Tryz.f7 (OpenSpec.ofChange Rows.naiveOnSpec) false w args)
   (Rows.naiveOnSpec.post enc Tryz.prog Tryz.f7 false true false false):=by
 refine returnsInHanded_of_change_and (C:=Tryz.checked) (X:=fun w _=>laidMetH Tryz.prog Rows.naiveOnRow.laid w) (fun _ _ _ hh h=>h.of_heap hh) naiveOnOwn started (by kernel_rfl) Tryz.func7
  (ChangeSpec.witness_shaped (enc:=enc) (C:=Tryz.checked) (os:=os) (X:=fun w _=>laidMetH Tryz.prog Rows.naiveOnRow.laid w) false (World.doorLaid Tryz.prog 400 os) #[.agg #[.int .i64 0,.int .u64 0,.int .u64 0,.int .u64 0,.int .u64 0,.slice none 0 0,.int .i64 0,.int .i64 0],.slice none 0 0] 8 rfl (World.shaped_of_RefB (by kernel_rfl) (by kernel_rfl)) (by kernel_rfl) (by kernel_rfl) (by kernel_rfl) (naiveOnDoor os _)) ?_
 intro W base args ds gs before hval0 hW _ _ hLaid _
 have hval:∀ (j:Nat) t v,Tryz.f7.params[j]? = some t→args[j]? = some v→Value.okWide Tryz.prog W .any base t v:=hval0
 have hW':=hW
 obtain ⟨hT,hTl⟩:=tab_laid hLaid
 obtain ⟨p,q,hA0,hV,rfl,hfz,hnd⟩:=hW
 have hA:DataW.TrodAll enc Tryz.prog W 0 (fun _=>true) true Tryz.f7.params.toList args.toList ds p:=hA0
 rw [Tryz.params7] at hA hval
 obtain ⟨v0,vs0,d0,ds0,p0,q0,hargs,rfl,rfl,h0,rr0⟩:=trodAll_cons hA
 obtain ⟨v1,vs1,d1,ds1,p1,q1,rfl,rfl,rfl,h1,rr1⟩:=trodAll_cons rr0
 obtain ⟨rfl,rfl,rfl⟩:=trodAll_nil rr1
 obtain rfl:args=#[v0,v1]:=by cases args;simp_all
 obtain ⟨rfl,rfl⟩:=trodVars_none hV
 have k0:=h0
 have lt0:∀ x∈p0,x.block<W.heap.size:=by obtain ⟨m,hm⟩:=k0;exact DataW.trod_lt m _ _ _ hm
 have k1:=h1
 have lt1:∀ x∈p1,x.block<W.heap.size:=by obtain ⟨m,hm⟩:=k1;exact DataW.trod_lt m _ _ _ hm
 obtain ⟨t0,rfl,l0,gd0⟩:=open_tree (hval 0 27 v0 rfl rfl) h0
 obtain ⟨wd1,hwd1,_,hcap1⟩:=open_bytes8c (hval 1 28 v1 rfl rfl) h1
 clear hA0 hval0
 rw [← naiveOnAgg] at *
 refine (on8_walk t0 v1 wd1 W _ l0 gd0 hT hTl hwd1 hcap1).mono fun e W' ⟨he,bel⟩=>?_
 subst he
 exact ⟨_,rfl,_,_,_,[],_,[],hW',trodAll_mk1 (shut_bool Tryz.underlying4 _),(trodAll_cons_mk (Below.trod naiveOnLaidOut (by kernel_rfl) (of_decide_eq_true (by kernel_rfl)) k0 bel lt0) (trodAll_cons_mk (Below.trod naiveOnLaidOut (by kernel_rfl) (of_decide_eq_true (by kernel_rfl)) k1 bel lt1) trodAll_mk0)),rfl,bel.frame _,fun h=>by cases h⟩
theorem naiveOn_holds:Rows.NaiveOnSaid :=
 OpenClaim.holds_of_wide 7 Tryz.f7 rfl rfl rfl rfl rfl rfl rfl ⟨rfl,rfl,rfl,rfl,rfl⟩ rfl rfl rfl rfl rfl (by kernel_rfl) Tryz.func7 (by kernel_rfl)
  (of_decide_eq_true (by kernel_rfl)) (by unfold Func.isWrapper;rw [if_neg (of_decide_eq_false (by kernel_rfl))];exact ⟨rfl,rfl⟩)
  (fun os started H enc _=>naiveOn_lifted os started H enc)
theorem naiveOn_card_holds:Rows.NaiveOnCardSaid :=
 Claim7.holds_tied_plain_at .later [] [.data] true _ false
  naiveOn_holds (fun _ h=>by cases h) (by kernel_rfl) (fun _ h=>by cases h) naiveOn_row_tie rfl ⟨rfl,rfl⟩ (by kernel_rfl) rfl
  (fun f fn hf hfn=>by
   obtain rfl:f=7:=Option.some.inj ((show Tryz.prog.funcNamed "ostinato/ostinatolaw08.NaiveOn" = some 7 by kernel_rfl).symm.trans hf) |>.symm
   obtain rfl:fn=Tryz.f7:=(Option.some.inj (Tryz.func7.symm.trans hfn)).symm
   exact ⟨by kernel_rfl,fun j t ht=>by
    rw [Tryz.params7] at ht
    have hm:t∈[27,28]:=by simpa using Array.mem_of_getElem? ht
    have hall:([27,28].all fun u=>!Tryz.prog.wantsStandIn u)=true:=by kernel_rfl
    exact (show Tryz.prog.wantsStandIn t=false by simpa using List.all_eq_true.1 hall t hm)⟩)
  (by kernel_rfl)
#print axioms naiveOn_card_holds
end Go.Proofs.YtnmjicfpmkoldaaGreatDoor
