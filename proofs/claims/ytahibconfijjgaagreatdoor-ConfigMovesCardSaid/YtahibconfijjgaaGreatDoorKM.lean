/- config.May: contracts.
   Conditions: the automaton lies in memory. -/
import Derived.Shelf.SlicesQ.Contains
import Derived.Test.YtahibconfijjgaaGreatDoorProg
import Derived.Test.YtahibconfijjgaaGreatDoorPM
import Derived.Laws.StructEq
import Derived.Deep.DeepCutAuto
import Derived.Test.YtahibconfijjgaaGreatDoorPG
import Derived.Test.YtahibconfijjgaaGreatDoorRows
import Derived.WalkKit
import Derived.KernelRfl
import Derived.Test.YtahibconfijjgaaGreatDoorKR
import Derived.Test.YtahibconfijjgaaGreatDoorPY

/- What slices.Contains gives, of a slice of structs, at this program: the library's contract, laid.
   No conditions. -/
namespace Go.Proofs
open Go.Shelf
def Tryz.conMv_ren : Go.Shelf.Ren := ⟨fun | 7 => 33 | 6 => 53 | n => n, fun | 22 => 52 | 24 => 49 | 4 => 4 | 0 => 0 | 3 => 3 | n => n, fun | n => n⟩
theorem Tryz.conMv : Go.Proofs.SlLaysQ.n7 Tryz.prog Tryz.conMv_ren := {
  mixed := by kernel_rfl
  f6 := ⟨Tryz.f53.name, by decide, Tryz.func53.trans (congrArg some (by kernel_rfl))⟩
  f7 := ⟨Tryz.f33.name, by decide, Tryz.func33.trans (congrArg some (by kernel_rfl))⟩
  t0 := Tryz.underlying0
  a0 := Tryz.isAgg0
  z0 := Tryz.sizeOf0
  v0 := Tryz.zeroValue0
  t3 := Tryz.underlying3
  a3 := Tryz.isAgg3
  z3 := Tryz.sizeOf3
  v3 := Tryz.zeroValue3
  t4 := Tryz.underlying4
  a4 := Tryz.isAgg4
  z4 := Tryz.sizeOf4
  v4 := Tryz.zeroValue4
  t22 := Tryz.underlying52
  a22 := Tryz.isAgg52
  z22 := Tryz.sizeOf52
  v22 := Tryz.zeroValue52 }
end Go.Proofs

/- slices.Contains of a position's moves: the contract.
   Conditions: the moves lie in memory. -/
namespace Go.Proofs.YtahibconfijjgaaGreatDoor
open Go.RowKit Go.Shelf Go.Lib
def mvE (x y:Mv):Bool:=(x.tt == y.tt) && ((x.kp == y.kp) && (x.ag == y.ag))
theorem mvE_iff {x y:Mv}:mvE x y=true↔x=y:=by
 obtain ⟨a,b,c⟩:=x
 obtain ⟨a',b',c'⟩:=y
 unfold mvE
 simp
instance:Inhabited Mv:=⟨⟨0,0,false⟩⟩
theorem eqMv:EqlAt Tryz.prog 49 (fun x=>.agg (mvc x).toArray) mvE:=by
 refine ⟨fun x y w=>?_,GuardAt.agg _ (by kernel_rfl)⟩
 have u3:=Tryz.underlying3
 have a3:=Tryz.isAgg3
 have z3:=Tryz.sizeOf3
 have u4:=Tryz.underlying4
 have a4:=Tryz.isAgg4
 have z4:=Tryz.sizeOf4
 have hS:Tryz.prog.underlying 49=some (.struct (Tryz.prog.fieldsOf 49)):=by kernel_rfl
 have hp:Tryz.prog.stoodInHeld 49=false:=by kernel_rfl
 simp only [mvc]
 rw [run_eql_struct,show (10000:Nat)=9999+1 from rfl,run_equalIn_agg w 9999 49 _ _ hS hp]
 simp only [Program.fieldsOf,Tryz.underlying49]
 go_simp
 unfold mvE
 have e1:((x.tt:Int)=(y.tt:Int))=(x.tt=y.tt):=propext ⟨fun h=>by omega,fun h=>by omega⟩
 have e2:((x.kp:Int)=(y.kp:Int))=(x.kp=y.kp):=propext ⟨fun h=>by omega,fun h=>by omega⟩
 by_cases h1:x.tt=y.tt <;> by_cases h2:x.kp=y.kp <;> by_cases h3:x.ag=y.ag <;> simp [h1,h2,h3,e1,e2]
set_option maxHeartbeats 2000000 in
theorem index_none (A:Option Addr) (c:Nat) (tt kp:Nat) (ag:Bool) (w:World) :
  Calls Tryz.prog 53 #[.slice A 0 c,.agg #[.int .i64 (tt:Nat),.int .i64 (kp:Nat),.bool ag]] w fun e w'=>e=.returned (.int .i64 (-1))∧Below w.heap.size w w':=by
 go_enter Tryz.func53,Tryz.ntmps53
 go_upto_region 1 with fail
 generalize hw2:w.alloc _=w2
 have hb:Below w.heap.size w w2:=hw2▸(Below.refl _ w).alloc (Nat.le_refl _) _
 clear hw2
 have HB:=Lib.hid hb
 clear hb
 go_wp2_with fail
 go_loopw [8] (fun x wr=>x=.int .i64 0∧wr=w2) (fun x wr=>0)
 case atStart=>exact ⟨rfl,rfl⟩
 case round =>
  obtain ⟨rfl,rfl⟩:=hrel
  go_wp2_with fail
  go_ret
  exact ⟨rfl,HB.out⟩
set_option maxHeartbeats 2000000 in
theorem con_none (A:Option Addr) (c:Nat) (tt kp:Nat) (ag:Bool) (w:World) :
  Calls Tryz.prog 33 #[.slice A 0 c,.agg #[.int .i64 (tt:Nat),.int .i64 (kp:Nat),.bool ag]] w fun e w'=>e=.returned (.bool false)∧Below w.heap.size w w':=by
 obtain ⟨w2,hw2⟩ : ∃ w2,w.alloc (.cells #[.int .i64 (tt:Nat),.int .i64 (kp:Nat),.bool ag] 49)=w2:=⟨_,rfl⟩
 have hb:Below w.heap.size w w2:=hw2▸(Below.refl _ w).alloc (Nat.le_refl _) _
 have hmp:=(row_cells (hw2▸heap_alloc_new w _:w2.heap[w.heap.size]? = some (.cells #[.int .i64 (tt:Nat),.int .i64 (kp:Nat),.bool ag] 49 (0,0)))).1
 have p0:=hmp 0;have p1:=hmp 1;have p2:=hmp 2
 have HB:=Lib.hid hb
 clear hb hmp
 go_enter Tryz.func33,Tryz.ntmps33
 go_upto_region 1 with fail
 clear hw2
 go_wp2_with fail
 go_at_call 53
 refine (index_none A c tt kp ag w2).mono ?_
 rintro e w3 ⟨rfl,hb3⟩
 have HB3:=Lib.hid hb3
 clear hb3 p0 p1 p2
 go_wp2_with fail
 go_ret
 exact ⟨rfl,bhop HB.out HB3.out⟩
theorem contains_mv {w:World} {B n lb p:Nat} {vs:List Value} {L:Nat→List Mv} (h:RowsM w B n (.slice (some ⟨lb,0,none⟩) n n) vs L) (hp:p<n) {A:Option Addr} {c:Nat} (hA:w.cell? ⟨lb,p,none⟩=some (.slice A (L p).length c)) (x:Mv) :
  ∃ b:Bool,(b=true↔x∈L p)∧∀ W,Below w.heap.size w W→Calls Tryz.prog 33 #[.slice A (L p).length c,.agg #[.int .i64 (x.tt:Nat),.int .i64 (x.kp:Nat),.bool x.ag]] W fun e w'=>e=.returned (.bool b)∧Below W.heap.size W w':=by
 obtain ⟨A',c',m1,m2,m3⟩:=mv_read h hp
 obtain ⟨rfl,rfl⟩ : A=A'∧c=c':=by
  have:=hA.symm.trans m1
  simpa using this
 cases hl:L p with
 | nil =>
  refine ⟨false,by simp,fun W _=>?_⟩
  exact con_none A c x.tt x.kp x.ag W
 | cons y l =>
  obtain ⟨g,rfl,hg,_⟩:=m3 0 y (by rw [hl];rfl)
  have hmax:=mv_max h hp
  rw [hl] at hmax m3
  refine ⟨((y :: l).take (y :: l).length).any fun z=>mvE x z,?_,fun W hW=>?_⟩
  ·rw [List.take_length,List.any_eq_true]
   exact ⟨fun ⟨z,hz,he⟩=>by rw [mvE_iff.1 he];exact hz,fun h=>⟨x,h,mvE_iff.2 rfl⟩⟩
  ·refine (AnyQ.slices_Contains Tryz.conMv 3 Tryz.isAgg49 Tryz.sizeOf49 mvc (fun _=>rfl) mvE eqMv g 0 (y :: l).length c (y :: l) x W (Nat.le_refl _) hmax (fun j hj i v hv=>?_)).mono fun e w' hh=>hh
   obtain ⟨g',hgg,_,x0,x1,x2⟩:=m3 j (y :: l)[j]! (by rw [getElem!_pos (y :: l) j hj];exact List.getElem?_eq_getElem hj)
   obtain rfl:g=g':=by simpa using hgg
   rw [Nat.zero_add]
   have hi:i<3:=by
    have:=(List.getElem?_eq_some_iff.1 hv).1
    exact this
   rw [hW.cell (p:=⟨g,j * 3+i,none⟩) hg]
   match i,hi with
   | 0,_=>exact x0.trans hv
   | 1,_=>exact x1.trans hv
   | 2,_=>exact x2.trans hv
end Go.Proofs.YtahibconfijjgaaGreatDoor

/- A drawn region of config.May, at a config that isn't right.
   Conditions: the automaton and the config lie in memory; Right's contract. -/
namespace Go.Proofs.YtahibconfijjgaaGreatDoor
open Go.RowKit
abbrev opsregKm1:Array Oper:=#[{ dst:=some 8,op:=Op.load 41 (Operand.tmp 3),type:=41,pos := "config.go:71",after:=#[],guard:=none },
 { dst:=some 9,op:=Op.load 30 (Operand.tmp 4),type:=30,pos := "config.go:71",after:=#[],guard:=none },
 { dst:=some 10,op:=Op.call { callee:=Callee.value (Operand.func 17),args:=#[Operand.tmp 8,Operand.tmp 9],argTypes:=#[41,30] },type:=4,pos := "config.go:71",after:=#[{ on:=0,ground:=Ground.data },{ on:=1,ground:=Ground.data }],guard:=none },
 { dst:=some 11,op:=Op.unOp UnOp.not 4 (Operand.tmp 10),type:=4,pos := "config.go:71",after:=#[{ on:=2,ground:=Ground.data }],guard:=none },
 { dst:=some 12,op:=Op.move (Operand.tmp 11),type:=4,pos := "config.go:71",after:=#[{ on:=3,ground:=Ground.data },{ on:=2,ground:=Ground.chain }],guard:=none },
 { dst:=some 13,op:=Op.fieldAddr 41 (Operand.tmp 3) 2,type:=0,pos := "config.go:71",after:=#[{ on:=4,ground:=Ground.guard }],guard:=some (4,false) },
 { dst:=some 14,op:=Op.load 38 (Operand.tmp 13),type:=38,pos := "config.go:71",after:=#[{ on:=5,ground:=Ground.data },{ on:=4,ground:=Ground.guard }],guard:=some (4,false) },
 { dst:=some 15,op:=Op.fieldAddr 30 (Operand.tmp 4) 0,type:=0,pos := "config.go:71",after:=#[{ on:=4,ground:=Ground.guard }],guard:=some (4,false) },
 { dst:=some 16,op:=Op.load 3 (Operand.tmp 15),type:=3,pos := "config.go:71",after:=#[{ on:=7,ground:=Ground.data },{ on:=4,ground:=Ground.guard }],guard:=some (4,false) },
 { dst:=some 17,op:=Op.indexAddr 38 (Operand.tmp 14) (Operand.tmp 16),type:=0,pos := "config.go:71",after:=#[{ on:=6,ground:=Ground.data },{ on:=8,ground:=Ground.data },{ on:=4,ground:=Ground.guard }],guard:=some (4,false) },
 { dst:=some 18,op:=Op.load 52 (Operand.tmp 17),type:=52,pos := "config.go:71",after:=#[{ on:=9,ground:=Ground.data },{ on:=4,ground:=Ground.guard }],guard:=some (4,false) },
 { dst:=some 19,op:=Op.load 49 (Operand.tmp 5),type:=49,pos := "config.go:71",after:=#[{ on:=4,ground:=Ground.guard }],guard:=some (4,false) },
 { dst:=some 20,op:=Op.call { callee:=Callee.value (Operand.func 33),args:=#[Operand.tmp 18,Operand.tmp 19],argTypes:=#[52,49] },type:=4,pos := "config.go:71",after:=#[{ on:=10,ground:=Ground.data },{ on:=11,ground:=Ground.data },{ on:=4,ground:=Ground.chain },{ on:=4,ground:=Ground.guard }],guard:=some (4,false) },
 { dst:=some 21,op:=Op.unOp UnOp.not 4 (Operand.tmp 20),type:=4,pos := "config.go:71",after:=#[{ on:=12,ground:=Ground.data },{ on:=4,ground:=Ground.guard }],guard:=some (4,false) },
 { dst:=some 22,op:=Op.pick (Operand.tmp 12) (Operand.const (Value.bool true)) (Operand.tmp 21),type:=4,pos := "config.go:71",after:=#[{ on:=4,ground:=Ground.data },{ on:=13,ground:=Ground.data }],guard:=none }]
def WregKm1 (ca cc:Array Value) (ba bc:Nat) (D:List Deferred) (v0 v1 v2 v5 v6 v7 v23 v24 v25 v26 v27 v28:Value) (w0:World) (l:Nat→Bool) (a:Act) (w:World):Prop :=
 ∃ (y0 y1 y2 y3 y4 y5 y6 y7 y8 y9 y10 y11 y12 y13 y14:Value),a = { tmps:=#[v0,v1,v2,.pointer (some ⟨ba,0,none⟩),.pointer (some ⟨bc,0,none⟩),v5,v6,v7,y0,y1,y2,y3,y4,y5,y6,y7,y8,y9,y10,y11,y12,y13,y14,v23,v24,v25,v26,v27,v28],defers:=D }∧Below w0.heap.size w0 w ∧
  (l 0=true→y0=.agg ca)∧(l 1=true→y1=.agg cc)∧(l 2=true→y2=.bool false)∧(l 3=true→y3=.bool true)∧(l 4=true→y4=.bool true)∧(l 14=true→y14=.bool true)
set_option maxHeartbeats 8000000 in
set_option maxRecDepth 100000 in
theorem regKm1 (ca cc:Array Value) (ba bc:Nat) (D:List Deferred) (v0 v1 v2 v5 v6 v7 v23 v24 v25 v26 v27 v28 wy0 wy1 wy2 wy3 wy4 wy5 wy6 wy7 wy8 wy9 wy10 wy11 wy12 wy13 wy14:Value) (w:World) (kA:∀ w',Below w.heap.size w w'→w'.heap[ba]? = some (.cells ca 41 (0,0))) (kC:∀ w',Below w.heap.size w w'→w'.heap[bc]? = some (.cells cc 30 (0,0))) (sA:(Tryz.prog.info? 41).map (·.size)=some ca.size) (sC:(Tryz.prog.info? 30).map (·.size)=some cc.size) (hc1:∀ w',Below w.heap.size w w'→Calls Tryz.prog 17 #[.agg ca,.agg cc] w' fun e w2=>e=.returned (.bool false)∧Below w'.heap.size w' w2) (Q:Exit→Act→World→Prop)
  (hQ:∀ (y0 y1 y2 y3 y4 y5 y6 y7 y8 y9 y10 y11 y12 y13:Value) (w':World),Below w.heap.size w w'→Q .normal { tmps:=#[v0,v1,v2,.pointer (some ⟨ba,0,none⟩),.pointer (some ⟨bc,0,none⟩),v5,v6,v7,y0,y1,y2,y3,y4,y5,y6,y7,y8,y9,y10,y11,y12,y13,.bool true,v23,v24,v25,v26,v27,v28],defers:=D } w') :
  (Code.region 1 opsregKm1 true).wp Tryz.prog Q { tmps:=#[v0,v1,v2,.pointer (some ⟨ba,0,none⟩),.pointer (some ⟨bc,0,none⟩),v5,v6,v7,wy0,wy1,wy2,wy3,wy4,wy5,wy6,wy7,wy8,wy9,wy10,wy11,wy12,wy13,wy14,v23,v24,v25,v26,v27,v28],defers:=D } w:=by
 refine wp_region_inv (by kernel_rfl) (WregKm1 ca cc ba bc D v0 v1 v2 v5 v6 v7 v23 v24 v25 v26 v27 v28 w) ?hacy ?h0 ?hstep ?hdone
 case hacy=>kernel_rfl
 case h0=>exact ⟨wy0,wy1,wy2,wy3,wy4,wy5,wy6,wy7,wy8,wy9,wy10,wy11,wy12,wy13,wy14,rfl,below_drewN (Below.refl _ _) 1,(fun p=>by cases p),(fun p=>by cases p),(fun p=>by cases p),(fun p=>by cases p),(fun p=>by cases p),(fun p=>by cases p)⟩
 case hdone =>
  intro l a w1 hI hall
  obtain ⟨y0,y1,y2,y3,y4,y5,y6,y7,y8,y9,y10,y11,y12,y13,y14,rfl,hb,h0,h1,h2,h3,h4,h14⟩:=hI
  obtain rfl:=h14 (hall 14 (by decide))
  exact hQ _ _ _ _ _ _ _ _ _ _ _ _ _ _ _ hb
 case hstep =>
  intro l a w1 i o hI ho hl hall
  obtain ⟨y0,y1,y2,y3,y4,y5,y6,y7,y8,y9,y10,y11,y12,y13,y14,rfl,hb,h0,h1,h2,h3,h4,h14⟩:=hI
  have hi:i<15:=(Array.getElem?_eq_some_iff.1 ho).1
  match i,hi with
  | 0,_ =>
   have ho':=ho
   simp [opsregKm1] at ho
   subst ho
   refine wpOp_one ho' rfl fun K hK=>?_
   refine wp_load_row 41 (.tmp 3) rfl ba rfl 41 ca (0,0) _ (kA w1 hb) Tryz.underlying41 rfl sA ?_
   refine hK _ _ ?_
   iterate 15 apply Exists.intro
   refine ⟨rfl,hb,?_⟩
   repeat' apply And.intro
   all_goals first | assumption | exact fun _=>rfl | exact fun _=>(by first | rfl | simp)
  | 1,_ =>
   have ho':=ho
   simp [opsregKm1] at ho
   subst ho
   refine wpOp_one ho' rfl fun K hK=>?_
   refine wp_load_row 30 (.tmp 4) rfl bc rfl 30 cc (0,0) _ (kC w1 hb) Tryz.underlying30 rfl sC ?_
   refine hK _ _ ?_
   iterate 15 apply Exists.intro
   refine ⟨rfl,hb,?_⟩
   repeat' apply And.intro
   all_goals first | assumption | exact fun _=>rfl | exact fun _=>(by first | rfl | simp)
  | 2,_ =>
   have ho':=ho
   simp [opsregKm1] at ho
   subst ho
   obtain rfl:=h0 (hall ⟨0,.data⟩ (by simp) rfl)
   obtain rfl:=h1 (hall ⟨1,.data⟩ (by simp) rfl)
   refine wpOp_one ho' rfl fun K hK=>?_
   go_simp
   go_at_call 17
   refine (hc1 _ hb).mono ?_
   rintro e w2 ⟨rfl,hb2⟩
   refine hK _ _ ?_
   iterate 15 apply Exists.intro
   refine ⟨rfl,(hb.trans (hb2.mono hb.size)),?_⟩
   repeat' apply And.intro
   all_goals first | assumption | exact fun _=>rfl | exact fun _=>(by first | rfl | simp)
  | 3,_ =>
   have ho':=ho
   simp [opsregKm1] at ho
   subst ho
   obtain rfl:=h2 (hall ⟨2,.data⟩ (by simp) rfl)
   refine wpOp_one ho' rfl fun K hK=>?_
   go_simp
   refine hK _ _ ?_
   iterate 15 apply Exists.intro
   refine ⟨rfl,hb,?_⟩
   repeat' apply And.intro
   all_goals first | assumption | exact fun _=>rfl | exact fun _=>(by first | rfl | simp)
  | 4,_ =>
   have ho':=ho
   simp [opsregKm1] at ho
   subst ho
   obtain rfl:=h3 (hall ⟨3,.data⟩ (by simp) rfl)
   refine wpOp_one ho' rfl fun K hK=>?_
   go_simp
   refine hK _ _ ?_
   iterate 15 apply Exists.intro
   refine ⟨rfl,hb,?_⟩
   repeat' apply And.intro
   all_goals first | assumption | exact fun _=>rfl | exact fun _=>(by first | rfl | simp)
  | 5,_ =>
   have ho':=ho
   simp [opsregKm1] at ho
   subst ho
   obtain rfl:=h4 (hall ⟨4,.guard⟩ (by simp) rfl)
   refine wpOq_off ho' rfl ?_
   iterate 15 apply Exists.intro
   refine ⟨rfl,hb,?_⟩
   repeat' apply And.intro
   all_goals first | assumption | exact fun _=>rfl
  | 6,_ =>
   have ho':=ho
   simp [opsregKm1] at ho
   subst ho
   obtain rfl:=h4 (hall ⟨4,.guard⟩ (by simp) rfl)
   refine wpOq_off ho' rfl ?_
   iterate 15 apply Exists.intro
   refine ⟨rfl,hb,?_⟩
   repeat' apply And.intro
   all_goals first | assumption | exact fun _=>rfl
  | 7,_ =>
   have ho':=ho
   simp [opsregKm1] at ho
   subst ho
   obtain rfl:=h4 (hall ⟨4,.guard⟩ (by simp) rfl)
   refine wpOq_off ho' rfl ?_
   iterate 15 apply Exists.intro
   refine ⟨rfl,hb,?_⟩
   repeat' apply And.intro
   all_goals first | assumption | exact fun _=>rfl
  | 8,_ =>
   have ho':=ho
   simp [opsregKm1] at ho
   subst ho
   obtain rfl:=h4 (hall ⟨4,.guard⟩ (by simp) rfl)
   refine wpOq_off ho' rfl ?_
   iterate 15 apply Exists.intro
   refine ⟨rfl,hb,?_⟩
   repeat' apply And.intro
   all_goals first | assumption | exact fun _=>rfl
  | 9,_ =>
   have ho':=ho
   simp [opsregKm1] at ho
   subst ho
   obtain rfl:=h4 (hall ⟨4,.guard⟩ (by simp) rfl)
   refine wpOq_off ho' rfl ?_
   iterate 15 apply Exists.intro
   refine ⟨rfl,hb,?_⟩
   repeat' apply And.intro
   all_goals first | assumption | exact fun _=>rfl
  | 10,_ =>
   have ho':=ho
   simp [opsregKm1] at ho
   subst ho
   obtain rfl:=h4 (hall ⟨4,.guard⟩ (by simp) rfl)
   refine wpOq_off ho' rfl ?_
   iterate 15 apply Exists.intro
   refine ⟨rfl,hb,?_⟩
   repeat' apply And.intro
   all_goals first | assumption | exact fun _=>rfl
  | 11,_ =>
   have ho':=ho
   simp [opsregKm1] at ho
   subst ho
   obtain rfl:=h4 (hall ⟨4,.guard⟩ (by simp) rfl)
   refine wpOq_off ho' rfl ?_
   iterate 15 apply Exists.intro
   refine ⟨rfl,hb,?_⟩
   repeat' apply And.intro
   all_goals first | assumption | exact fun _=>rfl
  | 12,_ =>
   have ho':=ho
   simp [opsregKm1] at ho
   subst ho
   obtain rfl:=h4 (hall ⟨4,.chain⟩ (by simp) rfl)
   refine wpOq_off ho' rfl ?_
   iterate 15 apply Exists.intro
   refine ⟨rfl,hb,?_⟩
   repeat' apply And.intro
   all_goals first | assumption | exact fun _=>rfl
  | 13,_ =>
   have ho':=ho
   simp [opsregKm1] at ho
   subst ho
   obtain rfl:=h4 (hall ⟨4,.guard⟩ (by simp) rfl)
   refine wpOq_off ho' rfl ?_
   iterate 15 apply Exists.intro
   refine ⟨rfl,hb,?_⟩
   repeat' apply And.intro
   all_goals first | assumption | exact fun _=>rfl
  | 14,_ =>
   have ho':=ho
   simp [opsregKm1] at ho
   subst ho
   obtain rfl:=h4 (hall ⟨4,.data⟩ (by simp) rfl)
   refine wpOp_one ho' rfl fun K hK=>?_
   go_simp
   refine hK _ _ ?_
   iterate 15 apply Exists.intro
   refine ⟨rfl,hb,?_⟩
   repeat' apply And.intro
   all_goals first | assumption | exact fun _=>rfl | exact fun _=>(by first | rfl | simp)
  | k+15,hi=>omega
end Go.Proofs.YtahibconfijjgaaGreatDoor

/- config.May: contracts.
   Conditions: the automaton lies in memory. -/
namespace Go.Proofs.YtahibconfijjgaaGreatDoor
open Go.RowKit Go.Shelf
set_option maxHeartbeats 8000000 in
set_option maxRecDepth 100000 in
theorem may_not {B:Nat} {m:PM} {a:Au} {fl:List Nat} {la:Nat} (w:World) (hL:AuL w B m a fl la) (p:Int) (x:Nat→Int) (hr:rightB m p x=false) (tt kp:Nat) (ag:Bool) :
  Calls Tryz.prog 14 #[.agg #[.int .i64 a.k,.int .u64 (a.s0:Nat),.int .u64 (a.s1:Nat),.int .u64 (a.s2:Nat),.int .u64 (a.s3:Nat),.slice a.ta a.tn a.tc,.int .i64 a.lo,.int .i64 a.hi,.slice a.sA a.n a.sC,.slice a.cA a.cN a.cC,.slice (some ⟨a.ga,0,none⟩) a.n a.aC,.slice a.fA a.fN a.fC,.slice (some ⟨a.mb,0,none⟩) a.n a.n,.slice (some ⟨a.lb,0,none⟩) a.n a.n,.bool a.em],.agg #[.int .i64 p,.int .i64 (x 0),.int .i64 (x 1),.int .i64 (x 2),.int .i64 (x 3)],.agg #[.int .i64 (tt:Nat),.int .i64 (kp:Nat),.bool ag]] w fun e w'=>e=.returned (.tuple #[.agg #[.int .i64 0,.int .i64 0,.int .i64 0,.int .i64 0,.int .i64 0],.bool false])∧Below w.heap.size w w':=by
 obtain ⟨w2,hw2,hb2,ha2,hc2,hm2,hz2,hs2⟩:=my_box w a p x tt kp ag
 have HF:=Lib.hid (fun (W:World) (h:Below w2.heap.size w2 W)=>show AuB W w.heap.size a∧AuL W B m a fl la∧CfB W (w.heap.size+1) p x∧MvB W (w.heap.size+1+1) tt kp ag∧CfB W (w.heap.size+1+1+1) 0 (fun _=>0) from ⟨ha2.below h,hL.below (bhop hb2 h),hc2.below h,hm2.below h,hz2.below h⟩)
 have HB:=Lib.hid hb2
 have HS:=Lib.hid hs2
 have HR:=Lib.hid (fun (W:World) (h:Below w2.heap.size w2 W)=>by
  have:=right_any W (HF.out W h).2.1 p x
  rw [hr] at this
  exact this)
 obtain ⟨z0,z1,z2,z3,z4,z5,z6,z7,z8,z9,z10,z11,z12,z13,z14⟩:=ha2.all
 obtain ⟨d0,d1,d2,d3,d4⟩:=hc2.five
 clear hb2 ha2 hc2 hm2 hz2 hL hs2 hr
 go_enter Tryz.func14,Tryz.ntmps14
 go_upto_region 1 with fail
 clear hw2
 refine regKm1 (ca:=#[.int .i64 a.k,.int .u64 (a.s0:Nat),.int .u64 (a.s1:Nat),.int .u64 (a.s2:Nat),.int .u64 (a.s3:Nat),.slice a.ta a.tn a.tc,.int .i64 a.lo,.int .i64 a.hi,.slice a.sA a.n a.sC,.slice a.cA a.cN a.cC,.slice (some ⟨a.ga,0,none⟩) a.n a.aC,.slice a.fA a.fN a.fC,.slice (some ⟨a.mb,0,none⟩) a.n a.n,.slice (some ⟨a.lb,0,none⟩) a.n a.n,.bool a.em]) (cc:=#[.int .i64 p,.int .i64 (x 0),.int .i64 (x 1),.int .i64 (x 2),.int .i64 (x 3)]) (ba:=w.heap.size) (bc:=w.heap.size+1) (kA:=fun W h=>(HF.out W h).1.blk) (kC:=fun W h=>(HF.out W h).2.2.1) (sA:=by kernel_rfl) (sC:=by kernel_rfl) (hc1:=fun W h=>HR.out W h) (D:=_) (v0:=_) (v1:=_) (v2:=_) (v5:=_) (v6:=_) (v7:=_) (v23:=_) (v24:=_) (v25:=_) (v26:=_) (v27:=_) (v28:=_) (wy0:=_) (wy1:=_) (wy2:=_) (wy3:=_) (wy4:=_) (wy5:=_) (wy6:=_) (wy7:=_) (wy8:=_) (wy9:=_) (wy10:=_) (wy11:=_) (wy12:=_) (wy13:=_) (wy14:=_) (w:=_) (Q:=_) (hQ:=?_)
 intros
 rename_i w3 hb3
 try dsimp only
 have HB3:=Lib.hid hb3
 clear hb3 z0 z1 z2 z3 z4 z5 z6 z7 z8 z9 z10 z11 z12 z13 z14 d0 d1 d2 d3 d4
 have fZ:=(HF.out w3 HB3.out).2.2.2.2
 obtain ⟨z0,z1,z2,z3,z4⟩:=fZ.five
 have zf:=fZ.cell.2.2
 have zl:=fZ.lt
 have zg0:=zf 0;have zg1:=zf 1;have zg2:=zf 2;have zg3:=zf 3;have zg4:=zf 4
 have HZZ:=Lib.hid (And.intro fZ (bhop HB.out HB3.out))
 clear zf
 go_wp2_with fail
 have hf:=set5_heap HZZ.out.1 0 (fun _=>0)
 have hch:=set5_chg w3 (w.heap.size+1+1+1) (.int .i64 0) (.int .i64 0) (.int .i64 0) (.int .i64 0) (.int .i64 0)
 try dsimp only at hf
 generalize (((((w3.setCell ⟨w.heap.size+1+1+1,0,none⟩ (.int .i64 0)).setCell ⟨w.heap.size+1+1+1,1,none⟩ (.int .i64 0)).setCell ⟨w.heap.size+1+1+1,2,none⟩ (.int .i64 0)).setCell ⟨w.heap.size+1+1+1,3,none⟩ (.int .i64 0)).setCell ⟨w.heap.size+1+1+1,4,none⟩ (.int .i64 0))=w9 at *
 obtain ⟨r0,r1,r2,r3,r4⟩:=CfB.five (x:=fun _=>0) hf
 refine bodyPost_ret (v:=.tuple #[.agg #[.int .i64 0,.int .i64 0,.int .i64 0,.int .i64 0,.int .i64 0],.bool false]) (by simp [results,Tryz.results14,go_sem,r0,r1,r2,r3,r4]) rfl ⟨?_,?_⟩
 ·rfl
 ·exact HZZ.out.2.trans (hch.below (by have:=HZZ.out.2.size;omega) fun k hk e=>by omega)
set_option maxHeartbeats 8000000 in
set_option maxRecDepth 100000 in
theorem may_no {B:Nat} {m:PM} {a:Au} {fl:List Nat} {la:Nat} (w:World) (hL:AuL w B m a fl la) {vs:List Value} {L:Nat→List Mv} (hrows:RowsM w B a.n (.slice (some ⟨a.mb,0,none⟩) a.n a.n) vs L) {p:Nat} {lf:List Nat} (hp:m.ars[p]? = some lf) (x:Nat→Int) (hr:rightB m (p:Int) x=true) (tt kp:Nat) (ag:Bool) (hx1:(⟨tt,kp,ag⟩ : Mv) ∉ L p) :
  Calls Tryz.prog 14 #[.agg #[.int .i64 a.k,.int .u64 (a.s0:Nat),.int .u64 (a.s1:Nat),.int .u64 (a.s2:Nat),.int .u64 (a.s3:Nat),.slice a.ta a.tn a.tc,.int .i64 a.lo,.int .i64 a.hi,.slice a.sA a.n a.sC,.slice a.cA a.cN a.cC,.slice (some ⟨a.ga,0,none⟩) a.n a.aC,.slice a.fA a.fN a.fC,.slice (some ⟨a.mb,0,none⟩) a.n a.n,.slice (some ⟨a.lb,0,none⟩) a.n a.n,.bool a.em],.agg #[.int .i64 p,.int .i64 (x 0),.int .i64 (x 1),.int .i64 (x 2),.int .i64 (x 3)],.agg #[.int .i64 (tt:Nat),.int .i64 (kp:Nat),.bool ag]] w fun e w'=>e=.returned (.tuple #[.agg #[.int .i64 0,.int .i64 0,.int .i64 0,.int .i64 0,.int .i64 0],.bool false])∧Below w.heap.size w w':=by
 obtain ⟨w2,hw2,hb2,ha2,hc2,hm2,hz2,hs2⟩:=my_box w a p x tt kp ag
 have hpn:p<a.n:=by rw [← hL.ars];exact (List.getElem?_eq_some_iff.1 hp).1
 have HF:=Lib.hid (fun (W:World) (h:Below w2.heap.size w2 W)=>show AuB W w.heap.size a∧AuL W B m a fl la∧CfB W (w.heap.size+1) p x∧MvB W (w.heap.size+1+1) tt kp ag∧CfB W (w.heap.size+1+1+1) 0 (fun _=>0) from ⟨ha2.below h,hL.below (bhop hb2 h),hc2.below h,hm2.below h,hz2.below h⟩)
 have HB:=Lib.hid hb2
 have HS:=Lib.hid hs2
 have HR:=Lib.hid (fun (W:World) (h:Below w2.heap.size w2 W)=>by
  have:=right_any W (HF.out W h).2.1 p x
  rw [hr] at this
  exact this)
 obtain ⟨A,c,m1,m2,_⟩:=mv_read hrows hpn
 obtain ⟨bb,hbb,hcon⟩:=contains_mv hrows hpn m1 ⟨tt,kp,ag⟩
 obtain rfl:bb=false:=by
  cases bb with
  | true=>exact absurd (hbb.1 rfl) hx1
  | false=>rfl
 have HC:=Lib.hid (fun (W:World) (h:Below w2.heap.size w2 W)=>hcon W (bhop hb2 h))
 obtain ⟨ln,hln⟩ : ∃ ln,ln=(L p).length:=⟨_,rfl⟩
 have HLN:=Lib.hid hln
 rw [← hln] at m1 HC
 have HM:=Lib.hid (fun (W:World) (h:Below w2.heap.size w2 W)=>show W.cell? ⟨a.mb,p,none⟩=some (.slice A ln c) from ((bhop hb2 h).cell (p:=⟨a.mb,p,none⟩) m2).trans m1)
 have HP:=Lib.hid (And.intro hp trivial)
 obtain ⟨z0,z1,z2,z3,z4,z5,z6,z7,z8,z9,z10,z11,z12,z13,z14⟩:=ha2.all
 obtain ⟨d0,d1,d2,d3,d4⟩:=hc2.five
 obtain ⟨k0,k1,k2⟩:=hm2.cells
 have m1':=HM.out w2 (Below.refl _ _)
 have v1:(0:Int)≤(p:Int):=by omega
 have v2:(p:Int)<(a.n:Int):=by omega
 have v3:((p:Int)).toNat=p:=by omega
 clear hb2 ha2 hc2 hm2 hz2 hL hs2 hr hp hpn m1 m2 hbb hcon hln hrows hx1
 go_enter Tryz.func14,Tryz.ntmps14
 go_upto_region 1 with fail
 clear hw2
 go_region_with (first
  | (go_at_call 17;refine (HR.out _ (by first | exact Below.refl _ _ | exact (Below.refl _ _).drew | exact below_drewN (Below.refl _ _) _)).mono ?_;rintro e w3 ⟨rfl,hb3⟩;have HB3:=Lib.hid ((by first | exact hb3 | exact bhop (Below.refl _ _).drew hb3 | exact bhop (below_drewN (Below.refl _ _) _) hb3:Below w2.heap.size w2 w3));obtain ⟨z0,z1,z2,z3,z4,z5,z6,z7,z8,z9,z10,z11,z12,z13,z14⟩:=(HF.out w3 HB3.out).1.all;obtain ⟨d0,d1,d2,d3,d4⟩:=(HF.out w3 HB3.out).2.2.1.five;obtain ⟨k0,k1,k2⟩:=(HF.out w3 HB3.out).2.2.2.1.cells;have m1':=HM.out w3 HB3.out;clear hb3)
  | (go_at_call 33;refine (HC.out _ HB3.out).mono ?_;rintro e w4 ⟨rfl,hb4⟩;have HB4:=Lib.hid (bhop HB3.out hb4);clear hb4))
 all_goals
  have fZ:=(HF.out w4 HB4.out).2.2.2.2
  obtain ⟨z0,z1,z2,z3,z4⟩:=fZ.five
  have zf:=fZ.cell.2.2
  have zl:=fZ.lt
  have zg0:=zf 0;have zg1:=zf 1;have zg2:=zf 2;have zg3:=zf 3;have zg4:=zf 4
  have HZZ:=Lib.hid (And.intro fZ (bhop HB.out HB4.out))
  clear zf
  go_wp2_with fail
  have hf:=set5_heap HZZ.out.1 0 (fun _=>0)
  have hch:=set5_chg w4 (w.heap.size+1+1+1) (.int .i64 0) (.int .i64 0) (.int .i64 0) (.int .i64 0) (.int .i64 0)
  try dsimp only at hf
  generalize (((((w4.setCell ⟨w.heap.size+1+1+1,0,none⟩ (.int .i64 0)).setCell ⟨w.heap.size+1+1+1,1,none⟩ (.int .i64 0)).setCell ⟨w.heap.size+1+1+1,2,none⟩ (.int .i64 0)).setCell ⟨w.heap.size+1+1+1,3,none⟩ (.int .i64 0)).setCell ⟨w.heap.size+1+1+1,4,none⟩ (.int .i64 0))=w9 at *
  obtain ⟨r0,r1,r2,r3,r4⟩:=CfB.five (x:=fun _=>0) hf
  refine bodyPost_ret (v:=.tuple #[.agg #[.int .i64 0,.int .i64 0,.int .i64 0,.int .i64 0,.int .i64 0],.bool false]) (by simp [results,Tryz.results14,go_sem,r0,r1,r2,r3,r4]) rfl ⟨?_,?_⟩
  ·rfl
  ·exact HZZ.out.2.trans (hch.below (by have:=HZZ.out.2.size;omega) fun k hk e=>by omega)
set_option maxHeartbeats 8000000 in
set_option maxRecDepth 100000 in
theorem may_yes {B:Nat} {m:PM} {a:Au} {fl:List Nat} {la:Nat} (w:World) (hL:AuL w B m a fl la) {vs:List Value} {L:Nat→List Mv} (hrows:RowsM w B a.n (.slice (some ⟨a.mb,0,none⟩) a.n a.n) vs L) {p:Nat} {lf:List Nat} (hp:m.ars[p]? = some lf) (x:Nat→Int) (hr:rightB m (p:Int) x=true) (tt kp:Nat) (ag:Bool) (hx1:(⟨tt,kp,ag⟩ : Mv)∈L p) {lt:List Nat} (hx2:m.ars[tt]? = some lt) (hx3:kp+(if ag then 1 else 0)≤lf.length) (r:Option (Nat→Int)) (hmr:madeX m lf lt x kp ag=r) :
  Calls Tryz.prog 14 #[.agg #[.int .i64 a.k,.int .u64 (a.s0:Nat),.int .u64 (a.s1:Nat),.int .u64 (a.s2:Nat),.int .u64 (a.s3:Nat),.slice a.ta a.tn a.tc,.int .i64 a.lo,.int .i64 a.hi,.slice a.sA a.n a.sC,.slice a.cA a.cN a.cC,.slice (some ⟨a.ga,0,none⟩) a.n a.aC,.slice a.fA a.fN a.fC,.slice (some ⟨a.mb,0,none⟩) a.n a.n,.slice (some ⟨a.lb,0,none⟩) a.n a.n,.bool a.em],.agg #[.int .i64 p,.int .i64 (x 0),.int .i64 (x 1),.int .i64 (x 2),.int .i64 (x 3)],.agg #[.int .i64 (tt:Nat),.int .i64 (kp:Nat),.bool ag]] w fun e w'=>e=.returned (.tuple #[.agg #[.int .i64 (mdP tt r),.int .i64 ((mdX r) 0),.int .i64 ((mdX r) 1),.int .i64 ((mdX r) 2),.int .i64 ((mdX r) 3)],.bool r.isSome])∧Below w.heap.size w w':=by
 obtain ⟨w2,hw2,hb2,ha2,hc2,hm2,hz2,hs2⟩:=my_box w a p x tt kp ag
 have hpn:p<a.n:=by rw [← hL.ars];exact (List.getElem?_eq_some_iff.1 hp).1
 have HF:=Lib.hid (fun (W:World) (h:Below w2.heap.size w2 W)=>show AuB W w.heap.size a∧AuL W B m a fl la∧CfB W (w.heap.size+1) p x∧MvB W (w.heap.size+1+1) tt kp ag∧CfB W (w.heap.size+1+1+1) 0 (fun _=>0) from ⟨ha2.below h,hL.below (bhop hb2 h),hc2.below h,hm2.below h,hz2.below h⟩)
 have HB:=Lib.hid hb2
 have HS:=Lib.hid hs2
 have HR:=Lib.hid (fun (W:World) (h:Below w2.heap.size w2 W)=>by
  have:=right_any W (HF.out W h).2.1 p x
  rw [hr] at this
  exact this)
 obtain ⟨A,c,m1,m2,_⟩:=mv_read hrows hpn
 obtain ⟨bb,hbb,hcon⟩:=contains_mv hrows hpn m1 ⟨tt,kp,ag⟩
 obtain rfl:bb=true:=by
  cases bb with
  | true=>rfl
  | false=>exact hbb.2 hx1
 have HCN:=Lib.hid (And.intro (show cntsB m lf x=true from by rw [← right_at (by have h:=right_pos hr;obtain ⟨q,h1,h2,_⟩:=h;omega) hp];exact hr) hmr)
 have HC:=Lib.hid (fun (W:World) (h:Below w2.heap.size w2 W)=>hcon W (bhop hb2 h))
 obtain ⟨ln,hln⟩ : ∃ ln,ln=(L p).length:=⟨_,rfl⟩
 have HLN:=Lib.hid hln
 rw [← hln] at m1 HC
 have HM:=Lib.hid (fun (W:World) (h:Below w2.heap.size w2 W)=>show W.cell? ⟨a.mb,p,none⟩=some (.slice A ln c) from ((bhop hb2 h).cell (p:=⟨a.mb,p,none⟩) m2).trans m1)
 have HP:=Lib.hid (And.intro hp (And.intro hx2 hx3))
 obtain ⟨z0,z1,z2,z3,z4,z5,z6,z7,z8,z9,z10,z11,z12,z13,z14⟩:=ha2.all
 obtain ⟨d0,d1,d2,d3,d4⟩:=hc2.five
 obtain ⟨k0,k1,k2⟩:=hm2.cells
 have m1':=HM.out w2 (Below.refl _ _)
 have v1:(0:Int)≤(p:Int):=by omega
 have v2:(p:Int)<(a.n:Int):=by omega
 have v3:((p:Int)).toNat=p:=by omega
 clear hb2 ha2 hc2 hm2 hz2 hL hs2 hr hp hpn m1 m2 hbb hcon hln hrows hx1 hx2 hx3 hmr
 go_enter Tryz.func14,Tryz.ntmps14
 go_upto_region 1 with fail
 clear hw2
 go_region_with (first
  | (go_at_call 17;refine (HR.out _ (by first | exact Below.refl _ _ | exact (Below.refl _ _).drew | exact below_drewN (Below.refl _ _) _)).mono ?_;rintro e w3 ⟨rfl,hb3⟩;have HB3:=Lib.hid ((by first | exact hb3 | exact bhop (Below.refl _ _).drew hb3 | exact bhop (below_drewN (Below.refl _ _) _) hb3:Below w2.heap.size w2 w3));obtain ⟨z0,z1,z2,z3,z4,z5,z6,z7,z8,z9,z10,z11,z12,z13,z14⟩:=(HF.out w3 HB3.out).1.all;obtain ⟨d0,d1,d2,d3,d4⟩:=(HF.out w3 HB3.out).2.2.1.five;obtain ⟨k0,k1,k2⟩:=(HF.out w3 HB3.out).2.2.2.1.cells;have m1':=HM.out w3 HB3.out;clear hb3)
  | (go_at_call 33;refine (HC.out _ HB3.out).mono ?_;rintro e w4 ⟨rfl,hb4⟩;have HB4:=Lib.hid (bhop HB3.out hb4);clear hb4))
 all_goals
  obtain ⟨d0,d1,d2,d3,d4⟩:=(HF.out w4 HB4.out).2.2.1.five
  obtain ⟨k0,k1,k2⟩:=(HF.out w4 HB4.out).2.2.2.1.cells
  go_wp2_with fail
  go_at_call 34
  refine (made_any w4 (HF.out w4 HB4.out).1 (HF.out w4 HB4.out).2.1 HP.out.1 HP.out.2.1 HP.out.2.2 x HCN.out.1 r HCN.out.2).mono ?_
  rintro e w5 ⟨rfl,hb5⟩
  have HB5:=Lib.hid (bhop HB4.out hb5)
  have fZ:=(HF.out w5 HB5.out).2.2.2.2
  clear hb5 d0 d1 d2 d3 d4 k0 k1 k2
  obtain ⟨P0,hP0⟩ : ∃ P0,P0=mdP tt r:=⟨_,rfl⟩
  obtain ⟨X0,hX0⟩ : ∃ X0,X0=mdX r:=⟨_,rfl⟩
  have HPX:=Lib.hid (And.intro hP0 hX0)
  rw [← hP0,← hX0]
  clear hP0 hX0
  obtain ⟨z0,z1,z2,z3,z4⟩:=fZ.five
  have zf:=fZ.cell.2.2
  have zl:=fZ.lt
  have zg0:=zf 0;have zg1:=zf 1;have zg2:=zf 2;have zg3:=zf 3;have zg4:=zf 4
  have HZZ:=Lib.hid (And.intro fZ (bhop HB.out HB5.out))
  clear zf
  go_wp2_with fail
  have hf:=set5_heap HZZ.out.1 P0 X0
  have hch:=set5_chg w5 (w.heap.size+1+1+1) (.int .i64 P0) (.int .i64 (X0 0)) (.int .i64 (X0 1)) (.int .i64 (X0 2)) (.int .i64 (X0 3))
  generalize (((((w5.setCell ⟨w.heap.size+1+1+1,0,none⟩ (.int .i64 P0)).setCell ⟨w.heap.size+1+1+1,1,none⟩ (.int .i64 (X0 0))).setCell ⟨w.heap.size+1+1+1,2,none⟩ (.int .i64 (X0 1))).setCell ⟨w.heap.size+1+1+1,3,none⟩ (.int .i64 (X0 2))).setCell ⟨w.heap.size+1+1+1,4,none⟩ (.int .i64 (X0 3)))=w9 at *
  obtain ⟨r0,r1,r2,r3,r4⟩:=CfB.five hf
  refine bodyPost_ret (v:=.tuple #[.agg #[.int .i64 P0,.int .i64 (X0 0),.int .i64 (X0 1),.int .i64 (X0 2),.int .i64 (X0 3)],.bool r.isSome]) (by simp [results,Tryz.results14,go_sem,r0,r1,r2,r3,r4]) rfl ⟨?_,?_⟩
  ·rw [HPX.out.1,HPX.out.2]
  ·exact HZZ.out.2.trans (hch.below (by have:=HZZ.out.2.size;omega) fun k hk e=>by omega)
end Go.Proofs.YtahibconfijjgaaGreatDoor
