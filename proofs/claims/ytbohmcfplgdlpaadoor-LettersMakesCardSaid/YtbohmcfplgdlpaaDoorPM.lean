/- What the statements on moves share: the scopes around a position, in memory.
   Conditions: those that each theorem states. -/
import Derived.Test.YtbohmcfplgdlpaaDoorMPof
import Derived.Test.YtbohmcfplgdlpaaDoorPC
import Derived.Test.YtbohmcfplgdlpaaDoorPD
import Derived.Deep.DeepCutAuto
import Derived.Test.YtbohmcfplgdlpaaDoorOrder
import Derived.Test.YtbohmcfplgdlpaaDoorPA
import Derived.Maps.OwnIn
import Derived.Test.YtbohmcfplgdlpaaDoorMSim
import Derived.Test.YtbohmcfplgdlpaaDoorMRef
import Derived.Test.YtbohmcfplgdlpaaDoorPF
import Derived.Test.YtbohmcfplgdlpaaDoorRows
import Derived.MakeChecks
import Derived.Stop.LaidErr
import Derived.Lib.LaidTab
import Derived.Test.YtbohmcfplgdlpaaDoorMPi

/- moves.Make of a tree without a map, and fifteen cells in memory: contracts.
   Conditions: the tree lies in memory. -/
namespace Go.Proofs.YtbohmcfplgdlpaaDoor
open Go.RowKit Go.Shelf
attribute [local go_sem] nodeAgg
theorem set15_heap {w:World} {b:Nat} {x0 x1 x2 x3 x4 x5 x6 x7 x8 x9 x10 x11 x12 x13 x14:Value} {e:TypeId} (h:w.heap[b]? = some (.cells #[x0,x1,x2,x3,x4,x5,x6,x7,x8,x9,x10,x11,x12,x13,x14] e (0,0))) (a0 a1 a2 a3 a4 a5 a6 a7 a8 a9 a10 a11 a12 a13 a14:Value):(((((((((((((((w.setCell ⟨b,0,none⟩ a0).setCell ⟨b,1,none⟩ a1).setCell ⟨b,2,none⟩ a2).setCell ⟨b,3,none⟩ a3).setCell ⟨b,4,none⟩ a4).setCell ⟨b,5,none⟩ a5).setCell ⟨b,6,none⟩ a6).setCell ⟨b,7,none⟩ a7).setCell ⟨b,8,none⟩ a8).setCell ⟨b,9,none⟩ a9).setCell ⟨b,10,none⟩ a10).setCell ⟨b,11,none⟩ a11).setCell ⟨b,12,none⟩ a12).setCell ⟨b,13,none⟩ a13).setCell ⟨b,14,none⟩ a14).heap[b]? = some (.cells #[a0,a1,a2,a3,a4,a5,a6,a7,a8,a9,a10,a11,a12,a13,a14] e (0,0)):=by
 simp [World.setCell,Array.getElem?_modify,h]
theorem set15_chg (w:World) (b:Nat) (a0 a1 a2 a3 a4 a5 a6 a7 a8 a9 a10 a11 a12 a13 a14:Value):Chg (fun x=>x=b) w (((((((((((((((w.setCell ⟨b,0,none⟩ a0).setCell ⟨b,1,none⟩ a1).setCell ⟨b,2,none⟩ a2).setCell ⟨b,3,none⟩ a3).setCell ⟨b,4,none⟩ a4).setCell ⟨b,5,none⟩ a5).setCell ⟨b,6,none⟩ a6).setCell ⟨b,7,none⟩ a7).setCell ⟨b,8,none⟩ a8).setCell ⟨b,9,none⟩ a9).setCell ⟨b,10,none⟩ a10).setCell ⟨b,11,none⟩ a11).setCell ⟨b,12,none⟩ a12).setCell ⟨b,13,none⟩ a13).setCell ⟨b,14,none⟩ a14):=by
 refine (((((((((((((((Chg.refl _ w).setCell ?_ _).setCell ?_ _).setCell ?_ _).setCell ?_ _).setCell ?_ _).setCell ?_ _).setCell ?_ _).setCell ?_ _).setCell ?_ _).setCell ?_ _).setCell ?_ _).setCell ?_ _).setCell ?_ _).setCell ?_ _).setCell ?_ _
 all_goals exact fun _=>rfl
theorem cells15 {w:World} {b:Nat} {x0 x1 x2 x3 x4 x5 x6 x7 x8 x9 x10 x11 x12 x13 x14:Value} {e:TypeId} (h:w.heap[b]? = some (.cells #[x0,x1,x2,x3,x4,x5,x6,x7,x8,x9,x10,x11,x12,x13,x14] e (0,0))):(w.cell? ⟨b,0,none⟩=some x0∧w.cell? ⟨b,1,none⟩=some x1∧w.cell? ⟨b,2,none⟩=some x2∧w.cell? ⟨b,3,none⟩=some x3∧w.cell? ⟨b,4,none⟩=some x4∧w.cell? ⟨b,5,none⟩=some x5∧w.cell? ⟨b,6,none⟩=some x6∧w.cell? ⟨b,7,none⟩=some x7∧w.cell? ⟨b,8,none⟩=some x8∧w.cell? ⟨b,9,none⟩=some x9∧w.cell? ⟨b,10,none⟩=some x10∧w.cell? ⟨b,11,none⟩=some x11∧w.cell? ⟨b,12,none⟩=some x12∧w.cell? ⟨b,13,none⟩=some x13∧w.cell? ⟨b,14,none⟩=some x14)∧(∀ j,w.frozen? ⟨b,j,none⟩=false)∧b<w.heap.size:=by
 have q:=(row_cells h).2
 have p:=(row_cells h).1
 exact ⟨⟨p 0,p 1,p 2,p 3,p 4,p 5,p 6,p 7,p 8,p 9,p 10,p 11,p 12,p 13,p 14⟩,q,(Array.getElem?_eq_some_iff.1 h).1⟩
theorem cells11 {w:World} {b:Nat} {x0 x1 x2 x3 x4 x5 x6 x7 x8 x9 x10:Value} {e:TypeId} (h:w.heap[b]? = some (.cells #[x0,x1,x2,x3,x4,x5,x6,x7,x8,x9,x10] e (0,0))):(w.cell? ⟨b,0,none⟩=some x0∧w.cell? ⟨b,1,none⟩=some x1∧w.cell? ⟨b,2,none⟩=some x2∧w.cell? ⟨b,3,none⟩=some x3∧w.cell? ⟨b,4,none⟩=some x4∧w.cell? ⟨b,5,none⟩=some x5∧w.cell? ⟨b,6,none⟩=some x6∧w.cell? ⟨b,7,none⟩=some x7∧w.cell? ⟨b,8,none⟩=some x8∧w.cell? ⟨b,9,none⟩=some x9∧w.cell? ⟨b,10,none⟩=some x10)∧(∀ j,w.frozen? ⟨b,j,none⟩=false)∧b<w.heap.size:=by
 have q:=(row_cells h).2
 have p:=(row_cells h).1
 exact ⟨⟨p 0,p 1,p 2,p 3,p 4,p 5,p 6,p 7,p 8,p 9,p 10⟩,q,(Array.getElem?_eq_some_iff.1 h).1⟩
def NoMap (u:T) (code:Int):Prop:=okT u=false∧code=1∨okT u=true∧mapT (simT u)=none∧code=3
theorem of_none (t:V) (w:World) (R:Nat→Prop) (ht:Laid w R t) (hz:szT (erase t)≤300000) (code:Int) (hc:NoMap (erase t) code) :
  Calls Tryd.prog 21 #[nodeAgg t] w fun e w'=>e=.returned (.tuple #[.agg #[.int .i64 0,.int .u64 0,.int .u64 0,.int .u64 0,.int .u64 0,.slice none 0 0,.int .i64 0,.int .i64 0,.slice none 0 0,.slice none 0 0,.slice none 0 0],.int .i64 code])∧Below w.heap.size w w':=by
 rcases hc with ⟨hok,rfl⟩ | ⟨hok,hm,rfl⟩
 ·exact of_bad t w R ht hz hok
 ·refine (of_good t w R ht hz hok).mono ?_
  rintro e w' ⟨h,hb⟩
  refine ⟨?_,hb⟩
  rcases h with ⟨m,r,ta,tn,tc,sA,sN,sC,cA,cN,cC,aA,aN,aC,hR,_⟩ | ⟨_,rfl⟩
  ·have:=hR.some
   rw [hm] at this
   cases this
  ·rfl
set_option maxHeartbeats 4000000 in
set_option maxRecDepth 100000 in
theorem make_none (t:V) (w:World) (R:Nat→Prop) (ht:Laid w R t) (hz:szT (erase t)≤300000) (code:Int) (hc:NoMap (erase t) code) :
  Calls Tryd.prog 14 #[nodeAgg t] w fun e w'=>e=.returned (.tuple #[.agg #[.int .i64 0,.int .u64 0,.int .u64 0,.int .u64 0,.int .u64 0,.slice none 0 0,.int .i64 0,.int .i64 0,.slice none 0 0,.slice none 0 0,.slice none 0 0,.slice none 0 0,.slice none 0 0,.slice none 0 0,.bool false],.int .i64 code])∧Below w.heap.size w w':=by
 obtain ⟨sa,sn,sc,hs⟩:=ht.slice
 obtain ⟨w2,hw2⟩ : ∃ w2,(w.alloc (.cells #[.int .i64 t.kind,.int .u64 (t.set 0:Nat),.int .u64 (t.set 1:Nat),.int .u64 (t.set 2:Nat),.int .u64 (t.set 3:Nat),.slice sa sn sc,.int .i64 t.lo,.int .i64 t.hi] 27)).alloc (.cells #[.int .i64 0,.int .u64 0,.int .u64 0,.int .u64 0,.int .u64 0,.slice none 0 0,.int .i64 0,.int .i64 0,.slice none 0 0,.slice none 0 0,.slice none 0 0,.slice none 0 0,.slice none 0 0,.slice none 0 0,.bool false] 38)=w2:=⟨_,rfl⟩
 have hb2:Below w.heap.size w w2:=hw2▸((Below.refl _ w).alloc (Nat.le_refl _) _).alloc (by simp) _
 have e1:w2.heap[w.heap.size]? = some (.cells #[.int .i64 t.kind,.int .u64 (t.set 0:Nat),.int .u64 (t.set 1:Nat),.int .u64 (t.set 2:Nat),.int .u64 (t.set 3:Nat),.slice sa sn sc,.int .i64 t.lo,.int .i64 t.hi] 27 (0,0)):=by rw [← hw2];exact (Below.heap_alloc _ _ _ (by simp)).trans (heap_alloc_new w _)
 have e2:w2.heap[w.heap.size+1]? = some (.cells #[.int .i64 0,.int .u64 0,.int .u64 0,.int .u64 0,.int .u64 0,.slice none 0 0,.int .i64 0,.int .i64 0,.slice none 0 0,.slice none 0 0,.slice none 0 0,.slice none 0 0,.slice none 0 0,.slice none 0 0,.bool false] 38 (0,0)):=by
  rw [← hw2]
  have:=heap_alloc_new (w.alloc (.cells #[.int .i64 t.kind,.int .u64 (t.set 0:Nat),.int .u64 (t.set 1:Nat),.int .u64 (t.set 2:Nat),.int .u64 (t.set 3:Nat),.slice sa sn sc,.int .i64 t.lo,.int .i64 t.hi] 27)) (.cells #[.int .i64 0,.int .u64 0,.int .u64 0,.int .u64 0,.int .u64 0,.slice none 0 0,.int .i64 0,.int .i64 0,.slice none 0 0,.slice none 0 0,.slice none 0 0,.slice none 0 0,.slice none 0 0,.slice none 0 0,.bool false] 38)
  rw [World.size_alloc] at this
  exact this
 have HOF:=Lib.hid (show Calls Tryd.prog 21 #[.agg #[.int .i64 t.kind,.int .u64 (t.set 0:Nat),.int .u64 (t.set 1:Nat),.int .u64 (t.set 2:Nat),.int .u64 (t.set 3:Nat),.slice sa sn sc,.int .i64 t.lo,.int .i64 t.hi]] w2 _ by
  have:=of_none t w2 R (laid_low ht hb2) hz code hc
  rw [nodeAgg_v hs] at this
  exact this)
 have hne:(code != 0)=true:=by
  rcases hc with ⟨_,rfl⟩ | ⟨_,_,rfl⟩ <;> rfl
 obtain ⟨c0,c1,c2,c3,c4,c5,c6,c7⟩:=cells8 e1
 have hl1:w.heap.size<w2.heap.size:=(Array.getElem?_eq_some_iff.1 e1).1
 have HB:=Lib.hid (And.intro hb2 e2)
 rw [nodeAgg_v hs]
 clear hs ht hz hc hb2 e1 e2
 refine (callsIn_wide (n:=9)).1 (callsIn_of_wp_marks Tryd.func14 rfl trivial ?_ rfl)
 refine wpIn_wide.2 ?_
 simp only [Tryd.ntmps14,List.size_toArray,List.length_cons,List.length_nil,Nat.reduceAdd,Nat.reduceSub,Array.replicate_succ,Array.replicate_zero,List.push_toArray,List.append_toArray,List.nil_append,List.cons_append]
 go_upto_region 1 with fail
 clear hw2
 go_wp2_with fail
 go_at_call 21
 refine HOF.out.mono ?_
 rintro e w3 ⟨rfl,hb3⟩
 obtain ⟨w4,hw4⟩ : ∃ w4,w3.alloc (.cells #[.int .i64 0,.int .u64 0,.int .u64 0,.int .u64 0,.int .u64 0,.slice none 0 0,.int .i64 0,.int .i64 0,.slice none 0 0,.slice none 0 0,.slice none 0 0] 33)=w4:=⟨_,rfl⟩
 have hb4:Below w2.heap.size w2 w4:=bhop hb3 (hw4▸(Below.refl _ w3).alloc (Nat.le_refl _) _)
 have e4:w4.heap[w.heap.size+1]? = some (.cells #[.int .i64 0,.int .u64 0,.int .u64 0,.int .u64 0,.int .u64 0,.slice none 0 0,.int .i64 0,.int .i64 0,.slice none 0 0,.slice none 0 0,.slice none 0 0,.slice none 0 0,.slice none 0 0,.slice none 0 0,.bool false] 38 (0,0)):=(hb4.block _ (Array.getElem?_eq_some_iff.1 HB.out.2).1).trans HB.out.2
 have HB4:=Lib.hid (And.intro hb4 e4)
 have HW4:=Lib.hid hw4
 clear hw4 hb3 hb4 e4 c0 c1 c2 c3 c4 c5 c6 c7
 obtain ⟨⟨z0,z1,z2,z3,z4,z5,z6,z7,z8,z9,z10,z11,z12,z13,z14⟩,hf,hl⟩:=cells15 HB4.out.2
 have f0:=hf 0
 have f1:=hf 1
 have f2:=hf 2
 have f3:=hf 3
 have f4:=hf 4
 have f5:=hf 5
 have f6:=hf 6
 have f7:=hf 7
 have f8:=hf 8
 have f9:=hf 9
 have f10:=hf 10
 have f11:=hf 11
 have f12:=hf 12
 have f13:=hf 13
 have f14:=hf 14
 clear hf
 go_upto_region 2 with fail
 try rw [HW4.out]
 go_wp2_with fail
 clear z0 z1 z2 z3 z4 z5 z6 z7 z8 z9 z10 z11 z12 z13 z14 f0 f1 f2 f3 f4 f5 f6 f7 f8 f9 f10 f11 f12 f13 f14
 have hf6:=set15_heap HB4.out.2 (.int .i64 0) (.int .u64 0) (.int .u64 0) (.int .u64 0) (.int .u64 0) (.slice none 0 0) (.int .i64 0) (.int .i64 0) (.slice none 0 0) (.slice none 0 0) (.slice none 0 0) (.slice none 0 0) (.slice none 0 0) (.slice none 0 0) (.bool false)
 have hc6:=set15_chg w4 (w.heap.size+1) (.int .i64 0) (.int .u64 0) (.int .u64 0) (.int .u64 0) (.int .u64 0) (.slice none 0 0) (.int .i64 0) (.int .i64 0) (.slice none 0 0) (.slice none 0 0) (.slice none 0 0) (.slice none 0 0) (.slice none 0 0) (.slice none 0 0) (.bool false)
 generalize (((((((((((((((w4.setCell ⟨w.heap.size+1,0,none⟩ (.int .i64 0)).setCell ⟨w.heap.size+1,1,none⟩ (.int .u64 0)).setCell ⟨w.heap.size+1,2,none⟩ (.int .u64 0)).setCell ⟨w.heap.size+1,3,none⟩ (.int .u64 0)).setCell ⟨w.heap.size+1,4,none⟩ (.int .u64 0)).setCell ⟨w.heap.size+1,5,none⟩ (.slice none 0 0)).setCell ⟨w.heap.size+1,6,none⟩ (.int .i64 0)).setCell ⟨w.heap.size+1,7,none⟩ (.int .i64 0)).setCell ⟨w.heap.size+1,8,none⟩ (.slice none 0 0)).setCell ⟨w.heap.size+1,9,none⟩ (.slice none 0 0)).setCell ⟨w.heap.size+1,10,none⟩ (.slice none 0 0)).setCell ⟨w.heap.size+1,11,none⟩ (.slice none 0 0)).setCell ⟨w.heap.size+1,12,none⟩ (.slice none 0 0)).setCell ⟨w.heap.size+1,13,none⟩ (.slice none 0 0)).setCell ⟨w.heap.size+1,14,none⟩ (.bool false))=w6 at *
 obtain ⟨⟨z0,z1,z2,z3,z4,z5,z6,z7,z8,z9,z10,z11,z12,z13,z14⟩,_⟩:=cells15 hf6
 refine ⟨.tuple #[.agg #[.int .i64 0,.int .u64 0,.int .u64 0,.int .u64 0,.int .u64 0,.slice none 0 0,.int .i64 0,.int .i64 0,.slice none 0 0,.slice none 0 0,.slice none 0 0,.slice none 0 0,.slice none 0 0,.slice none 0 0,.bool false],.int .i64 code],by simp [results,Tryd.results14,go_sem,z0,z1,z2,z3,z4,z5,z6,z7,z8,z9,z10,z11,z12,z13,z14],rfl,?_⟩
 exact (HB.out.1.trans (HB4.out.1.mono HB.out.1.size)).trans (hc6.below (B:=w.heap.size) (by have:=HB4.out.1.size;omega) fun k hk e=>by omega)
end Go.Proofs.YtbohmcfplgdlpaaDoor

/- A drawn region of moves.Make: the map is loaded, the moves are sorted, a row of truths is made, the automaton stored.
   Conditions: the cells that it loads lie in memory; sorted's contract. -/
namespace Go.Proofs.YtbohmcfplgdlpaaDoor
open Go.RowKit Go.Shelf
abbrev opsMk:Array Oper:=#[{ dst:=some 24,op:=Op.load 33 (Operand.tmp 4),type:=33,pos := "moves.go:43",after:=#[],guard:=none },
 { dst:=some 25,op:=Op.move (Operand.tmp 6),type:=68,pos := "moves.go:43",after:=#[],guard:=none },
 { dst:=some 26,op:=Op.fieldAddr 33 (Operand.tmp 4) 1,type:=0,pos := "moves.go:43",after:=#[],guard:=none },
 { dst:=some 27,op:=Op.load 29 (Operand.tmp 26),type:=29,pos := "moves.go:43",after:=#[{ on:=2,ground:=Ground.data }],guard:=none },
 { dst:=some 28,op:=Op.call { callee:=Callee.builtin Builtin.len,args:=#[Operand.tmp 27],argTypes:=#[29] },type:=3,pos := "moves.go:43",after:=#[{ on:=3,ground:=Ground.data }],guard:=none },
 { dst:=some 29,op:=Op.call { callee:=Callee.value (Operand.func 24),args:=#[Operand.tmp 25,Operand.tmp 28],argTypes:=#[68,3] },type:=35,pos := "moves.go:43",after:=#[{ on:=1,ground:=Ground.data },{ on:=4,ground:=Ground.data }],guard:=none },
 { dst:=some 30,op:=Op.fieldAddr 33 (Operand.tmp 4) 1,type:=0,pos := "moves.go:43",after:=#[],guard:=none },
 { dst:=some 31,op:=Op.load 29 (Operand.tmp 30),type:=29,pos := "moves.go:43",after:=#[{ on:=6,ground:=Ground.data }],guard:=none },
 { dst:=some 32,op:=Op.call { callee:=Callee.builtin Builtin.len,args:=#[Operand.tmp 31],argTypes:=#[29] },type:=3,pos := "moves.go:43",after:=#[{ on:=7,ground:=Ground.data }],guard:=none },
 { dst:=some 33,op:=Op.makeSlice 36 (Operand.tmp 32) (Operand.tmp 32),type:=36,pos := "moves.go:43",after:=#[{ on:=8,ground:=Ground.data },{ on:=8,ground:=Ground.data }],guard:=none },
 { dst:=some 34,op:=Op.fieldAddr 72 (Operand.tmp 7) 2,type:=0,pos := "moves.go:43",after:=#[],guard:=none },
 { dst:=some 35,op:=Op.load 4 (Operand.tmp 34),type:=4,pos := "moves.go:43",after:=#[{ on:=10,ground:=Ground.data }],guard:=none },
 { dst:=some 36,op:=Op.build 38 #[(0,Operand.tmp 24),(2,Operand.tmp 29),(3,Operand.tmp 33),(4,Operand.tmp 35)],type:=38,pos := "moves.go:43",after:=#[{ on:=0,ground:=Ground.data },{ on:=5,ground:=Ground.data },{ on:=9,ground:=Ground.data },{ on:=11,ground:=Ground.data }],guard:=none },
 { dst:=some 8,op:=Op.alloc 38,type:=0,pos := "moves.go:43",after:=#[],guard:=none },
 { dst:=none,op:=Op.store 38 (Operand.tmp 8) (Operand.tmp 36),type:=0,pos := "moves.go:43",after:=#[{ on:=13,ground:=Ground.data },{ on:=12,ground:=Ground.data },{ on:=5,ground:=Ground.chain },{ on:=0,ground:=Ground.phase },{ on:=1,ground:=Ground.phase },{ on:=2,ground:=Ground.phase },{ on:=3,ground:=Ground.phase },{ on:=4,ground:=Ground.phase },{ on:=5,ground:=Ground.phase },{ on:=6,ground:=Ground.phase },{ on:=7,ground:=Ground.phase },{ on:=8,ground:=Ground.phase },{ on:=9,ground:=Ground.phase },{ on:=10,ground:=Ground.phase },{ on:=11,ground:=Ground.phase },{ on:=12,ground:=Ground.phase },{ on:=13,ground:=Ground.phase }],guard:=none }]
theorem RowsM.low {w:World} {B B' n:Nat} {lv:Value} {vs:List Value} {L:Nat→List Mv} (h:RowsM w B n lv vs L) (hb:B'≤B):RowsM w B' n lv vs L :=
 ⟨own_low h.own hb,fun i hi=>by obtain ⟨v,h1,h2⟩:=h.row i hi;exact ⟨v,h1,own_low h2 hb⟩,h.apart⟩
structure RK (rk rl rh:Int) (rC:Nat→Nat) (ta sA cA aA:Option Addr) (tn tc sN sC cN cC aN aC mk wk fb:Nat) (em:Bool) (S:St→Prop) (w7:World) (l:Nat→Bool) (lb bb ab:Nat) (vs:List Value) (L:Nat→List Mv) (w:World):Prop where
 bel:Below w7.heap.size w7 w
 h5:l 5=true→RowsM w w7.heap.size sN (.slice (some ⟨lb,0,none⟩) sN sN) vs L∧∀ i,i<sN→(L i).Pairwise mvLt∧∀ m,m∈L i↔St63 (stOf i m)∧S (stOf i m)
 h9:l 9=true→w.heap[bb]? = some (.cells (madeCells #[.bool false] sN) 4 (0,0))∧w7.heap.size≤bb
 h13:l 13=true→w7.heap.size≤ab∧(l 14=false→w.heap[ab]? = some (.cells #[.int .i64 0,.int .u64 0,.int .u64 0,.int .u64 0,.int .u64 0,.slice none 0 0,.int .i64 0,.int .i64 0,.slice none 0 0,.slice none 0 0,.slice none 0 0,.slice none 0 0,.slice none 0 0,.slice none 0 0,.bool false] 38 (0,0)))∧(l 14=true→w.heap[ab]? = some (.cells #[.int .i64 rk,.int .u64 (rC 0:Nat),.int .u64 (rC 1:Nat),.int .u64 (rC 2:Nat),.int .u64 (rC 3:Nat),.slice ta tn tc,.int .i64 rl,.int .i64 rh,.slice sA sN sC,.slice cA cN cC,.slice aA aN aC,.slice none 0 0,.slice (some ⟨lb,0,none⟩) sN sN,.slice (some ⟨bb,0,none⟩) sN sN,.bool em] 38 (0,0)))
 i12:l 12=true→l 5=true∧l 9=true
 i14:l 14=true→l 12=true∧l 13=true
theorem RK.step {rk rl rh:Int} {rC:Nat→Nat} {ta sA cA aA:Option Addr} {tn tc sN sC cN cC aN aC mk wk fb:Nat} {em:Bool} {S:St→Prop} {w7:World} {l:Nat→Bool} {lb bb ab:Nat} {vs:List Value} {L:Nat→List Mv} {w w':World} (h:RK rk rl rh rC ta sA cA aA tn tc sN sC cN cC aN aC mk wk fb em S w7 l lb bb ab vs L w) (hb:Below w.heap.size w w'):RK rk rl rh rC ta sA cA aA tn tc sN sC cN cC aN aC mk wk fb em S w7 l lb bb ab vs L w' :=
 have hk:∀ {k:Nat} {o:Obj},w.heap[k]? = some o→w'.heap[k]? = some o:=fun {k _} e=>(hb.block k (Array.getElem?_eq_some_iff.1 e).1).trans e
 ⟨h.bel.trans (hb.mono h.bel.size),fun p=>⟨(h.h5 p).1.below hb,(h.h5 p).2⟩,fun p=>⟨hk (h.h9 p).1,(h.h9 p).2⟩,fun p=>⟨(h.h13 p).1,fun q=>hk ((h.h13 p).2.1 q),fun q=>hk ((h.h13 p).2.2 q)⟩,h.i12,h.i14⟩
def IMk (rk rl rh:Int) (rC:Nat→Nat) (ta sA cA aA:Option Addr) (tn tc sN sC cN cC aN aC mk wk fb:Nat) (em:Bool) (S:St→Prop) (D:List Deferred) (v0 v1 v2 v3 v5 v9 v10 v11 v12 v13 v14 v15 v16 v17 v18 v19 v20 v21 v22 v23 v37 v38 v39 v40 v41 v42 v43 v44 v45 v46 v47 v48 v49 v50 v51 v52 v53 v54 v55:Value) (w7:World) (l:Nat→Bool) (a:Act) (w:World):Prop :=
 ∃ (y0 y1 y2 y3 y4 y5 y6 y7 y8 y9 y10 y11 y12 y13:Value) (lb bb ab:Nat) (vs:List Value) (L:Nat→List Mv),a = { tmps:=#[v0,v1,v2,v3,.pointer (some ⟨mk,0,none⟩),v5,.pointer (some ⟨wk,0,none⟩),.pointer (some ⟨fb,0,none⟩),y13,v9,v10,v11,v12,v13,v14,v15,v16,v17,v18,v19,v20,v21,v22,v23,y0,y1,y2,y3,y4,y5,y6,y7,y8,y9,y10,y11,y12,v37,v38,v39,v40,v41,v42,v43,v44,v45,v46,v47,v48,v49,v50,v51,v52,v53,v54,v55],defers:=D }∧RK rk rl rh rC ta sA cA aA tn tc sN sC cN cC aN aC mk wk fb em S w7 l lb bb ab vs L w ∧
  (l 0=true→y0=.agg #[.int .i64 rk,.int .u64 (rC 0:Nat),.int .u64 (rC 1:Nat),.int .u64 (rC 2:Nat),.int .u64 (rC 3:Nat),.slice ta tn tc,.int .i64 rl,.int .i64 rh,.slice sA sN sC,.slice cA cN cC,.slice aA aN aC]) ∧
  (l 1=true→y1=.pointer (some ⟨wk,0,none⟩)) ∧
  (l 2=true→y2=.pointer (some ⟨mk,8,none⟩)) ∧
  (l 3=true→y3=.slice sA sN sC) ∧
  (l 4=true→y4=.int .i64 sN) ∧
  (l 5=true→y5=.slice (some ⟨lb,0,none⟩) sN sN) ∧
  (l 6=true→y6=.pointer (some ⟨mk,8,none⟩)) ∧
  (l 7=true→y7=.slice sA sN sC) ∧
  (l 8=true→y8=.int .i64 sN) ∧
  (l 9=true→y9=.slice (some ⟨bb,0,none⟩) sN sN) ∧
  (l 10=true→y10=.pointer (some ⟨fb,2,none⟩)) ∧
  (l 11=true→y11=.bool em) ∧
  (l 12=true→y12=.agg #[.int .i64 rk,.int .u64 (rC 0:Nat),.int .u64 (rC 1:Nat),.int .u64 (rC 2:Nat),.int .u64 (rC 3:Nat),.slice ta tn tc,.int .i64 rl,.int .i64 rh,.slice sA sN sC,.slice cA cN cC,.slice aA aN aC,.slice none 0 0,.slice (some ⟨lb,0,none⟩) sN sN,.slice (some ⟨bb,0,none⟩) sN sN,.bool em]) ∧
  (l 13=true→y13=.pointer (some ⟨ab,0,none⟩))
set_option maxHeartbeats 8000000 in
set_option maxRecDepth 100000 in
theorem regMk (rk rl rh:Int) (rC:Nat→Nat) (ta sA cA aA:Option Addr) (tn tc sN sC cN cC aN aC mk wk fb:Nat) (em:Bool) (S:St→Prop) (D:List Deferred) (v0 v1 v2 v3 v5 v9 v10 v11 v12 v13 v14 v15 v16 v17 v18 v19 v20 v21 v22 v23 v37 v38 v39 v40 v41 v42 v43 v44 v45 v46 v47 v48 v49 v50 v51 v52 v53 v54 v55 z0 z1 z2 z3 z4 z5 z6 z7 z8 z9 z10 z11 z12 z13:Value) (w7:World)
  (HSO:∀ W,Below w7.heap.size w7 W→Calls Tryd.prog 24 #[.pointer (some ⟨wk,0,none⟩),.int .i64 sN] W fun e w'=>∃ lb vs L,e=.returned (.slice (some ⟨lb,0,none⟩) sN sN)∧RowsM w' W.heap.size sN (.slice (some ⟨lb,0,none⟩) sN sN) vs L∧(∀ i,i<sN→(L i).Pairwise mvLt∧∀ m,m∈L i↔St63 (stOf i m)∧S (stOf i m))∧Below W.heap.size W w')
  (HSF:∀ W,Below w7.heap.size w7 W→(W.cell? ⟨mk,0,none⟩=some (.int .i64 rk)∧W.cell? ⟨mk,1,none⟩=some (.int .u64 (rC 0:Nat))∧W.cell? ⟨mk,2,none⟩=some (.int .u64 (rC 1:Nat))∧W.cell? ⟨mk,3,none⟩=some (.int .u64 (rC 2:Nat))∧W.cell? ⟨mk,4,none⟩=some (.int .u64 (rC 3:Nat))∧W.cell? ⟨mk,5,none⟩=some (.slice ta tn tc)∧W.cell? ⟨mk,6,none⟩=some (.int .i64 rl)∧W.cell? ⟨mk,7,none⟩=some (.int .i64 rh)∧W.cell? ⟨mk,8,none⟩=some (.slice sA sN sC)∧W.cell? ⟨mk,9,none⟩=some (.slice cA cN cC)∧W.cell? ⟨mk,10,none⟩=some (.slice aA aN aC))∧W.cell? ⟨fb,2,none⟩=some (.bool em))
  (hmks:∀ W,(Instr.makeSlice 36 (.int .i64 (sN:Int)) (.int .i64 (sN:Int))).run Tryd.prog W=.ok (.slice (some ⟨W.heap.size,0,none⟩) sN sN) (W.alloc (.cells (madeCells #[.bool false] sN) 4)))
  (Q:Exit→Act→World→Prop) (hQ:∀ (lb bb ab:Nat) (vs:List Value) (L:Nat→List Mv) (w8:World),Below w7.heap.size w7 w8→RowsM w8 w7.heap.size sN (.slice (some ⟨lb,0,none⟩) sN sN) vs L→(∀ i,i<sN→(L i).Pairwise mvLt∧∀ m,m∈L i↔St63 (stOf i m)∧S (stOf i m))→w8.heap[bb]? = some (.cells (madeCells #[.bool false] sN) 4 (0,0))→w7.heap.size≤bb→w8.heap[ab]? = some (.cells #[.int .i64 rk,.int .u64 (rC 0:Nat),.int .u64 (rC 1:Nat),.int .u64 (rC 2:Nat),.int .u64 (rC 3:Nat),.slice ta tn tc,.int .i64 rl,.int .i64 rh,.slice sA sN sC,.slice cA cN cC,.slice aA aN aC,.slice none 0 0,.slice (some ⟨lb,0,none⟩) sN sN,.slice (some ⟨bb,0,none⟩) sN sN,.bool em] 38 (0,0))→w7.heap.size≤ab→Q .normal { tmps:=#[v0,v1,v2,v3,.pointer (some ⟨mk,0,none⟩),v5,.pointer (some ⟨wk,0,none⟩),.pointer (some ⟨fb,0,none⟩),.pointer (some ⟨ab,0,none⟩),v9,v10,v11,v12,v13,v14,v15,v16,v17,v18,v19,v20,v21,v22,v23,.agg #[.int .i64 rk,.int .u64 (rC 0:Nat),.int .u64 (rC 1:Nat),.int .u64 (rC 2:Nat),.int .u64 (rC 3:Nat),.slice ta tn tc,.int .i64 rl,.int .i64 rh,.slice sA sN sC,.slice cA cN cC,.slice aA aN aC],.pointer (some ⟨wk,0,none⟩),.pointer (some ⟨mk,8,none⟩),.slice sA sN sC,.int .i64 sN,.slice (some ⟨lb,0,none⟩) sN sN,.pointer (some ⟨mk,8,none⟩),.slice sA sN sC,.int .i64 sN,.slice (some ⟨bb,0,none⟩) sN sN,.pointer (some ⟨fb,2,none⟩),.bool em,.agg #[.int .i64 rk,.int .u64 (rC 0:Nat),.int .u64 (rC 1:Nat),.int .u64 (rC 2:Nat),.int .u64 (rC 3:Nat),.slice ta tn tc,.int .i64 rl,.int .i64 rh,.slice sA sN sC,.slice cA cN cC,.slice aA aN aC,.slice none 0 0,.slice (some ⟨lb,0,none⟩) sN sN,.slice (some ⟨bb,0,none⟩) sN sN,.bool em],v37,v38,v39,v40,v41,v42,v43,v44,v45,v46,v47,v48,v49,v50,v51,v52,v53,v54,v55],defers:=D } w8) :
  (Code.region 6 opsMk true).wp Tryd.prog Q { tmps:=#[v0,v1,v2,v3,.pointer (some ⟨mk,0,none⟩),v5,.pointer (some ⟨wk,0,none⟩),.pointer (some ⟨fb,0,none⟩),z13,v9,v10,v11,v12,v13,v14,v15,v16,v17,v18,v19,v20,v21,v22,v23,z0,z1,z2,z3,z4,z5,z6,z7,z8,z9,z10,z11,z12,v37,v38,v39,v40,v41,v42,v43,v44,v45,v46,v47,v48,v49,v50,v51,v52,v53,v54,v55],defers:=D } w7:=by
 refine wp_region_inv (by kernel_rfl) (IMk rk rl rh rC ta sA cA aA tn tc sN sC cN cC aN aC mk wk fb em S D v0 v1 v2 v3 v5 v9 v10 v11 v12 v13 v14 v15 v16 v17 v18 v19 v20 v21 v22 v23 v37 v38 v39 v40 v41 v42 v43 v44 v45 v46 v47 v48 v49 v50 v51 v52 v53 v54 v55 w7) ?hacy ?h0 ?hstep ?hdone
 case hacy=>kernel_rfl
 case h0=>exact ⟨z0,z1,z2,z3,z4,z5,z6,z7,z8,z9,z10,z11,z12,z13,0,0,0,[],fun _=>[],rfl,⟨(Below.refl _ w7).drew,(fun p=>by cases p),(fun p=>by cases p),(fun p=>by cases p),(fun p=>by cases p),(fun p=>by cases p)⟩,(fun p=>by cases p),(fun p=>by cases p),(fun p=>by cases p),(fun p=>by cases p),(fun p=>by cases p),(fun p=>by cases p),(fun p=>by cases p),(fun p=>by cases p),(fun p=>by cases p),(fun p=>by cases p),(fun p=>by cases p),(fun p=>by cases p),(fun p=>by cases p),(fun p=>by cases p)⟩
 case hdone =>
  intro l a w1 hI hall
  obtain ⟨y0,y1,y2,y3,y4,y5,y6,y7,y8,y9,y10,y11,y12,y13,lb,bb,ab,vs,L,rfl,hR,h0,h1,h2,h3,h4,h5,h6,h7,h8,h9,h10,h11,h12,h13⟩:=hI
  obtain rfl:=h0 (hall 0 (by decide))
  obtain rfl:=h1 (hall 1 (by decide))
  obtain rfl:=h2 (hall 2 (by decide))
  obtain rfl:=h3 (hall 3 (by decide))
  obtain rfl:=h4 (hall 4 (by decide))
  obtain rfl:=h5 (hall 5 (by decide))
  obtain rfl:=h6 (hall 6 (by decide))
  obtain rfl:=h7 (hall 7 (by decide))
  obtain rfl:=h8 (hall 8 (by decide))
  obtain rfl:=h9 (hall 9 (by decide))
  obtain rfl:=h10 (hall 10 (by decide))
  obtain rfl:=h11 (hall 11 (by decide))
  obtain rfl:=h12 (hall 12 (by decide))
  obtain rfl:=h13 (hall 13 (by decide))
  exact hQ lb bb ab vs L w1 hR.bel (hR.h5 (hall 5 (by decide))).1 (hR.h5 (hall 5 (by decide))).2 (hR.h9 (hall 9 (by decide))).1 (hR.h9 (hall 9 (by decide))).2 ((hR.h13 (hall 13 (by decide))).2.2 (hall 14 (by decide))) (hR.h13 (hall 13 (by decide))).1
 case hstep =>
  intro l a w1 i o hI ho hl hall
  obtain ⟨y0,y1,y2,y3,y4,y5,y6,y7,y8,y9,y10,y11,y12,y13,lb,bb,ab,vs,L,rfl,hR,h0,h1,h2,h3,h4,h5,h6,h7,h8,h9,h10,h11,h12,h13⟩:=hI
  have hi:i<15:=(Array.getElem?_eq_some_iff.1 ho).1
  match i,hi with
  | 0,_ =>
   have ho':=ho
   simp [opsMk] at ho
   subst ho
   refine wpOp_one ho' rfl fun K hK=>?_
   obtain ⟨⟨m0,m1,m2,m3,m4,m5,m6,m7,m8,m9,m10⟩,_⟩:=HSF w1 hR.bel
   go_simp
   exact hK _ _ ⟨_,y1,y2,y3,y4,y5,y6,y7,y8,y9,y10,y11,y12,y13,lb,bb,ab,vs,L,rfl,⟨hR.bel,hR.h5,hR.h9,hR.h13,hR.i12,hR.i14⟩,fun _=>(by first | rfl | simp),h1,h2,h3,h4,h5,h6,h7,h8,h9,h10,h11,h12,h13⟩
  | 1,_ =>
   have ho':=ho
   simp [opsMk] at ho
   subst ho
   refine wpOp_one ho' rfl fun K hK=>?_
   go_simp
   exact hK _ _ ⟨y0,_,y2,y3,y4,y5,y6,y7,y8,y9,y10,y11,y12,y13,lb,bb,ab,vs,L,rfl,⟨hR.bel,hR.h5,hR.h9,hR.h13,hR.i12,hR.i14⟩,h0,fun _=>(by first | rfl | simp),h2,h3,h4,h5,h6,h7,h8,h9,h10,h11,h12,h13⟩
  | 2,_ =>
   have ho':=ho
   simp [opsMk] at ho
   subst ho
   refine wpOp_one ho' rfl fun K hK=>?_
   go_simp
   exact hK _ _ ⟨y0,y1,_,y3,y4,y5,y6,y7,y8,y9,y10,y11,y12,y13,lb,bb,ab,vs,L,rfl,⟨hR.bel,hR.h5,hR.h9,hR.h13,hR.i12,hR.i14⟩,h0,h1,fun _=>(by first | rfl | simp),h3,h4,h5,h6,h7,h8,h9,h10,h11,h12,h13⟩
  | 3,_ =>
   have ho':=ho
   simp [opsMk] at ho
   subst ho
   have q2:=hall ⟨2,.data⟩ (by simp) rfl
   obtain rfl:=h2 q2
   refine wpOp_one ho' rfl fun K hK=>?_
   obtain ⟨⟨m0,m1,m2,m3,m4,m5,m6,m7,m8,m9,m10⟩,_⟩:=HSF w1 hR.bel
   go_simp
   exact hK _ _ ⟨y0,y1,_,_,y4,y5,y6,y7,y8,y9,y10,y11,y12,y13,lb,bb,ab,vs,L,rfl,⟨hR.bel,hR.h5,hR.h9,hR.h13,hR.i12,hR.i14⟩,h0,h1,fun _=>rfl,fun _=>(by first | rfl | simp),h4,h5,h6,h7,h8,h9,h10,h11,h12,h13⟩
  | 4,_ =>
   have ho':=ho
   simp [opsMk] at ho
   subst ho
   have q3:=hall ⟨3,.data⟩ (by simp) rfl
   obtain rfl:=h3 q3
   refine wpOp_one ho' rfl fun K hK=>?_
   go_simp
   exact hK _ _ ⟨y0,y1,y2,_,_,y5,y6,y7,y8,y9,y10,y11,y12,y13,lb,bb,ab,vs,L,rfl,⟨hR.bel,hR.h5,hR.h9,hR.h13,hR.i12,hR.i14⟩,h0,h1,h2,fun _=>rfl,fun _=>(by first | rfl | simp),h5,h6,h7,h8,h9,h10,h11,h12,h13⟩
  | 5,_ =>
   have ho':=ho
   simp [opsMk] at ho
   subst ho
   have q1:=hall ⟨1,.data⟩ (by simp) rfl
   obtain rfl:=h1 q1
   have q4:=hall ⟨4,.data⟩ (by simp) rfl
   obtain rfl:=h4 q4
   refine wpOp_one ho' rfl fun K hK=>?_
   go_simp
   go_at_call 24
   refine (HSO w1 hR.bel).mono ?_
   rintro e w2 ⟨lb2,vs2,L2,rfl,hr2,hm2,hb2⟩
   have hR2:=hR.step hb2
   have hrow:RowsM w2 w7.heap.size sN (.slice (some ⟨lb2,0,none⟩) sN sN) vs2 L2:=hr2.low hR.bel.size
   exact hK _ _ ⟨y0,_,y2,y3,_,_,y6,y7,y8,y9,y10,y11,y12,y13,lb2,bb,ab,vs2,L2,rfl,⟨hR2.bel,fun _=>⟨hrow,hm2⟩,hR2.h9,fun p=>⟨(hR2.h13 p).1,(hR2.h13 p).2.1,(fun p:l 14=true=>absurd (hR.i12 (hR.i14 p).1).1 (by rw [hl];decide))⟩,(fun p:l 12=true=>absurd (hR.i12 p).1 (by rw [hl];decide)),(fun p:l 14=true=>absurd (hR.i12 (hR.i14 p).1).1 (by rw [hl];decide))⟩,h0,fun _=>rfl,h2,h3,fun _=>rfl,fun _=>(by first | rfl | simp),h6,h7,h8,h9,h10,h11,(fun p:l 12=true=>absurd (hR.i12 p).1 (by rw [hl];decide)),h13⟩
  | 6,_ =>
   have ho':=ho
   simp [opsMk] at ho
   subst ho
   refine wpOp_one ho' rfl fun K hK=>?_
   go_simp
   exact hK _ _ ⟨y0,y1,y2,y3,y4,y5,_,y7,y8,y9,y10,y11,y12,y13,lb,bb,ab,vs,L,rfl,⟨hR.bel,hR.h5,hR.h9,hR.h13,hR.i12,hR.i14⟩,h0,h1,h2,h3,h4,h5,fun _=>(by first | rfl | simp),h7,h8,h9,h10,h11,h12,h13⟩
  | 7,_ =>
   have ho':=ho
   simp [opsMk] at ho
   subst ho
   have q6:=hall ⟨6,.data⟩ (by simp) rfl
   obtain rfl:=h6 q6
   refine wpOp_one ho' rfl fun K hK=>?_
   obtain ⟨⟨m0,m1,m2,m3,m4,m5,m6,m7,m8,m9,m10⟩,_⟩:=HSF w1 hR.bel
   go_simp
   exact hK _ _ ⟨y0,y1,y2,y3,y4,y5,_,_,y8,y9,y10,y11,y12,y13,lb,bb,ab,vs,L,rfl,⟨hR.bel,hR.h5,hR.h9,hR.h13,hR.i12,hR.i14⟩,h0,h1,h2,h3,h4,h5,fun _=>rfl,fun _=>(by first | rfl | simp),h8,h9,h10,h11,h12,h13⟩
  | 8,_ =>
   have ho':=ho
   simp [opsMk] at ho
   subst ho
   have q7:=hall ⟨7,.data⟩ (by simp) rfl
   obtain rfl:=h7 q7
   refine wpOp_one ho' rfl fun K hK=>?_
   go_simp
   exact hK _ _ ⟨y0,y1,y2,y3,y4,y5,y6,_,_,y9,y10,y11,y12,y13,lb,bb,ab,vs,L,rfl,⟨hR.bel,hR.h5,hR.h9,hR.h13,hR.i12,hR.i14⟩,h0,h1,h2,h3,h4,h5,h6,fun _=>rfl,fun _=>(by first | rfl | simp),h9,h10,h11,h12,h13⟩
  | 9,_ =>
   have ho':=ho
   simp [opsMk] at ho
   subst ho
   have q8:=hall ⟨8,.data⟩ (by simp) rfl
   obtain rfl:=h8 q8
   refine wpOp_one ho' rfl fun K hK=>?_
   have hm9:=hmks w1
   go_simp
   have hb2:Below w1.heap.size w1 (w1.alloc (.cells (madeCells #[.bool false] sN) 4)):=(Below.refl _ w1).alloc (Nat.le_refl _) _
   have hR2:=hR.step hb2
   exact hK _ _ ⟨y0,y1,y2,y3,y4,y5,y6,y7,_,_,y10,y11,y12,y13,lb,w1.heap.size,ab,vs,L,rfl,⟨hR2.bel,hR2.h5,fun _=>⟨heap_alloc_new w1 _,hR.bel.size⟩,fun p=>⟨(hR2.h13 p).1,(hR2.h13 p).2.1,(fun p:l 14=true=>absurd (hR.i12 (hR.i14 p).1).2 (by rw [hl];decide))⟩,(fun p:l 12=true=>absurd (hR.i12 p).2 (by rw [hl];decide)),(fun p:l 14=true=>absurd (hR.i12 (hR.i14 p).1).2 (by rw [hl];decide))⟩,h0,h1,h2,h3,h4,h5,h6,h7,fun _=>rfl,fun _=>(by first | rfl | simp),h10,h11,(fun p:l 12=true=>absurd (hR.i12 p).2 (by rw [hl];decide)),h13⟩
  | 10,_ =>
   have ho':=ho
   simp [opsMk] at ho
   subst ho
   refine wpOp_one ho' rfl fun K hK=>?_
   go_simp
   exact hK _ _ ⟨y0,y1,y2,y3,y4,y5,y6,y7,y8,y9,_,y11,y12,y13,lb,bb,ab,vs,L,rfl,⟨hR.bel,hR.h5,hR.h9,hR.h13,hR.i12,hR.i14⟩,h0,h1,h2,h3,h4,h5,h6,h7,h8,h9,fun _=>(by first | rfl | simp),h11,h12,h13⟩
  | 11,_ =>
   have ho':=ho
   simp [opsMk] at ho
   subst ho
   have q10:=hall ⟨10,.data⟩ (by simp) rfl
   obtain rfl:=h10 q10
   refine wpOp_one ho' rfl fun K hK=>?_
   obtain ⟨_,me⟩:=HSF w1 hR.bel
   go_simp
   exact hK _ _ ⟨y0,y1,y2,y3,y4,y5,y6,y7,y8,y9,_,_,y12,y13,lb,bb,ab,vs,L,rfl,⟨hR.bel,hR.h5,hR.h9,hR.h13,hR.i12,hR.i14⟩,h0,h1,h2,h3,h4,h5,h6,h7,h8,h9,fun _=>rfl,fun _=>(by first | rfl | simp),h12,h13⟩
  | 12,_ =>
   have ho':=ho
   simp [opsMk] at ho
   subst ho
   have q0:=hall ⟨0,.data⟩ (by simp) rfl
   obtain rfl:=h0 q0
   have q5:=hall ⟨5,.data⟩ (by simp) rfl
   obtain rfl:=h5 q5
   have q9:=hall ⟨9,.data⟩ (by simp) rfl
   obtain rfl:=h9 q9
   have q11:=hall ⟨11,.data⟩ (by simp) rfl
   obtain rfl:=h11 q11
   refine wpOp_one ho' rfl fun K hK=>?_
   go_simp
   exact hK _ _ ⟨_,y1,y2,y3,y4,_,y6,y7,y8,_,y10,_,_,y13,lb,bb,ab,vs,L,rfl,⟨hR.bel,hR.h5,hR.h9,hR.h13,fun _=>⟨q5,q9⟩,fun p=>⟨rfl,(hR.i14 p).2⟩⟩,fun _=>rfl,h1,h2,h3,h4,fun _=>rfl,h6,h7,h8,fun _=>rfl,h10,fun _=>rfl,fun _=>(by first | rfl | simp),h13⟩
  | 13,_ =>
   have ho':=ho
   simp [opsMk] at ho
   subst ho
   refine wpOp_one ho' rfl fun K hK=>?_
   go_simp
   have hb2:Below w1.heap.size w1 (w1.alloc (.cells #[.int .i64 0,.int .u64 0,.int .u64 0,.int .u64 0,.int .u64 0,.slice none 0 0,.int .i64 0,.int .i64 0,.slice none 0 0,.slice none 0 0,.slice none 0 0,.slice none 0 0,.slice none 0 0,.slice none 0 0,.bool false] 38)):=(Below.refl _ w1).alloc (Nat.le_refl _) _
   have hR2:=hR.step hb2
   exact hK _ _ ⟨y0,y1,y2,y3,y4,y5,y6,y7,y8,y9,y10,y11,y12,_,lb,bb,w1.heap.size,vs,L,rfl,⟨hR2.bel,hR2.h5,hR2.h9,fun _=>⟨hR.bel.size,fun _=>heap_alloc_new w1 _,(fun p:l 14=true=>absurd (hR.i14 p).2 (by rw [hl];decide))⟩,hR2.i12,(fun p:l 14=true=>absurd (hR.i14 p).2 (by rw [hl];decide))⟩,h0,h1,h2,h3,h4,h5,h6,h7,h8,h9,h10,h11,h12,fun _=>(by first | rfl | simp)⟩
  | 14,_ =>
   have ho':=ho
   simp [opsMk] at ho
   subst ho
   have q12:=hall ⟨12,.data⟩ (by simp) rfl
   obtain rfl:=h12 q12
   have q13:=hall ⟨13,.data⟩ (by simp) rfl
   obtain rfl:=h13 q13
   refine wpOp_one ho' rfl fun K hK=>?_
   have hz:=(hR.h13 q13).2.1 hl
   obtain ⟨⟨z0',z1',z2',z3',z4',z5',z6',z7',z8',z9',z10',z11',z12',z13',z14'⟩,hf,hzl⟩:=cells15 hz
   have f0:=hf 0
   have f1:=hf 1
   have f2:=hf 2
   have f3:=hf 3
   have f4:=hf 4
   have f5:=hf 5
   have f6:=hf 6
   have f7:=hf 7
   have f8:=hf 8
   have f9:=hf 9
   have f10:=hf 10
   have f11:=hf 11
   have f12:=hf 12
   have f13:=hf 13
   have f14:=hf 14
   clear hf
   go_simp
   have hs:=set15_heap hz (.int .i64 rk) (.int .u64 (rC 0:Nat)) (.int .u64 (rC 1:Nat)) (.int .u64 (rC 2:Nat)) (.int .u64 (rC 3:Nat)) (.slice ta tn tc) (.int .i64 rl) (.int .i64 rh) (.slice sA sN sC) (.slice cA cN cC) (.slice aA aN aC) (.slice none 0 0) (.slice (some ⟨lb,0,none⟩) sN sN) (.slice (some ⟨bb,0,none⟩) sN sN) (.bool em)
   have hc:=set15_chg w1 ab (.int .i64 rk) (.int .u64 (rC 0:Nat)) (.int .u64 (rC 1:Nat)) (.int .u64 (rC 2:Nat)) (.int .u64 (rC 3:Nat)) (.slice ta tn tc) (.int .i64 rl) (.int .i64 rh) (.slice sA sN sC) (.slice cA cN cC) (.slice aA aN aC) (.slice none 0 0) (.slice (some ⟨lb,0,none⟩) sN sN) (.slice (some ⟨bb,0,none⟩) sN sN) (.bool em)
   generalize (((((((((((((((w1.setCell ⟨ab,0,none⟩ (.int .i64 rk)).setCell ⟨ab,1,none⟩ (.int .u64 (rC 0:Nat))).setCell ⟨ab,2,none⟩ (.int .u64 (rC 1:Nat))).setCell ⟨ab,3,none⟩ (.int .u64 (rC 2:Nat))).setCell ⟨ab,4,none⟩ (.int .u64 (rC 3:Nat))).setCell ⟨ab,5,none⟩ (.slice ta tn tc)).setCell ⟨ab,6,none⟩ (.int .i64 rl)).setCell ⟨ab,7,none⟩ (.int .i64 rh)).setCell ⟨ab,8,none⟩ (.slice sA sN sC)).setCell ⟨ab,9,none⟩ (.slice cA cN cC)).setCell ⟨ab,10,none⟩ (.slice aA aN aC)).setCell ⟨ab,11,none⟩ (.slice none 0 0)).setCell ⟨ab,12,none⟩ (.slice (some ⟨lb,0,none⟩) sN sN)).setCell ⟨ab,13,none⟩ (.slice (some ⟨bb,0,none⟩) sN sN)).setCell ⟨ab,14,none⟩ (.bool em))=w2 at *
   have hab:=(hR.h13 q13).1
   have hty:TyB w1 ab 38:=⟨_,_,hz⟩
   refine hK _ _ ⟨y0,y1,y2,y3,y4,y5,y6,y7,y8,y9,y10,y11,_,_,lb,bb,ab,vs,L,rfl,⟨hR.bel.trans (hc.below (B:=w7.heap.size) hR.bel.size fun k hk e=>by omega),fun p=>⟨(hR.h5 p).1.keep hc fun x t e _ ht=>by subst e;have:=ht.eq hty;subst this;decide,(hR.h5 p).2⟩,fun p=>⟨(hc.block bb (Array.getElem?_eq_some_iff.1 (hR.h9 p).1).1 fun e=>by subst e;have:=(hR.h9 p).1;rw [hz] at this;simp at this).trans (hR.h9 p).1,(hR.h9 p).2⟩,fun p=>⟨hab,fun q=>(by cases q),fun _=>hs⟩,hR.i12,fun _=>⟨q12,q13⟩⟩,h0,h1,h2,h3,h4,h5,h6,h7,h8,h9,h10,h11,fun _=>rfl,fun _=>rfl⟩
  | k+15,hi=>omega
end Go.Proofs.YtbohmcfplgdlpaaDoor

/- moves.Make of a tree with a map: a contract.
   Conditions: the tree lies in memory, is formed, and has a map; the library's table lies in memory. -/
namespace Go.Proofs.YtbohmcfplgdlpaaDoor
open Go.RowKit Go.Shelf
attribute [local go_sem] nodeAgg Oper.semAt_some
theorem sj_in {u:T} {m:PM} (hm:mapT u=some m) {s:St} (h:SJ (mvT u 0 0).2.2 s):1≤s.fr∧s.fr<m.sets.length∧1≤s.tt∧s.tt<m.sets.length:=by
 obtain ⟨j,hj,h1,h2,_⟩:=h
 have hin:=(mv_in u 0 0).2 j hj
 have hp:=map_pos hm
 have a:=hin.fr _ h1
 have b:=hin.tt _ h2
 omega
theorem infoBo:(Tryd.prog.info? 4).map (fun i=>(i.zero,i.size,i.bytes))=some (some (.bool false),1,1):=by kernel_rfl
mutual
theorem mv_kp:∀ (t:T) (ar a:Nat),in4 t ar→∀ j∈(mvT t ar a).2.2,j.kp≤4
 | .node k C lo hi ps,ar,a,h=>by
  rw [in4] at h
  rw [mvT]
  exact mvs_kp k hi ar (cnt4 k lo hi) h.1 ps (opF k C lo a) (opA k C a) h.2
theorem mvs_kp (k hi:Int) (ar:Nat) (ag:Bool) (hb:blA ar ag≤4):∀ (ts:List T) (f:Fc) (a:Nat),in4s ts (blA ar ag)→∀ j∈(mvsT k hi ar ag ts f a).2.2,j.kp≤4
 | [],f,a,_=>by rw [mvsT];exact fun j hj=>by cases hj
 | t :: ts,f,a,h=>by
  rw [in4s] at h
  have har0:ar≤blA ar ag:=by unfold blA;split <;> omega
  have har:ar≤4:=by omega
  rw [mvsT]
  simp only
  intro j hj
  rcases List.mem_append.1 hj with hj | hj
  ·rcases List.mem_append.1 hj with hj | hj
   ·exact mv_kp t (blA ar ag) a h.1 j hj
   ·unfold adJ at hj
    split at hj
    ·rw [List.mem_singleton.1 hj];exact har
    ·split at hj
     ·rw [List.mem_singleton.1 hj];exact har
     ·cases hj
  ·exact mvs_kp k hi ar ag hb ts _ _ h.2 j hj
end
theorem sj_63 {u:T} {m:PM} (hm:mapT u=some m) (hs:m.sets.length≤41) {s:St} (h:SJ (mvT u 0 0).2.2 s):St63 s:=by
 have h1:=sj_in hm h
 obtain ⟨j,hj,_,_,h4,_⟩:=h
 have h5:=mv_kp u 0 0 (map_in4 hm) j hj
 exact ⟨by omega,by omega,by omega⟩
theorem leaves_two {fn:Func} {tmps:Array Value} {R:Ending→World→Prop} {v:Value} {D1 D2:Nat} {W:World} (hne:D1≠D2) (h1:W.heap[D1]? = some (.deferred (some []))) (h2:W.heap[D2]? = some (.deferred (some [])))
  (hfin:∀ W',Chg (fun k=>k=D1∨k=D2) W W'→(results fn tmps).run Tryd.prog W'=.ok v W'∧R (.returned v) W'):LeavesInM Fence.wide 9 Tryd.prog fn tmps R [{ target:=.collected D2,args:=#[] },{ target:=.collected D1,args:=#[] }] .returning W:=by
 have c1:Chg (fun k=>k=D1∨k=D2) W (W.putObj D2 (.deferred none)):=(chg_put (R:=fun k=>k=D2) W D2 (.deferred none) rfl).mono fun x _ e=>.inr e
 refine ⟨by simp,.inl ⟨D2,W.putObj D2 (.deferred none),rfl,run_takeDeferred h2,?_⟩⟩
 have h1':(W.putObj D2 (.deferred none)).heap[D1]? = some (.deferred (some [])):=(World.putObj_heap_other hne).trans h1
 have c2:Chg (fun k=>k=D1∨k=D2) W ((W.putObj D2 (.deferred none)).putObj D1 (.deferred none)):=c1.trans (chg_put (R:=fun k=>k=D1) _ D1 (.deferred none) rfl) fun x _ e=>.inl e
 refine ⟨by simp,.inl ⟨D1,(W.putObj D2 (.deferred none)).putObj D1 (.deferred none),rfl,run_takeDeferred h1',?_⟩⟩
 exact ⟨v,(hfin _ c2).1,(hfin _ c2).2⟩
theorem infoIn:(Tryd.prog.info? 3).map (fun i=>(i.zero,i.size,i.bytes))=some (some (.int .i64 0),1,8):=by kernel_rfl
def FI1 (w9:World) (ab:Nat) (mp:List Value) (mv lv:Value) (em:Bool) (pre:List Nat) (W:World):Prop :=
 ∃ fv,W.heap[ab]? = some (.cells (mp ++ [fv,mv,lv,.bool em]).toArray 38 (0,0))∧IntsR W w9.heap.size fv pre∧Chg (fun x=>x=ab) w9 W
def FI2 (w11:World) (bb n:Nat) (pre:List Nat) (W:World):Prop :=
 W.heap[bb]? = some (.cells ((List.range n).map fun p=>Value.bool (decide (p∈pre))).toArray 4 (0,0))∧Chg (fun x=>x=bb) w11 W
theorem not_cells {w:World} {b:Nat} {cs:Array Value} {e:TypeId} {m:Nat×Nat} (h:w.heap[b]? = some (.cells cs e m)) {l:Nat} (hl:∀ c e fz,w.heap[l]?≠some (.cells c e fz)):b≠l:=fun e=>by subst e;exact hl _ _ _ h
theorem fi1_calm {w9:World} {ab:Nat} {mp:List Value} {mv lv:Value} {em:Bool}:Calm w9.heap.size (FI1 w9 ab mp mv lv em):=by
 rintro pre W W' l ⟨fv,h1,h2,h3⟩ hl hn hc
 refine ⟨fv,(hc.block ab (Array.getElem?_eq_some_iff.1 h1).1 (not_cells h1 hn)).trans h1,h2.keep hc fun x e _ hty=>?_,?_⟩
 ·obtain ⟨cs,m,h⟩:=hty
  exact not_cells h hn e
 ·exact ⟨hc.os.trans h3.os,hc.tape.trans h3.tape,hc.output.trans h3.output,Nat.le_trans h3.size hc.size,fun k hk hne=>(hc.block k (Nat.lt_of_lt_of_le hk h3.size) (fun e=>by have e:k=l:=e;omega)).trans (h3.block k hk hne)⟩
theorem fi2_calm {w11:World} {bb n:Nat}:Calm w11.heap.size (FI2 w11 bb n):=by
 rintro pre W W' l ⟨h1,h3⟩ hl hn hc
 refine ⟨(hc.block bb (Array.getElem?_eq_some_iff.1 h1).1 (not_cells h1 hn)).trans h1,?_⟩
 exact ⟨hc.os.trans h3.os,hc.tape.trans h3.tape,hc.output.trans h3.output,Nat.le_trans h3.size hc.size,fun k hk hne=>(hc.block k (Nat.lt_of_lt_of_le hk h3.size) (fun e=>by have e:k=l:=e;omega)).trans (h3.block k hk hne)⟩
theorem made_bool (n:Nat):madeCells #[.bool false] n=((List.range n).map fun p=>Value.bool (decide (p∈([]:List Nat)))).toArray:=by
 apply Array.ext_getElem?
 intro i
 unfold madeCells
 simp only [List.getElem?_toArray,List.getElem?_map,Array.getElem?_map]
 by_cases hi:i<n
 ·rw [List.getElem?_range hi,Array.getElem?_range,if_pos hi]
  simp [Nat.mod_one]
 ·rw [List.getElem?_eq_none (by simp;omega),Array.getElem?_eq_none (by simp;omega)]
  rfl
theorem tell_set (n p:Nat) (pre:List Nat):((List.range n).map fun q=>Value.bool (decide (q∈pre))).toArray.setIfInBounds p (.bool true)=((List.range n).map fun q=>Value.bool (decide (q∈pre ++ [p]))).toArray:=by
 apply Array.ext_getElem?
 intro i
 rw [Array.getElem?_setIfInBounds]
 simp only [List.getElem?_toArray,List.getElem?_map,List.size_toArray,List.length_map,List.length_range]
 by_cases hi:i<n
 ·rw [List.getElem?_range hi]
  by_cases e:p=i
  ·subst e;simp [hi]
  ·rw [if_neg e]
   have e':¬ i=p:=fun h=>e h.symm
   simp [e']
 ·rw [List.getElem?_eq_none (by simp;omega)]
  split <;> simp
  omega
structure MkR (w w':World) (u:T) (m:PM) (r:V) (sv cv av fv mv lv:Value) (em:Bool) (lb:Nat) (vs:List Value) (L:Nat→List Mv):Prop where
 map:mapT (simT u)=some m
 tree:erase r=simT u
 laid:Laid w' (fun x=>x<w'.heap.size) r
 lists:MapL w' w.heap.size m sv cv av
 sets:m.sets.length≤41
 ars:m.ars.length=m.sets.length
 scs:m.scs.length≤700000
 one:1≤m.sets.length
 first:IntsR w' w.heap.size fv (bitsL (mvT (simT u) 0 0).1.fi)
 mvv:mv=.slice (some ⟨lb,0,none⟩) m.sets.length m.sets.length
 rows:RowsM w' w.heap.size m.sets.length mv vs L
 moves:∀ i,i<m.sets.length→(L i).Pairwise mvLt∧∀ x,x∈L i↔SJ (mvT (simT u) 0 0).2.2 (stOf i x)
 last:w'.ownsRow w.heap.size 4 1 lv m.sets.length ((List.range m.sets.length).map fun p=>.bool ((mvT (simT u) 0 0).1.la.testBit p))
 emp:em=(mvT (simT u) 0 0).1.em
set_option maxHeartbeats 8000000 in
set_option maxRecDepth 100000 in
theorem make_good (t:V) (w:World) (R:Nat→Prop) (ht:Laid w R t) (hz:szT (erase t)≤300000) (hok:okT (erase t)=true) (m:PM) (hm:mapT (simT (erase t))=some m) (hT:TabE w) (hTl:tabE<w.heap.size) :
  Calls Tryd.prog 14 #[nodeAgg t] w fun e w'=>(∃ (r:V) (ta:Option Addr) (tn tc:Nat) (sA:Option Addr) (sN sC:Nat) (cA:Option Addr) (cN cC:Nat) (aA:Option Addr) (aN aC:Nat) (fA:Option Addr) (fN fC:Nat) (lb bb:Nat) (em:Bool) (vs:List Value) (L:Nat→List Mv),
   MkR w w' (erase t) m r (.slice sA sN sC) (.slice cA cN cC) (.slice aA aN aC) (.slice fA fN fC) (.slice (some ⟨lb,0,none⟩) sN sN) (.slice (some ⟨bb,0,none⟩) sN sN) em lb vs L∧r.v=.slice ta tn tc∧e=.returned (.tuple #[.agg #[.int .i64 r.kind,.int .u64 (r.set 0:Nat),.int .u64 (r.set 1:Nat),.int .u64 (r.set 2:Nat),.int .u64 (r.set 3:Nat),.slice ta tn tc,.int .i64 r.lo,.int .i64 r.hi,.slice sA sN sC,.slice cA cN cC,.slice aA aN aC,.slice fA fN fC,.slice (some ⟨lb,0,none⟩) sN sN,.slice (some ⟨bb,0,none⟩) sN sN,.bool em],.int .i64 0]))∧Below w.heap.size w w':=by
 obtain ⟨sa,sn,sc,hs⟩:=ht.slice
 obtain ⟨w2,hw2⟩ : ∃ w2,(w.alloc (.cells #[.int .i64 t.kind,.int .u64 (t.set 0:Nat),.int .u64 (t.set 1:Nat),.int .u64 (t.set 2:Nat),.int .u64 (t.set 3:Nat),.slice sa sn sc,.int .i64 t.lo,.int .i64 t.hi] 27)).alloc (.cells #[.int .i64 0,.int .u64 0,.int .u64 0,.int .u64 0,.int .u64 0,.slice none 0 0,.int .i64 0,.int .i64 0,.slice none 0 0,.slice none 0 0,.slice none 0 0,.slice none 0 0,.slice none 0 0,.slice none 0 0,.bool false] 38)=w2:=⟨_,rfl⟩
 have hb2:Below w.heap.size w w2:=hw2▸((Below.refl _ w).alloc (Nat.le_refl _) _).alloc (by simp) _
 have e1:w2.heap[w.heap.size]? = some (.cells #[.int .i64 t.kind,.int .u64 (t.set 0:Nat),.int .u64 (t.set 1:Nat),.int .u64 (t.set 2:Nat),.int .u64 (t.set 3:Nat),.slice sa sn sc,.int .i64 t.lo,.int .i64 t.hi] 27 (0,0)):=by rw [← hw2];exact (Below.heap_alloc _ _ _ (by simp)).trans (heap_alloc_new w _)
 have e2:w2.heap[w.heap.size+1]? = some (.cells #[.int .i64 0,.int .u64 0,.int .u64 0,.int .u64 0,.int .u64 0,.slice none 0 0,.int .i64 0,.int .i64 0,.slice none 0 0,.slice none 0 0,.slice none 0 0,.slice none 0 0,.slice none 0 0,.slice none 0 0,.bool false] 38 (0,0)):=by
  rw [← hw2]
  have:=heap_alloc_new (w.alloc (.cells #[.int .i64 t.kind,.int .u64 (t.set 0:Nat),.int .u64 (t.set 1:Nat),.int .u64 (t.set 2:Nat),.int .u64 (t.set 3:Nat),.slice sa sn sc,.int .i64 t.lo,.int .i64 t.hi] 27)) (.cells #[.int .i64 0,.int .u64 0,.int .u64 0,.int .u64 0,.int .u64 0,.slice none 0 0,.int .i64 0,.int .i64 0,.slice none 0 0,.slice none 0 0,.slice none 0 0,.slice none 0 0,.slice none 0 0,.slice none 0 0,.bool false] 38)
  rw [World.size_alloc] at this
  exact this
 have HOF:=Lib.hid (show Calls Tryd.prog 21 #[.agg #[.int .i64 t.kind,.int .u64 (t.set 0:Nat),.int .u64 (t.set 1:Nat),.int .u64 (t.set 2:Nat),.int .u64 (t.set 3:Nat),.slice sa sn sc,.int .i64 t.lo,.int .i64 t.hi]] w2 _ by
  have:=of_good t w2 R (laid_low ht hb2) hz hok
  rw [nodeAgg_v hs] at this
  exact this)
 obtain ⟨c0,c1,c2,c3,c4,c5,c6,c7⟩:=cells8 e1
 have hl1:w.heap.size<w2.heap.size:=(Array.getElem?_eq_some_iff.1 e1).1
 have HB:=Lib.hid (And.intro hb2 (And.intro e2 (And.intro hT (And.intro hTl (And.intro hz (And.intro hok hm))))))
 rw [nodeAgg_v hs]
 clear hs ht hz hok hm hb2 e1 e2 hT hTl
 refine (callsIn_wide (n:=9)).1 (callsIn_of_wp_marks Tryd.func14 rfl trivial ?_ rfl)
 refine wpIn_wide.2 ?_
 simp only [Tryd.ntmps14,List.size_toArray,List.length_cons,List.length_nil,Nat.reduceAdd,Nat.reduceSub,Array.replicate_succ,Array.replicate_zero,List.push_toArray,List.append_toArray,List.nil_append,List.cons_append]
 go_upto_region 1 with fail
 clear hw2
 go_wp2_with fail
 go_at_call 21
 refine HOF.out.mono ?_
 rintro e w3 ⟨hE,hb3⟩
 obtain ⟨m',r,ta,tn,tc,sA,sN,sC,cA,cN,cC,aA,aN,aC,hR,hv,rfl⟩ : ∃ (m:PM) (r:V) (ta:Option Addr) (tn tc:Nat) (sA:Option Addr) (sN sC:Nat) (cA:Option Addr) (cN cC:Nat) (aA:Option Addr) (aN aC:Nat),POfR w2 w3 (erase t) m r (.slice sA sN sC) (.slice cA cN cC) (.slice aA aN aC)∧r.v=.slice ta tn tc∧e=.returned (.tuple #[.agg #[.int .i64 r.kind,.int .u64 (r.set 0:Nat),.int .u64 (r.set 1:Nat),.int .u64 (r.set 2:Nat),.int .u64 (r.set 3:Nat),.slice ta tn tc,.int .i64 r.lo,.int .i64 r.hi,.slice sA sN sC,.slice cA cN cC,.slice aA aN aC],.int .i64 0]):=by
  rcases hE with h | ⟨hn,_⟩
  ·exact h
  ·rw [HB.out.2.2.2.2.2.2] at hn;cases hn
 obtain rfl:m=m':=Option.some.inj (HB.out.2.2.2.2.2.2.symm.trans hR.some)
 obtain ⟨rk,hrk⟩ : ∃ rk,rk=r.kind:=⟨_,rfl⟩
 obtain ⟨rC,hrC⟩ : ∃ rC,rC=r.set:=⟨_,rfl⟩
 obtain ⟨rl,hrl⟩ : ∃ rl,rl=r.lo:=⟨_,rfl⟩
 obtain ⟨rh,hrh⟩ : ∃ rh,rh=r.hi:=⟨_,rfl⟩
 rw [← hrk,← hrC,← hrl,← hrh]
 have hnd:ndc r=[.int .i64 rk,.int .u64 (rC 0:Nat),.int .u64 (rC 1:Nat),.int .u64 (rC 2:Nat),.int .u64 (rC 3:Nat),.slice ta tn tc,.int .i64 rl,.int .i64 rh]:=by unfold ndc;rw [hv,← hrk,← hrC,← hrl,← hrh]
 obtain ⟨mk,hmk⟩ : ∃ mk,mk=w3.heap.size:=⟨_,rfl⟩
 obtain ⟨w4,hw4⟩ : ∃ w4,w3.alloc (.cells #[.int .i64 rk,.int .u64 (rC 0:Nat),.int .u64 (rC 1:Nat),.int .u64 (rC 2:Nat),.int .u64 (rC 3:Nat),.slice ta tn tc,.int .i64 rl,.int .i64 rh,.slice sA sN sC,.slice cA cN cC,.slice aA aN aC] 33)=w4:=⟨_,rfl⟩
 have hb34:Below w3.heap.size w3 w4:=hw4▸(Below.refl _ w3).alloc (Nat.le_refl _) _
 have hb4:Below w2.heap.size w2 w4:=bhop hb3 hb34
 have em4:w4.heap[mk]? = some (.cells #[.int .i64 rk,.int .u64 (rC 0:Nat),.int .u64 (rC 1:Nat),.int .u64 (rC 2:Nat),.int .u64 (rC 3:Nat),.slice ta tn tc,.int .i64 rl,.int .i64 rh,.slice sA sN sC,.slice cA cN cC,.slice aA aN aC] 33 (0,0)):=by rw [hmk,← hw4];exact heap_alloc_new w3 _
 have hs4:w4.heap.size=mk+1:=by rw [← hw4,hmk];simp
 have HR:=Lib.hid (And.intro hR (And.intro hv (And.intro hnd (And.intro hb3 (And.intro hmk (And.intro hb34 (And.intro hb4 (And.intro em4 (And.intro hs4 (And.intro hrk (And.intro hrC (And.intro hrl hrh))))))))))))
 have HW4:=Lib.hid hw4
 clear hw4 hb3 hb34 hb4 em4 hs4 hR hv hnd c0 c1 c2 c3 c4 c5 c6 c7 hE hrk hrC hrl hrh
 have HMK:=Lib.hid hmk
 clear hmk
 go_upto_region 4 with fail
 try rw [HW4.out]
 rw [← HMK.out]
 go_wp2_with fail
 go_at_call 22
 refine (newWalker_any w4).mono ?_
 rintro e w5 ⟨wk,mb,jb,rfl,hWk,hk1,hk2,hk3,hb5⟩
 have hW5:Wk w5 wk mb jb 0 (SJ []) (fun k=>k∈([]:List Jt)) 0 0:=hWk.iff (fun s=>⟨fun h=>h.elim,fun ⟨j,hj,_⟩=>by cases hj⟩) (fun s=>⟨fun h=>h.elim,fun h=>by cases h⟩)
 have hT5:TabE w5:=fun i hi=>(World.cell?_of_block (w:=w) (w':=w5) (a:=⟨tabE,i,none⟩) ((hb5.block tabE (by have:=HB.out.2.2.2.1;have:=HB.out.1.size;have:=HR.out.2.2.2.2.2.2.1.size;omega)).trans ((HR.out.2.2.2.2.2.2.1.block tabE (by have:=HB.out.2.2.2.1;have:=HB.out.1.size;omega)).trans (HB.out.1.block tabE HB.out.2.2.2.1)))).trans (HB.out.2.2.1 i hi)
 have hlay:Laid w4 (fun x=>x<w4.heap.size) r:=laid_low (HR.out.1.res.laid.mono fun b hb _=>by have:=HR.out.2.2.2.2.2.1.size;omega) HR.out.2.2.2.2.2.1
 have hnode:NodeB w4.heap.size w5 mk 0 r:=by
  have h1:NodeB w4.heap.size w4 mk 0 r:=⟨by have:=HR.out.2.2.2.2.2.2.2.2.1;omega,fun i u hu=>by
   rw [Nat.zero_add,(row_cells HR.out.2.2.2.2.2.2.2.1).1 i]
   rw [HR.out.2.2.1] at hu
   have hi:i<8:=(List.getElem?_eq_some_iff.1 hu).1
   have:i=0∨i=1∨i=2∨i=3∨i=4∨i=5∨i=6∨i=7:=by omega
   rcases this with rfl | rfl | rfl | rfl | rfl | rfl | rfl | rfl <;> exact hu,hlay⟩
  exact h1.chg (Chg.of_below hb5)
 have hokr:okF r:=by show okT (erase r)=true;rw [HR.out.1.tree];exact (sim_ws _ HB.out.2.2.2.2.2.1).ok
 have hszr:szT (erase r)≤300000:=by rw [HR.out.1.tree];exact Nat.le_trans (sim_sz _) HB.out.2.2.2.2.1
 have hnp:=map_pos HB.out.2.2.2.2.2.2
 have hst:=HR.out.1.sets
 have HWH:=whole_any w4.heap.size mk 0 r w5 hW5 hT5 (by have:=HB.out.2.2.2.1;have:=HB.out.1.size;have:=HR.out.2.2.2.2.2.2.1.size;omega) hb5.size ⟨hk1,hk2,hk3⟩ hnode hokr hszr (by rw [HR.out.1.tree];exact map_in4 HB.out.2.2.2.2.2.2) (by rw [HR.out.1.tree];omega) _ rfl
 rw [HR.out.1.tree] at HWH
 obtain ⟨F,hF⟩ : ∃ F,F=(mvT (simT (erase t)) 0 0).1:=⟨_,rfl⟩
 obtain ⟨js,hjs⟩ : ∃ js,js=(mvT (simT (erase t)) 0 0).2.2:=⟨_,rfl⟩
 rw [← hF,← hjs] at HWH
 replace HWH:=Lib.hid HWH
 have hjl:js.length≤300000:=by have h1:=mv_js (simT (erase t)) 0 0;have h2:=sim_sz (erase t);have h3:=HB.out.2.2.2.2.1;rw [hjs];omega
 have H5:=Lib.hid (And.intro hb5 (And.intro hT5 (And.intro hlay (And.intro hnp (And.intro hF (And.intro hjs (And.intro hjl (And.intro hk1 (And.intro hk2 hk3)))))))))
 clear hWk hk1 hk2 hk3 hb5 hW5 hT5 hlay hnode hokr hszr hnp hst hF hjs hjl
 go_wp2_with fail
 go_at_call 23
 refine HWH.out.mono ?_
 rintro e w6 ⟨rfl,hW6,hc6⟩
 obtain ⟨fb,hfb⟩ : ∃ fb,fb=w6.heap.size:=⟨_,rfl⟩
 obtain ⟨w7,hw7⟩ : ∃ w7,w6.alloc (.cells #[.int .u64 F.fi,.int .u64 F.la,.bool F.em] 72)=w7:=⟨_,rfl⟩
 have hb67:Below w6.heap.size w6 w7:=hw7▸(Below.refl _ w6).alloc (Nat.le_refl _) _
 have hs7:w7.heap.size=fb+1:=by rw [← hw7,hfb];simp
 have ef7:w7.heap[fb]? = some (.cells #[.int .u64 F.fi,.int .u64 F.la,.bool F.em] 72 (0,0)):=by rw [hfb,← hw7];exact heap_alloc_new w6 _
 have hb47:Below w4.heap.size w4 w7:=by
  have h1:=H5.out.1
  have h2:=hc6.below (B:=w4.heap.size) h1.size fun k hk e=>by have:=H5.out.2.2.2.2.2.2.2;omega
  exact (h1.trans h2).trans (hb67.mono (by have:=h1.size;have:=hc6.size;omega))
 have em7:w7.heap[mk]? = some (.cells #[.int .i64 rk,.int .u64 (rC 0:Nat),.int .u64 (rC 1:Nat),.int .u64 (rC 2:Nat),.int .u64 (rC 3:Nat),.slice ta tn tc,.int .i64 rl,.int .i64 rh,.slice sA sN sC,.slice cA cN cC,.slice aA aN aC] 33 (0,0)):=(hb47.block mk (by have:=HR.out.2.2.2.2.2.2.2.2.1;omega)).trans HR.out.2.2.2.2.2.2.2.1
 have hT7:TabE w7:=fun i hi=>(World.cell?_of_block (w:=w) (w':=w7) (a:=⟨tabE,i,none⟩) ((hb47.block tabE (by have:=HB.out.2.2.2.1;have:=HB.out.1.size;have:=HR.out.2.2.2.2.2.2.1.size;omega)).trans ((HR.out.2.2.2.2.2.2.1.block tabE (by have:=HB.out.2.2.2.1;have:=HB.out.1.size;omega)).trans (HB.out.1.block tabE HB.out.2.2.2.1)))).trans (HB.out.2.2.1 i hi)
 have hW7:=hW6.chg (Chg.of_below (R:=fun _=>False) hb67) ⟨id,id,id⟩
 have hsN:sN=m.sets.length:=by
  obtain ⟨A,cp,h⟩:=own_form HR.out.1.lists.sets
  simp only [Value.slice.injEq] at h
  exact h.2.1
 have hsl:sN≤41:=by have:=HR.out.1.sets;omega
 have HSO:=Lib.hid (fun (W:World) (h:Below w7.heap.size w7 W)=>sorted_any W (hW7.chg (Chg.of_below (R:=fun _=>False) h) ⟨id,id,id⟩) sN (by omega) (fun s hs=>by have h1:=sj_in HB.out.2.2.2.2.2.2 (by rw [← H5.out.2.2.2.2.2.1];exact hs);omega) (by have:=H5.out.2.2.2.2.2.2.1;omega))
 have HSF:=Lib.hid (fun (W:World) (h:Below w7.heap.size w7 W)=>show (W.cell? ⟨mk,0,none⟩=some (.int .i64 rk)∧W.cell? ⟨mk,1,none⟩=some (.int .u64 (rC 0:Nat))∧W.cell? ⟨mk,2,none⟩=some (.int .u64 (rC 1:Nat))∧W.cell? ⟨mk,3,none⟩=some (.int .u64 (rC 2:Nat))∧W.cell? ⟨mk,4,none⟩=some (.int .u64 (rC 3:Nat))∧W.cell? ⟨mk,5,none⟩=some (.slice ta tn tc)∧W.cell? ⟨mk,6,none⟩=some (.int .i64 rl)∧W.cell? ⟨mk,7,none⟩=some (.int .i64 rh)∧W.cell? ⟨mk,8,none⟩=some (.slice sA sN sC)∧W.cell? ⟨mk,9,none⟩=some (.slice cA cN cC)∧W.cell? ⟨mk,10,none⟩=some (.slice aA aN aC))∧W.cell? ⟨fb,2,none⟩=some (.bool F.em)∧Below w7.heap.size w7 W by
  obtain ⟨⟨m0,m1,m2,m3,m4,m5,m6,m7,m8,m9,m10⟩,_,hl⟩:=cells11 em7
  have hm:∀ j,W.cell? ⟨mk,j,none⟩=w7.cell? ⟨mk,j,none⟩:=fun j=>World.cell?_of_block (h.block mk hl)
  simp only [hm]
  exact ⟨⟨m0,m1,m2,m3,m4,m5,m6,m7,m8,m9,m10⟩,(World.cell?_of_block (w:=w7) (h.block fb (by omega))).trans ((row_cells ef7).1 2),h⟩)
 have hmks:∀ W,(Instr.makeSlice 36 (.int .i64 (sN:Int)) (.int .i64 (sN:Int))).run Tryd.prog W=.ok (.slice (some ⟨W.heap.size,0,none⟩) sN sN) (W.alloc (.cells (madeCells #[.bool false] sN) 4)):=by
  intro W
  obtain ⟨j0,hj,hy0,hy1,hy2⟩:=info_parts infoBo
  have:=run_makeSlice (P:=Tryd.prog) (w:=W) 36 4 j0 (.bool false) Tryd.underlying36 hj hy0 .i64 .i64 sN sN (by omega) (by omega) (by rw [hy1];omega) (by rw [hy2];omega) (by omega)
  rw [hy1,show (Value.bool false).cells=#[.bool false] from rfl] at this
  simpa using this
 have H7:=Lib.hid (And.intro hb47 (And.intro ef7 (And.intro em7 (And.intro hT7 (And.intro hs7 (And.intro hsN (And.intro hsl (And.intro hc6 hb67))))))))
 have HFB:=Lib.hid hfb
 have m0:(0:Int)≤(sN:Int):=by omega
 clear hW6 hc6 hb67 hs7 ef7 hb47 em7 hT7 hW7 hsN hsl hfb
 go_upto_region 6 with fail
 clear hw7
 rw [← HFB.out]
 refine regMk rk rl rh rC ta sA cA aA tn tc sN sC cN cC aN aC mk wk fb F.em (SJ js) [] _ _ _ _ _ _ _ _ _ _ _ _ _ _ _ _ _ _ _ _ _ _ _ _ _ _ _ _ _ _ _ _ _ _ _ _ _ _ _ _ _ _ _ _ _ _ _ _ _ _ _ _ _ w7 HSO.out (fun W h=>⟨(HSF.out W h).1,(HSF.out W h).2.1⟩) hmks _ ?_
 intro lb bb ab vs L w8 hb8 hrw hmv hbb hbbl hab habl
 have ef8:w8.heap[fb]? = some (.cells #[.int .u64 F.fi,.int .u64 F.la,.bool F.em] 72 (0,0)):=(hb8.block fb (by have:=H7.out.2.2.2.2.1;omega)).trans H7.out.2.1
 obtain ⟨⟨g0,g1,g2⟩,_⟩:=cells3 ef8
 have hfl:fb<w8.heap.size:=(Array.getElem?_eq_some_iff.1 ef8).1
 have H8:=Lib.hid (And.intro hb8 (And.intro hrw (And.intro hmv (And.intro hbb (And.intro hbbl (And.intro hab (And.intro habl ef8)))))))
 clear hb8 hrw hmv hbb hbbl hab habl ef8 hmks HSO HSF
 obtain ⟨j0,hj,hy0,hy1,hy2⟩:=info_parts infoIn
 go_wp2_with fail
 go_at_call 25
 refine (each_any F.fi w8).mono ?_
 rintro e w9' ⟨rfl,rfl⟩
 obtain ⟨w9,hw9⟩ : ∃ w9,w8.alloc (.cells #[.int .u64 F.fi] 70)=w9:=⟨_,rfl⟩
 obtain ⟨bx,hbx⟩ : ∃ bx,bx=w8.heap.size:=⟨_,rfl⟩
 have hb9:Below w8.heap.size w8 w9:=hw9▸(Below.refl _ w8).alloc (Nat.le_refl _) _
 have hs9:w9.heap.size=bx+1:=by rw [← hw9,hbx];simp
 have hp9:w9.heap[bx]? = some (.cells #[.int .u64 F.fi] 70 (0,0)):=by rw [hbx,← hw9];exact heap_alloc_new w8 _
 have hF64:Fc64 F:=by rw [H5.out.2.2.2.2.1];exact fc64_in ((mv_in (simT (erase t)) 0 0).1) (by have h1:=H5.out.2.2.2.1;have h2:=HR.out.1.sets;omega)
 have hb79:Below w7.heap.size w7 w9:=bhop H8.out.1 hb9
 have hT9:w9.heap[tabE]? = w7.heap[tabE]?:=hb79.block tabE (by have h1:=HB.out.2.2.2.1;have h2:=HB.out.1.size;have h3:=HR.out.2.2.2.2.2.2.1.size;have h4:=H7.out.1.size;omega)
 have htl:tabE<w9.heap.size:=by have h1:=HB.out.2.2.2.1;have h2:=HB.out.1.size;have h3:=HR.out.2.2.2.2.2.2.1.size;have h4:=H7.out.1.size;have h5:=hb79.size;omega
 have hab9:w9.heap[ab]? = some (.cells #[.int .i64 rk,.int .u64 (rC 0:Nat),.int .u64 (rC 1:Nat),.int .u64 (rC 2:Nat),.int .u64 (rC 3:Nat),.slice ta tn tc,.int .i64 rl,.int .i64 rh,.slice sA sN sC,.slice cA cN cC,.slice aA aN aC,.slice none 0 0,.slice (some ⟨lb,0,none⟩) sN sN,.slice (some ⟨bb,0,none⟩) sN sN,.bool F.em] 38 (0,0)):=(hb9.block ab (Array.getElem?_eq_some_iff.1 H8.out.2.2.2.2.2.1).1).trans H8.out.2.2.2.2.2.1
 have hit:=each_iter 8 bx F.fi w9 (by omega) ((row_cells hp9).1 0) hF64.fi (fun i hi=>(World.cell?_of_block (w:=w7) (w':=w9) (a:=⟨tabE,i,none⟩) hT9).trans (H7.out.2.2.2.1 i hi)) htl
 have h0:FI1 w9 ab [.int .i64 rk,.int .u64 (rC 0:Nat),.int .u64 (rC 1:Nat),.int .u64 (rC 2:Nat),.int .u64 (rC 3:Nat),.slice ta tn tc,.int .i64 rl,.int .i64 rh,.slice sA sN sC,.slice cA cN cC,.slice aA aN aC] (.slice (some ⟨lb,0,none⟩) sN sN) (.slice (some ⟨bb,0,none⟩) sN sN) F.em [] w9:=⟨.slice none 0 0,hab9,IntsR.none _ _,Chg.refl _ _⟩
 have H9:=Lib.hid (And.intro hb9 (And.intro hs9 (And.intro hp9 (And.intro hF64 (And.intro hb79 (And.intro hT9 (And.intro htl (And.intro hab9 hbx))))))))
 clear hb9 hs9 hp9 hF64 hb79 hT9 htl hab9 g0 g1 g2 hfl
 go_wp2_with fail
 clear hw9
 rw [← hbx]
 clear hbx
 refine (wpIn_wide (n:=9)).1 ?_
 refine rangeW_law (n:=9) (gf:=38) (lb:=#[.pointer (some ⟨bx,0,none⟩)]) rfl (enters_of Tryd.func38 (by kernel_rfl) rfl)
  hit kpE_t (fun W k o o2 hk _ _=>⟨World.putObj_heap_other (by have:=H9.out;omega),World.putObj_heap_other (by have:=H9.out;omega)⟩) (fun _=>rfl)
  (FI1 w9 ab [.int .i64 rk,.int .u64 (rC 0:Nat),.int .u64 (rC 1:Nat),.int .u64 (rC 2:Nat),.int .u64 (rC 3:Nat),.slice ta tn tc,.int .i64 rl,.int .i64 rh,.slice sA sN sC,.slice cA cN cC,.slice aA aN aC] (.slice (some ⟨lb,0,none⟩) sN sN) (.slice (some ⟨bb,0,none⟩) sN sN) F.em) (fun _ _=>False) fi1_calm (fun _ _ _ _ h=>h.elim) h0 ?round ?done ?stop
 case stop=>intro D pre x post W _ h _ _;exact h.elim
 case round =>
  clear h0 hit
  intro l pre p W hI hnext hl1 hl2
  have hplen:pre.length<64:=by
   obtain ⟨post,h⟩:=hnext
   have:=bits_len F.fi
   rw [h] at this
   simp at this
   omega
  have HI0:=Lib.hid hI
  clear hI hnext
  simp only [encE]
  gi_wp2
  refine ⟨KeepsFrom.refl _ _,⟨rfl,rfl⟩,HI0.out,?_⟩
  intro v2 hc2 _ hI2
  clear hc2
  obtain ⟨fv,h1,h2,h3⟩:=hI2
  obtain ⟨fA,fC,rfl⟩:=h2.form
  have hq:=row_cells h1
  have r1:v2.cell? ⟨ab,11,none⟩=some (.slice fA pre.length fC):=hq.1 11
  have r2:=hq.2 11
  have hrv:ab<v2.heap.size:=(Array.getElem?_eq_some_iff.1 h1).1
  have HX:=Lib.hid (And.intro h1 (And.intro h2 h3))
  obtain ⟨ln,hln⟩ : ∃ ln,ln=pre.length:=⟨_,rfl⟩
  rw [← hln] at r1 hplen
  have HLN:=Lib.hid hln
  clear h1 h2 h3 hq hln hl1 hl2
  gi_wp2_with ((gi_at_builtin;refine wpListIn_append_own_at _ rfl _ _ 34 rfl w9.heap.size 3 j0 _ 1 8 Tryd.underlying34 hj hy0 hy1 hy2 rfl (by decide) (.slice fA ln fC) ln (ints pre) rfl ((by have:=HX.out.2.1.own.alloc (.cells #[.int .i64 p] 3);rw [← HLN.out] at this;exact this)) ⟨v2.heap.size,0,none⟩ 1 1 [.int .i64 p] rfl rfl ?n1 (by simp [Value.oneCell']) ?n2 ?n3 ?n4 ?_))
  case n1=>exact World.news_of_block (heap_alloc_new v2 _)
  case n2=>unfold maxLen;omega
  case n3=>omega
  case n4=>have:=HX.out.2.2.size;simp;omega
  intro v5 W5 hown5 hgrow5 _ hat5
  obtain ⟨g5,cap5,rfl⟩:=ownsRow_succ hown5
  have hown:v2.ownsRow w9.heap.size 3 1 (.slice fA ln fC) ln (ints pre):=by have:=HX.out.2.1.own;rw [← HLN.out] at this;exact this
  have hc5:Chg (fun k=>(Value.slice fA ln fC).ownBlock=some k) v2 W5:=((Chg.refl (fun k=>(Value.slice fA ln fC).ownBlock=some k) v2).alloc _).grown hgrow5 (fun k hk _=>hk)
  have hty:∀ {k:Nat} {ty:TypeId},(Value.slice fA ln fC).ownBlock=some k→TyB v2 k ty→ty=3:=fun {k ty} e h=>h.eq (own_ty hown e)
  have hnab:¬ (Value.slice fA ln fC).ownBlock=some ab:=fun e=>by have:=hty e ⟨_,_,HX.out.1⟩;revert this;decide
  have e1:=(hc5.block ab hrv hnab).trans HX.out.1
  have e2:=(row_cells e1).2 11
  have e3:W5.cell? ⟨ab,11,none⟩=some (.slice fA ln fC):=by rw [(row_cells e1).1 11,HLN.out];rfl
  have hr5:ab<W5.heap.size:=(Array.getElem?_eq_some_iff.1 e1).1
  have HY:=Lib.hid (And.intro hown5 (And.intro hgrow5 (And.intro hat5 (And.intro hc5 (And.intro e1 hown)))))
  clear hown5 hgrow5 hat5 hc5 e1 hown hty hnab
  gi_wp2
  obtain ⟨hown5,hgrow5,hat5,hc5,e1,hown⟩:=HY.out
  obtain ⟨h1,h2,h3⟩:=HX.out
  have hty:∀ {k:Nat} {ty:TypeId},(Value.slice fA ln fC).ownBlock=some k→TyB v2 k ty→ty=3:=fun {k ty} e h=>h.eq (own_ty hown e)
  have hc6:Chg (fun k=>k=ab) W5 (W5.setCell ⟨ab,11,none⟩ (.slice (some ⟨g5,0,none⟩) (ln+1) cap5)):=(Chg.refl (fun k=>k=ab) W5).setCell (p:=⟨ab,11,none⟩) (fun _=>rfl) _
  have hbx2:v2.heap[bx]? = some (.cells #[.int .u64 F.fi] 70 (0,0)):=(h3.block bx (by have:=H9.out.2.1;omega) (fun e=>by have:=H9.out.2.2.1;rw [e,H9.out.2.2.2.2.2.2.2.1] at this;simp at this)).trans H9.out.2.2.1
  have htb2:v2.heap[tabE]? = w9.heap[tabE]?:=h3.block tabE H9.out.2.2.2.2.2.2.1 (fun e=>by
   have h4:=H8.out.2.2.2.2.2.2.1
   have h5:=H7.out.1.size
   have h6:=HR.out.2.2.2.2.2.2.1.size
   have h7:=HB.out.2.2.2.1
   have h8:=HB.out.1.size
   omega)
  refine ⟨(((KeepsOthers.alloc v2 _).trans (KeepsOthers.of_grownBy hgrow5 fun j o hj' ho=>?_)).trans (KeepsOthers.setCell _ _ _)).from _,⟨?_,?_⟩,.slice (some ⟨g5,0,none⟩) (ln+1) cap5,?_,⟨?_,fun h=>?_⟩,?_⟩
  ·obtain ⟨cs,mm,h⟩:=own_ty hown hj'
   rw [Below.heap_alloc _ _ _ (Array.getElem?_eq_some_iff.1 h).1,h] at ho
   rw [← Option.some.inj ho]
   rfl
  ·refine (hc6.block bx (by have:=hc5.size;have:=(Array.getElem?_eq_some_iff.1 hbx2).1;omega) (fun e=>by rw [e,h1] at hbx2;simp at hbx2)).trans (hc5.block bx (Array.getElem?_eq_some_iff.1 hbx2).1 fun e=>?_)
   have:=hty e ⟨_,_,hbx2⟩
   revert this;decide
  ·refine (hc6.block tabE (by have:=hc5.size;have:=h3.size;have:=H9.out.2.2.2.2.2.2.1;omega) (fun e=>by
    have h4:=H8.out.2.2.2.2.2.2.1
    have h5:=H7.out.1.size
    have h6:=HR.out.2.2.2.2.2.2.1.size
    have h7:=HB.out.2.2.2.1
    have h8:=HB.out.1.size
    omega)).trans (hc5.block tabE (by have:=h3.size;have:=H9.out.2.2.2.2.2.2.1;omega) fun e=>?_)
   have:=(hown.lt _ e).1
   have:=H9.out.2.2.2.2.2.2.1
   omega
  ·rw [heap_setCell_same W5 ab _ _ _ _ e1]
   rfl
  ·have e4:(pre ++ [p]).length=ln+1:=by rw [List.length_append,← HLN.out];rfl
   have e5:ints (pre ++ [p])=ints pre ++ [.int .i64 (p:Int)]:=by simp [ints]
   rw [e4,e5]
   refine own_chg hown5 hc6 fun b hb e=>?_
   have e6:g5=b:=Option.some.inj hb
   rcases hat5 with h | h
   ·have:=hty (k:=ab) (by rw [← h,← e,hb]) ⟨_,_,h1⟩
    revert this;decide
   ·rw [hb] at h
    have:=Option.some.inj h
    (try simp at this)
    omega
  ·simp at h
  ·exact (h3.trans hc5 fun k hk e=>by have:=(hown.lt k e).1;omega).setCell (p:=⟨ab,11,none⟩) (fun _=>rfl) _
 case done =>
  clear h0 hit
  intro D1 W1 hI hD hK
  obtain ⟨fv,a1,a2,a3⟩:=hI
  obtain ⟨fA,fC,rfl⟩:=a2.form
  obtain ⟨fN,hfN⟩ : ∃ fN,fN=(bitsL F.fi).length:=⟨_,rfl⟩
  have hbbt:TyB w8 bb 4:=⟨_,_,H8.out.2.2.2.1⟩
  have habt:TyB w8 ab 38:=⟨_,_,H8.out.2.2.2.2.2.1⟩
  have hfbt:TyB w8 fb 72:=⟨_,_,H8.out.2.2.2.2.2.2.2⟩
  have n1:bb≠ab:=fun e=>by rw [e] at hbbt;have:=hbbt.eq habt;revert this;decide
  have n2:fb≠ab:=fun e=>by rw [e] at hfbt;have:=hfbt.eq habt;revert this;decide
  have n3:fb≠bb:=fun e=>by rw [e] at hfbt;have:=hfbt.eq hbbt;revert this;decide
  have hb9:=H9.out.1
  have ef1:W1.heap[fb]? = some (.cells #[.int .u64 F.fi,.int .u64 F.la,.bool F.em] 72 (0,0)):=(a3.block fb (by have:=hb9.size;have:=hfbt.lt;omega) n2).trans ((hb9.block fb hfbt.lt).trans H8.out.2.2.2.2.2.2.2)
  have eb1:W1.heap[bb]? = some (.cells (madeCells #[.bool false] sN) 4 (0,0)):=(a3.block bb (by have:=hb9.size;have:=hbbt.lt;omega) n1).trans ((hb9.block bb hbbt.lt).trans H8.out.2.2.2.1)
  obtain ⟨⟨g0,g1,g2⟩,_⟩:=cells3 ef1
  have hfl:fb<W1.heap.size:=(Array.getElem?_eq_some_iff.1 ef1).1
  have HK1:=Lib.hid (And.intro a1 (And.intro a2 (And.intro a3 (And.intro hfN (And.intro n1 (And.intro n2 (And.intro n3 (And.intro ef1 (And.intro eb1 (And.intro hD hK))))))))))
  clear a1 a2 a3 hfN hbbt habt hfbt n1 n2 n3 hb9 ef1 eb1 hD hK
  go_wp2_with fail
  go_at_call 25
  refine (each_any F.la W1).mono ?_
  rintro e w10' ⟨rfl,rfl⟩
  obtain ⟨w10,hw10⟩ : ∃ w10,W1.alloc (.cells #[.int .u64 F.la] 70)=w10:=⟨_,rfl⟩
  obtain ⟨bx2,hbx2⟩ : ∃ bx2,bx2=W1.heap.size:=⟨_,rfl⟩
  have hb10:Below W1.heap.size W1 w10:=hw10▸(Below.refl _ W1).alloc (Nat.le_refl _) _
  have hs10:w10.heap.size=bx2+1:=by rw [← hw10,hbx2];simp
  have hp10:w10.heap[bx2]? = some (.cells #[.int .u64 F.la] 70 (0,0)):=by rw [hbx2,← hw10];exact heap_alloc_new W1 _
  have eb10:w10.heap[bb]? = some (.cells (madeCells #[.bool false] sN) 4 (0,0)):=(hb10.block bb (Array.getElem?_eq_some_iff.1 HK1.out.2.2.2.2.2.2.2.2.1).1).trans HK1.out.2.2.2.2.2.2.2.2.1
  have ea10:=(hb10.block ab (Array.getElem?_eq_some_iff.1 HK1.out.1).1).trans HK1.out.1
  have htb1:w10.heap[tabE]? = w9.heap[tabE]?:=(hb10.block tabE (by have:=HK1.out.2.2.1.size;have:=H9.out.2.2.2.2.2.2.1;omega)).trans (HK1.out.2.2.1.block tabE H9.out.2.2.2.2.2.2.1 (fun e=>by
   have h4:=H8.out.2.2.2.2.2.2.1
   have h5:=H7.out.1.size
   have h6:=HR.out.2.2.2.2.2.2.1.size
   have h7:=HB.out.2.2.2.1
   have h8:=HB.out.1.size
   omega))
  have htl2:tabE<w10.heap.size:=by have:=HK1.out.2.2.1.size;have:=H9.out.2.2.2.2.2.2.1;have:=hb10.size;omega
  have hit2:=each_iter 8 bx2 F.la w10 (by omega) ((row_cells hp10).1 0) H9.out.2.2.2.1.la (fun i hi=>(World.cell?_of_block (w:=w7) (w':=w10) (a:=⟨tabE,i,none⟩) (htb1.trans H9.out.2.2.2.2.2.1)).trans (H7.out.2.2.2.1 i hi)) htl2
  have h02:FI2 w10 bb sN [] w10:=⟨by rw [← made_bool];exact eb10,Chg.refl _ _⟩
  have H10:=Lib.hid (And.intro hb10 (And.intro hs10 (And.intro hp10 (And.intro eb10 (And.intro ea10 (And.intro htl2 hbx2))))))
  clear hb10 hs10 hp10 eb10 ea10 htb1 htl2 g0 g1 g2 hfl
  go_wp2_with fail
  clear hw10
  rw [← hbx2]
  clear hbx2
  refine (wpIn_wide (n:=9)).1 ?_
  refine rangeW_law (n:=9) (gf:=38) (lb:=#[.pointer (some ⟨bx2,0,none⟩)]) rfl (enters_of Tryd.func38 (by kernel_rfl) rfl)
   hit2 kpE_t (fun W k o o2 hk _ _=>⟨World.putObj_heap_other (by have:=H10.out;omega),World.putObj_heap_other (by have:=H10.out;omega)⟩) (fun _=>rfl)
   (FI2 w10 bb sN) (fun _ _=>False) fi2_calm (fun _ _ _ _ h=>h.elim) h02 ?round2 ?done2 ?stop2
  case stop2=>intro D pre x post W _ h _ _;exact h.elim
  case round2 =>
   clear h02 hit2
   intro l pre p W hI hnext hl1 hl2
   have hpn:p<sN:=by
    obtain ⟨post,h⟩:=hnext
    have h1:p∈bitsL F.la:=by rw [h];simp
    have h2:=(mem_bits.1 h1).2
    rw [H5.out.2.2.2.2.1] at h2
    have h3:=(mv_in (simT (erase t)) 0 0).1.la _ h2
    have h4:=H5.out.2.2.2.1
    have h5:=H7.out.2.2.2.2.2.1
    omega
   have HI0:=Lib.hid hI
   clear hI hnext
   simp only [encE]
   gi_wp2
   refine ⟨KeepsFrom.refl _ _,⟨rfl,rfl⟩,HI0.out,?_⟩
   intro v2 hc2 _ hI2
   clear hc2
   obtain ⟨h1,h3⟩:=hI2
   have ea:=(h3.block ab (Array.getElem?_eq_some_iff.1 H10.out.2.2.2.2.1).1 (fun e=>HK1.out.2.2.2.2.1 e.symm)).trans H10.out.2.2.2.2.1
   have r0:v2.cell? ⟨ab,13,none⟩=some (.slice (some ⟨bb,0,none⟩) sN sN):=(row_cells ea).1 13
   have r1:v2.cell? ⟨bb,p,none⟩=some (.bool (decide (p∈pre))):=by rw [(row_cells h1).1 p];simp [hpn]
   have r2:=(row_cells h1).2 p
   have hrv:bb<v2.heap.size:=(Array.getElem?_eq_some_iff.1 h1).1
   have hra:ab<v2.heap.size:=(Array.getElem?_eq_some_iff.1 ea).1
   have p1:(0:Int)≤(p:Int):=by omega
   have p2:(p:Int)<(sN:Int):=by omega
   have HX:=Lib.hid (And.intro h1 h3)
   clear h1 h3 ea hl1 hl2
   gi_wp2
   obtain ⟨h1,h3⟩:=HX.out
   have hc6:Chg (fun k=>k=bb) v2 (v2.setCell ⟨bb,p,none⟩ (.bool true)):=(Chg.refl (fun k=>k=bb) v2).setCell (p:=⟨bb,p,none⟩) (fun _=>rfl) _
   have hbxn:bx2≠bb:=fun e=>by have:=H10.out.2.2.1;rw [e,H10.out.2.2.2.1] at this;simp at this
   refine ⟨(KeepsOthers.setCell _ _ _).from _,⟨hc6.block bx2 (by have:=h3.size;have:=H10.out.2.1;omega) hbxn,hc6.block tabE (by have:=h3.size;have:=H10.out.2.2.2.2.2.1;omega) fun e=>?_⟩,?_,h3.trans hc6 fun _ _ e=>e⟩
   ·have h4:=H8.out.2.2.2.2.1
    have h5:=H7.out.1.size
    have h6:=HR.out.2.2.2.2.2.2.1.size
    have h7:=HB.out.2.2.2.1
    have h8:=HB.out.1.size
    omega
   ·rw [heap_setCell_same v2 bb _ _ _ _ h1,tell_set]
  case done2 =>
   clear h02 hit2
   intro D2 W2 hI2 hD2 hK2
   obtain ⟨b1,b3⟩:=hI2
   have hne12:D1≠D2:=fun e=>by have:=(Array.getElem?_eq_some_iff.1 HK1.out.2.2.2.2.2.2.2.2.2.2).1;have:=H10.out.2.1;have:=H10.out.1.size;omega
   have hDbb:D1≠bb:=fun e=>by have:=HK1.out.2.2.2.2.2.2.2.2.2.2;rw [e,HK1.out.2.2.2.2.2.2.2.2.1] at this;cases this
   have hD12:W2.heap[D1]? = some (.deferred (some [])):=(b3.block D1 (by have:=(Array.getElem?_eq_some_iff.1 HK1.out.2.2.2.2.2.2.2.2.2.2).1;have:=H10.out.1.size;omega) hDbb).trans ((H10.out.1.block D1 (Array.getElem?_eq_some_iff.1 HK1.out.2.2.2.2.2.2.2.2.2.2).1).trans HK1.out.2.2.2.2.2.2.2.2.2.2)
   have ea2:W2.heap[ab]? = some (.cells #[.int .i64 rk,.int .u64 (rC 0:Nat),.int .u64 (rC 1:Nat),.int .u64 (rC 2:Nat),.int .u64 (rC 3:Nat),.slice ta tn tc,.int .i64 rl,.int .i64 rh,.slice sA sN sC,.slice cA cN cC,.slice aA aN aC,.slice fA fN fC,.slice (some ⟨lb,0,none⟩) sN sN,.slice (some ⟨bb,0,none⟩) sN sN,.bool F.em] 38 (0,0)):=by
    have h1:=(b3.block ab (Array.getElem?_eq_some_iff.1 H10.out.2.2.2.2.1).1 (fun e=>HK1.out.2.2.2.2.1 e.symm)).trans H10.out.2.2.2.2.1
    rw [← HK1.out.2.2.2.1] at h1
    exact h1
   have c89:Chg (fun x=>x=ab∨x=bb) w8 W2:=((((Chg.of_below (R:=fun x=>x=ab∨x=bb) H9.out.1).trans HK1.out.2.2.1 fun x _ e=>.inl e).trans (Chg.of_below (R:=fun _=>False) H10.out.1) fun _ _ q=>q.elim).trans b3 fun x _ e=>.inr e)
   have hsz8:w.heap.size+1<w2.heap.size:=(Array.getElem?_eq_some_iff.1 HB.out.2.1).1
   have h24:=HR.out.2.2.2.2.2.2.1
   have h47:=H7.out.1
   have h78:=H8.out.1
   have hs24:=h24.size
   have hs47:=h47.size
   have hs78:=h78.size
   have hs82:=c89.size
   have eT8:w8.heap[w.heap.size+1]? = some (.cells #[.int .i64 0,.int .u64 0,.int .u64 0,.int .u64 0,.int .u64 0,.slice none 0 0,.int .i64 0,.int .i64 0,.slice none 0 0,.slice none 0 0,.slice none 0 0,.slice none 0 0,.slice none 0 0,.slice none 0 0,.bool false] 38 (0,0)):=(h78.block _ (by omega)).trans ((h47.block _ (by omega)).trans ((h24.block _ (by omega)).trans HB.out.2.1))
   have habl:=H8.out.2.2.2.2.2.2.1
   have hbbl:=H8.out.2.2.2.2.1
   have eT2:W2.heap[w.heap.size+1]? = some (.cells #[.int .i64 0,.int .u64 0,.int .u64 0,.int .u64 0,.int .u64 0,.slice none 0 0,.int .i64 0,.int .i64 0,.slice none 0 0,.slice none 0 0,.slice none 0 0,.slice none 0 0,.slice none 0 0,.slice none 0 0,.bool false] 38 (0,0)):=(c89.block _ (by omega) (by omega)).trans eT8
   obtain ⟨⟨m0,m1,m2,m3,m4,m5,m6,m7,m8,m9,m10,m11,m12,m13,m14⟩,_,hal⟩:=cells15 ea2
   obtain ⟨⟨z0,z1,z2,z3,z4,z5,z6,z7,z8,z9,z10,z11,z12,z13,z14⟩,hf,htl3⟩:=cells15 eT2
   have f0:=hf 0
   have f1:=hf 1
   have f2:=hf 2
   have f3:=hf 3
   have f4:=hf 4
   have f5:=hf 5
   have f6:=hf 6
   have f7:=hf 7
   have f8:=hf 8
   have f9:=hf 9
   have f10:=hf 10
   have f11:=hf 11
   have f12:=hf 12
   have f13:=hf 13
   have f14:=hf 14
   have HE:=Lib.hid (And.intro b1 (And.intro b3 (And.intro hne12 (And.intro hD12 (And.intro ea2 (And.intro c89 (And.intro hsz8 (And.intro eT2 (And.intro hD2 hK2)))))))))
   have HZ:=Lib.hid (And.intro hs24 (And.intro hs47 (And.intro hs78 (And.intro hs82 (And.intro habl hbbl)))))
   clear hf b1 b3 hne12 hDbb hD12 ea2 c89 hsz8 h24 h47 h78 hs24 hs47 hs78 hs82 eT8 habl hbbl eT2 hD2 hK2
   go_wp2_with fail
   clear m0 m1 m2 m3 m4 m5 m6 m7 m8 m9 m10 m11 m12 m13 m14 z0 z1 z2 z3 z4 z5 z6 z7 z8 z9 z10 z11 z12 z13 z14 f0 f1 f2 f3 f4 f5 f6 f7 f8 f9 f10 f11 f12 f13 f14
   have hf13:=set15_heap HE.out.2.2.2.2.2.2.2.1 (.int .i64 rk) (.int .u64 (rC 0:Nat)) (.int .u64 (rC 1:Nat)) (.int .u64 (rC 2:Nat)) (.int .u64 (rC 3:Nat)) (.slice ta tn tc) (.int .i64 rl) (.int .i64 rh) (.slice sA sN sC) (.slice cA cN cC) (.slice aA aN aC) (.slice fA fN fC) (.slice (some ⟨lb,0,none⟩) sN sN) (.slice (some ⟨bb,0,none⟩) sN sN) (.bool F.em)
   have hc13:=set15_chg W2 (w.heap.size+1) (.int .i64 rk) (.int .u64 (rC 0:Nat)) (.int .u64 (rC 1:Nat)) (.int .u64 (rC 2:Nat)) (.int .u64 (rC 3:Nat)) (.slice ta tn tc) (.int .i64 rl) (.int .i64 rh) (.slice sA sN sC) (.slice cA cN cC) (.slice aA aN aC) (.slice fA fN fC) (.slice (some ⟨lb,0,none⟩) sN sN) (.slice (some ⟨bb,0,none⟩) sN sN) (.bool F.em)
   generalize (((((((((((((((W2.setCell ⟨w.heap.size+1,0,none⟩ (.int .i64 rk)).setCell ⟨w.heap.size+1,1,none⟩ (.int .u64 (rC 0:Nat))).setCell ⟨w.heap.size+1,2,none⟩ (.int .u64 (rC 1:Nat))).setCell ⟨w.heap.size+1,3,none⟩ (.int .u64 (rC 2:Nat))).setCell ⟨w.heap.size+1,4,none⟩ (.int .u64 (rC 3:Nat))).setCell ⟨w.heap.size+1,5,none⟩ (.slice ta tn tc)).setCell ⟨w.heap.size+1,6,none⟩ (.int .i64 rl)).setCell ⟨w.heap.size+1,7,none⟩ (.int .i64 rh)).setCell ⟨w.heap.size+1,8,none⟩ (.slice sA sN sC)).setCell ⟨w.heap.size+1,9,none⟩ (.slice cA cN cC)).setCell ⟨w.heap.size+1,10,none⟩ (.slice aA aN aC)).setCell ⟨w.heap.size+1,11,none⟩ (.slice fA fN fC)).setCell ⟨w.heap.size+1,12,none⟩ (.slice (some ⟨lb,0,none⟩) sN sN)).setCell ⟨w.heap.size+1,13,none⟩ (.slice (some ⟨bb,0,none⟩) sN sN)).setCell ⟨w.heap.size+1,14,none⟩ (.bool F.em))=w13 at *
   obtain ⟨b1,b3,hne12,hD12,ea2,c82,hsz8,eT2,hD2l,hK2⟩:=HE.out
   obtain ⟨hs24,hs47,hs78,hs82,habl,hbbl⟩:=HZ.out
   obtain ⟨a1,a2,a3,hfN,n1,n2,n3,ef1,eb1,hD1l,hK1⟩:=HK1.out
   obtain ⟨hb8,hrw,hmv,hbb,_,hab,_,_⟩:=H8.out
   obtain ⟨hR,hv,hnd,hb3,_,hb34,hb24,em4,hs4,hrk,hrC,hrl,hrh⟩:=HR.out
   have s89:=H9.out.1.size
   have s91:=a3.size
   have s110:=H10.out.1.size
   have hD1:w13.heap[D1]? = some (.deferred (some [])):=(hc13.block D1 (Array.getElem?_eq_some_iff.1 hD12).1 (by omega)).trans hD12
   have hD2:w13.heap[D2]? = some (.deferred (some [])):=(hc13.block D2 (Array.getElem?_eq_some_iff.1 hK2).1 (by omega)).trans hK2
   refine leaves_two (v:=.tuple #[.agg #[.int .i64 rk,.int .u64 (rC 0:Nat),.int .u64 (rC 1:Nat),.int .u64 (rC 2:Nat),.int .u64 (rC 3:Nat),.slice ta tn tc,.int .i64 rl,.int .i64 rh,.slice sA sN sC,.slice cA cN cC,.slice aA aN aC,.slice fA fN fC,.slice (some ⟨lb,0,none⟩) sN sN,.slice (some ⟨bb,0,none⟩) sN sN,.bool F.em],.int .i64 0]) hne12 hD1 hD2 fun W' hc'=>⟨?_,?_⟩
   ·obtain ⟨⟨m0,m1,m2,m3,m4,m5,m6,m7,m8,m9,m10,m11,m12,m13,m14⟩,_⟩:=cells15 ((hc'.block (w.heap.size+1) (Array.getElem?_eq_some_iff.1 hf13).1 (by omega)).trans hf13)
    simp [results,Tryd.results14,go_sem,m0,m1,m2,m3,m4,m5,m6,m7,m8,m9,m10,m11,m12,m13,m14]
   ·have c8:Chg (fun x=>x=ab∨x=bb∨x=w.heap.size+1∨x=D1∨x=D2) w8 W':=((c82.mono fun x _ e=>e.elim .inl fun e=>.inr (.inl e)).trans hc13 fun x _ e=>.inr (.inr (.inl e))).trans hc' fun x _ e=>e.elim (fun e=>.inr (.inr (.inr (.inl e)))) fun e=>.inr (.inr (.inr (.inr e)))
    have habt:TyB w8 ab 38:=⟨_,_,hab⟩
    have hbbt:TyB w8 bb 4:=⟨_,_,hbb⟩
    have hb48:=H7.out.1.trans (hb8.mono hs47)
    have htt:TyB w8 (w.heap.size+1) 38:=⟨_,_,(hb48.block _ (by omega)).trans ((hb24.block _ (by omega)).trans HB.out.2.1)⟩
    have hQ8:∀ x ty,(x=ab∨x=bb∨x=w.heap.size+1∨x=D1∨x=D2)→TyB w8 x ty→ty=38∨ty=4:=by
     rintro x ty (rfl | rfl | rfl | rfl | rfl) h
     ·exact .inl (h.eq habt)
     ·exact .inr (h.eq hbbt)
     ·exact .inl (h.eq htt)
     ·have:=h.lt;omega
     ·have:=h.lt;omega
    have c1:Chg (fun x=>x=bb∨x=w.heap.size+1∨x=D1∨x=D2) W1 W':=((((Chg.of_below (R:=fun x=>x=bb∨x=w.heap.size+1∨x=D1∨x=D2) H10.out.1).trans b3 fun x _ e=>.inl e).trans hc13 fun x _ e=>.inr (.inl e))).trans hc' fun x _ e=>e.elim (fun e=>.inr (.inr (.inl e))) fun e=>.inr (.inr (.inr e))
    have c2:Chg (fun x=>x=w.heap.size+1∨x=D1∨x=D2) W2 W':=(hc13.mono fun x _ e=>.inl e).trans hc' fun x _ e=>.inr e
    have hF:=H5.out.2.2.2.2.1
    have hjs:=H5.out.2.2.2.2.2.1
    have hsN:=H7.out.2.2.2.2.2.1
    have hs64:=H9.out.2.2.2.1
    have hlaid:Laid w4 (fun x=>w2.heap.size≤x∧x<w3.heap.size) r:=laid_low (hR.res.laid.mono fun b _ h=>⟨h.1,h.2.1⟩) hb34
    have hs34:=hb34.size
    have hs23:=hb3.size
    refine ⟨⟨r,ta,tn,tc,sA,sN,sC,cA,cN,cC,aA,aN,aC,fA,fN,fC,lb,bb,F.em,vs,L,⟨HB.out.2.2.2.2.2.2,hR.tree,?_,?_,hR.sets,hR.ars,hR.scs,hR.one,?_,?_,?_,?_,?_,?_⟩,hv,?_⟩,?_⟩
    ·have h8:Laid w8 (fun x=>w2.heap.size≤x∧x<w3.heap.size) r:=hlaid.chg (Chg.of_below (R:=fun _=>False) hb48) fun _ _ _ q=>q
     exact (h8.chg c8 fun b hb h q=>by omega).mono fun b hb _=>hb
    ·have h8:=((hR.lists.keep (Chg.of_below (R:=fun _=>False) hb34) fun _ _ q=>q.elim).keep (Chg.of_below (R:=fun _=>False) hb48) fun _ _ q=>q.elim).lower (B':=w.heap.size) (by omega)
     refine h8.keep c8 fun x ty q _ hty=>?_
     rcases hQ8 x ty q hty with rfl | rfl <;> decide
    ·have h1:IntsR W1 w9.heap.size (.slice fA fN fC) (bitsL F.fi):=by rw [hfN];exact a2
     rw [← hF]
     refine (h1.keep c1 fun x q _ hty=>?_).low (by omega)
     rcases q with rfl | rfl | rfl | rfl
     ·have:=hty.eq ⟨_,_,eb1⟩;revert this;decide
     ·have:=hty.eq (show TyB W1 (w.heap.size+1) 38 from (htt.keep (H9.out.1.block _ htt.lt)).keep (a3.block _ (by have:=htt.lt;omega) (by omega)));revert this;decide
     ·obtain ⟨cs,mm,h⟩:=hty
      rw [hK1] at h;cases h
     ·have:=hty.lt;omega
    ·rw [hsN]
    ·rw [← hsN]
     exact (hrw.low (by omega)).keep c8 fun x ty q _ hty=>by rcases hQ8 x ty q hty with rfl | rfl <;> decide
    ·intro i hi
     rw [← hsN] at hi
     obtain ⟨h1,h2⟩:=hmv i hi
     refine ⟨h1,fun x=>(h2 x).trans ?_⟩
     rw [hjs]
     exact ⟨fun h=>h.2,fun h=>⟨sj_63 HB.out.2.2.2.2.2.2 hR.sets h,h⟩⟩
    ·rw [← hsN,← hF]
     have e1:W'.heap[bb]? = some (.cells ((List.range sN).map fun p=>Value.bool (decide (p∈bitsL F.la))).toArray 4 (0,0)):=(c2.block bb (Array.getElem?_eq_some_iff.1 b1).1 (by
      rintro (e | e | e)
      ·omega
      ·rw [e,hD12] at b1;cases b1
      ·rw [e,hK2] at b1;cases b1)).trans b1
     have e2:((List.range sN).map fun p=>Value.bool (decide (p∈bitsL F.la)))=(List.range sN).map fun p=>Value.bool (F.la.testBit p):=by
      refine List.map_congr_left fun p hp=>?_
      have hp':=List.mem_range.1 hp
      have h41:=H7.out.2.2.2.2.2.2.1
      congr 1
      cases hb:F.la.testBit p with
      | true=>exact decide_eq_true (mem_bits.2 ⟨by omega,hb⟩)
      | false=>exact decide_eq_false fun h=>by rw [(mem_bits.1 h).2] at hb;cases hb
     rw [e2] at e1
     have h41:=H7.out.2.2.2.2.2.2.1
     exact ⟨by simp,.inr ⟨bb,sN,_,rfl,by omega,e1,Nat.le_refl _,by unfold maxLen;omega,by simp,List.take_of_length_le (by simp)⟩⟩
    ·rw [hF]
    ·rw [← hrk,← hrC,← hrl,← hrh]
    ·have b0:=HB.out.1.trans ((hb24.mono (by omega)).trans (hb48.mono (by omega)))
     exact b0.trans (c8.below (B:=w.heap.size) (by omega) fun k hk q=>by omega)
end Go.Proofs.YtbohmcfplgdlpaaDoor

/- What moves keep: the scopes that are around both positions, by the map.
   Conditions: the tree has a map. -/
namespace Go.Proofs.YtbohmcfplgdlpaaDoor
open Go.RowKit
def KpJ (A:List (List Nat)) (j:Jt):Prop:=∀ p q,j.fr.testBit p=true→j.tt.testBit q=true →
 ∃ c x y:List Nat,c.length=j.kp+(if j.ag then 1 else 0)∧A[p]? = some x∧c <+: x∧A[q]? = some y∧c <+: y
theorem KpJ.grow {A A':List (List Nat)} {j:Jt} (h:KpJ A j) (hA:A <+: A'):KpJ A' j:=fun p q hp hq=>by
 obtain ⟨c,x,y,h1,h2,h3,h4,h5⟩:=h p q hp hq
 obtain ⟨B,rfl⟩:=hA
 exact ⟨c,x,y,h1,by rw [List.getElem?_append_left (List.getElem?_eq_some_iff.1 h2).1];exact h2,h3,by rw [List.getElem?_append_left (List.getElem?_eq_some_iff.1 h4).1];exact h4,h5⟩
theorem belP_pre (k lo hi:Int) (al:List Nat) (m:PM):al <+: belP k lo hi al m:=by
 unfold belP
 split
 ·exact List.prefix_append _ _
 ·exact List.prefix_refl _
theorem putP_ars (k:Int) (C:Nat→Nat) (lo hi:Int) (al:List Nat) (m:PM):(putP k C al (scP k lo hi m)).ars=if isPos k C then m.ars ++ [al] else m.ars:=by
 have e:(scP k lo hi m).ars=m.ars:=by unfold scP;split <;> rfl
 unfold putP
 split
 ·show (scP k lo hi m).ars ++ [al]=_;rw [e]
 ·exact e
mutual
theorem mapN_ars:∀ (t:T) (al:List Nat) (m m':PM),mapN t al m=some m'→∃ X,m'.ars=m.ars ++ X∧X.length=npos t∧∀ l∈X,al <+: l
 | .node k C lo hi ps,al,m,m',h=>by
  rw [mapN] at h
  split at h
  ·cases h
  ·obtain ⟨X,h1,h2,h3⟩:=mapsN_ars ps _ _ m' h
   rw [putP_ars] at h1
   rw [npos]
   by_cases hp:isPos k C
   ·rw [if_pos hp] at h1 ⊢
    refine ⟨al :: X,by rw [h1];simp,by simp only [List.length_cons];omega,fun l hl=>?_⟩
    rcases List.mem_cons.1 hl with rfl | hl
    ·exact List.prefix_refl _
    ·exact (belP_pre k lo hi al m).trans (h3 l hl)
   ·rw [if_neg hp] at h1 ⊢
    exact ⟨X,h1,by omega,fun l hl=>(belP_pre k lo hi al m).trans (h3 l hl)⟩
theorem mapsN_ars:∀ (ts:List T) (al:List Nat) (m m':PM),mapsN ts al m=some m'→∃ X,m'.ars=m.ars ++ X∧X.length=nposs ts∧∀ l∈X,al <+: l
 | [],al,m,m',h=>by
  rw [mapsN] at h
  obtain rfl:=Option.some.inj h
  exact ⟨[],by simp,rfl,by simp⟩
 | t :: ts,al,m,m',h=>by
  rw [mapsN] at h
  cases h1:mapN t al m with
  | none=>rw [h1] at h;cases h
  | some m1 =>
   rw [h1] at h
   obtain ⟨X,e1,e2,e3⟩:=mapN_ars t al m m1 h1
   obtain ⟨Y,f1,f2,f3⟩:=mapsN_ars ts al m1 m' h
   refine ⟨X ++ Y,by rw [f1,e1,List.append_assoc],by rw [List.length_append,nposs];omega,fun l hl=>?_⟩
   rcases List.mem_append.1 hl with hl | hl
   ·exact e3 l hl
   ·exact f3 l hl
end
def PreA (A:List (List Nat)) (c:List Nat) (a b:Nat):Prop:=∀ i,a<i→i≤b→∃ x,A[i]? = some x∧c <+: x
theorem PreA.grow {A A':List (List Nat)} {c:List Nat} {a b:Nat} (h:PreA A c a b) (hA:A <+: A'):PreA A' c a b:=fun i h1 h2=>by
 obtain ⟨x,h3,h4⟩:=h i h1 h2
 obtain ⟨B,rfl⟩:=hA
 exact ⟨x,by rw [List.getElem?_append_left (List.getElem?_eq_some_iff.1 h3).1];exact h3,h4⟩
theorem PreA.snoc {A X:List (List Nat)} {c:List Nat} {a0 a:Nat} (h:PreA A c a0 a) (hA:A.length=a+1) (hX:∀ l∈X,c <+: l):PreA (A ++ X) c a0 (a+X.length):=fun i h1 h2=>by
 by_cases hi:i≤a
 ·exact h.grow ⟨X,rfl⟩ i h1 hi
 ·have h3:i - A.length<X.length:=by omega
  refine ⟨X[i - A.length],?_,hX _ (List.getElem_mem h3)⟩
  rw [List.getElem?_append_right (by omega),List.getElem?_eq_getElem h3]
theorem kp_pre {A:List (List Nat)} {c:List Nat} {a b:Nat} {j:Jt} (h:PreA A c a b) (hj:JtIn a b j) (hc:c.length=j.kp+(if j.ag then 1 else 0)):KpJ A j:=fun p q hp hq=>by
 have h1:=hj.fr p hp
 have h2:=hj.tt q hq
 obtain ⟨x,hx,hx2⟩:=h p h1.1 h1.2
 obtain ⟨y,hy,hy2⟩:=h q h2.1 h2.2
 exact ⟨c,x,y,hc,hx,hx2,hy,hy2⟩
mutual
theorem mv_keep:∀ (t:T) (al:List Nat) (m m':PM) (a:Nat),mapN t al m=some m'→m.ars.length=a+1→∀ j∈(mvT t al.length a).2.2,KpJ m'.ars j
 | .node k C lo hi ps,al,m,m',a,h,ha=>by
  rw [mapN] at h
  split at h
  ·cases h
  ·have e:=putP_ars k C lo hi al m
   rw [mvT]
   have hb:(belP k lo hi al m).length=blA al.length (cnt4 k lo hi):=by unfold belP blA;split <;> simp
   refine mvs_keep k hi (belP k lo hi al m) al.length (cnt4 k lo hi) hb (fun hk=>by unfold cnt4;simp [hk]) ps (opF k C lo a) a (opA k C a) _ m' h ?_ (op_le k C a) (op_in k C lo a) ?_
   ·rw [e];unfold opA;split <;> simp [ha]
   ·intro i h1 h2
    by_cases hp:isPos k C
    ·have hi1:i=a+1:=by rw [opA,if_pos hp] at h2;omega
     subst hi1
     rw [e,if_pos hp]
     refine ⟨al,by rw [List.getElem?_append_right (by omega),ha,Nat.sub_self];rfl,?_⟩
     have hk:k=1:=by unfold isPos at hp;simp at hp;exact hp.1
     have:belP k lo hi al m=al:=by unfold belP cnt4;simp [hk]
     rw [this]
     exact List.prefix_refl _
    ·rw [opA,if_neg hp] at h2;omega
theorem mvs_keep (k hi:Int) (bl:List Nat) (ar:Nat) (ag:Bool) (hb:bl.length=blA ar ag) (hk2:k=2→ag=false):∀ (ts:List T) (f:Fc) (a0 a:Nat) (m m':PM),mapsN ts bl m=some m'→m.ars.length=a+1→a0≤a→FcIn a0 a f→PreA m.ars bl a0 a →
  ∀ j∈(mvsT k hi ar ag ts f a).2.2,KpJ m'.ars j
 | [],f,a0,a,m,m',h,ha,h0,hf,hp=>by
  rw [mvsT]
  exact fun j hj=>by cases hj
 | t :: ts,f,a0,a,m,m',h,ha,h0,hf,hp=>by
  rw [mapsN] at h
  cases h1:mapN t bl m with
  | none=>rw [h1] at h;cases h
  | some m1 =>
   rw [h1] at h
   obtain ⟨X,e1,e2,e3⟩:=mapN_ars t bl m m1 h1
   obtain ⟨Y,f1,f2,f3⟩:=mapsN_ars ts bl m1 m' h
   have hg:=mv_in t bl.length a
   have hat:=mv_at t bl.length a
   have hK:=mv_keep t bl m m1 a h1 ha
   have hp1:PreA m1.ars bl a0 (a+npos t):=by rw [e1,← e2];exact hp.snoc ha e3
   have hf1:FcIn a0 (a+npos t) f:=hf.wid (Nat.le_refl _) (by omega)
   have hg1:FcIn a0 (a+npos t) (mvT t bl.length a).1:=hg.1.wid h0 (Nat.le_refl _)
   rw [mvsT,← hb]
   simp only
   intro j hj
   rcases List.mem_append.1 hj with hj | hj
   ·rcases List.mem_append.1 hj with hj | hj
    ·exact (hK j hj).grow ⟨Y,f1.symm⟩
    ·refine KpJ.grow ?_ ⟨Y,f1.symm⟩
     unfold adJ at hj
     split at hj
     ·rename_i hk
      rw [List.mem_singleton.1 hj]
      refine kp_pre hp1 ⟨hf1.la,hg1.fi⟩ ?_
      rw [hb,hk2 hk];rfl
     ·split at hj
      ·rw [List.mem_singleton.1 hj]
       refine kp_pre hp1 ⟨hg1.la,hg1.fi⟩ ?_
       rw [hb];unfold blA;cases ag <;> rfl
      ·cases hj
   ·refine mvs_keep k hi bl ar ag hb hk2 ts _ a0 _ m1 m' h ?_ ?_ ?_ ?_ j hj
    ·rw [e1,List.length_append,hat];omega
    ·rw [hat];omega
    ·rw [hat];exact ad_in hf1 hg1
    ·rw [hat];exact hp1
end
theorem moves_keep {t:T} {m:PM} (h:mapT t=some m):∀ j∈(mvT t 0 0).2.2,KpJ m.ars j:=mv_keep t [] pm0 m 0 h rfl
end Go.Proofs.YtbohmcfplgdlpaaDoor

/- Positions that are reached: each is one with which a simple tree begins, or a joint goes to it; and one with which it ends, or a joint goes from it.
   Conditions: the tree is simple. -/
namespace Go.Proofs.YtbohmcfplgdlpaaDoor
open Go.RowKit
inductive AlT:T→Prop
 | mk (k:Int) (C:Nat→Nat) (lo hi:Int) (ps:List T) (h3:k=3→∃ p∈ps,p.kind≠0) (hp:∀ p∈ps,AlT p):AlT (.node k C lo hi ps)
theorem AlT.part {t:T} (h:AlT t):∀ p∈t.ps,AlT p:=by
 cases h with
 | mk k C lo hi ps _ hp=>exact hp
def Has1 (n:Nat):Prop:=∃ p,n.testBit p=true
structure RcT (t:T):Prop where
 ok:okT t=true
 ln:lnT t=true
 sm:SmT t
 al:AlT t
theorem RcT.part {t:T} (h:RcT t):∀ p∈t.ps,RcT p:=fun p hp=>⟨by cases t with | node k C lo hi ps=>exact oks_mem (ok_parts h.ok) p hp,ln_ps h.ln p hp,h.sm.part p hp,h.al.part p hp⟩
def RcP (f:Fc) (js:List Jt) (p:Nat):Prop:=(f.fi.testBit p=true∨∃ j∈js,j.tt.testBit p=true∧Has1 j.fr)∧(f.la.testBit p=true∨∃ j∈js,j.fr.testBit p=true∧Has1 j.tt)
theorem RcP.more {f:Fc} {js js':List Jt} {p:Nat} (h:RcP f js p) (hs:∀ j∈js,j∈js'):RcP f js' p :=
 ⟨h.1.imp id fun ⟨j,hj,r⟩=>⟨j,hs j hj,r⟩,h.2.imp id fun ⟨j,hj,r⟩=>⟨j,hs j hj,r⟩⟩
end Go.Proofs.YtbohmcfplgdlpaaDoor

/- What the statements on moves share: the automaton read, the leaf's automaton, whether something is repeated.
   Conditions: those that each theorem states. -/
namespace Go.Proofs.YtbohmcfplgdlpaaDoor
open Go.RowKit Go.Shelf
attribute [local go_sem] nodeAgg
theorem MkR.step {w w' w'':World} {u:T} {m:PM} {r:V} {sv cv av fv mv lv:Value} {em:Bool} {lb:Nat} {vs:List Value} {L:Nat→List Mv} (h:MkR w w' u m r sv cv av fv mv lv em lb vs L) (hb:Below w'.heap.size w' w''):MkR w w'' u m r sv cv av fv mv lv em lb vs L :=
 ⟨h.map,h.tree,(laid_low h.laid hb).mono fun _ hb' _=>hb',h.lists.keep (Chg.of_below (R:=fun _=>False) hb) fun _ _ q=>q.elim,h.sets,h.ars,h.scs,h.one,h.first.below hb,h.mvv,h.rows.below hb,h.moves,own_chg h.last (Chg.of_below (R:=fun _=>False) hb) fun _ _=>id,h.emp⟩
theorem tab_below {W W':World} (ht:TabE W) (hl:tabE<W.heap.size) (hb:Below W.heap.size W W'):TabE W':=fun j hj=>(World.cell?_of_block (w:=W) (hb.block _ hl)).trans (ht j hj)
end Go.Proofs.YtbohmcfplgdlpaaDoor

/- The library's table lies in memory: off the condition of the statements' own row.
   Condition: what the row lists as laid lies in memory. -/
namespace Go.Proofs.YtbohmcfplgdlpaaDoor
open Go.RowKit Go.Shelf
theorem tab_is {W:World} (h:Lib.TabIs Tryd.prog W "math/bits.deBruijn64tab" .u8 (Lib.deBruijn64tab.map Int.ofNat)):TabE W∧tabE<W.heap.size:=by
 unfold Lib.TabIs World.var? at h
 rw [show Tryd.prog.globalNamed "math/bits.deBruijn64tab" = some tabE by kernel_rfl,Option.bind_some] at h
 cases hc:W.heap[tabE]? with
 | none=>rw [hc] at h;cases h
 | some ob =>
  rw [hc] at h
  have hlt:tabE<W.heap.size:=(Array.getElem?_eq_some_iff.1 hc).1
  refine ⟨fun j hj=>?_,hlt⟩
  cases ob with
  | cells cs e fz =>
   have hcs:cs=((Lib.deBruijn64tab.map Int.ofNat).map fun z=>Value.int .u8 z).toArray:=Option.some.inj h
   have h1:W.cell? ⟨tabE,j,none⟩=cs[j]?:=by simp [World.cell?,hc]
   refine h1.trans ?_
   rw [hcs,List.getElem?_toArray,List.getElem?_map,List.getElem?_map,List.getElem?_eq_getElem hj,List.getD_eq_getElem?_getD,List.getElem?_eq_getElem hj]
   rfl
  | _=>cases h
theorem tab_laid {W:World} (h:laidMetH Tryd.prog [("math/bits.deBruijn64tab",Rows.laid_math_bits_deBruijn64tab)] W):TabE W∧tabE<W.heap.size:=by
 rw [Go.MakeChecks.laidMetH_plain _ _ _ (by kernel_rfl)] at h
 exact tab_is (Lib.tabIs_of_head (g:=0) (t:=138) (e:=5) (n:=64) (by kernel_rfl) (by kernel_rfl) Tryd.underlying138 Tryd.underlying5 (by kernel_rfl) (by kernel_rfl) (show laidMet Tryd.prog [("math/bits.deBruijn64tab",Lib.tabData .u8 (Lib.deBruijn64tab.map Int.ofNat))] W from h))
end Go.Proofs.YtbohmcfplgdlpaaDoor

/- What the statements on moves share: the scopes around a position, in memory.
   Conditions: those that each theorem states. -/
namespace Go.Proofs.YtbohmcfplgdlpaaDoor
open Go.RowKit Go.Shelf
theorem pre_at {c l:List Nat} (h:c <+: l) {k z:Nat} (hk:c[k]? = some z):l[k]? = some z:=by
 obtain ⟨t,rfl⟩:=h
 rw [List.getElem?_append_left (List.getElem?_eq_some_iff.1 hk).1,hk]
theorem mv_kept {u:T} {m:PM} (hm:mapT u=some m) {p:Nat} {x:Mv} (h:SJ (mvT u 0 0).2.2 (stOf p x)) :
  x.kp≤4∧1≤p∧p<m.sets.length∧1≤x.tt∧x.tt<m.sets.length∧∃ c la lb:List Nat,c.length=x.kp+(if x.ag then 1 else 0)∧m.ars[p]? = some la∧c <+: la∧m.ars[x.tt]? = some lb∧c <+: lb:=by
 have h0:=sj_in hm h
 obtain ⟨j,hj,h1,h2,h3,h4⟩:=h
 have h3:x.kp=j.kp:=h3
 have h4:x.ag=j.ag:=h4
 have h5:=mv_kp u 0 0 (map_in4 hm) j hj
 obtain ⟨c,la,lb,k1,k2,k3,k4,k5⟩:=moves_keep hm j hj p x.tt h1 h2
 exact ⟨by omega,h0.1,h0.2.1,h0.2.2.1,h0.2.2.2,c,la,lb,by rw [k1,h3,h4],k2,k3,k4,k5⟩
end Go.Proofs.YtbohmcfplgdlpaaDoor
